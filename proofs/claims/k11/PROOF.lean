import PyProof.Rows.All
import Wide.All
import OpenK.AllK
import Wide.FinOn
import Lean
import PyProof.EqAt
import PyProof.EqKinds
import PyProof.TupleCall
import PySem.Challenge.RW_causebook_k11_order
set_option Elab.async false
set_option linter.all false
set_option maxRecDepth 100000
namespace L2
open PySem PySem.Spec PyProof.Rows
abbrev Key:=Sum Int Str
def keyIs:Key→Value→Bool
  | .inl k,v=>Value.isInt k v
  | .inr x,v=>Value.isStrOf x v
def keyH (w:World):Key→Int
  | .inl k=>hashInt k
  | .inr x=>hashStr w x
theorem keyIs_shape:∀ {k:Key} {v:Value},keyIs k v=true→(∃ i t,k=Sum.inl i∧v=Value.int i t)∨(∃ x t,k=Sum.inr x∧v=Value.str x t)
  | .inl i,v,h=>by
    obtain ⟨t,e⟩:=Value.isInt_shape (k:=i) (v:=v) h
    exact .inl ⟨i,t,rfl,e⟩
  | .inr x,v,h=>by
    obtain ⟨t,e⟩:=Value.isStrOf_shape (x:=x) (v:=v) h
    exact .inr ⟨x,t,rfl,e⟩
theorem key_ll (a b:Int):decide ((Sum.inl a:Key)=Sum.inl b)=(a == b):=by
  by_cases e:a=b
  · subst e; simp
  · have h:¬ (Sum.inl a:Key)=Sum.inl b:=fun q=>e (Sum.inl.inj q)
    rw [decide_eq_false h]
    exact (beq_eq_false_iff_ne.mpr e).symm
theorem key_rr (a b:Str):decide ((Sum.inr a:Key)=Sum.inr b)=decide (a=b):=by
  by_cases e:a=b
  · subst e; simp
  · have h:¬ (Sum.inr a:Key)=Sum.inr b:=fun q=>e (Sum.inr.inj q)
    rw [decide_eq_false h,decide_eq_false e]
theorem key_lr (a:Int) (b:Str):decide ((Sum.inl a:Key)=Sum.inr b)=false:=decide_eq_false (fun q=>nomatch q)
theorem key_rl (a:Str) (b:Int):decide ((Sum.inr a:Key)=Sum.inl b)=false:=decide_eq_false (fun q=>nomatch q)
def mixKind (prog:Program) (w:World):PySem.KeyKind prog w Key where
  is:=keyIs
  hash:=keyH w
  inj:=fun v a b ha hb=>by
    rcases keyIs_shape ha with ⟨i,t,rfl,rfl⟩ | ⟨x,t,rfl,rfl⟩
    · rcases keyIs_shape hb with ⟨j,u,rfl,e⟩ | ⟨y,u,rfl,e⟩
      · injection e with e1 _; rw [e1]
      · exact nomatch e
    · rcases keyIs_shape hb with ⟨j,u,rfl,e⟩ | ⟨y,u,rfl,e⟩
      · exact nomatch e
      · injection e with e1 _; rw [e1]
  byValue:=fun k v h=>by
    rcases keyIs_shape h with ⟨i,t,rfl,rfl⟩ | ⟨x,t,rfl,rfl⟩ <;> rfl
  pyHash:=fun hv h=>by
    rcases keyIs_shape hv with ⟨i,t,rfl,rfl⟩ | ⟨x,t,rfl,rfl⟩
    · exact wpAny_pyHash_int h
    · exact wpAny_pyHash_str h
  eqBool:=fun hu hv h=>by
    rcases keyIs_shape hu with ⟨i,t,rfl,rfl⟩ | ⟨x,t,rfl,rfl⟩
    · rcases keyIs_shape hv with ⟨j,u,rfl,rfl⟩ | ⟨y,u,rfl,rfl⟩
      · rw [key_ll] at h; exact wpAny_eqBool_int h
      · rw [key_lr] at h; exact SeqAt.EqAt.int_str i t y u _ _ _ _ h
    · rcases keyIs_shape hv with ⟨j,u,rfl,rfl⟩ | ⟨y,u,rfl,rfl⟩
      · rw [key_rl] at h; exact SeqAt.EqAt.str_int x t j u _ _ _ _ h
      · rw [key_rr] at h; exact wpAny_eqBool_str h
  «strs»:=fun k x t v h=>by
    rcases keyIs_shape h with ⟨i,u,rfl,e⟩ | ⟨y,u,rfl,e⟩
    · exact nomatch e
    · injection e with e1 _
      subst e1
      cases v <;> rfl
end L2
namespace L2
open PySem PySem.Spec PyProof.Rows
inductive V where
  | non | bl (b:Bool) | int (i:Int) | str (x:Str) | byt (b:Array UInt8) | flt (b:UInt64) | ref (a:Addr) | ty (n:String)
  deriving DecidableEq
def RelV:V→Value→Prop
  | .non,u=>u=Value.none
  | .bl b,u=>u=Value.bool b
  | .int i,u=>∃ t,u=Value.int i t
  | .str x,u=>∃ t,u=Value.str x t
  | .byt b,u=>∃ t,u=Value.bytes b t
  | .flt b,u=>∃ t,u=Value.float b t
  | .ref a,u=>u=Value.ref a
  | .ty n,u=>u=Value.type n
abbrev Vals:List V→List Value→Prop:=Paired RelV
theorem Vals.length {xs:List V} {us:List Value} (r:Vals xs us):xs.length=us.length:=Paired.length r
theorem Vals.get:∀ {xs:List V} {us:List Value} {i:Nat} {x:V},Vals xs us→xs[i]?=some x→∃ u,us[i]?=some u∧RelV x u
  | _,_,_,_,.nil,e=>by simp at e
  | _,_,0,_,.cons r _,e=>by simp at e; subst e; exact ⟨_,rfl,r⟩
  | _,_,i + 1,x,.cons _ t,e=>by
    obtain ⟨u,h1,h2⟩:=Vals.get (i:=i) (x:=x) t (by simpa using e)
    exact ⟨u,by simpa using h1,h2⟩
theorem Vals.set {x:V} {u:Value} (r:RelV x u):∀ {xs:List V} {us:List Value} (i:Nat),Vals xs us→Vals (xs.set i x) (us.set i u)
  | _,_,_,.nil=>.nil
  | _,_,0,.cons _ t=>.cons r t
  | _,_,i + 1,.cons q t=>.cons q (Vals.set r i t)
theorem Vals.append:∀ {xs ys:List V} {us ws:List Value},Vals xs us→Vals ys ws→Vals (xs ++ ys) (us ++ ws)
  | _,_,_,_,.nil,s=>s
  | _,_,_,_,.cons r t,s=>.cons r (Vals.append t s)
theorem Vals.take:∀ {xs:List V} {us:List Value} (n:Nat),Vals xs us→Vals (xs.take n) (us.take n)
  | _,_,0,_=>.nil
  | _,_,_ + 1,.nil=>.nil
  | _,_,n + 1,.cons r t=>.cons r (Vals.take n t)
theorem Vals.drop:∀ {xs:List V} {us:List Value} (n:Nat),Vals xs us→Vals (xs.drop n) (us.drop n)
  | _,_,0,r=>r
  | _,_,_ + 1,.nil=>.nil
  | _,_,n + 1,.cons _ t=>Vals.drop n t
def RelO:Option V→Option Value→Prop
  | some v,some u=>RelV v u
  | none,none=>True
  | _,_=>False
def KV {κ:Type}:List (κ×V)→List (κ×Value)→Prop:=Paired fun (p:κ×V) (q:κ×Value)=>p.1=q.1∧RelV p.2 q.2
def kV:Key→V
  | .inl i=>.int i
  | .inr x=>.str x
inductive HO where
  | lst (xs:List V)
  | tup (xs:List V)
  | dK (kvs:List (Key×V)) | dT (kvs:List (List Key×V))
  | set (S:Int→Bool) (n:Nat)
  | ins (C dx:Addr) (fs:List (Str×V))
  | own (x:Addr)
  | xd (fs:List (Str×V))
  | met (f x:Addr)
  | rng (lo hi:Int)
  | frz (o:Obj) (u:HO)
  | tbl (ps:Array Value)
  | ext (φ:Heap→Prop)
abbrev Hp:=Addr→Option HO
def upd (H:Hp) (a:Addr) (o:HO):Hp:=fun b=>if b=a then some o else H b
theorem upd_same {H:Hp} {a:Addr} {o:HO}:upd H a o a=some o:=by unfold upd; rw [if_pos rfl]
theorem upd_ne {H:Hp} {a b:Addr} {o:HO} (h:b≠a):upd H a o b=H b:=by unfold upd; rw [if_neg h]
theorem ne_of {H:Hp} {a b:Addr} {o u:HO} (h:H a=some o) (h':H b=some u) (d:o≠u):a≠b:=by
  intro e; subst e; rw [h] at h'; exact d (Option.some.inj h')
theorem ne_of_none {H:Hp} {a b:Addr} {o:HO} (h:H a=some o) (h':H b=none):a≠b:=by
  intro e; subst e; rw [h] at h'; cases h'
def TupAt (H:Hp) (b:Addr) (ys:List V):Prop:=H b=some (.tup ys)∨∃ o:Obj,(∀ v,o.data≠.cell v)∧H b=some (.frz o (.tup ys))
def tagQ (ps:Array Value):Str:=match (ps[0]?:Option Value) with | some (.str q _)=>q | _ => ""
section
variable (P:Program) (w:World)
def ObjOk (H:Hp) (h:Heap) (a:Addr):HO→Prop
  | .lst xs=>xs.length≤sizeLine∧∃ (its:List Value) (n:Nat),Vals xs its∧h.get? a=some { cls:=.type "list", data:=.seq its.toArray n }
  | .tup xs=>xs.length≤sizeLine∧∃ its:List Value,Vals xs its∧IsTup h a its.toArray
  | .dK kvs=>kvs.length≤sizeLine∧(a == sysModules)=false∧∃ vs,KV kvs vs∧h.DictOf (mixKind P w) a vs
  | .dT kvs=>kvs.length≤sizeLine∧(a == sysModules)=false∧∃ xs:List (List Key×Addr×Value),
      Paired (fun (p:List Key×V) (q:List Key×Addr×Value)=>p.1=q.1∧TupAt H q.2.1 (p.1.map kV)∧RelV p.2 q.2.2) kvs xs ∧
      ∃ o es ep,h.get? a=some o∧o.ExactDict∧o.data=.dict es ep∧es.toList=xs.map (entryOfKey (tupleKind (mixKind P w)))∧(xs.map (·.1)).Nodup
  | .set S n=>h.SetOf (intKind P w) a S n
  | .ins C dx fs=>H dx=some (.own a)∧fs.length≤1000∧dx≠a∧h.get? a=some (PySem.W.instObj C dx) ∧
      ∃ mA,h.Ns1 dx mA∧(∀ f,RelO (fs.lookup f) (mA f))∧PySem.Within mA (fs.map (·.1))
  | .own _=>∃ o,h.get? a=some o
  | .xd fs=>∃ mA,h.Ns1 a mA∧∀ f,RelO (fs.lookup f) (mA f)
  | .rng lo hi=>∃ t u v,h.get? a=some { cls:=.type "range", data:=.fields #[.int lo t,.int hi u,.int 1 v] }
  | .frz o u=>h.get? a=some o∧ObjOk H h a u
  | .tbl ps=>∃ vs:Array Value,h.get? a=some (PySem.W.tabObj vs)∧TriplesOk vs.toList∧∀ p v,codeAmong p vs.toList=some v→∃ b o fs t,v=.ref b∧H b=some (.frz o (.ext fun _=>True))∧o.data=.fields fs∧fs[1]?=some (.str (tagQ ps) t)
  | .met f x=>h.get? a=some (PySem.W.methodObj (.ref f) (.ref x))
  | .ext φ=>φ h∧(∃ o,h.get? a=some o)∧∀ h1 h2:Heap,φ h1→(∀ o,h1.get? a=some o→h2.get? a=some o)→φ h2
def HOk (H:Hp) (h:Heap):Prop:=∀ a o,H a=some o→ObjOk P w H h a o
end
section
variable {P:Program} {w:World} {H H':Hp} {h h':Heap} {a:Addr} {o:HO}
theorem ObjOk.lt (x:ObjOk P w H h a o):a < h.objs.size:=by
  cases o with
  | lst xs=>obtain ⟨_,_,_,_,e⟩:=x; exact Heap.lt_size e
  | tup xs=>obtain ⟨_,_,_,p⟩:=x; exact p.lt
  | dK kvs=>obtain ⟨_,_,_,_,o,_,_,e,_⟩:=x; exact Heap.lt_size e
  | dT kvs=>obtain ⟨_,_,_,_,o,_,_,e,_⟩:=x; exact Heap.lt_size e
  | set S n=>obtain ⟨o,_,_,_,e,_⟩:=x; exact Heap.lt_size e
  | ins C dx fs=>obtain ⟨_,_,_,e,_⟩:=x; exact Heap.lt_size e
  | own y=>obtain ⟨_,e⟩:=x; exact Heap.lt_size e
  | xd fs=>obtain ⟨_,⟨_,_,_,e,_⟩,_⟩:=x; exact Heap.lt_size e
  | rng lo hi=>obtain ⟨_,_,_,e⟩:=x; exact Heap.lt_size e
  | frz ob u=>obtain ⟨e,_⟩:=x; exact Heap.lt_size e
  | tbl ps=>obtain ⟨_,e,_⟩:=x; exact Heap.lt_size e
  | met f y=>exact Heap.lt_size (show h.get? a=some _ from x)
  | ext φ=>obtain ⟨_,⟨_,e⟩,_⟩:=x; exact Heap.lt_size e
theorem Paired.mapP {α β:Type} {F G:α→β→Prop}:∀ {l₁:List α} {l₂:List β},Paired F l₁ l₂→(∀ a b,F a b→G a b)→Paired G l₁ l₂
  | _,_,.nil,_=>.nil
  | _,_,.cons r t,f=>.cons (f _ _ r) (Paired.mapP t f)
theorem ObjOk.stay (x:ObjOk P w H h a o) (k:∀ b u,(b=a∨H b=some (.own a))→h.get? b=some u→h'.get? b=some u)
    (ho:∀ b,H b=some (.own a)→H' b=some (.own a)) (ht:∀ b xs,H b=some (.tup xs)→H' b=some (.tup xs))
    (hc:∀ b o u,H b=some (.frz o u)→(∀ v,o.data≠.cell v)→H' b=some (.frz o u):=by first | exact fun _ _ _ q _=>q | (intro b o u z _; rw [upd_ne (ne_of_none z (by assumption))]; exact z) | (intro b o u z _; rw [upd_ne (fun e=>by subst e; simp_all [Mut])]; exact z)):ObjOk P w H' h' a o:=by
  induction o with
  | lst xs=>obtain ⟨z,its,n,r,e⟩:=x; exact ⟨z,its,n,r,k _ _ (.inl rfl) e⟩
  | tup xs=>obtain ⟨z,its,r,ob,e,c⟩:=x; exact ⟨z,its,r,ob,k _ _ (.inl rfl) e,c⟩
  | dK kvs=>obtain ⟨z,y,vs,r,ob,es,ep,e,c⟩:=x; exact ⟨z,y,vs,r,ob,es,ep,k _ _ (.inl rfl) e,c⟩
  | dT kvs =>
    obtain ⟨z,y,xs,r,ob,es,ep,e,c⟩:=x
    exact ⟨z,y,xs,Paired.mapP r fun p q z=>⟨z.1,z.2.1.imp (ht _ _) fun ⟨o,n,y⟩=>⟨o,n,hc _ _ _ y n⟩,z.2.2⟩,ob,es,ep,k _ _ (.inl rfl) e,c⟩
  | set S n=>obtain ⟨ob,es,ep,t,e,c⟩:=x; exact ⟨ob,es,ep,t,k _ _ (.inl rfl) e,c⟩
  | ins C dx fs =>
    obtain ⟨d,z,ne,e,mA,⟨od,es,ep,e2,c⟩,r⟩:=x
    exact ⟨ho _ d,z,ne,k _ _ (.inl rfl) e,mA,⟨od,es,ep,k _ _ (.inr d) e2,c⟩,r⟩
  | own y=>obtain ⟨ob,e⟩:=x; exact ⟨ob,k _ _ (.inl rfl) e⟩
  | xd fs=>obtain ⟨mA,⟨od,es,ep,e,c⟩,r⟩:=x; exact ⟨mA,⟨od,es,ep,k _ _ (.inl rfl) e,c⟩,r⟩
  | rng lo hi=>obtain ⟨t,u,v,e⟩:=x; exact ⟨t,u,v,k _ _ (.inl rfl) e⟩
  | frz ob u ih=>obtain ⟨e,q⟩:=x; exact ⟨k _ _ (.inl rfl) e,ih q⟩
  | tbl ps=>obtain ⟨vs,e,t,z⟩:=x; exact ⟨vs,k _ _ (.inl rfl) e,t,fun p v y=>let ⟨b,o,fs,t,e1,e2,e3⟩:=z p v y; ⟨b,o,fs,t,e1,hc _ _ _ e2 (fun v y=>by rw [e3.1] at y; cases y),e3⟩⟩
  | met f y =>
    have e:h.get? a=some (PySem.W.methodObj (.ref f) (.ref y)):=x
    show h'.get? a=some (PySem.W.methodObj (.ref f) (.ref y))
    exact k a _ (.inl rfl) e
  | ext φ=>obtain ⟨p,⟨o,e⟩,st⟩:=x; exact ⟨st _ _ p fun o q=>k _ _ (.inl rfl) q,⟨o,k _ _ (.inl rfl) e⟩,st⟩
theorem HOk.lt (x:HOk P w H h) (e:H a=some o):a < h.objs.size:=(x a o e).lt
theorem HOk.fresh (x:HOk P w H h) (e:h.objs.size≤a):H a=none:=by
  cases q:H a with
  | none=>rfl
  | some u=>exact absurd (Nat.lt_of_lt_of_le (x.lt q) e) (Nat.lt_irrefl _)
theorem HOk.kept (x:HOk P w H h) (k:∀ b u,h.get? b=some u→h'.get? b=some u):HOk P w H h':=fun a o e =>
  (x a o e).stay (fun b u _ q=>k b u q) (fun _ q=>q) fun _ _ q=>q
theorem HOk.laid (x:HOk P w H h) (k:∀ b u,h.get? b=some u→h'.get? b=some u) (hp:h.objs.size≤a) (new:ObjOk P w (upd H a o) h' a o):HOk P w (upd H a o) h':=fun b u e=>by
  have hn:=x.fresh hp
  by_cases hb:b=a
  · subst hb; rw [upd_same] at e; cases e; exact new
  · rw [upd_ne hb] at e
    exact (x b u e).stay (fun c v _ q=>k c v q) (fun c q=>by rw [upd_ne (ne_of_none q hn)]; exact q) fun c xs q=>by rw [upd_ne (ne_of_none q hn)]; exact q
end
def Rd (H:Hp) (a:Addr) (u:HO):Prop:=H a=some u∨∃ o,H a=some (.frz o u)
theorem Rd.ok {P:Program} {w:World} {H:Hp} {h:Heap} {a:Addr} {u:HO} (r:Rd H a u) (x:HOk P w H h):ObjOk P w H h a u:=by
  rcases r with r | ⟨o,r⟩
  · exact x a u r
  · obtain ⟨_,q⟩:=x a _ r
    exact q
def Mut:Option HO→Prop
  | some (.lst _)=>True
  | some (.dK _)=>True
  | some (.dT _)=>True
  | some (.set _ _)=>True
  | some (.ins _ _ _)=>True
  | some (.ext _)=>True
  | _=>False
section
variable {P:Program} {w:World} {H:Hp} {h h':Heap} {x e:Addr} {o':HO}
theorem HOk.write (ok:HOk P w H h) (mu:Mut (H x)) (he:e=x∨H e=some (.own x)) (k:∀ b u,b≠e→h.get? b=some u→h'.get? b=some u) (heo:∃ u,h'.get? e=some u)
    (new:ObjOk P w (upd H x o') h' x o'):HOk P w (upd H x o') h':=fun b u q=>by
  have nown:∀ c y,H c=some (.own y)→c≠x:=fun c y r z=>by subst z; rw [r] at mu; exact mu
  have ntup:∀ c xs,H c=some (.tup xs)→c≠x:=fun c xs r z=>by subst z; rw [r] at mu; exact mu
  by_cases hb:b=x
  · subst hb; rw [upd_same] at q; cases q; exact new
  · rw [upd_ne hb] at q
    by_cases hbe:b=e
    · have q':H b=some (.own x):=by
        rcases he with z | z
        · exact absurd (hbe.trans z) hb
        · rw [hbe]; exact z
      rw [q] at q'; cases q'
      obtain ⟨v,hv⟩:=heo
      exact ⟨v,by rw [hbe]; exact hv⟩
    · refine (ok b u q).stay (fun c v hc r=>k c v ?_ r) (fun c r=>by rw [upd_ne (nown c b r)]; exact r) fun c xs r=>by rw [upd_ne (ntup c xs r)]; exact r
      rcases hc with rfl | hc
      · exact hbe
      · rintro rfl
        rcases he with z | z
        · exact nown c b hc z
        · rw [hc] at z; cases z; exact hb rfl
end
structure Un (fs ex:List Addr) (H H':Hp) (h h':Heap):Prop where
  keep:∀ b o,h.get? b=some o→H b=none→b∉fs→b∉ex→h'.get? b=some o
  slot:∀ b o,h.get? b=some o→H b=none→b∈fs→b∉ex→∃ sl,h'.get? b=some { o with slots:=sl }
  free:∀ b o,h.get? b=some o→H b=none→b∉ex→H' b=none
  there:∀ b o,h.get? b=some o→b∉ex→∃ o',h'.get? b=some o'
  tups:∀ b xs,H b=some (.tup xs)→H' b=some (.tup xs)
  frzs:∀ b o u,H b=some (.frz o u)→H' b=some (.frz o u)
  tbls:∀ b ps,H b=some (.tbl ps)→∃ more,H' b=some (.tbl (ps ++ more))
section
variable {fs fs' ex ex':List Addr} {H H1 H2:Hp} {h h1 h2 h':Heap} {a x e:Addr} {o:HO}
theorem Un.any (u:Un fs ex H H1 h h1) {b:Addr} {ob:Obj} (q:h.get? b=some ob) (n:H b=none) (hx:b∉ex):∃ sl,h1.get? b=some { ob with slots:=sl }:=by
  by_cases hb:b∈fs
  · exact u.slot b ob q n hb hx
  · exact ⟨ob.slots,u.keep b ob q n hb hx⟩
theorem Un.kept (k:∀ b u,h.get? b=some u→h'.get? b=some u):Un fs ex H H h h' :=
  ⟨fun b ob q _ _ _=>k b ob q,fun b ob q _ _ _=>⟨ob.slots,k b ob q⟩,fun _ _ _ n _=>n,fun b ob q _=>⟨ob,k b ob q⟩,fun _ _ q=>q,fun _ _ _ q=>q,fun _ ps q=>⟨#[],by rw [q]; simp⟩⟩
theorem Un.refl:Un fs ex H H h h:=Un.kept fun _ _ q=>q
theorem Un.laid (k:∀ b u,h.get? b=some u→h'.get? b=some u) (hp:h.objs.size≤a) (hn:H a=none):Un fs ex H (upd H a o) h h' where
  keep:=fun b u q _ _ _=>k b u q
  slot:=fun b u q _ _ _=>⟨u.slots,k b u q⟩
  free:=fun b u q n _=>by rw [upd_ne (Nat.ne_of_lt (Nat.lt_of_lt_of_le (Heap.lt_size q) hp))]; exact n
  there:=fun b u q _=>⟨u,k b u q⟩
  tups:=fun b xs q=>by rw [upd_ne (ne_of_none q hn)]; exact q
  frzs:=fun b u xs q=>by rw [upd_ne (ne_of_none q hn)]; exact q
  tbls:=fun b ps q=>⟨#[],by rw [upd_ne (ne_of_none q hn),q]; simp⟩
theorem Un.write (mu:Mut (H x)) (he:e=x∨H e=some (.own x)) (k:∀ b u,b≠e→h.get? b=some u→h'.get? b=some u) (heo:∃ u,h'.get? e=some u):Un fs ex H (upd H x o) h h':=by
  have hx:∀ b,H b=none→b≠x:=fun b n z=>by subst z; rw [n] at mu; exact mu
  have hb:∀ b,H b=none→b≠e:=fun b n z=>by
    subst z
    rcases he with r | r
    · exact hx b n r
    · rw [n] at r; cases r
  have hm:∀ b u,H b=some u→¬ Mut (some u)→b≠x:=fun b u q nm z=>by subst z; rw [q] at mu; exact nm mu
  refine ⟨fun b u q n _ _=>k b u (hb b n) q,fun b u q n _ _=>⟨u.slots,k b u (hb b n) q⟩,fun b u q n _=>by rw [upd_ne (hx b n)]; exact n,fun b u q _=>?_,
    fun b xs q=>by rw [upd_ne (hm b _ q fun z=>z)]; exact q,fun b u xs q=>by rw [upd_ne (hm b _ q fun z=>z)]; exact q,fun b ps q=>⟨#[],by rw [upd_ne (hm b _ q fun z=>z),q]; simp⟩⟩
  by_cases hbe:b=e
  · subst hbe; exact heo
  · exact ⟨u,k b u hbe q⟩
end
def trk (h:Heap) (H:Hp):List Addr:=(List.range h.objs.size).filter fun a=>(H a).isSome
def hidT (h:Heap) (H:Hp):Heap:=PySem.W.hideAll h (trk h H)
theorem hidT_size (h:Heap) (H:Hp):(hidT h H).objs.size=h.objs.size:=PySem.W.hideAll_size _ _
theorem hidT_get {h:Heap} {H:Hp} {b:Addr} {o:Obj} (e:h.get? b=some o) (n:H b=none):(hidT h H).get? b=some o :=
  PySem.W.hideAll_get _ e fun hm=>by
    have q:(H b).isSome=true:=(List.mem_filter.mp hm).2
    rw [n] at q; simp at q
theorem of_hidT {h:Heap} {H:Hp} {b:Addr} {o:Obj} (e:(hidT h H).get? b=some o):h.get? b=some o∧H b=none:=by
  have e':h.get? b=some o:=PySem.W.of_hideAll (trk h H) e
  refine ⟨e',?_⟩
  cases q:H b with
  | none=>rfl
  | some x =>
    have hm:b∈trk h H:=List.mem_filter.mpr ⟨List.mem_range.mpr (Heap.lt_size e'),by simp [q]⟩
    have z:(hidT h H).get? b=none:=PySem.W.hideAll_none (trk h H) hm
    rw [z] at e; cases e
def allNews (g h:Heap) (L:Addr):List (Addr×Obj):=(List.range h.objs.size).filterMap fun a=>if a=L∨(g.get? a).isSome=true then none else (h.get? a).map fun o=>(a,o)
def rest (g h:Heap) (L d:Addr):List (Addr×Obj):=(allNews g h L).filter fun p=>decide (p.1≠d)
end L2
namespace L2
open PySem PySem.Spec PyProof.Rows
def lamNames:List Str:=["above", "beneath", "above_in", "clumps", "reach", "least_parting", "least_set", "why_not"]
def tabAt (o:Obj):Option (Addr×Str):=match o.cls,o.data with
  | .type "code", .fields vs=>(match (vs[1]?:Option Value),(vs[11]?:Option Value) with
    | some (.str q _),some (.ref P)=>if lamNames.contains q then some (P,q ++ ".<locals>.<lambda>") else none
    | _,_=>none)
  | _,_=>none
def tabsOf (K:PySem.W.Frag):List (Addr×Str):=K.filterMap fun p=>(K.lookup p.1).bind tabAt
def tabsUq (K:PySem.W.Frag):Bool:=(tabsOf K).all fun p=>(K.lookup p.1).isNone && (tabsOf K).all fun q=>decide (p.1=q.1→p.2=q.2)
def TbOk (K:PySem.W.Frag) (H:Hp):Prop:=∀ p∈tabsOf K,∃ t more,H p.1=some (.tbl (#[.str p.2 t] ++ more))
theorem TbOk.un {K:PySem.W.Frag} {fs ex:List Addr} {H H':Hp} {h h':Heap} (t:TbOk K H) (u:Un fs ex H H' h h'):TbOk K H':=fun p hp=>by
  obtain ⟨k,m,e⟩:=t p hp
  obtain ⟨m',e'⟩:=u.tbls _ _ e
  exact ⟨k,m ++ m',by rw [e',Array.append_assoc]⟩
structure Mod (K:PySem.W.Frag) (mg:Str→Option Value) (base:Heap):Prop where
  kin:K.In base
  glob:base.Ns mainGlobals mg
  blt:∃ mb,base.Ns builtinsNs mb∧∀ x:Str,x ≠ "__name__" → mb x=bootBuiltins x
  nolimit:base.NoLimit
  bm:∃ bm ob,mg "__builtins__" = some (.ref bm)∧bm≠builtinsNs∧base.get? bm=some ob∧ob.cls=.type "module" ∧ ob.dict=some builtinsNs∧ob.data=.plain
structure Cx where
  prog:Program
  w:World
  K:PySem.W.Frag
  mg:Str→Option Value
  base:Heap
  A:Around
  N:List Str
  s₀:Shared
  H₀:Hp
  env:Env
  outer:List Env
  stack:List Env
  ex:List Addr
  fn:Str→Bool
  calm:Bool
  pn:List (Addr×Obj)
  xe:Value→Shared→Prop
def frs (l:List Env):List Addr:=l.filterMap (·.frame)
abbrev Cx.fs (X:Cx):List Addr:=frs X.outer
def Vis (sc:Scope) (x:Str):Prop:=sc.names.lookup x=some .local∨sc.names.lookup x=some .cell∨sc.names.lookup x=some .free
def Loc (sc:Scope) (x:Str):Prop:=sc.names.lookup x=some .local∨sc.names.lookup x=some .cell
def Look (env:Env) (h:Heap) (m:Str→Option Value) (x:Str) (u:Value):Prop :=
  (env.kindOf x=some .local∧m x=some u)∨((env.kindOf x=some .cell∨env.kindOf x=some .free)∧∃ c,env.cells.lookup x=some c∧h.IsCell c (some u))
structure Cx.Ok (X:Cx):Prop where
  mod:Mod X.K X.mg X.base
  kind:X.env.scope.kind=.function
  glob:X.env.globals=mainGlobals
  blt:X.env.builtins=builtinsNs
  above:X.s₀.heap.objs.size≤X.env.locals
  inj:∀ x y c,X.env.cells.lookup x=some c→X.env.cells.lookup y=some c→x=y
  has:∀ x,(X.env.kindOf x=some .cell∨X.env.kindOf x=some .free)→∃ c,X.env.cells.lookup x=some c
  cab:∀ x c,X.fn x=true→X.env.cells.lookup x=some c→X.s₀.heap.objs.size≤c
  hd:X.calm=true→X.A.handled=none
  frames:X.A.frames=some X.stack
  stk:X.stack=X.outer∨(X.stack=X.env :: X.outer∧X.env.frame=some X.env.locals)
  exf:∀ b∈X.ex,b≠X.env.locals∧∀ x c,X.env.cells.lookup x=some c→c≠b
  bs:∀ b o,X.base.get? b=some o→X.s₀.heap.get? b=some o∧X.H₀ b=none
  bsz:X.base.objs.size≤X.s₀.heap.objs.size
  noex:∀ b o,X.base.get? b=some o→b∉X.ex
  exfs:∀ b∈X.ex,b∉X.fs
  funs:X.s₀.heap.FunFrames X.base X.outer
  frf:∀ b∈X.fs,X.H₀ b=none
  tb:TbOk X.K X.H₀
structure Inv (X:Cx) (pins:List (Addr×Obj)) (σ:List (Option V)) (H:Hp) (s:Shared):Prop where
  ok:X.Ok
  os:s.os=X.s₀.os
  bare:AllBare s.gens
  base:Un X.fs X.ex X.H₀ H X.s₀.heap s.heap
  loc:∃ m,s.heap.Ns X.env.locals m∧∀ (i:Nat) (x:Str) (v:V),X.N[i]?=some x→σ[i]?=some (some v)→Vis X.env.scope x→∃ u,RelV v u∧Look X.env s.heap m x u
  cell:∀ x c,X.env.cells.lookup x=some c→∃ v,s.heap.IsCell c v
  free:H X.env.locals=none
  freeC:∀ x c,X.env.cells.lookup x=some c→H c=none∨X.fn x=false∧∃ o u,H c=some (.frz o u)
  pin:∀ p∈X.pn ++ pins,s.heap.get? p.1=some p.2∧H p.1=none∧p.1≠X.env.locals∧p.1∉X.fs∧∀ v,p.2.data≠.cell v
  hok:HOk X.prog X.w H s.heap
  len:σ.length=X.N.length
section
variable {X:Cx} {pins:List (Addr×Obj)} {σ:List (Option V)} {H H':Hp} {s:Shared} {h':Heap}
theorem Cx.Ok.nofr (ok:X.Ok) {b:Addr} {o:Obj} (e:X.base.get? b=some o):b∉X.fs:=fun hb=>by
  have:=(ok.funs.mem hb).1
  rw [e] at this; cases this
theorem Inv.bs (I:Inv X pins σ H s):∀ b o,X.base.get? b=some o→s.heap.get? b=some o∧H b=none:=fun b o e =>
  ⟨I.base.keep b o (I.ok.bs b o e).1 (I.ok.bs b o e).2 (I.ok.nofr e) (I.ok.noex b o e),I.base.free b o (I.ok.bs b o e).1 (I.ok.bs b o e).2 (I.ok.noex b o e)⟩
theorem Inv.bk (I:Inv X pins σ H s):∀ b o,X.base.get? b=some o→s.heap.get? b=some o:=fun b o e=>(I.bs b o e).1
theorem Inv.mod (I:Inv X pins σ H s):Mod X.K X.mg X.base:=I.ok.mod
theorem Inv.kIn (I:Inv X pins σ H s):X.K.In s.heap:=I.ok.mod.kin.keeps I.bk
theorem Inv.fr (I:Inv X pins σ H s):∃ m,Fr X.base X.env.locals s.heap m :=
  let ⟨m,hn,_⟩:=I.loc
  ⟨m,hn,I.bk,Nat.le_trans I.ok.bsz I.ok.above⟩
theorem Inv.lt (I:Inv X pins σ H s):X.env.locals < s.heap.objs.size:=let ⟨_,hn,_⟩:=I.loc; hn.lt
theorem Inv.sz (I:Inv X pins σ H s):X.s₀.heap.objs.size≤s.heap.objs.size:=Nat.le_trans I.ok.above (Nat.le_of_lt I.lt)
theorem Inv.nofs (I:Inv X pins σ H s) {a:Addr} (h:s.heap.objs.size≤a):a∉X.fs:=fun hb=>by
  obtain ⟨_,o,ho,_⟩:=I.ok.funs.mem hb
  exact absurd (Nat.lt_of_lt_of_le (Heap.lt_size ho) (Nat.le_trans I.sz h)) (Nat.lt_irrefl _)
theorem Inv.cne (I:Inv X pins σ H s):∀ x c,X.env.cells.lookup x=some c→c≠X.env.locals:=fun x c e z=>by
  obtain ⟨v,o,ho,hd⟩:=I.cell x c e
  obtain ⟨m,⟨o',es,ep,ho',hd',_⟩,_⟩:=I.loc
  rw [z,ho'] at ho; cases ho; rw [hd'] at hd; cases hd
theorem Inv.funs (I:Inv X pins σ H s):s.heap.FunFrames X.base X.outer:=by
  have all:∀ (l:List Env),(∀ b∈frs l,b∈X.fs)→X.s₀.heap.FunFrames X.base l→s.heap.FunFrames X.base l:=by
    intro l
    induction l with
    | nil=>intro _ _; trivial
    | cons env r ih =>
      intro hs hl
      obtain ⟨hk,⟨L,o,hf,hn,ho,hd⟩,hr⟩:=hl
      have hL:L∈X.fs:=hs L (by unfold frs; rw [List.filterMap_cons,hf]; exact List.mem_cons_self)
      obtain ⟨sl,e⟩:=I.base.slot L o ho (I.ok.frf L hL) hL fun z=>I.ok.exfs L z hL
      exact ⟨hk,⟨L,_,hf,hn,e,hd⟩,ih (fun b hb=>hs b (by unfold frs; rw [List.filterMap_cons,hf]; exact List.mem_cons_of_mem _ hb)) hr⟩
  exact all X.outer (fun _ hb=>hb) I.ok.funs
theorem Inv.stack (I:Inv X pins σ H s):s.heap.FunFrames X.base X.stack:=by
  rcases I.ok.stk with e | ⟨e,hf⟩
  · rw [e]; exact I.funs
  · rw [e]
    obtain ⟨m,hn,_⟩:=I.loc
    refine .cons (by rw [I.ok.kind]; decide) hf hn ?_ I.funs
    exact Heap.get?_none_of_le (Nat.le_trans I.ok.bsz I.ok.above)
theorem Inv.stkSub (I:Inv X pins σ H s):∀ b∈frs X.stack,b∈X.env.locals :: X.fs:=fun b hb=>by
  rcases I.ok.stk with e | ⟨e,hf⟩
  · rw [e] at hb; exact List.mem_cons_of_mem _ hb
  · rw [e] at hb
    unfold frs at hb
    rw [List.filterMap_cons,hf] at hb
    exact hb
theorem Inv.stkFree (I:Inv X pins σ H s):∀ b∈frs X.stack,H b=none:=fun b hb=>by
  rcases List.mem_cons.mp (I.stkSub b hb) with e | hb
  · rw [e]; exact I.free
  · obtain ⟨_,o,ho,_⟩:=I.ok.funs.mem hb
    exact I.base.free b o ho (I.ok.frf b hb) fun z=>I.ok.exfs b z hb
theorem Inv.step {g':Array GenState} {t':Nat} {d':Drawn} {ch:List Addr} (I:Inv X pins σ H s)
    (hch:∀ b∈ch,(b∈X.ex∨X.s₀.heap.objs.size≤b)∧b≠X.env.locals∧(∀ x c,X.env.cells.lookup x=some c→c≠b)∧∀ p∈X.pn ++ pins,p.1≠b)
    (keep:∀ b o,b≠X.env.locals→b∉X.fs→b∉ch→s.heap.get? b=some o→H b=none→h'.get? b=some o)
    (slot:∀ b o,b≠X.env.locals→b∈X.fs→b∉ch→s.heap.get? b=some o→H b=none→∃ sl,h'.get? b=some { o with slots:=sl }) (free:∀ b o,b∉ch→s.heap.get? b=some o→H b=none→H' b=none)
    (there:∀ b o,b∉ch→s.heap.get? b=some o→∃ o',h'.get? b=some o')
    (tups:∀ b xs,H b=some (.tup xs)→H' b=some (.tup xs)) (frzs:∀ b o u,H b=some (.frz o u)→H' b=some (.frz o u)) (tbls:∀ b ps,H b=some (.tbl ps)→∃ more,H' b=some (.tbl (ps ++ more)))
    (ns:∀ m,s.heap.Ns X.env.locals m→h'.Ns X.env.locals m) (hok:HOk X.prog X.w H' h') (hg:AllBare g') :
    Inv X pins σ H' { s with heap:=h',gens:=g',drawn:=d',toks:=t' }:=by
  have neL:∀ b o,X.s₀.heap.get? b=some o→b≠X.env.locals:=fun b o e=>Nat.ne_of_lt (Nat.lt_of_lt_of_le (Heap.lt_size e) I.ok.above)
  have neC:∀ b o,X.s₀.heap.get? b=some o→b∉X.ex→b∉ch:=fun b o e hx hb=>by
    rcases (hch b hb).1 with z | z
    · exact hx z
    · exact absurd (Nat.lt_of_lt_of_le (Heap.lt_size e) z) (Nat.lt_irrefl _)
  have cellK:∀ x c,X.env.cells.lookup x=some c→∀ v,s.heap.IsCell c v→h'.IsCell c v:=fun x c e v ⟨o,ho,hd⟩=>by
    have nch:c∉ch:=fun z=>(hch c z).2.2.1 x c e rfl
    rcases I.freeC x c e with hn | ⟨_,o1,u1,hn⟩
    · by_cases hc:c∈X.fs
      · obtain ⟨sl,q⟩:=slot c o (I.cne x c e) hc nch ho hn
        exact ⟨_,q,hd⟩
      · exact ⟨o,keep c o (I.cne x c e) hc nch ho hn,hd⟩
    · have q1:=(I.hok c _ hn).1
      rw [ho] at q1
      cases q1
      exact ⟨o,(hok c _ (frzs c _ _ hn)).1,hd⟩
  refine ⟨I.ok,I.os,hg,⟨fun b o e n hb hx=>?_,fun b o e n hb hx=>?_,fun b o e n hx=>?_,fun b o e hx=>?_,fun b xs e=>tups b xs (I.base.tups b xs e),fun b o xs e=>frzs b o xs (I.base.frzs b o xs e),fun b ps e=>?_⟩,?_,fun x c e=>?_,?_,fun x c e=>?_,fun p hp=>?_,hok,I.len⟩
  · exact keep b o (neL b o e) hb (neC b o e hx) (I.base.keep b o e n hb hx) (I.base.free b o e n hx)
  · obtain ⟨sl,e1⟩:=I.base.slot b o e n hb hx
    obtain ⟨sl',e2⟩:=slot b _ (neL b o e) hb (neC b o e hx) e1 (I.base.free b o e n hx)
    exact ⟨sl',e2⟩
  · obtain ⟨o',e1⟩:=I.base.there b o e hx
    exact free b o' (neC b o e hx) e1 (I.base.free b o e n hx)
  · obtain ⟨o',e1⟩:=I.base.there b o e hx
    exact there b o' (neC b o e hx) e1
  · obtain ⟨m1,e1⟩:=I.base.tbls b ps e
    obtain ⟨m2,e2⟩:=tbls b _ e1
    exact ⟨m1 ++ m2,by rw [e2,Array.append_assoc]⟩
  · obtain ⟨m,hn,hl⟩:=I.loc
    refine ⟨m,ns m hn,fun i x v e1 e2 e3=>?_⟩
    obtain ⟨u,r,l⟩:=hl i x v e1 e2 e3
    refine ⟨u,r,?_⟩
    rcases l with l | ⟨k,c,e,z⟩
    · exact .inl l
    · exact .inr ⟨k,c,e,cellK x c e _ z⟩
  · obtain ⟨v,z⟩:=I.cell x c e
    exact ⟨v,cellK x c e v z⟩
  · obtain ⟨m,⟨o,_,_,ho,_⟩,_⟩:=I.loc
    exact free _ o (fun z=>(hch _ z).2.1 rfl) ho I.free
  · obtain ⟨v,o,ho,hd⟩:=I.cell x c e
    exact (I.freeC x c e).elim (fun n=>.inl (free c o (fun z=>(hch c z).2.2.1 x c e rfl) ho n)) fun ⟨y1,o1,u1,y2⟩=>.inr ⟨y1,o1,u1,frzs c o1 u1 y2⟩
  · obtain ⟨e,n,ne,nf,d⟩:=I.pin p hp
    have nch:p.1∉ch:=fun z=>(hch p.1 z).2.2.2 p hp rfl
    exact ⟨keep p.1 p.2 ne nf nch e n,free p.1 p.2 nch e n,ne,nf,d⟩
theorem Inv.un {t':Nat} (I:Inv X pins σ H s) (u:Un X.fs [] H H' s.heap h') (hok:HOk X.prog X.w H' h'):Inv X pins σ H' { s with heap:=h',toks:=t' }:=by
  obtain ⟨m,⟨o,es,ep,ho,r⟩,_⟩:=id I.loc
  obtain ⟨sl,hL⟩:=u.any ho I.free (by simp)
  exact I.step (g':=s.gens) (d':=s.drawn) (ch:=[]) (fun _ z=>nomatch z) (fun b o _ hb _ e n=>u.keep b o e n hb (by simp)) (fun b o _ hb _ e n=>u.slot b o e n hb (by simp)) (fun b o _ e n=>u.free b o e n (by simp)) (fun b o _ e=>u.there b o e (by simp)) u.tups u.frzs u.tbls (fun m' hm=>by
    obtain ⟨o',es',ep',ho',r'⟩:=hm
    rw [ho] at ho'; cases ho'
    exact ⟨_,es',ep',hL,r'⟩) hok I.bare
theorem Inv.call {g':Array GenState} {t':Nat} {d':Drawn} {ch:List Addr} (I:Inv X pins σ H s) (u:Un (frs X.stack) ch H H' s.heap h') (hok:HOk X.prog X.w H' h') (hg:AllBare g')
    (hch:∀ b∈ch,(b∈X.ex∨X.s₀.heap.objs.size≤b)∧b≠X.env.locals∧(∀ x c,X.env.cells.lookup x=some c→c≠b)∧∀ p∈X.pn ++ pins,p.1≠b) :
    Inv X pins σ H' { s with heap:=h',gens:=g',drawn:=d',toks:=t' }:=by
  obtain ⟨m,⟨o,es,ep,ho,r⟩,_⟩:=id I.loc
  obtain ⟨sl,hL⟩:=u.any ho I.free fun z=>(hch _ z).2.1 rfl
  exact I.step (ch:=ch) hch (fun b o hL hb hc e n=>u.keep b o e n (fun z=>(List.mem_cons.mp (I.stkSub b z)).elim hL hb) hc) (fun b o _ _ hc e n=>u.any e n hc) (fun b o hc e n=>u.free b o e n hc) (fun b o hc e=>u.there b o e hc) u.tups u.frzs u.tbls (fun m' hm=>by
    obtain ⟨o',es',ep',ho',r'⟩:=hm
    rw [ho] at ho'; cases ho'
    exact ⟨_,es',ep',hL,r'⟩) hok hg
theorem Inv.turned {t':Nat} {it:Addr} (I:Inv X pins σ H s) (k:∀ b o,b≠it→s.heap.get? b=some o→h'.get? b=some o) (hn:H it=none) (hL:it≠X.env.locals)
    (h1:it∈X.ex∨X.s₀.heap.objs.size≤it) (h2:∀ x c,X.env.cells.lookup x=some c→c≠it) (h3:∀ p∈X.pn ++ pins,p.1≠it):Inv X pins σ H { s with heap:=h',toks:=t' }:=by
  have nit:∀ b u,H b=some u→b≠it:=fun b u e z=>by rw [z,hn] at e; cases e
  refine I.step (g':=s.gens) (d':=s.drawn) (ch:=[it]) (fun b hb=>?_) (fun b o _ _ hc e _=>k b o (fun z=>hc (by simp [z])) e) (fun b o _ _ hc e _=>⟨o.slots,k b o (fun z=>hc (by simp [z])) e⟩) (fun _ _ _ _ n=>n)
    (fun b o hc e=>⟨o,k b o (fun z=>hc (by simp [z])) e⟩) (fun _ _ e=>e) (fun _ _ _ e=>e) (fun b ps e=>⟨#[],by rw [e]; simp⟩) (fun m hm=>?_) (fun b u e=>?_) I.bare
  · have e:b=it:=by simpa using hb
    subst e
    exact ⟨h1,hL,h2,h3⟩
  · obtain ⟨o,es,ep,ho,r⟩:=hm
    exact ⟨o,es,ep,k _ o (Ne.symm hL) ho,r⟩
  · refine (I.hok b u e).stay (fun c v hc q=>k c v ?_ q) (fun _ q=>q) fun _ _ q=>q
    rcases hc with z | z
    · rw [z]; exact nit b u e
    · exact nit c _ z
theorem Inv.tok (I:Inv X pins σ H s) (t:Nat):Inv X pins σ H { s with toks:=t }:=I.un (h':=s.heap) (t':=t) Un.refl I.hok
theorem Inv.kept {t':Nat} (I:Inv X pins σ H s) (k:∀ b u,s.heap.get? b=some u→h'.get? b=some u):Inv X pins σ H { s with heap:=h',toks:=t' }:=I.un (Un.kept k) (I.hok.kept k)
theorem Inv.laid {a:Addr} {o:HO} {t':Nat} (I:Inv X pins σ H s) (k:∀ b u,s.heap.get? b=some u→h'.get? b=some u) (hp:s.heap.objs.size≤a) (new:ObjOk X.prog X.w (upd H a o) h' a o) :
    Inv X pins σ (upd H a o) { s with heap:=h',toks:=t' }:=I.un (Un.laid k hp (I.hok.fresh hp)) (I.hok.laid k hp new)
theorem Inv.write {x e:Addr} {o:HO} {t':Nat} (I:Inv X pins σ H s) (mu:Mut (H x)) (he:e=x∨H e=some (.own x)) (k:∀ b u,b≠e→s.heap.get? b=some u→h'.get? b=some u) (heo:∃ u,h'.get? e=some u)
    (new:ObjOk X.prog X.w (upd H x o) h' x o):Inv X pins σ (upd H x o) { s with heap:=h',toks:=t' }:=I.un (Un.write mu he k heo) (I.hok.write mu he k heo new)
theorem Inv.weak {σ':List (Option V)} (I:Inv X pins σ H s) (hl:σ'.length=σ.length) (w:∀ (i:Nat) v,σ'[i]?=some (some v)→σ[i]?=some (some v)):Inv X pins σ' H s :=
  ⟨I.ok,I.os,I.bare,I.base,let ⟨m,hn,hl'⟩:=I.loc; ⟨m,hn,fun i x v e1 e2 e3=>hl' i x v e1 (w i v e2) e3⟩,I.cell,I.free,I.freeC,I.pin,I.hok,hl.trans I.len⟩
theorem Inv.pins_of {pins':List (Addr×Obj)} (I:Inv X pins σ H s) (h:∀ p∈pins',s.heap.get? p.1=some p.2∧H p.1=none∧p.1≠X.env.locals∧p.1∉X.fs∧∀ v,p.2.data≠.cell v):Inv X pins' σ H s :=
  ⟨I.ok,I.os,I.bare,I.base,I.loc,I.cell,I.free,I.freeC,fun p hp=>(List.mem_append.mp hp).elim (fun z=>I.pin p (List.mem_append_left _ z)) (h p),I.hok,I.len⟩
theorem nodup_ix {N:List Str} (hN:N.Nodup) {i j:Nat} {x:Str} (a:N[i]?=some x) (b:N[j]?=some x):i=j:=by
  obtain ⟨h1,e1⟩:=List.getElem?_eq_some_iff.mp a
  obtain ⟨h2,e2⟩:=List.getElem?_eq_some_iff.mp b
  exact (List.getElem_inj hN).mp (e1.trans e2.symm)
theorem store_ok2 {M:Model} {A:Around} {E:Value→Shared→Prop} {i:Nat} {x:Str} {v:V} {u:Value} {Q:Unit→Shared→Prop} (I:Inv X pins σ H s) (hN:X.N.Nodup) (hi:X.N[i]?=some x) (hx:Loc X.env.scope x) (r:RelV v u)
    (h:∀ s',Inv X pins (σ.set i (some v)) H s'→(∃ a,Heap.SameBut a s.heap s'.heap∧(a=X.env.locals∨X.env.cells.lookup x=some a))→Q () s') (hf:X.fn x=true∨X.env.scope.names.lookup x=some .local:=by first | exact .inl rfl | exact .inr rfl | assumption):wpAny M A (storeName X.env x u) Q E s:=by
  obtain ⟨m,hn,hl⟩:=id I.loc
  have hcls:(X.env.scope.kind == .class || (X.env.scope.kind == .module && X.env.locals != X.env.globals))=false:=by rw [I.ok.kind]; rfl
  have hiσ:i < σ.length:=by rw [I.len]; exact (List.getElem?_eq_some_iff.mp hi).1
  have cne:=I.cne
  have tracked:∀ {a:Addr} {h':Heap},(∃ o,s.heap.get? a=some o∧H a=none)→Heap.SameBut a s.heap h'→HOk X.prog X.w H h':=fun {a h'} ha hs b ob e=>by
    obtain ⟨_,_,hfree⟩:=ha
    refine (I.hok b ob e).stay (fun c w' hc q=>(hs.2 c ?_).trans q) (fun _ q=>q) fun _ _ q=>q
    rintro rfl
    rcases hc with rfl | hc
    · rw [hfree] at e; cases e
    · rw [hfree] at hc; cases hc
  rcases hx with hk | hk
  · refine wpAny_storeName_local hk hn (fun h' hn' hs=>?_) hcls
    obtain ⟨oL,_,_,hoL,_⟩:=id hn
    refine h _ ⟨I.ok,I.os,I.bare,⟨fun b o e n hb hx=>?_,fun b o e n hb hx=>?_,I.base.free,fun b o e hx=>?_,I.base.tups,I.base.frzs,I.base.tbls⟩,⟨_,hn',fun j y v' e1 e2 e3=>?_⟩,fun y c e=>?_,I.free,I.freeC,fun p hp=>?_,tracked ⟨oL,hoL,I.free⟩ hs,by simpa using I.len⟩ ⟨_,hs,.inl rfl⟩
    · exact (hs.2 b (Nat.ne_of_lt (Nat.lt_of_lt_of_le (Heap.lt_size e) I.ok.above))).trans (I.base.keep b o e n hb hx)
    · obtain ⟨sl,e1⟩:=I.base.slot b o e n hb hx
      exact ⟨sl,(hs.2 b (Nat.ne_of_lt (Nat.lt_of_lt_of_le (Heap.lt_size e) I.ok.above))).trans e1⟩
    · obtain ⟨o',e1⟩:=I.base.there b o e hx
      exact ⟨o',(hs.2 b (Nat.ne_of_lt (Nat.lt_of_lt_of_le (Heap.lt_size e) I.ok.above))).trans e1⟩
    · by_cases hj:j=i
      · subst hj
        rw [hi] at e1; cases e1
        rw [List.getElem?_set_self hiσ] at e2
        cases e2
        exact ⟨u,r,.inl ⟨hk,by simp⟩⟩
      · rw [List.getElem?_set_ne (Ne.symm hj)] at e2
        obtain ⟨u',r',q⟩:=hl j y v' e1 e2 e3
        refine ⟨u',r',?_⟩
        rcases q with ⟨k,e⟩ | ⟨k,c,e,z⟩
        · refine .inl ⟨k,?_⟩
          have:y≠x:=fun e=>hj (nodup_ix hN e1 (e ▸ hi))
          simp [this,e]
        · exact .inr ⟨k,c,e,z.sameBut hs (cne y c e)⟩
    · obtain ⟨w',z⟩:=I.cell y c e
      exact ⟨w',z.sameBut hs (cne y c e)⟩
    · obtain ⟨e,n,ne,nf,d⟩:=I.pin p hp
      exact ⟨(hs.2 p.1 ne).trans e,n,ne,nf,d⟩
  · have hfn:X.fn x=true:=by
      rcases hf with z | z
      · exact z
      · rw [z] at hk; cases hk
    obtain ⟨c,hc⟩:=I.ok.has x (.inl hk)
    obtain ⟨w',z⟩:=I.cell x c hc
    refine wpAny_storeName_cell I.ok.kind hk hc z (fun h' hc' hs=>?_)
    obtain ⟨oc,hoc,hocd⟩:=id z
    refine h { s with heap:=h' } ⟨I.ok,I.os,I.bare,⟨fun b o e n hb hx=>?_,fun b o e n hb hx=>?_,I.base.free,fun b o e hx=>?_,I.base.tups,I.base.frzs,I.base.tbls⟩,⟨m,hn.sameBut hs (Ne.symm (cne x c hc)),fun j y v' e1 e2 e3=>?_⟩,fun y c' e=>?_,I.free,I.freeC,fun p hp=>?_,tracked ⟨oc,hoc,(I.freeC x c hc).elim (fun n=>n) fun z=>by rw [hfn] at z; cases z.1⟩ hs,by simpa using I.len⟩ ⟨c,hs,.inr hc⟩
    · exact (hs.2 b (Nat.ne_of_lt (Nat.lt_of_lt_of_le (Heap.lt_size e) (I.ok.cab x c hfn hc)))).trans (I.base.keep b o e n hb hx)
    · obtain ⟨sl,e1⟩:=I.base.slot b o e n hb hx
      exact ⟨sl,(hs.2 b (Nat.ne_of_lt (Nat.lt_of_lt_of_le (Heap.lt_size e) (I.ok.cab x c hfn hc)))).trans e1⟩
    · obtain ⟨o',e1⟩:=I.base.there b o e hx
      exact ⟨o',(hs.2 b (Nat.ne_of_lt (Nat.lt_of_lt_of_le (Heap.lt_size e) (I.ok.cab x c hfn hc)))).trans e1⟩
    · by_cases hj:j=i
      · subst hj
        rw [hi] at e1; cases e1
        rw [List.getElem?_set_self hiσ] at e2
        cases e2
        exact ⟨u,r,.inr ⟨.inl hk,c,hc,hc'⟩⟩
      · rw [List.getElem?_set_ne (Ne.symm hj)] at e2
        obtain ⟨u',r',q⟩:=hl j y v' e1 e2 e3
        refine ⟨u',r',?_⟩
        rcases q with q | ⟨k,c',e,z'⟩
        · exact .inl q
        · refine .inr ⟨k,c',e,z'.sameBut hs ?_⟩
          rintro rfl
          exact hj (nodup_ix hN e1 (I.ok.inj _ _ _ e hc ▸ hi))
    · by_cases hcc:c'=c
      · subst hcc; exact ⟨_,hc'⟩
      · obtain ⟨w2,z2⟩:=I.cell y c' e
        exact ⟨w2,z2.sameBut hs hcc⟩
    · obtain ⟨e,n,ne,nf,d⟩:=I.pin p hp
      refine ⟨(hs.2 p.1 ?_).trans e,n,ne,nf,d⟩
      intro q
      rw [q,hoc] at e
      have q':oc=p.2:=Option.some.inj e
      exact d w' (by rw [← q']; exact hocd)
theorem store_ok {M:Model} {A:Around} {E:Value→Shared→Prop} {i:Nat} {x:Str} {v:V} {u:Value} {Q:Unit→Shared→Prop} (I:Inv X pins σ H s) (hN:X.N.Nodup) (hi:X.N[i]?=some x) (hx:Loc X.env.scope x) (r:RelV v u)
    (h:∀ s',Inv X pins (σ.set i (some v)) H s'→Q () s') (hf:X.fn x=true∨X.env.scope.names.lookup x=some .local:=by first | exact .inl rfl | exact .inr rfl | assumption):wpAny M A (storeName X.env x u) Q E s :=
  store_ok2 I hN hi hx r (fun s' I' _=>h s' I') hf
theorem Inv.call' {s':Shared} {ch:List Addr} (I:Inv X pins σ H s) (ho:s'.os=s.os) (u:Un (frs X.stack) ch H H' s.heap s'.heap) (hok:HOk X.prog X.w H' s'.heap) (hg:AllBare s'.gens)
    (hch:∀ b∈ch,(b∈X.ex∨X.s₀.heap.objs.size≤b)∧b≠X.env.locals∧(∀ x c,X.env.cells.lookup x=some c→c≠b)∧∀ p∈X.pn ++ pins,p.1≠b):Inv X pins σ H' s':=by
  obtain ⟨h',g',d',t',o'⟩:=s'
  have e:o'=s.os:=ho
  subst e
  exact I.call (g':=g') (t':=t') (d':=d') u hok hg hch
end
abbrev XK:=Value→Option Addr→Hp→Prop
abbrev St:=List (Option V)
abbrev VK:=V→Hp→Prop
abbrev TE:=St→Hp→VK→Prop
abbrev TT:=St→Hp→(Bool→Hp→Prop)→Prop
abbrev TA:=St→Hp→(List V→Hp→Prop)→Prop
structure Ends where
  nx:St→Hp→Prop
  rt:VK
  bk:St→Hp→Prop:=fun _ _=>False
  ct:St→Hp→Prop:=fun _ _=>False
abbrev TS:=Ends→St→Hp→Prop
def EP (X:Cx) (pins:List (Addr×Obj)) (σ:St) (Q:VK) (u:Value) (s':Shared):Prop:=∃ v H',Inv X pins σ H' s'∧RelV v u∧Q v H'
def TP (X:Cx) (pins:List (Addr×Obj)) (σ:St) (Q:Bool→Hp→Prop) (b:Bool) (s':Shared):Prop:=∃ H',Inv X pins σ H' s'∧Q b H'
def AP (X:Cx) (pins:List (Addr×Obj)) (σ:St) (Q:List V→Hp→Prop) (us:List Value) (s':Shared):Prop:=∃ vs H',Inv X pins σ H' s'∧Vals vs us∧Q vs H'
def SP (X:Cx) (pins:List (Addr×Obj)) (D:Ends) (f:Flow) (s':Shared):Prop :=
  match f with
  | .next=>∃ σ' H',Inv X pins σ' H' s'∧D.nx σ' H'
  | .brk=>∃ σ' H',Inv X pins σ' H' s'∧D.bk σ' H'
  | .cont=>∃ σ' H',Inv X pins σ' H' s'∧D.ct σ' H'
  | .ret u=>∃ v σ' H',Inv X pins σ' H' s'∧RelV v u∧D.rt v H'
def PE (X:Cx) (e:Expr) (t:TE):Prop :=
  ∀ (pins:List (Addr×Obj)) (s:Shared) (σ:St) (H:Hp) (Q:VK),Inv X pins σ H s→t σ H Q→wpAny (model X.prog X.w) X.A (eval e X.env) (EP X pins σ Q) X.xe s
def PT (X:Cx) (e:Expr) (t:TT):Prop :=
  ∀ (pins:List (Addr×Obj)) (s:Shared) (σ:St) (H:Hp) (Q:Bool→Hp→Prop),Inv X pins σ H s→t σ H Q→wpAny (model X.prog X.w) X.A (isTrue e X.env (eval e X.env)) (TP X pins σ Q) X.xe s
def PW (X:Cx) (e:Expr) (t:TT):Prop :=
  ∀ (whole:Sem Value) (pins:List (Addr×Obj)) (s:Shared) (σ:St) (H:Hp) (Q:Bool→Hp→Prop),Inv X pins σ H s→t σ H Q→wpAny (model X.prog X.w) X.A (isTrue e X.env whole) (TP X pins σ Q) X.xe s
theorem PW.pt {X:Cx} {e:Expr} {t:TT} (h:PW X e t):PT X e t:=h _
def PA (X:Cx) (es:List Expr) (t:TA):Prop :=
  ∀ (pos:Pos) (pins:List (Addr×Obj)) (s:Shared) (σ:St) (H:Hp) (Q:List V→Hp→Prop),Inv X pins σ H s→t σ H Q→wpAny (model X.prog X.w) X.A (spliced (backTo pos (starEach es X.env))) (AP X pins σ Q) X.xe s
def PS (X:Cx) (st:Stmt) (t:TS):Prop :=
  ∀ (pins:List (Addr×Obj)) (s:Shared) (σ:St) (H:Hp) (D:Ends),Inv X pins σ H s→t D σ H→wpAny (model X.prog X.w) X.A (exec st X.env) (SP X pins D) X.xe s
def PSs (X:Cx) (st:List Stmt) (t:TS):Prop :=
  ∀ (pins:List (Addr×Obj)) (s:Shared) (σ:St) (H:Hp) (D:Ends),Inv X pins σ H s→t D σ H→wpAny (model X.prog X.w) X.A (execs st X.env) (SP X pins D) X.xe s
theorem thn {α:Type} {t:Sem α} {Q Q':α→Shared→Prop} {M:Model} {A:Around} {E:Value→Shared→Prop} {s:Shared} (h:wpAny M A t Q E s) (hQ:∀ a s,Q a s→Q' a s):wpAny M A t Q' E s:=wpAny_mono h hQ fun _ _ x=>x
end L2
namespace L2
open PySem PySem.Spec PyProof.Rows
section
variable {X:Cx}
def tVar (i:Nat):TE:=fun σ H Q=>∃ v,σ[i]?=some (some v)∧Q v H
def tC (v:V):TE:=fun _ H Q=>Q v H
theorem pe_var {i:Nat} {x:Str} {pos:Pos} (hN:X.N[i]?=some x) (hv:Vis X.env.scope x) (hd:(x == ("__debug__" : Str))=false:=by decide) (hcd:(x == ("__classdict__" : Str))=false:=by decide):PE X (.Name x pos) (tVar i):=by
  intro pins s σ H Q I h
  obtain ⟨v,e,h⟩:=h
  obtain ⟨m,hn,hl⟩:=I.loc
  obtain ⟨u,r,l⟩:=hl i x v hN e hv
  have fin:EP X pins σ Q u s:=⟨v,H,I,r,h⟩
  rcases l with ⟨hk,hm⟩ | ⟨hk,c,hc,hcell⟩
  · exact wpAny_Name (wpAny_loadName_local I.ok.kind hk hn hm fin) hd
  · rcases hk with hk | hk
    · exact wpAny_Name (wpAny_loadName_cell I.ok.kind hk hc hcell fin) hd
    · exact wpAny_Name (wpAny_loadName_free I.ok.kind hk hc hcell fin hcd) hd
theorem pe_int {i j pos}:PE X (.Constant (.int i) j pos) (tC (.int i)):=fun _ _ _ H _ I h=>wpAny_Constant_int ⟨.int i,H,I.tok _,⟨_,rfl⟩,h⟩
theorem pe_bl {b j pos}:PE X (.Constant (.bool b) j pos) (tC (.bl b)):=fun _ _ _ H _ I h=>Constant_bool ⟨.bl b,H,I,rfl,h⟩
theorem pe_non {j pos}:PE X (.Constant .none j pos) (tC .non):=fun _ _ _ H _ I h=>Constant_none ⟨.non,H,I,rfl,h⟩
def Gl (X:Cx) (x:Str):Prop:=X.env.kindOf x=some .globalImplicit
theorem ld_glob {E:Value→Shared→Prop} {pins:List (Addr×Obj)} {s:Shared} {σ:St} {H:Hp} {x:Str} {u:Value} {pos:Pos} {Q:Value→Shared→Prop} (I:Inv X pins σ H s) (hg:Gl X x) (hm:X.mg x=some u) (h:Q u s)
    (hd:(x == ("__debug__" : Str))=false:=by decide):wpAny (model X.prog X.w) X.A (eval (.Name x pos) X.env) Q E s :=
  Calls.Name_function_global I.ok.kind hg (Calls.loadGlobal_global (by rw [I.ok.glob]; exact I.mod.glob.keeps I.bk) hm h) hd
theorem ld_blt {E:Value→Shared→Prop} {pins:List (Addr×Obj)} {s:Shared} {σ:St} {H:Hp} {x:Str} {u:Value} {pos:Pos} {Q:Value→Shared→Prop} (I:Inv X pins σ H s) (hg:Gl X x) (hm:X.mg x=none) (hv:bootBuiltins x=some u) (h:Q u s)
    (hn:x ≠ "__name__" := by decide) (hd:(x == ("__debug__" : Str))=false:=by decide):wpAny (model X.prog X.w) X.A (eval (.Name x pos) X.env) Q E s:=by
  obtain ⟨mb,h1,h2⟩:=I.mod.blt
  exact Calls.Name_function_global I.ok.kind hg (Calls.loadGlobal_builtin (by rw [I.ok.glob]; exact I.mod.glob.keeps I.bk) hm (by rw [I.ok.blt]; exact h1.keeps I.bk) ((h2 x hn).trans hv) h) hd
theorem pe_glob {x:Str} {v:V} {u:Value} {pos:Pos} (hg:Gl X x) (hm:X.mg x=some u) (r:RelV v u) (hd:(x == ("__debug__" : Str))=false:=by decide):PE X (.Name x pos) (tC v) :=
  fun _ _ _ H _ I h=>ld_glob I hg hm ⟨v,H,I,r,h⟩ hd
theorem pe_bltn {x:Str} {v:V} {u:Value} {pos:Pos} (hg:Gl X x) (hm:X.mg x=none) (hv:bootBuiltins x=some u) (r:RelV v u) (hn:x ≠ "__name__" := by decide) (hd:(x == ("__debug__" : Str))=false:=by decide):PE X (.Name x pos) (tC v) :=
  fun _ _ _ H _ I h=>ld_blt I hg hm hv ⟨v,H,I,r,h⟩ hn hd
variable {a b:Expr} {ta tb:TE} {pos:Pos}
def tB (t:TE):TT:=fun σ H Q=>t σ H fun x H1=>∃ c,x=.bl c∧Q c H1
theorem pt_val {e:Expr} {t:TE} (h:PE X e t) (he:∀ whole,isTrue e X.env whole=(do let v ← whole; standAt e.pos; holding [v] (truthy v)):=by intro _; rfl):PT X e (tB t):=by
  intro pins s σ H Q I hw
  refine isTrue_plain (thn (h pins s σ H _ I hw) fun v s1 ⟨x,H1,I1,r1,q1⟩=>?_) (he _)
  obtain ⟨d,rfl,q⟩:=q1
  cases r1
  exact wpAny_truthy_bool ⟨H1,I1,q⟩
variable {tA tB':TT} {rest:List Expr}
def tAnd (t u:TT):TT:=fun σ H Q=>t σ H fun c H1=>if c=true then u σ H1 Q else Q false H1
def tOr (t u:TT):TT:=fun σ H Q=>t σ H fun c H1=>if c=true then Q true H1 else u σ H1 Q
def tNot (t:TT):TT:=fun σ H Q=>t σ H fun c H1=>Q (!c) H1
theorem pw_and1 (ha:PT X a tA):PW X (.BoolOp .And [a] pos) tA:=by
  intro wh pins s σ H Q I h
  refine isTrue_and (thn (ha pins s σ H Q I h) fun c s1 e=>?_)
  cases c with
  | true=>exact isTrue_and_nil e
  | false=>exact e
theorem pw_or1 (ha:PT X a tA):PW X (.BoolOp .Or [a] pos) tA:=by
  intro wh pins s σ H Q I h
  refine isTrue_or (thn (ha pins s σ H Q I h) fun c s1 e=>?_)
  cases c with
  | false=>exact isTrue_or_nil e
  | true=>exact e
theorem pw_and (ha:PT X a tA) (hb:PW X (.BoolOp .And (b :: rest) pos) tB'):PW X (.BoolOp .And (a :: b :: rest) pos) (tAnd tA tB'):=by
  intro wh pins s σ H Q I h
  refine isTrue_and (thn (ha pins s σ H _ I h) fun c s1 ⟨H1,I1,q1⟩=>?_)
  cases c with
  | true=>exact hb wh pins s1 σ H1 Q I1 q1
  | false=>exact ⟨H1,I1,q1⟩
theorem pw_or (ha:PT X a tA) (hb:PW X (.BoolOp .Or (b :: rest) pos) tB'):PW X (.BoolOp .Or (a :: b :: rest) pos) (tOr tA tB'):=by
  intro wh pins s σ H Q I h
  refine isTrue_or (thn (ha pins s σ H _ I h) fun c s1 ⟨H1,I1,q1⟩=>?_)
  cases c with
  | true=>exact ⟨H1,I1,q1⟩
  | false=>exact hb wh pins s1 σ H1 Q I1 q1
theorem pt_not (ha:PT X a tA):PT X (.UnaryOp .Not a pos) (tNot tA):=by
  intro pins s σ H Q I h
  exact isTrue_not (ha pins s σ H (fun c H1=>Q (!c) H1) I h)
def tAndV (ta tb:TE):TE:=fun σ H Q=>ta σ H fun x H1=>∃ c,x=.bl c∧if c=true then tb σ H1 Q else Q (.bl false) H1
def tNotV (ta:TE):TE:=fun σ H Q=>ta σ H fun x H1=>∃ c,x=.bl c∧Q (.bl (!c)) H1
theorem pe_one {op} {t:TE} (h:PE X a t):PE X (.BoolOp op [a] pos) t:=fun pins s σ H Q I hw=>BoolOp_one (h pins s σ H Q I hw)
theorem pe_and (ha:PE X a ta) (hb:PE X (.BoolOp .And (b :: rest) pos) tb):PE X (.BoolOp .And (a :: b :: rest) pos) (tAndV ta tb):=by
  intro pins s σ H Q I h
  refine BoolOp_and (thn (ha pins s σ H _ I h) fun v s1 ⟨x,H1,I1,r1,q1⟩=>?_)
  obtain ⟨c,rfl,q1⟩:=q1
  cases r1
  refine wpAny_truthy_bool ?_
  cases c with
  | true=>exact hb pins s1 σ H1 Q I1 q1
  | false=>exact ⟨.bl false,H1,I1,rfl,q1⟩
theorem pe_not (ha:PE X a ta):PE X (.UnaryOp .Not a pos) (tNotV ta):=by
  intro pins s σ H Q I h
  refine UnaryOp_ (thn (ha pins s σ H _ I h) fun v s1 ⟨x,H1,I1,r1,q1⟩=>?_)
  obtain ⟨c,rfl,q1⟩:=q1
  cases r1
  exact not_of (wpAny_truthy_bool ⟨.bl (!c),H1,I1,rfl,q1⟩)
end
end L2
namespace L2
open PySem PySem.Spec PyProof.Rows
def SqL (K:PySem.W.Frag) (H:Hp) (a:Addr) (xs:List V):Prop :=
  Rd H a (.lst xs) ∨
    ∃ (o:Obj) (its:Array Value) (n:Nat),K.lookup a=some o∧o.cls=.type "list" ∧ o.dict=none∧o.data=.seq its n∧its.size≤sizeLine∧Vals xs its.toList
def SqT (K:PySem.W.Frag) (H:Hp) (a:Addr) (xs:List V):Prop :=
  Rd H a (.tup xs) ∨
    ∃ (o:Obj) (its:Array Value) (n:Nat),K.lookup a=some o∧o.cls=.type "tuple" ∧ o.data=.seq its n∧its.size≤sizeLine∧Vals xs its.toList
def absV:Value→Option V
  | .none=>some .non
  | .bool b=>some (.bl b)
  | .int i _=>some (.int i)
  | .str x _=>some (.str x)
  | .bytes b _=>some (.byt b)
  | .float b _=>some (.flt b)
  | .ref a=>some (.ref a)
  | .type n=>some (.ty n)
  | _=>none
theorem RelV.abs {x:V} {u:Value} (r:RelV x u):absV u=some x:=by
  cases x with
  | non=>cases r; rfl
  | bl _=>cases r; rfl
  | int _=>obtain ⟨t,rfl⟩:=r; rfl
  | str _=>obtain ⟨t,rfl⟩:=r; rfl
  | byt _=>obtain ⟨t,rfl⟩:=r; rfl
  | flt _=>obtain ⟨t,rfl⟩:=r; rfl
  | ref _=>cases r; rfl
  | ty _=>cases r; rfl
theorem RelV.inj {x y:V} {u:Value} (r:RelV x u) (q:RelV y u):x=y:=Option.some.inj (r.abs.symm.trans q.abs)
theorem Vals.inj:∀ {xs ys:List V} {us:List Value},Vals xs us→Vals ys us→xs=ys
  | _,_,_,.nil,.nil=>rfl
  | _,_,_,.cons r t,.cons r' t'=>by rw [r.inj r',Vals.inj t t']
section
variable {X:Cx} {pins:List (Addr×Obj)} {σ:St} {H:Hp} {s:Shared} {a:Addr} {xs ys:List V}
theorem SqL.of {K:PySem.W.Frag} (h:H a=some (.lst xs)):SqL K H a xs:=.inl (.inl h)
theorem SqT.of {K:PySem.W.Frag} (h:H a=some (.tup xs)):SqT K H a xs:=.inl (.inl h)
theorem Inv.list (I:Inv X pins σ H s) (h:SqL X.K H a xs):∃ its:List Value,Vals xs its∧PlainL s.heap a its.toArray∧xs.length≤sizeLine:=by
  rcases h with h | ⟨o,its,n,hk,hc,hd,hs,hz,r⟩
  · obtain ⟨z,its,n,r,e⟩:=h.ok I.hok
    exact ⟨its,r,⟨_,n,e,rfl,rfl,rfl⟩,z⟩
  · refine ⟨its.toList,r,⟨o,n,I.kIn a o hk,hc,hd,by simpa using hs⟩,?_⟩
    have e:=r.length
    simp only [Array.length_toList] at e
    omega
theorem Inv.tuple (I:Inv X pins σ H s) (h:SqT X.K H a xs):∃ its:List Value,Vals xs its∧IsTup s.heap a its.toArray∧xs.length≤sizeLine:=by
  rcases h with h | ⟨o,its,n,hk,hc,hs,hz,r⟩
  · obtain ⟨z,its,r,p⟩:=h.ok I.hok
    exact ⟨its,r,p,z⟩
  · refine ⟨its.toList,r,⟨o,I.kIn a o hk,hc,n,by simpa using hs⟩,?_⟩
    have e:=r.length
    simp only [Array.length_toList] at e
    omega
theorem Inv.list_inj (I:Inv X pins σ H s) (h:SqL X.K H a xs) (h':SqL X.K H a ys):xs=ys:=by
  obtain ⟨its,r,⟨o,n,e,_,_,d⟩,_⟩:=I.list h
  obtain ⟨its',r',⟨o',n',e',_,_,d'⟩,_⟩:=I.list h'
  rw [e] at e'; cases e'
  rw [d] at d'
  injection d' with d1 _
  have:its=its':=by simpa using congrArg Array.toList d1
  subst this
  exact r.inj r'
end
abbrev Cx.wish (X:Cx) (E:Value→Shared→Prop):Cx:={ X with xe:=E }
abbrev Cx.nox (X:Cx):Cx:=X.wish fun _ _=>False
theorem Cx.Ok.wish {X:Cx} (ok:X.Ok) (E:Value→Shared→Prop):(X.wish E).Ok :=
  ⟨ok.mod,ok.kind,ok.glob,ok.blt,ok.above,ok.inj,ok.has,ok.cab,ok.hd,ok.frames,ok.stk,ok.exf,ok.bs,ok.bsz,ok.noex,ok.exfs,ok.funs,ok.frf,ok.tb⟩
theorem Cx.Ok.unwish {X:Cx} {E:Value→Shared→Prop} (ok:(X.wish E).Ok):X.Ok :=
  ⟨ok.mod,ok.kind,ok.glob,ok.blt,ok.above,ok.inj,ok.has,ok.cab,ok.hd,ok.frames,ok.stk,ok.exf,ok.bs,ok.bsz,ok.noex,ok.exfs,ok.funs,ok.frf,ok.tb⟩
section
variable {X:Cx} {pins:List (Addr×Obj)} {σ:St} {H:Hp} {s:Shared} {E:Value→Shared→Prop}
theorem Inv.wish (I:Inv X pins σ H s) (E:Value→Shared→Prop):Inv (X.wish E) pins σ H s:=⟨I.ok.wish E,I.os,I.bare,I.base,I.loc,I.cell,I.free,I.freeC,I.pin,I.hok,I.len⟩
theorem Inv.unwish (I:Inv (X.wish E) pins σ H s):Inv X pins σ H s:=⟨I.ok.unwish,I.os,I.bare,I.base,I.loc,I.cell,I.free,I.freeC,I.pin,I.hok,I.len⟩
theorem SP.unwish {D:Ends} {f:Flow} {s':Shared} (h:SP (X.wish E) pins D f s'):SP X pins D f s':=by
  cases f with
  | next=>obtain ⟨σ',H',I,q⟩:=h; exact ⟨σ',H',I.unwish,q⟩
  | brk=>obtain ⟨σ',H',I,q⟩:=h; exact ⟨σ',H',I.unwish,q⟩
  | cont=>obtain ⟨σ',H',I,q⟩:=h; exact ⟨σ',H',I.unwish,q⟩
  | ret u=>obtain ⟨v,σ',H',I,r,q⟩:=h; exact ⟨v,σ',H',I.unwish,r,q⟩
theorem PSs.nox {st:List Stmt} {t:TS} (h:PSs X.nox st t):PSs X st t:=fun pins s σ H D I hw =>
  wpAny_mono (h pins s σ H D (I.wish _) hw) (fun _ _ q=>q.unwish) fun _ _ z=>False.elim z
end
section
variable {X:Cx} {st:Stmt} {rest:List Stmt} {t u:TS} {e:Expr} {te:TE} {pos:Pos}
def tNext:TS:=fun D σ H=>D.nx σ H
def tSeq (t u:TS):TS:=fun D σ H=>t { D with nx:=u D } σ H
theorem pss_nil:PSs X [] tNext:=fun _ _ σ H _ I h=>wpAny_execs_nil ⟨σ,H,I,h⟩
theorem pss_cons (h1:PS X st t) (h2:PSs X rest u):PSs X (st :: rest) (tSeq t u):=by
  intro pins s σ H D I h
  refine wpAny_execs_cons (thn (h1 pins s σ H { D with nx:=u D } I h) fun f s1 q=>?_)
  cases f with
  | next =>
    obtain ⟨σ',H',I',q⟩:=q
    exact h2 pins s1 σ' H' D I' q
  | ret v=>exact q
  | brk=>exact q
  | cont=>exact q
theorem pss_one (h1:PS X st t):PSs X [st] t:=by
  intro pins s σ H D I h
  refine wpAny_execs_cons (thn (h1 pins s σ H D I h) fun f s1 q=>?_)
  cases f with
  | next=>exact wpAny_execs_nil q
  | ret v=>exact q
  | brk=>exact q
  | cont=>exact q
theorem Inv.quiet {pins:List (Addr×Obj)} {σ:St} {H:Hp} {s:Shared} (I:Inv X pins σ H s):interactive X.env=false:=by simp [interactive,I.ok.kind]
def tDrop (te:TE):TS:=fun D σ H=>te σ H fun _ H1=>D.nx σ H1
theorem ps_expr (he:PE X e te) (hs:swapsWith e none pos.line X.env=pure false:=by rfl):PS X (.Expr e pos) (tDrop te):=by
  intro pins s σ H D I h
  exact wpAny_Expr_any (thn (he pins s σ H _ I h) fun v s1 ⟨x,H1,I1,r1,q1⟩=>⟨σ,H1,I1,q1⟩) I.quiet hs
def tRet (te:TE):TS:=fun D σ H=>te σ H D.rt
theorem ps_ret (he:PE X e te):PS X (.Return (some e) pos) (tRet te):=by
  intro pins s σ H D I h
  exact wpAny_Return_some (thn (he pins s σ H _ I h) fun v s1 ⟨x,H1,I1,r1,q1⟩=>⟨x,σ,H1,I1,r1,q1⟩)
def tIfS (c:TT) (t u:TS):TS:=fun D σ H=>c σ H fun b H1=>if b=true then t D σ H1 else u D σ H1
theorem ps_if {c:Expr} {a b:List Stmt} {tc:TT} (hc:PT X c tc) (ha:PSs X a t) (hb:PSs X b u):PS X (.If c a b pos) (tIfS tc t u):=by
  intro pins s σ H D I h
  refine wpAny_If (thn (hc pins s σ H _ I h) fun d s1 ⟨H1,I1,q1⟩=>?_)
  cases d with
  | true=>exact ha pins s1 σ H1 D I1 q1
  | false=>exact hb pins s1 σ H1 D I1 q1
def tNever:TS:=fun _ _ _=>False
theorem ps_never:PS X st tNever:=fun _ _ _ _ _ _ h=>h.elim
end
abbrev TG:=V→St→Hp→(St→Hp→Prop)→Prop
abbrev TGs:=List V→St→Hp→(St→Hp→Prop)→Prop
def PG (X:Cx) (target:Expr) (t:TG):Prop :=
  ∀ (pins:List (Addr×Obj)) (s:Shared) (σ:St) (H:Hp) (v:V) (u:Value) (Q:St→Hp→Prop),Inv X pins σ H s→RelV v u→t v σ H Q →
    wpAny (model X.prog X.w) X.A (assign target X.env u) (fun _ s'=>∃ σ' H',Inv X pins σ' H' s'∧Q σ' H') X.xe s
def PGs (X:Cx) (ts:List Expr) (t:TGs):Prop :=
  ∀ (pins:List (Addr×Obj)) (s:Shared) (σ:St) (H:Hp) (vs:List V) (us:List Value) (Q:St→Hp→Prop),Inv X pins σ H s→Vals vs us→t vs σ H Q →
    wpAny (model X.prog X.w) X.A (assignInOrder ((assignEach ts X.env).map (·.2)) us) (fun _ s'=>∃ σ' H',Inv X pins σ' H' s'∧Q σ' H') X.xe s
abbrev TSet:=V→V→V→Hp→(Hp→Prop)→Prop
def PSet (X:Cx) (t:TSet):Prop :=
  ∀ (pins:List (Addr×Obj)) (s:Shared) (σ:St) (H:Hp) (o i v:V) (ov iv u:Value) (Q:Hp→Prop),Inv X pins σ H s→RelV o ov→RelV i iv→RelV v u→t o i v H Q →
    wpAny (model X.prog X.w) X.A (setItem ov iv u) (fun _ s'=>∃ H',Inv X pins σ H' s'∧Q H') X.xe s
section
variable {X:Cx} {pos:Pos}
def gName (i:Nat):TG:=fun v σ H Q=>Q (σ.set i (some v)) H
theorem pg_name {i:Nat} {x:Str} (hN:X.N.Nodup) (hi:X.N[i]?=some x) (hx:Loc X.env.scope x) (hf:X.fn x=true∨X.env.scope.names.lookup x=some .local:=by first | exact .inl rfl | exact .inr rfl | assumption):PG X (.Name x pos) (gName i):=by
  intro pins s σ H v u Q I r h
  exact wpAny_assign_Name (store_ok I hN hi hx r (fun s' I'=>⟨_,H,I',h⟩) hf)
def gNil:TGs:=fun vs σ H Q=>vs=[]∧Q σ H
def gCons (t:TG) (u:TGs):TGs:=fun vs σ H Q=>∃ v r,vs=v :: r∧t v σ H fun σ' H'=>u r σ' H' Q
theorem pgs_nil:PGs X [] gNil:=by
  intro pins s σ H vs us Q I r h
  obtain ⟨e,h⟩:=h
  subst e
  cases r
  exact assignInOrder_nil ⟨σ,H,I,h⟩
theorem pgs_cons {e:Expr} {es:List Expr} {t:TG} {u:TGs} (h1:PG X e t) (h2:PGs X es u)
    (hs:(assignEach (e :: es) X.env).map (·.2)=assign e X.env :: (assignEach es X.env).map (·.2):=by rfl):PGs X (e :: es) (gCons t u):=by
  intro pins s σ H vs us Q I r h
  obtain ⟨v,vr,e1,h⟩:=h
  subst e1
  cases r with
  | cons r rr =>
    rw [hs]
    refine assignInOrder_cons (thn (h1 pins s σ H _ _ _ I r h) fun _ s1 ⟨σ1,H1,I1,q1⟩=>?_)
    exact h2 pins s1 σ1 H1 _ _ Q I1 rr q1
def gTup (K:PySem.W.Frag) (n:Nat) (t:TGs):TG:=fun v σ H Q=>∃ a xs,v=.ref a∧SqT K H a xs∧xs.length=n∧t xs σ H Q
theorem pg_tup {es:List Expr} {k:Nat} {t:TGs} {n:Nat} (hc:X.calm=true) (h:PGs X es t)
    (hn:(assignEach es X.env).length=n:=by rfl) (hst:(assignEach es X.env).findIdx? (·.1)=none:=by rfl):PG X (.Tuple es k pos) (gTup X.K n t):=by
  intro pins s σ H v u Q I r hw
  obtain ⟨a,xs,e1,hq,hl,hw⟩:=hw
  subst e1
  cases r
  obtain ⟨its,rv,ht,hz⟩:=I.tuple hq
  refine assign_Tuple_tuple (I.ok.hd hc) ht (by simp [hn,← hl,rv.length]) hst fun h' hx=>?_
  have I1:Inv X pins σ H { s with heap:=h' }:=I.kept (t':=s.toks) fun b o e=>hx b o (Nat.ne_of_lt (Heap.lt_size e)) e
  exact h pins _ σ H xs _ Q I1 (by simpa using rv) hw
def gSub (to ti:TE) (t:TSet):TG:=fun v σ H Q=>to σ H fun o H1=>ti σ H1 fun i H2=>t o i v H2 fun H3=>Q σ H3
theorem pg_sub {o i:Expr} {to ti:TE} {t:TSet} (ho:PE X o to) (hi:PE X i ti) (hs:PSet X t)
    (ha:∀ v,assign (.Subscript o i pos) X.env v=(do
      let ov ← holding [v] (eval o X.env)
      let iv ← holding [v,ov] (eval i X.env)
      standAt pos
      holding [v,ov,iv] (setItem ov iv v)
      release [v,ov,iv] []):=by intro _; rfl):PG X (.Subscript o i pos) (gSub to ti t):=by
  intro pins s σ H v u Q I r h
  rw [ha]
  refine wpAny_bind (wpAny_holding (thn (ho pins s σ H _ I h) fun ov s1 ⟨x,H1,I1,r1,q1⟩=>?_))
  refine wpAny_bind (wpAny_holding (thn (hi pins s1 σ H1 _ I1 q1) fun iv s2 ⟨y,H2,I2,r2,q2⟩=>?_))
  refine wpAny_bind (wpAny_standAt (wpAny_bind (wpAny_holding (thn (hs pins s2 σ H2 x y v ov iv u _ I2 r1 r2 r q2) fun _ s3 ⟨H3,I3,q3⟩=>?_))))
  exact wpAny_release ⟨σ,H3,I3,q3⟩
def tAsg (te:TE) (g:TG):TS:=fun D σ H=>te σ H fun x H1=>g x σ H1 D.nx
theorem ps_asg {tg e:Expr} {te:TE} {g:TG} (he:PE X e te) (hg:PG X tg g) (hs:swapsWithSole [tg] e pos.line X.env=pure false:=by rfl) (hw:swappedStores [tg] e X.env=pure none:=by rfl)
    (h1:(assignEach [tg] X.env).map (·.2)=[assign tg X.env]:=by rfl):PS X (.Assign [tg] e pos) (tAsg te g):=by
  intro pins s σ H D I h
  refine wpAny_Assign_stores (thn (he pins s σ H _ I h) fun v s1 ⟨x,H1,I1,r1,q1⟩=>?_) hs hw
  rw [h1]
  exact thn (hg pins s1 σ H1 x v _ I1 r1 q1) fun _ s2 q=>q
theorem ps_set {i:Nat} {x:Str} {e:Expr} {te:TE} {pos':Pos} (hN:X.N.Nodup) (hi:X.N[i]?=some x) (hx:Loc X.env.scope x) (he:PE X e te) (hs:swapsWith e (some (.Name x pos')) pos.line X.env=pure false:=by rfl) (hf:X.fn x=true∨X.env.scope.names.lookup x=some .local:=by first | exact .inl rfl | exact .inr rfl | assumption) :
    PS X (.Assign [.Name x pos'] e pos) (tAsg te (gName i)):=by
  intro pins s σ H D I h
  refine wpAny_Assign_Name (thn (he pins s σ H _ I h) fun v s1 ⟨y,H1,I1,r1,q1⟩=>?_) hs
  exact store_ok I1 hN hi hx r1 (fun s2 I2=>⟨_,H1,I2,q1⟩) hf
end
section
variable {X:Cx} {pos:Pos}
def tWhile (c:TT) (tb:TS):TS:=fun D σ H=>∃ W:Nat→St→Hp→Prop,(∃ m,W m σ H)∧∀ m σ H,W m σ H →
  c σ H fun b H1=>if b=true then ∃ N:St→Hp→Prop,(∀ σ' H',N σ' H'→∃ m',m' < m∧W m' σ' H')∧tb { D with nx:=N,ct:=N,bk:=D.nx } σ H1 else D.nx σ H1
theorem ps_while {c:Expr} {body:List Stmt} {tc:TT} {tb:TS} (hp:PassesOwn (model X.prog X.w) X.A X.env X.xe) (hc:PT X c tc) (hb:PSs X body tb):PS X (.While c body [] pos) (tWhile tc tb):=by
  intro pins s σ H D I h
  obtain ⟨W,⟨m0,w0⟩,turn⟩:=h
  refine wpAny_While (codeAny_whileLoop (fun n s'=>∃ σ' H',Inv X pins σ' H' s'∧W n σ' H') ?_ m0 ⟨σ,H,I,w0⟩)
  rintro n s1 ⟨σ1,H1,I1,w1⟩
  refine wpAny_passesOwn hp (thn (hc pins s1 σ1 H1 _ I1 (turn n σ1 H1 w1)) fun b s2 ⟨H2,I2,q2⟩=>?_)
  cases b with
  | true =>
    obtain ⟨N,hN,q2⟩:=q2
    rw [if_pos rfl]
    refine wpAny_passesOwn hp (thn (hb pins s2 σ1 H2 _ I2 q2) fun f s3 q3=>?_)
    cases f with
    | next =>
      obtain ⟨σ3,H3,I3,n3⟩:=q3
      obtain ⟨m',hm,w3⟩:=hN σ3 H3 n3
      exact ⟨m',hm,σ3,H3,I3,w3⟩
    | cont =>
      obtain ⟨σ3,H3,I3,n3⟩:=q3
      obtain ⟨m',hm,w3⟩:=hN σ3 H3 n3
      exact ⟨m',hm,σ3,H3,I3,w3⟩
    | brk=>exact q3
    | ret v=>exact q3
  | false =>
    rw [if_neg Bool.false_ne_true]
    exact wpAny_execs_nil ⟨σ1,H2,I2,q2⟩
end
structure It where
  go:Nat→Hp→Prop
  yld:Nat→Hp→V→Hp→Prop
  stop:Nat→Hp→Prop
def FpOk (X:Cx) (pins:List (Addr×Obj)) (H:Hp) (b:Addr):Prop :=
  H b=none∧b≠X.env.locals∧b∉X.fs∧(b∈X.ex∨X.s₀.heap.objs.size≤b)∧(∀ x c,X.env.cells.lookup x=some c→c≠b)∧∀ p∈X.pn ++ pins,p.1≠b
theorem Inv.fpOk {X:Cx} {pins:List (Addr×Obj)} {σ:St} {H H':Hp} {s:Shared} {b:Addr} (I:Inv X pins σ H s) (hb:s.heap.objs.size≤b) (hn:H' b=none):FpOk X pins H' b:=by
  refine ⟨hn,Nat.ne_of_gt (Nat.lt_of_lt_of_le I.lt hb),I.nofs hb,.inr (Nat.le_trans I.sz hb),fun x c e z=>?_,fun p hp z=>?_⟩
  · obtain ⟨v,q⟩:=I.cell x c e
    exact absurd (Nat.lt_of_lt_of_le q.lt (by rw [z]; exact hb)) (Nat.lt_irrefl _)
  · exact absurd (Nat.lt_of_lt_of_le (Heap.lt_size (I.pin p hp).1) (by rw [z]; exact hb)) (Nat.lt_irrefl _)
structure Turn (P:Program) (w:World) (K:PySem.W.Frag) (tg:Expr) (J:It) (fp:List Addr) (it:Addr) (tn:Nat→Heap→Prop):Prop where
  mem:it∈fp
  obj:∀ i h,tn i h→∀ b∈fp,∃ o,h.get? b=some o∧∀ v,o.data≠.cell v
  keep:∀ i h h',tn i h→(∀ b∈fp,∀ o,h.get? b=some o→h'.get? b=some o)→tn i h'
  item:∀ (X:Cx),X.prog=P→X.w=w→X.K=K→X.calm=true→∀ (i:Nat) (pins:List (Addr×Obj)) (s:Shared) (σ:St) (H:Hp) (E:Value→Shared→Prop),Inv X pins σ H s→(∀ b∈fp,FpOk X pins H b)→tn i s.heap→J.go i H →
    wpAny (model P w) X.A (pyNext (.ref it)) (fun r s1=>∃ u,r=some u ∧
      wpAny (model P w) X.A (letOwnedTupleGo tg (.ref it) u) (fun _ s2=>∃ x H',Inv X pins σ H' s2∧RelV x u∧J.yld i H x H'∧tn (i + 1) s2.heap∧∀ b∈fp,H' b=none) E s1) E s
  done:∀ (X:Cx),X.prog=P→X.w=w→X.K=K→X.calm=true→∀ (i:Nat) (pins:List (Addr×Obj)) (s:Shared) (σ:St) (H:Hp) (E:Value→Shared→Prop),Inv X pins σ H s→(∀ b∈fp,FpOk X pins H b)→tn i s.heap→J.stop i H →
    wpAny (model P w) X.A (pyNext (.ref it)) (fun r s1=>r=none∧Inv X pins σ H s1) E s
  self:∀ (A:Around) (i:Nat) (s:Shared) (Q:Value→Shared→Prop) (E:Value→Shared→Prop),tn i s.heap→Q (.ref it) s→wpAny (model P w) A (pyIter (.ref it)) Q E s
abbrev TI:=St→Hp→(It→Hp→Prop)→Prop
def PIE (X:Cx) (pins:List (Addr×Obj)) (σ:St) (tg:Expr) (R:It→Hp→Prop) (itv:Value) (s2:Shared):Prop :=
  ∃ (it:Addr) (fp:List Addr) (tn:Nat→Heap→Prop) (J:It) (H':Hp),itv=.ref it∧Inv X pins σ H' s2∧Turn X.prog X.w X.K tg J fp it tn∧tn 0 s2.heap∧(∀ b∈fp,FpOk X pins H' b)∧R J H'
def PI (X:Cx) (tg iter:Expr) (wi:TI):Prop :=
  ∀ (pins:List (Addr×Obj)) (s:Shared) (σ:St) (H:Hp) (R:It→Hp→Prop),Inv X pins σ H s→wi σ H R →
    wpAny (model X.prog X.w) X.A (eval iter X.env) (fun v s1=>wpAny (model X.prog X.w) X.A (pyIter v) (PIE X pins σ tg R) X.xe s1) X.xe s
theorem go_of {M:Model} {A:Around} {E:Value→Shared→Prop} {s:Shared} {tg:Expr} {it:Addr} {u:Value} {o:Obj} {n:String} {vs:Array Value} {Q:Unit→Shared→Prop} (ho:s.heap.get? it=some o) (hc:o.cls=.type n) (hd:o.data=.fields vs)
    (hn:["enumerate", "zip", "dict_itemiterator", "dict_reverseitemiterator", "odict_iterator", "itertools.zip_longest", "itertools.pairwise"].contains n=false) (hQ:Q () s):wpAny M A (letOwnedTupleGo tg (.ref it) u) Q E s:=by
  unfold letOwnedTupleGo
  cases tg <;> first
    | exact wpAny_pure hQ
    | (cases u <;> first
        | exact wpAny_pure hQ
        | (refine wpAny_bind (wpAny_load ho ?_)
           rw [hc,hd]
           show wpAny M A (if (["enumerate", "zip", "dict_itemiterator", "dict_reverseitemiterator", "odict_iterator", "itertools.zip_longest", "itertools.pairwise"].contains n && vs[0]? == some (rawInt _))=true then _ else _) Q E s
           rw [if_neg (by intro h; rw [hn,Bool.false_and] at h; cases h)]
           exact wpAny_pure hQ))
def Itl (K:PySem.W.Frag) (a:Addr):It :=
  ⟨fun i H=>∃ xs x,SqL K H a xs∧xs[i]?=some x,fun i H x H'=>H'=H∧∀ xs,SqL K H a xs→xs[i]?=some x,fun i H=>∃ xs,SqL K H a xs∧xs.length≤i⟩
def Itr (lo:Int) (n:Nat):It:=⟨fun i _=>i < n,fun i H x H'=>H'=H∧x=.int (lo + i),fun i _=>n≤i⟩
theorem turn_list {P:Program} {w:World} {K:PySem.W.Frag} {tg:Expr} (a it:Addr):Turn P w K tg (Itl K a) [it] it (fun i h=>h.IsListIter it a i) where
  mem:=by simp
  obj:=fun i h st b hb=>by
    have e:b=it:=by simpa using hb
    subst e
    obtain ⟨o,e,c,d⟩:=st
    exact ⟨o,e,fun v z=>by rw [d] at z; cases z⟩
  keep:=fun i h h' st k=>st.at fun o e=>k it (by simp) o e
  item:=by
    intro X hP hw hK hc i pins s σ H E I hf st hg
    subst hP hw hK
    obtain ⟨xs,x,hq,hx⟩:=hg
    obtain ⟨its,rv,p,hz⟩:=I.list hq
    obtain ⟨u,hu,ru⟩:=rv.get hx
    obtain ⟨f0,f1,f2,f3,f4,f5⟩:=hf it (by simp)
    refine wpAny_pyNext_list_item st p.isList (x:=u) (by simpa using hu) fun h' st' sb=>?_
    have I1:Inv X pins σ H { s with heap:=h' }:=I.turned (t':=s.toks) (fun b o hb e=>(sb.2 b hb).trans e) f0 f1 f3 f4 f5
    obtain ⟨o,e,c,d⟩:=id st'
    exact ⟨u,rfl,go_of (s:={ s with heap:=h' }) e c d (by decide) ⟨x,H,I1,ru,⟨rfl,fun ys hy=>by rw [I.list_inj hy hq]; exact hx⟩,st',fun b hb=>(hf b hb).1⟩⟩
  done:=by
    intro X hP hw hK hc i pins s σ H E I hf st hg
    subst hP hw hK
    obtain ⟨xs,hq,hx⟩:=hg
    obtain ⟨its,rv,p,hz⟩:=I.list hq
    obtain ⟨f0,f1,f2,f3,f4,f5⟩:=hf it (by simp)
    have hl:=rv.length
    exact wpAny_pyNext_list_end (I.ok.hd hc) st p.isList (by simp; omega) fun h' eb=>⟨rfl,I.turned (t':=s.toks) (fun b o hb e=>eb b o hb e) f0 f1 f3 f4 f5⟩
  self:=fun _ _ _ _ _ st h=>wpAny_pyIter_listiter st h
theorem turn_range {P:Program} {w:World} {K:PySem.W.Frag} {tg:Expr} (it:Addr) (lo:Int) (n:Nat):Turn P w K tg (Itr lo n) [it] it (fun i h=>IsRangeIter h it (lo + (i:Nat) * 1) ((n:Int) - (i:Nat)) 1) where
  mem:=by simp
  obj:=fun i h st b hb=>by
    have e:b=it:=by simpa using hb
    subst e
    exact ⟨_,st,fun v z=>by
      have z':Data.fields _=Data.cell v:=z
      cases z'⟩
  keep:=fun i h h' st k=>k it (by simp) _ st
  item:=by
    intro X hP hw hK hc i pins s σ H E I hf st hg
    subst hP hw hK
    obtain ⟨f0,f1,f2,f3,f4,f5⟩:=hf it (by simp)
    have W:=Walks.range (prog:=X.prog) (w:=X.w) (I.ok.hd hc) it lo 1 n
    refine W.item i s _ _ hg st fun v h' tk hv st' kk=>?_
    obtain ⟨t,rfl⟩:=hv
    have I1:Inv X pins σ H { s with heap:=h',toks:=tk }:=I.turned (fun b o hb e=>kk b o (by simpa using hb) e) f0 f1 f3 f4 f5
    refine ⟨_,rfl,go_of (s:={ s with heap:=h',toks:=tk }) (n := "range_iterator") st' rfl rfl (by decide) ⟨.int (lo + i),H,I1,⟨t,?_⟩,⟨rfl,rfl⟩,st',fun b hb=>(hf b hb).1⟩⟩
    rw [Int.mul_one]
  done:=by
    intro X hP hw hK hc i pins s σ H E I hf st hg
    subst hP hw hK
    obtain ⟨f0,f1,f2,f3,f4,f5⟩:=hf it (by simp)
    exact wpAny_pyNext_range_end (I.ok.hd hc) st (by have:n≤i:=hg; omega) fun h' eb=>⟨rfl,I.turned (t':=s.toks) (fun b o hb e=>eb b o hb e) f0 f1 f3 f4 f5⟩
  self:=fun _ _ _ _ _ st h=>wpAny_pyIter_rangeiter st h
end L2
namespace L2
open PySem PySem.Spec PyProof.Rows
section
variable {X:Cx} {tg:Expr}
def iList (K:PySem.W.Frag) (tl:TE):TI:=fun σ H R=>tl σ H fun x H1=>∃ a,x=.ref a∧(∃ xs,SqL K H1 a xs)∧R (Itl K a) H1
theorem pi_list {l:Expr} {tl:TE} (hl:PE X l tl):PI X tg l (iList X.K tl):=by
  intro pins s σ H R I h
  refine thn (hl pins s σ H _ I h) fun v s1 ⟨x,H1,I1,r1,q1⟩=>?_
  obtain ⟨a,e,⟨xs,hq⟩,q⟩:=q1
  subst e
  cases r1
  obtain ⟨its,rv,p,hz⟩:=I1.list hq
  refine wpAny_pyIter_list p.isList ?_
  refine ⟨s1.heap.objs.size,[s1.heap.objs.size],_,_,H1,rfl,I1.kept (t':=s1.toks) fun b o e=>Heap.get?_push_of_some _ e,turn_list a _,⟨_,Heap.get?_push_size _ rfl,rfl,rfl⟩,fun b hb=>?_,q⟩
  have e:b=s1.heap.objs.size:=by simpa using hb
  subst e
  exact I1.fpOk (Nat.le_refl _) (I1.hok.fresh (Nat.le_refl _))
theorem range_it {pins:List (Addr×Obj)} {σ:St} {H:Hp} {s:Shared} {R:It→Hp→Prop} {E:Value→Shared→Prop} {lo hi:Int} {t u v:Tok} {tk:Nat} (I:Inv X pins σ H s) (h1:-(2 ^ 62)≤lo) (h2:lo < 2 ^ 62) (h3:-(2 ^ 62)≤hi) (h4:hi < 2 ^ 62)
    (q:R (Itr lo (hi - lo).toNat) H):wpAny (model X.prog X.w) X.A (pyIter (.ref s.heap.objs.size)) (PIE X pins σ tg R) E { s with heap:=s.heap.push { cls:=.type "range", data:=.fields #[.int lo t,.int hi u,.int 1 v] },toks:=tk }:=by
  refine wpAny_pyIter_range (IsRange.new ..) (small_one h1 h2 h3 h4) ?_
  have I1:Inv X pins σ H { s with heap:=s.heap.push { cls:=.type "range", data:=.fields #[.int lo t,.int hi u,.int 1 v] },toks:=tk }:=I.kept fun b o e=>Heap.get?_push_of_some _ e
  refine ⟨(s.heap.push { cls:=.type "range", data:=.fields #[.int lo t,.int hi u,.int 1 v] }).objs.size,[(s.heap.push { cls:=.type "range", data:=.fields #[.int lo t,.int hi u,.int 1 v] }).objs.size],_,_,H,rfl,
    I1.kept (t':=tk) fun b o e=>Heap.get?_push_of_some _ e,turn_range _ lo (hi - lo).toNat,?_,fun b hb=>?_,q⟩
  · have e1:lo + ((0:Nat):Int) * 1=lo:=by simp
    have e2:(((hi - lo).toNat:Nat):Int) - ((0:Nat):Int)=Builtin.Range.rangeSize lo hi 1:=by rw [rangeSize_one]; split <;> omega
    show IsRangeIter _ _ (lo + ((0:Nat):Int) * 1) ((((hi - lo).toNat:Nat):Int) - ((0:Nat):Int)) 1
    rw [e1,e2]
    exact Heap.get?_push_size _ rfl
  · have e:b=(s.heap.push { cls:=.type "range", data:=.fields #[.int lo t,.int hi u,.int 1 v] }).objs.size:=by simpa using hb
    subst e
    exact I1.fpOk (Nat.le_refl _) (I1.hok.fresh (Nat.le_refl _))
def iRng1 (ta:TA):TI:=fun σ H R=>ta σ H fun vs H1=>∃ j:Int,vs=[.int j]∧-(2 ^ 62)≤j∧j < 2 ^ 62∧R (Itr 0 j.toNat) H1
theorem pi_range1 {a:Expr} {ta:TA} {p pos:Pos} (hg:Gl X "range") (hm:X.mg "range" = none) (ha:PA X [a] ta) (hs:starEach [a] X.env=[(false,eval a X.env)]:=by rfl):PI X tg (.Call (.Name "range" p) [a] [] pos) (iRng1 ta):=by
  intro pins s σ H R I h
  refine Call_ (ld_blt I hg hm boot_range (PyProof.Rows.callWith_type1 (thn (ha pos pins s σ H _ I h) fun us s1 ⟨vs,H1,I1,r1,q1⟩=>?_) hs rfl))
  obtain ⟨j,e,q1,q2,q⟩:=q1
  subst e
  cases r1 with
  | cons r rr =>
    cases rr
    obtain ⟨t,rfl⟩:=r
    exact call_range_1 (range_it I1 (by omega) (by omega) q1 q2 (by simpa using q))
def tFor (wi:TI) (g:TG) (tb:TS):TS:=fun D σ H=>wi σ H fun J H1=>∃ W:Nat→Nat→St→Hp→Prop,(∃ m,W 0 m σ H1)∧∀ i m σ H,W i m σ H →
  (J.stop i H∧D.nx σ H)∨(J.go i H∧∃ N:St→Hp→Prop,(∀ σ' H',N σ' H'→∃ m',m' < m∧W (i + 1) m' σ' H')∧∀ x H',J.yld i H x H'→g x σ H' fun σ2 H2=>tb { D with nx:=N,ct:=N,bk:=D.nx } σ2 H2)
def pinsAt (fp:List Addr) (h:Heap):List (Addr×Obj):=fp.filterMap fun b=>(h.get? b).map fun o=>(b,o)
theorem mem_pinsAt {fp:List Addr} {h:Heap} {b:Addr} {o:Obj} (hb:b∈fp) (e:h.get? b=some o):(b,o)∈pinsAt fp h:=List.mem_filterMap.mpr ⟨b,hb,by rw [e]; rfl⟩
theorem of_pinsAt {fp:List Addr} {h:Heap} {p:Addr×Obj} (hp:p∈pinsAt fp h):p.1∈fp∧h.get? p.1=some p.2:=by
  obtain ⟨b,hb,e⟩:=List.mem_filterMap.mp hp
  cases q:h.get? b with
  | none=>rw [q] at e; cases e
  | some o =>
    rw [q] at e
    have e':(b,o)=p:=Option.some.inj e
    subst e'
    exact ⟨hb,q⟩
theorem Inv.pinned {pins:List (Addr×Obj)} {σ:St} {H:Hp} {s:Shared} {fp:List Addr} (I:Inv X pins σ H s) (hf:∀ b∈fp,FpOk X pins H b) (ho:∀ b∈fp,∃ o,s.heap.get? b=some o∧∀ v,o.data≠.cell v):Inv X (pins ++ pinsAt fp s.heap) σ H s :=
  I.pins_of fun p hp=>(List.mem_append.mp hp).elim (fun z=>I.pin p (List.mem_append_right _ z)) fun z=>by
    obtain ⟨hb,e⟩:=of_pinsAt z
    obtain ⟨f0,f1,f2,_⟩:=hf p.1 hb
    obtain ⟨o,e',d⟩:=ho p.1 hb
    rw [e] at e'; cases e'
    exact ⟨e,f0,f1,f2,d⟩
theorem Inv.unpinned {pins pl:List (Addr×Obj)} {σ:St} {H:Hp} {s:Shared} (I:Inv X (pins ++ pl) σ H s):Inv X pins σ H s:=I.pins_of fun p hp=>I.pin p (List.mem_append_right _ (List.mem_append_left _ hp))
theorem ps_for {iter:Expr} {body:List Stmt} {wi:TI} {g:TG} {tb:TS} {pos:Pos} (hp:PassesOwn (model X.prog X.w) X.A X.env X.xe) (hc:X.calm=true) (hi:PI X tg iter wi) (hg:PG X tg g) (hb:PSs X body tb)
    (hs:∀ x,foldedSetIterable iter X.env x=pure x:=by intro _; rfl):PS X (.For tg iter body [] pos) (tFor wi g tb):=by
  intro pins s σ H D I h
  refine wpAny_For (thn (hi pins s σ H _ I h) fun v s1 h1=>thn h1 fun itv s2 h2=>?_) hs
  obtain ⟨it,fp,tn,J,H2,e,I2,T,st2,f2,W,⟨m0,w0⟩,turn⟩:=h2
  subst e
  have stat:∀ {H':Hp},(∀ b∈fp,H' b=none)→∀ b∈fp,FpOk X pins H' b:=fun hn b hb=>⟨hn b hb,(f2 b hb).2⟩
  refine codeAny_forLoop_any (fun n s'=>∃ i σ' H',Inv X pins σ' H' s'∧tn i s'.heap∧(∀ b∈fp,H' b=none)∧W i n σ' H') ?_ m0 ⟨0,σ,H2,I2,st2,fun b hb=>(f2 b hb).1,w0⟩
  rintro n s3 ⟨i,σ3,H3,I3,st3,fr3,w3⟩
  rcases turn i n σ3 H3 w3 with ⟨stop,qn⟩ | ⟨go,N,hN,step⟩
  · refine wpAny_passesOwn hp (thn (T.done X rfl rfl rfl hc i pins s3 σ3 H3 X.xe I3 (stat fr3) st3 stop) fun r s4 ⟨hr,I4⟩=>?_)
    subst hr
    exact wpAny_execs_nil ⟨σ3,H3,I4,qn⟩
  · refine wpAny_passesOwn hp (thn (T.item X rfl rfl rfl hc i pins s3 σ3 H3 X.xe I3 (stat fr3) st3 go) fun r s4 ⟨u,hr,h4⟩=>?_)
    subst hr
    refine wpAny_passesOwn hp (thn h4 fun _ s5 ⟨x,H5,I5,r5,y5,st5,fr5⟩=>?_)
    have I5':=I5.pinned (stat fr5) (T.obj _ _ st5)
    refine wpAny_passesOwn hp (thn (hg _ s5 σ3 H5 x u _ I5' r5 (step x H5 y5)) fun _ s6 ⟨σ6,H6,I6,q6⟩=>?_)
    refine wpAny_passesOwn hp (thn (hb _ s6 σ6 H6 _ I6 q6) fun f s7 q7=>?_)
    have again:∀ {σ7:St} {H7:Hp},Inv X (pins ++ pinsAt fp s5.heap) σ7 H7 s7→N σ7 H7→∃ m,m < n∧∃ i σ' H',Inv X pins σ' H' s7∧tn i s7.heap∧(∀ b∈fp,H' b=none)∧W i m σ' H':=fun {σ7 H7} I7 n7=>by
      obtain ⟨m',hm,w7⟩:=hN σ7 H7 n7
      refine ⟨m',hm,i + 1,σ7,H7,I7.unpinned,T.keep _ _ _ st5 fun b hb o e=>(I7.pin (b,o) (List.mem_append_right _ (List.mem_append_right _ (mem_pinsAt hb e)))).1,fun b hb=>?_,w7⟩
      obtain ⟨o,e,d⟩:=T.obj _ _ st5 b hb
      exact (I7.pin (b,o) (List.mem_append_right _ (List.mem_append_right _ (mem_pinsAt hb e)))).2.1
    cases f with
    | next=>obtain ⟨σ7,H7,I7,n7⟩:=q7; exact again I7 n7
    | cont=>obtain ⟨σ7,H7,I7,n7⟩:=q7; exact again I7 n7
    | brk=>obtain ⟨σ7,H7,I7,q7⟩:=q7; exact ⟨σ7,H7,I7.unpinned,q7⟩
    | ret v=>obtain ⟨x7,σ7,H7,I7,r7,q7⟩:=q7; exact ⟨x7,σ7,H7,I7.unpinned,r7,q7⟩
end
end L2
namespace L2
open PySem PySem.Spec PyProof.Rows
abbrev R2:=V→V→Hp→VK→Prop
def OpR (X:Cx) (f:Value→Value→Sem Value) (r:R2):Prop :=
  ∀ (pins:List (Addr×Obj)) (s:Shared) (σ:St) (H:Hp) (x y:V) (v u:Value) (Q:VK),Inv X pins σ H s→RelV x v→RelV y u→r x y H Q →
    wpAny (model X.prog X.w) X.A (f v u) (EP X pins σ Q) X.xe s
def UnR (X:Cx) (f:Value→Sem Value) (r:V→Hp→VK→Prop):Prop :=
  ∀ (pins:List (Addr×Obj)) (s:Shared) (σ:St) (H:Hp) (x:V) (v:Value) (Q:VK),Inv X pins σ H s→RelV x v→r x H Q →
    wpAny (model X.prog X.w) X.A (f v) (EP X pins σ Q) X.xe s
def CallR (X:Cx) (f:Value) (r:List V→Hp→VK→Prop):Prop :=
  ∀ (pins:List (Addr×Obj)) (s:Shared) (σ:St) (H:Hp) (xs:List V) (us:List Value) (Q:VK),Inv X pins σ H s→Vals xs us→r xs H Q →
    wpAny (model X.prog X.w) X.A (call f us) (EP X pins σ Q) X.xe s
def tOp (r:R2) (ta tb:TE):TE:=fun σ H Q=>ta σ H fun x H1=>tb σ H1 fun y H2=>r x y H2 Q
def tUn (r:V→Hp→VK→Prop) (ta:TE):TE:=fun σ H Q=>ta σ H fun x H1=>r x H1 Q
def rI (C:Int→Int→Prop) (g:Int→Int→V):R2:=fun x y H Q=>∃ i j,x=.int i∧y=.int j∧C i j∧Q (g i j) H
def rI0 (g:Int→Int→V):R2:=fun x y H Q=>∃ i j,x=.int i∧y=.int j∧Q (g i j) H
def rU (g:Int→V):V→Hp→VK→Prop:=fun x H Q=>∃ i,x=.int i∧Q (g i) H
section
variable {X:Cx} {a b c:Expr} {ta tb tc:TE} {pos:Pos}
theorem binT (ha:PE X a ta) (hb:PE X b tb) {pins:List (Addr×Obj)} {s:Shared} {σ:St} {H:Hp} {R:V→V→Hp→Prop} (I:Inv X pins σ H s)
    (h:ta σ H fun x H1=>tb σ H1 fun y H2=>R x y H2) {Q:Value→Shared→Prop} {f:Value→Value→Sem Value}
    (hf:∀ v u s2 x y H2,Inv X pins σ H2 s2→RelV x v→RelV y u→R x y H2→wpAny (model X.prog X.w) X.A (f v u) Q X.xe s2) :
    wpAny (model X.prog X.w) X.A (eval a X.env) (fun v s₁=>wpAny (model X.prog X.w) X.A (eval b X.env) (fun u s₂=>wpAny (model X.prog X.w) X.A (f v u) Q X.xe s₂) X.xe s₁) X.xe s:=by
  refine thn (ha pins s σ H _ I h) fun v s1 ⟨x,H1,I1,r1,q1⟩=>?_
  refine thn (hb pins s1 σ H1 _ I1 q1) fun u s2 ⟨y,H2,I2,r2,q2⟩=>?_
  exact hf v u s2 x y H2 I2 r1 r2 q2
theorem pe_op {op:Operator} {r:R2} (ho:OpR X (binaryOp op) r) (ha:PE X a ta) (hb:PE X b tb):PE X (.BinOp a op b pos) (tOp r ta tb):=by
  intro pins s σ H Q I h
  exact wpAny_BinOp (binT ha hb I h fun v u s2 x y H2 I2 rx ry q=>ho pins s2 σ H2 x y v u Q I2 rx ry q)
theorem pe_un {op:UnaryOp} {r:V→Hp→VK→Prop} (ho:UnR X (unaryOp op) r) (ha:PE X a ta):PE X (.UnaryOp op a pos) (tUn r ta):=by
  intro pins s σ H Q I h
  exact UnaryOp_ (thn (ha pins s σ H _ I h) fun v s1 ⟨x,H1,I1,r1,q1⟩=>ho pins s1 σ H1 x v Q I1 r1 q1)
theorem opI {f:Value→Value→Sem Value} {C:Int→Int→Prop} {g:Int→Int→Int}
    (rule:∀ (i j:Int) (t u:Tok) (s:Shared) (Q:Value→Shared→Prop) (E:Value→Shared→Prop),C i j→Q (.int (g i j) s.toks) { s with toks:=s.toks + 1 }→wpAny (model X.prog X.w) X.A (f (.int i t) (.int j u)) Q E s) :
    OpR X f (rI C fun i j=>.int (g i j)):=by
  intro pins s σ H x y v u Q I rx ry h
  obtain ⟨i,j,rfl,rfl,hc,q⟩:=h
  obtain ⟨t,rfl⟩:=rx
  obtain ⟨t',rfl⟩:=ry
  exact rule i j t t' s _ _ hc ⟨.int (g i j),H,I.tok _,⟨_,rfl⟩,q⟩
theorem opI0 {f:Value→Value→Sem Value} {g:Int→Int→Int}
    (rule:∀ (i j:Int) (t u:Tok) (s:Shared) (Q:Value→Shared→Prop) (E:Value→Shared→Prop),Q (.int (g i j) s.toks) { s with toks:=s.toks + 1 }→wpAny (model X.prog X.w) X.A (f (.int i t) (.int j u)) Q E s) :
    OpR X f (rI0 fun i j=>.int (g i j)):=by
  intro pins s σ H x y v u Q I rx ry h
  obtain ⟨i,j,rfl,rfl,q⟩:=h
  obtain ⟨t,rfl⟩:=rx
  obtain ⟨t',rfl⟩:=ry
  exact rule i j t t' s _ _ ⟨.int (g i j),H,I.tok _,⟨_,rfl⟩,q⟩
theorem opB0 {f:Value→Value→Sem Value} {g:Int→Int→Bool}
    (rule:∀ (i j:Int) (t u:Tok) (s:Shared) (Q:Value→Shared→Prop) (E:Value→Shared→Prop),Q (.bool (g i j)) s→wpAny (model X.prog X.w) X.A (f (.int i t) (.int j u)) Q E s) :
    OpR X f (rI0 fun i j=>.bl (g i j)):=by
  intro pins s σ H x y v u Q I rx ry h
  obtain ⟨i,j,rfl,rfl,q⟩:=h
  obtain ⟨t,rfl⟩:=rx
  obtain ⟨t',rfl⟩:=ry
  exact rule i j t t' s _ _ ⟨.bl (g i j),H,I,rfl,q⟩
def CDiv (i j:Int):Prop:=0 < j∧j < 1073741824
theorem op_add:OpR X (binaryOp .Add) (rI0 fun i j=>.int (i + j)):=opI0 fun _ _ _ _ _ _ _ q=>add_int q
theorem op_sub:OpR X (binaryOp .Sub) (rI0 fun i j=>.int (i - j)):=opI0 fun _ _ _ _ _ _ _ q=>sub_int q
theorem op_fdiv:OpR X (binaryOp .FloorDiv) (rI CDiv fun i j=>.int (i / j)):=opI fun i j _ _ _ _ _ hc q=>by
  have h1:(0:Int) < j:=hc.1
  have h2:j < 1073741824:=hc.2
  exact floordiv_int (by omega) (by rw [Int.fdiv_eq_ediv_of_nonneg i (by omega)]; exact q) (.inl (PyProof.noPylong_small (by omega)))
theorem op_mod:OpR X (binaryOp .Mod) (rI (fun _ j=>0 < j) fun i j=>.int (i % j)):=opI fun i j _ _ _ _ _ hc q=>by
  have h1:(0:Int) < j:=hc
  exact mod_int' (by omega) (by rw [Int.fmod_eq_emod_of_nonneg i (by omega)]; exact q)
theorem unI {f:Value→Sem Value} {g:Int→Int}
    (rule:∀ (i:Int) (t:Tok) (s:Shared) (Q:Value→Shared→Prop) (E:Value→Shared→Prop),Q (.int (g i) s.toks) { s with toks:=s.toks + 1 }→wpAny (model X.prog X.w) X.A (f (.int i t)) Q E s) :
    UnR X f (rU fun i=>.int (g i)):=by
  intro pins s σ H x v Q I rx h
  obtain ⟨i,rfl,q⟩:=h
  obtain ⟨t,rfl⟩:=rx
  exact rule i t s _ _ ⟨.int (g i),H,I.tok _,⟨_,rfl⟩,q⟩
theorem un_neg:UnR X (unaryOp .USub) (rU fun i=>.int (-i)):=unI fun _ _ _ _ _ q=>neg_int q
end
def scal:V→V→Bool
  | .non,.non=>true | .non,.int _=>true | .int _,.non=>true | .non,.bl _=>true | .bl _,.non=>true | .non,.str _=>true | .str _,.non=>true
  | .int _,.int _=>true | .bl _,.bl _=>true | .str _,.str _=>true | .byt _,.byt _=>true
  | .int _,.str _=>true | .str _,.int _=>true | .bl _,.str _=>true | .str _,.bl _=>true
  | _,_=>false
def rEq:R2:=fun x y H Q=>scal x y=true∧Q (.bl (decide (x=y))) H
def rNe:R2:=fun x y H Q=>scal x y=true∧Q (.bl (!decide (x=y))) H
theorem dec_int {i j:Int}:decide (V.int i=V.int j)=(i == j):=by
  rw [Bool.eq_iff_iff]
  simp
theorem dec_bl {i j:Bool}:decide (V.bl i=V.bl j)=(i == j):=by
  rw [Bool.eq_iff_iff]
  simp
theorem dec_str {i j:Str}:decide (V.str i=V.str j)=(i == j):=by
  rw [Bool.eq_iff_iff]
  simp
theorem dec_byt {i j:Array UInt8}:decide (V.byt i=V.byt j)=(i.toList == j.toList):=by
  rw [Bool.eq_iff_iff]
  cases i
  cases j
  simp
section
variable {X:Cx} {a b c:Expr} {ta tb tc:TE} {pos:Pos}
theorem fin_bl {pins:List (Addr×Obj)} {σ:St} {H:Hp} {s:Shared} {Q:VK} {k k':Bool} (I:Inv X pins σ H s) (q:Q (.bl k) H) (e:k=k'):EP X pins σ Q (.bool k') s:=by
  subst e
  exact ⟨.bl k,H,I,rfl,q⟩
theorem op_eq:OpR X (compareOp .Eq) rEq:=by
  intro pins s σ H x y v u Q I rx ry h
  obtain ⟨hs,q⟩:=h
  cases x with
  | non =>
    cases rx
    cases y with
    | non=>cases ry; exact PySem.EqNone.eq_none_none (fin_bl I q (by simp))
    | bl j=>cases ry; exact PySem.EqNone.eq_none_bool (fin_bl I q (by simp))
    | int j=>obtain ⟨t',rfl⟩:=ry; exact PySem.EqNone.eq_none_int (fin_bl I q (by simp))
    | str j=>obtain ⟨t',rfl⟩:=ry; exact PySem.EqNone.eq_none_str (fin_bl I q (by simp))
    | _=>exact absurd (show false=true from hs) Bool.false_ne_true
  | bl i =>
    cases rx
    cases y with
    | non=>cases ry; exact PySem.EqNone.eq_bool_none (fin_bl I q (by simp))
    | bl j=>cases ry; exact eq_bool (fin_bl I q dec_bl)
    | str j=>obtain ⟨t',rfl⟩:=ry; exact PySem.EqMixed.eq_bool_str (fin_bl I q (by simp))
    | _=>exact absurd (show false=true from hs) Bool.false_ne_true
  | int i =>
    obtain ⟨t,rfl⟩:=rx
    cases y with
    | non=>cases ry; exact PySem.EqNone.eq_int_none (fin_bl I q (by simp))
    | int j=>obtain ⟨t',rfl⟩:=ry; exact eq_int (fin_bl I q dec_int)
    | str j=>obtain ⟨t',rfl⟩:=ry; exact PySem.EqMixed.eq_int_str (fin_bl I q (by simp))
    | _=>exact absurd (show false=true from hs) Bool.false_ne_true
  | str i =>
    obtain ⟨t,rfl⟩:=rx
    cases y with
    | non=>cases ry; exact PySem.EqNone.eq_str_none (fin_bl I q (by simp))
    | bl j=>cases ry; exact PySem.EqMixed.eq_str_bool (fin_bl I q (by simp))
    | int j=>obtain ⟨t',rfl⟩:=ry; exact PySem.EqMixed.eq_str_int (fin_bl I q (by simp))
    | str j=>obtain ⟨t',rfl⟩:=ry; exact eq_str (fin_bl I q dec_str)
    | _=>exact absurd (show false=true from hs) Bool.false_ne_true
  | byt i =>
    obtain ⟨t,rfl⟩:=rx
    cases y with
    | byt j=>obtain ⟨t',rfl⟩:=ry; exact PySem.W.eq_bytes (fin_bl I q dec_byt)
    | _=>exact absurd (show false=true from hs) Bool.false_ne_true
  | _=>cases y <;> exact absurd (show false=true from hs) Bool.false_ne_true
theorem op_ne:OpR X (compareOp .NotEq) rNe:=by
  intro pins s σ H x y v u Q I rx ry h
  obtain ⟨hs,q⟩:=h
  cases x with
  | non =>
    cases rx
    cases y with
    | non=>cases ry; exact PySem.EqNone.ne_none_none (fin_bl I q (by simp))
    | bl j=>cases ry; exact PySem.EqNone.ne_none_bool (fin_bl I q (by simp))
    | int j=>obtain ⟨t',rfl⟩:=ry; exact PySem.EqNone.ne_none_int (fin_bl I q (by simp))
    | str j=>obtain ⟨t',rfl⟩:=ry; exact PySem.EqNone.ne_none_str (fin_bl I q (by simp))
    | _=>exact absurd (show false=true from hs) Bool.false_ne_true
  | bl i =>
    cases rx
    cases y with
    | non=>cases ry; exact PySem.EqNone.ne_bool_none (fin_bl I q (by simp))
    | bl j=>cases ry; exact ne_bool (fin_bl I q (congrArg not dec_bl))
    | str j=>obtain ⟨t',rfl⟩:=ry; exact PySem.EqMixed.ne_bool_str (fin_bl I q (by simp))
    | _=>exact absurd (show false=true from hs) Bool.false_ne_true
  | int i =>
    obtain ⟨t,rfl⟩:=rx
    cases y with
    | non=>cases ry; exact PySem.EqNone.ne_int_none (fin_bl I q (by simp))
    | int j=>obtain ⟨t',rfl⟩:=ry; exact ne_int (fin_bl I q (congrArg not dec_int))
    | str j=>obtain ⟨t',rfl⟩:=ry; exact PySem.EqMixed.ne_int_str (fin_bl I q (by simp))
    | _=>exact absurd (show false=true from hs) Bool.false_ne_true
  | str i =>
    obtain ⟨t,rfl⟩:=rx
    cases y with
    | non=>cases ry; exact PySem.EqNone.ne_str_none (fin_bl I q (by simp))
    | bl j=>cases ry; exact PySem.EqMixed.ne_str_bool (fin_bl I q (by simp))
    | int j=>obtain ⟨t',rfl⟩:=ry; exact PySem.EqMixed.ne_str_int (fin_bl I q (by simp))
    | str j=>obtain ⟨t',rfl⟩:=ry; exact ne_str (fin_bl I q (congrArg not dec_str))
    | _=>exact absurd (show false=true from hs) Bool.false_ne_true
  | byt i =>
    obtain ⟨t,rfl⟩:=rx
    cases y with
    | byt j=>obtain ⟨t',rfl⟩:=ry; exact PySem.W.ne_bytes (fin_bl I q (congrArg not dec_byt))
    | _=>exact absurd (show false=true from hs) Bool.false_ne_true
  | _=>cases y <;> exact absurd (show false=true from hs) Bool.false_ne_true
theorem op_lt:OpR X (compareOp .Lt) (rI0 fun i j=>.bl (decide (i < j))):=opB0 fun _ _ _ _ _ _ _ q=>lt_int q
theorem op_gt:OpR X (compareOp .Gt) (rI0 fun i j=>.bl (decide (j < i))):=opB0 fun _ _ _ _ _ _ _ q=>gt_int q
theorem op_ge:OpR X (compareOp .GtE) (rI0 fun i j=>.bl (decide (j≤i))):=opB0 fun _ _ _ _ _ _ _ q=>ge_int q
theorem op_isN:OpR X (compareOp .Is) (fun x y H Q=>y=.non∧Q (.bl (decide (x=.non))) H):=by
  intro pins s σ H x y v u Q I rx ry h
  obtain ⟨rfl,q⟩:=h
  cases ry
  refine is_none_gen (fin_bl I q ?_)
  cases x <;> first
    | (cases rx; rfl)
    | (obtain ⟨t,rfl⟩:=rx; rfl)
theorem nomark (b:Expr) {op:CmpOp} (h:op≠.In:=by decide) (h2:op≠.NotIn:=by decide):behindInMarks op b=false:=by
  have e1:(op == CmpOp.In)=false:=by cases op <;> first | rfl | exact absurd rfl h
  have e2:(op == CmpOp.NotIn)=false:=by cases op <;> first | rfl | exact absurd rfl h2
  cases b <;> simp [behindInMarks,e1,e2]
theorem pe_cmpR {op:CmpOp} {r:R2} (ho:OpR X (compareOp op) r) (ha:PE X a ta) (hb:PE X b tb) (hm:behindInMarks op b=false):PE X (.Compare a [op] [b] pos) (tOp r ta tb):=by
  intro pins s σ H Q I h
  exact wpAny_Compare1 (binT ha hb I h fun v u s2 x y H2 I2 rx ry q=>ho pins s2 σ H2 x y v u Q I2 rx ry q) hm
def tTest (t:TE):TT:=fun σ H Q=>t σ H fun x H'=>∃ k,x=.bl k∧Q k H'
theorem pt_cmpR {op:CmpOp} {r:R2} (ho:OpR X (compareOp op) r) (ha:PE X a ta) (hb:PE X b tb) (hm:behindInMarks op b=false):PT X (.Compare a [op] [b] pos) (tTest (tOp r ta tb)):=by
  intro pins s σ H Q I h
  refine wpAny_isTrue_Compare1 (thn (ha pins s σ H _ I h) fun v s1 ⟨x,H1,I1,r1,q1⟩=>thn (hb pins s1 σ H1 _ I1 q1) fun u s2 ⟨y,H2,I2,r2,q2⟩ =>
    thn (ho pins s2 σ H2 x y v u _ I2 r1 r2 q2) fun c s3 ⟨z,H3,I3,r3,k,e,q3⟩=>?_) hm
  subst e
  cases r3
  exact wpAny_truthy_bool ⟨H3,I3,q3⟩
theorem line63:(sizeLine:Nat) < 2 ^ 63:=by rw [sizeLine_eq]; decide
theorem vals1 {x:V} {us:List Value} (r:Vals [x] us):∃ u,us=[u]∧RelV x u:=by
  cases r with
  | cons r1 r2=>cases r2; exact ⟨_,rfl,r1⟩
end
end L2
namespace L2
open PySem PySem.Spec PyProof.Rows
theorem lookIn_ns {h:Heap} {dx:Addr} {mA:Str→Option Value} (n:h.Ns1 dx mA):∃ od,h.get? dx=some od∧∀ name,PySem.W.lookIn name od=some (mA name):=by
  obtain ⟨o,es,ep,ho,hd,hk,_,hm⟩:=n
  refine ⟨o,ho,fun name=>?_⟩
  have e:=hm name
  unfold nsFind findBy at e
  rw [← Array.find?_toList] at e
  unfold PySem.W.lookIn
  rw [hd]
  dsimp only
  split
  · rename_i y q
    rw [q] at e
    exact congrArg some e
  · rename_i q
    rw [q] at e
    have a:es.toList.any (·.refKey)=false:=by
      rw [List.any_eq_false]
      intro y hy
      obtain ⟨z,t,hkey⟩:=hk y (Array.mem_toList_iff.mp hy)
      simp [DictEntry.refKey,hkey]
    have a':¬ es.toList.any (·.refKey)=true:=by rw [a]; exact Bool.false_ne_true
    rw [if_neg a']
    exact congrArg some e
section
variable {prog:Program} {w:World} {A:Around} {E:Value→Shared→Prop} {s:Shared} {K:PySem.W.Frag} {x dx C f:Addr} {mA:Str→Option Value} {name:Str} {v:Value}
end
section
variable {P:Program} {w:World} {H H':Hp} {h h':Heap} {a C dx:Addr} {fs fs':List (Str×V)}
end
section
variable {X:Cx} {pins:List (Addr×Obj)} {σ:St} {H:Hp} {s:Shared} {a C dx:Addr} {fs:List (Str×V)} {f:Str} {v:V} {A:Around} {E:Value→Shared→Prop}
theorem attr_of {prog:Program} {w:World} {env:Env} {e:Expr} {f:Str} {pos:Pos} {s:Shared} {Q:Value→Shared→Prop} (hb:attributeBase e f env (eval e env)=eval e env)
    (h:wpAny (model prog w) A (eval e env) (fun o s₁=>wpAny (model prog w) A (getAttr o f true) Q E s₁) E s):wpAny (model prog w) A (eval (.Attribute e f pos) env) Q E s :=
  Attribute_any_ h (by rw [arm_eval_Attribute,hb])
end
section
variable {X:Cx} {o e value:Expr} {f:Str} {pos pos' tpos:Pos} {ta tv:TE}
end
section
variable {X:Cx} {pins:List (Addr×Obj)} {σ:St} {H:Hp} {s:Shared} {A:Around} {E:Value→Shared→Prop} {Q:Value→Shared→Prop} {c:Value} {b:Bool}
end
end L2
namespace L2
open PySem PySem.Spec PyProof.Rows
structure Room (k:Nat) (A:Around):Prop where
  hd:A.handled=none
  dp:A.depth + 3 * k + 5 < recursionLimit
  un:A.units + 16 * k + 200 < cLine
  gd:A.guards=some []
theorem Room.mono {j k:Nat} {A:Around} (r:Room k A) (h:j≤k):Room j A:=⟨r.hd,by have:=r.dp; omega,by have:=r.un; omega,r.gd⟩
theorem Room.deeper {k:Nat} {A:Around} (r:Room (k + 1) A) (env:Env):Room k (A.deeper env) :=
  ⟨r.hd,by have:=r.dp; show A.depth + 1 + 3 * k + 5 < _; omega,by have:=r.un; show A.units + 3 + 16 * k + 200 < _; omega,r.gd⟩
theorem make_depth {A:Around} {C:Addr} {us:List Value} {kw:List (Str×Value)}:(A.under (.builtin "type.__call__" ⟨.ref C :: us,kw⟩)).depth=A.depth + 1:=by
  first | rfl | simp [Around.under,Code.weight,Code.isCreation,Code.isGuard,Code.isCaller,Code.frames,Code.isFrame,guardIds]
theorem make_units {A:Around} {C:Addr} {us:List Value} {kw:List (Str×Value)}:(A.under (.builtin "type.__call__" ⟨.ref C :: us,kw⟩)).units=A.units + 1:=by
  first | rfl | simp [Around.under,Code.cUnits,Code.frames,Code.isFrame]
theorem Room.make {k:Nat} {A:Around} (r:Room (k + 1) A) (C:Addr) (us:List Value) (kw:List (Str×Value)):Room k (A.under (.builtin "type.__call__" ⟨.ref C :: us,kw⟩)) :=
  ⟨r.hd,by have:=r.dp; rw [make_depth]; omega,by have:=r.un; rw [make_units]; omega,r.gd⟩
theorem Room.depth {k:Nat} {A:Around} (r:Room k A):A.depth < recursionLimit:=by have:=r.dp; omega
theorem Room.units {k:Nat} {A:Around} (r:Room k A):A.units + 64 < cLine:=by have:=r.un; omega
def tNil:TA:=fun _ H Q=>Q [] H
def tCons (ta:TE) (tr:TA):TA:=fun σ H Q=>ta σ H fun x H1=>tr σ H1 fun xs H2=>Q (x :: xs) H2
section
variable {X:Cx} {e:Expr} {es:List Expr} {te:TE} {t:TA} {pos:Pos}
theorem pa_nil:PA X [] tNil:=fun _ _ _ _ H Q I h=>Calls.spliced_nil ⟨[],H,I,.nil,h⟩
theorem pa_cons (ha:PE X e te) (hr:PA X es t) (hs:starEach (e :: es) X.env=(false,eval e X.env) :: starEach es X.env:=by rfl):PA X (e :: es) (tCons te t):=by
  intro pos pins s σ H Q I h
  rw [hs]
  show wpAny _ _ (spliced ((false,eval e X.env) :: backTo pos (starEach es X.env))) _ _ s
  refine Calls.spliced_cons (thn (ha pins s σ H _ I h) fun u s1 ⟨x,H1,I1,r1,q1⟩=>?_)
  exact thn (hr pos pins s1 σ H1 _ I1 q1) fun us s2 ⟨xs,H2,I2,r2,q2⟩=>⟨x :: xs,H2,I2,.cons r1 r2,q2⟩
def tTup (t:TA):TE:=fun σ H Q=>t σ H fun xs H1=>xs.length≤sizeLine∧∀ p,H1 p=none→Q (.ref p) (upd H1 p (.tup xs))
def tLst (t:TA):TE:=fun σ H Q=>t σ H fun xs H1=>xs.length≤sizeLine∧∀ p,H1 p=none→Q (.ref p) (upd H1 p (.lst xs))
theorem pe_tup {x1} (h:PA X es t):PE X (.Tuple es x1 pos) (tTup t):=by
  intro pins s σ H Q I hq
  refine wpAny_Tuple_spliced (thn (h pos pins s σ H _ I hq) fun us s1 ⟨xs,H1,I1,r,z,q⟩=>⟨by rw [← r.length]; exact z,?_⟩)
  have hf:H1 s1.heap.objs.size=none:=I1.hok.fresh (Nat.le_refl _)
  refine ⟨.ref s1.heap.objs.size,upd H1 s1.heap.objs.size (.tup xs),I1.laid (t':=s1.toks) (fun b u e=>Heap.get?_push_of_some _ e) (Nat.le_refl _) ?_,rfl,q _ hf⟩
  exact ⟨z,us,r,⟨_,Heap.get?_push_size _ rfl,rfl,_,rfl⟩⟩
theorem pe_lst (h:PA X es t):PE X (.List es pos) (tLst t):=by
  intro pins s σ H Q I hq
  refine wpAny_List_spliced (thn (h pos pins s σ H _ I hq) fun us s1 ⟨xs,H1,I1,r,z,q⟩=>⟨by rw [← r.length]; exact z,?_⟩)
  have hf:H1 s1.heap.objs.size=none:=I1.hok.fresh (Nat.le_refl _)
  refine ⟨.ref s1.heap.objs.size,upd H1 s1.heap.objs.size (.lst xs),I1.laid (t':=s1.toks) (fun b u e=>Heap.get?_push_of_some _ e) (Nat.le_refl _) ?_,rfl,q _ hf⟩
  exact ⟨z,us,0,r,Heap.get?_push_size _ rfl⟩
end
abbrev Sp:=List V→Hp→VK→XK→Prop
abbrev CXT:=List Env→Hp→Shared→XK→Value→Shared→Prop
structure Env0 (P:Program) (w:World) (K:PySem.W.Frag) (mg:Str→Option Value) (base:Heap) (A:Around) (outer:List Env) (s:Shared) (H:Hp):Prop where
  frames:A.frames=some outer
  mod:Mod K mg base
  bs:∀ b o,base.get? b=some o→s.heap.get? b=some o∧H b=none
  bsz:base.objs.size≤s.heap.objs.size
  funs:s.heap.FunFrames base outer
  frf:∀ b∈frs outer,H b=none
  hok:HOk P w H s.heap
  bare:AllBare s.gens
  tb:TbOk K H
def CE (outer:List Env) (P:Program) (w:World) (H:Hp) (s:Shared) (Q:VK) (u:Value) (s':Shared):Prop :=
  ∃ v H',s'.os=s.os∧AllBare s'.gens∧Un (frs outer) [] H H' s.heap s'.heap∧HOk P w H' s'.heap∧RelV v u∧Q v H'
def CR (CX:CXT) (outer:List Env) (P:Program) (w:World) (H:Hp) (s:Shared) (Q:VK) (E:XK) (r:Result) (s':Shared):Prop :=
  match r with
  | .ok (.ret u)=>CE outer P w H s Q u s'
  | .ok _=>False
  | .error e=>CX outer H s E e s'
structure FnOk (P:Program) (w:World) (K:PySem.W.Frag) (mg:Str→Option Value) (base:Heap) (CX:CXT) (k:Nat) (f:Addr) (fd:FuncData) (ps:List Str) (sp:Sp):Prop where
  len:∀ vs H Q E,sp vs H Q E→vs.length=ps.length
  run:∀ (A:Around) (outer:List Env) (s:Shared) (H:Hp) (args:Args) (us:List Value) (vs:List V) (Q:VK) (E:XK),Room k A→Env0 P w K mg base A outer s H→BindsTo s fd args (ps.zip us)→Vals vs us→sp vs H Q E →
    codeAny (model P w) A (.call (.ref f) args) (CR CX outer P w H s Q E) s
theorem Env0.make {P:Program} {w:World} {K:PySem.W.Frag} {mg:Str→Option Value} {base:Heap} {A:Around} {outer:List Env} {s:Shared} {H:Hp} (e:Env0 P w K mg base A outer s H) (C:Addr) (us:List Value) (kw:List (Str×Value)) :
    Env0 P w K mg base (A.under (.builtin "type.__call__" ⟨.ref C :: us,kw⟩)) outer s H:=⟨by first | exact e.frames | (simpa [Around.under,Code.envs,Code.isFrame,pushEnvs] using e.frames),e.mod,e.bs,e.bsz,e.funs,e.frf,e.hok,e.bare,e.tb⟩
section
variable {X:Cx} {pins:List (Addr×Obj)} {σ:St} {H:Hp} {s s':Shared}
theorem Inv.env0 (I:Inv X pins σ H s):Env0 X.prog X.w X.K X.mg X.base X.A X.stack s H :=
  ⟨I.ok.frames,I.ok.mod,I.bs,Nat.le_trans I.ok.bsz I.sz,I.stack,I.stkFree,I.hok,I.bare,I.ok.tb.un I.base⟩
theorem Inv.after {Q:VK} {u:Value} (I:Inv X pins σ H s) (h:CE X.stack X.prog X.w H s Q u s'):EP X pins σ Q u s':=by
  obtain ⟨v,H',os,bare,un,hok,r,q⟩:=h
  obtain ⟨hh,g,d,t,os'⟩:=s'
  obtain rfl:os'=s.os:=os
  exact ⟨v,H',I.call (h':=hh) (g':=g) (d':=d) (t':=t) (ch:=[]) un hok bare (fun b z=>absurd z (by simp)),r,q⟩
end
def tCall (sp:Sp) (dvs:List V) (E:XK) (t:TA):TE:=fun σ H Q=>t σ H fun vs H1=>sp (vs ++ dvs) H1 Q E
def Binds (K:PySem.W.Frag) (fd:FuncData) (ps:List Str) (ds:List Value):Prop :=
  ∀ (s:Shared) (us:List Value),K.In s.heap→(us ++ ds).length=ps.length→BindsTo s fd ⟨us,[]⟩ (ps.zip (us ++ ds))
theorem Binds.all {K:PySem.W.Frag} {fd:FuncData} {ps:List Str} (h:∀ us:List Value,us.length=ps.length→bindArgs fd ⟨us,[]⟩=pure (ps.zip us)):Binds K fd ps []:=fun s us _ hl=>by
  rw [List.append_nil] at hl ⊢
  exact .of_eq (h us hl)
def Passes (CX:CXT) (X:Cx) (E:XK):Prop:=∀ (pins:List (Addr×Obj)) (σ:St) (H:Hp) (s:Shared) (e:Value) (s':Shared),Inv X pins σ H s→CX X.stack H s E e s'→X.xe e s'
section
variable {X:Cx} {CX:CXT} {k:Nat} {f C:Addr} {fd:FuncData} {ps:List Str} {sp:Sp} {dvs:List V} {ds:List Value} {E:XK} {x m:Str} {p pos apos:Pos} {e o:Expr} {es:List Expr} {ta:TE} {t:TA}
theorem run_fn {pins:List (Addr×Obj)} {σ:St} {H:Hp} {s:Shared} {Q:VK} {us:List Value} {vs:List V} (F:FnOk X.prog X.w X.K X.mg X.base CX k f fd ps sp) (hr:Room k X.A) (hb:Binds X.K fd ps ds) (hd:Vals dvs ds) (hx:Passes CX X E)
    (I:Inv X pins σ H s) (r:Vals vs us) (h:sp (vs ++ dvs) H Q E):wpAny (model X.prog X.w) X.A (call (.ref f) us) (EP X pins σ Q) X.xe s:=by
  have r2:Vals (vs ++ dvs) (us ++ ds):=r.append hd
  have hl:(us ++ ds).length=ps.length:=by rw [← r2.length]; exact F.len _ _ _ _ h
  refine wpAny_call (codeAny_mono (F.run X.A X.stack s H ⟨us,[]⟩ (us ++ ds) (vs ++ dvs) Q E hr I.env0 (hb s us I.kIn hl) r2 h) fun r s' hq=>?_)
  cases r with
  | error e=>exact hx pins σ H s e s' I hq
  | ok fl =>
    cases fl with
    | ret u=>exact I.after hq
    | next=>exact False.elim hq
    | brk=>exact False.elim hq
    | cont=>exact False.elim hq
theorem pe_call (F:FnOk X.prog X.w X.K X.mg X.base CX k f fd ps sp) (hr:Room k X.A) (hg:Gl X x) (hm:X.mg x=some (.ref f)) (hk:PySem.W.keepIn X.K (.ref f)=true) (hb:Binds X.K fd ps ds) (hd:Vals dvs ds) (hx:Passes CX X E)
    (ha:PA X (e :: es) t) (hdb:(x == ("__debug__" : Str))=false:=by decide) (he:starEach (e :: es) X.env=(false,eval e X.env) :: starEach es X.env:=by rfl) (hpl:(backTo pos (starEach es X.env)).any (·.1)=false:=by rfl) :
    PE X (.Call (.Name x p) (e :: es) [] pos) (tCall sp dvs E t):=by
  intro pins s σ H Q I h
  refine wpAny_Call_Name_kw (ld_glob I hg hm ?_ hdb)
  refine PySem.W.callWith_K (h₀:=X.base) I.ok.mod.kin hk (thn (ha pos pins s σ H _ I h) fun us s1 ⟨vs,H1,I1,r,q⟩=>⟨I1.kIn,?_⟩) he hpl
  exact run_fn F hr hb hd hx I1 r q
end
section
variable {X:Cx} {CX:CXT} {k:Nat} {f C:Addr} {fd:FuncData} {ps ks:List Str} {sp:Sp} {E:XK} {x m:Str} {p pos apos kpos:Pos} {e o:Expr} {es:List Expr} {kws:List Keyword} {te ta:TE} {t tk:TA} {nm:Option Str}
variable {g:List Value→List Value→List Value} {gV:List V→List V→List V}
end
structure FnScope (N P:List Str) (sc:Scope):Prop where
  kind:sc.kind=.function
  co:sc.isCoroutine=false
  gen:sc.isGenerator=false
  nd:N.Nodup
  pre:N.take P.length=P
  par:∀ x∈P,sc.names.lookup x=some .local∨sc.names.lookup x=some .cell
  nofree:∀ y∈sc.names,y.2≠.free
theorem bindL_out {kindOf:Str→Option NameKind} {x:Str}:∀ {binds:List (Str×Value)} {m:Str→Option Value},(∀ v,(x,v)∉binds)→bindL kindOf binds m x=m x
  | [],_,_=>rfl
  | (n,v) :: r,m,h=>by
    unfold bindL
    rw [bindL_out fun w hw=>h w (List.mem_cons_of_mem _ hw)]
    split
    · have:x≠n:=by rintro rfl; exact h v List.mem_cons_self
      simp [this]
    · rfl
theorem bindC_out {kindOf:Str→Option NameKind} {x:Str}:∀ {binds:List (Str×Value)} {m:Str→Option Value},(∀ v,(x,v)∉binds)→bindC kindOf binds m x=m x
  | [],_,_=>rfl
  | (n,v) :: r,m,h=>by
    unfold bindC
    rw [bindC_out fun w hw=>h w (List.mem_cons_of_mem _ hw)]
    split
    · rfl
    · have:x≠n:=by rintro rfl; exact h v List.mem_cons_self
      simp [this]
theorem bindL_get {kindOf:Str→Option NameKind} {x:Str} {v:Value}:∀ {P:List Str} {vs:List Value} {i:Nat} {m:Str→Option Value},P.Nodup→P[i]?=some x→vs[i]?=some v→kindOf x=some .local →
    bindL kindOf (P.zip vs) m x=some v
  | [],_,_,_,_,h,_,_=>by simp at h
  | _ :: _,[],_,_,_,_,h,_=>by simp at h
  | p :: P,w :: vs,0,m,nd,h1,h2,hk=>by
    simp at h1 h2; subst h1; subst h2
    show bindL kindOf ((p,w) :: P.zip vs) m p=_
    unfold bindL
    rw [bindL_out fun v hv=>(List.nodup_cons.mp nd).1 (List.of_mem_zip hv).1,if_pos hk]
    simp
  | p :: P,w :: vs,i + 1,m,nd,h1,h2,hk=>by
    show bindL kindOf ((p,w) :: P.zip vs) m x=_
    unfold bindL
    exact bindL_get (i:=i) (List.nodup_cons.mp nd).2 (by simpa using h1) (by simpa using h2) hk
theorem bindC_get {kindOf:Str→Option NameKind} {x:Str} {v:Value}:∀ {P:List Str} {vs:List Value} {i:Nat} {m:Str→Option Value},P.Nodup→P[i]?=some x→vs[i]?=some v→kindOf x≠some .local →
    bindC kindOf (P.zip vs) m x=some v
  | [],_,_,_,_,h,_,_=>by simp at h
  | _ :: _,[],_,_,_,_,h,_=>by simp at h
  | p :: P,w :: vs,0,m,nd,h1,h2,hk=>by
    simp at h1 h2; subst h1; subst h2
    show bindC kindOf ((p,w) :: P.zip vs) m p=_
    unfold bindC
    rw [bindC_out fun v hv=>(List.nodup_cons.mp nd).1 (List.of_mem_zip hv).1,if_neg hk]
    simp
  | p :: P,w :: vs,i + 1,m,nd,h1,h2,hk=>by
    show bindC kindOf ((p,w) :: P.zip vs) m x=_
    unfold bindC
    exact bindC_get (i:=i) (List.nodup_cons.mp nd).2 (by simpa using h1) (by simpa using h2) hk
def start (N:List Str) (vs:List V):St:=vs.map some ++ List.replicate (N.length - vs.length) none
def cxOf (CX:CXT) (P:Program) (w:World) (K:PySem.W.Frag) (mg:Str→Option Value) (base:Heap) (N:List Str) (qual:Str) (scope:Scope) (f:Addr) (cd:Value) (A:Around) (outer:List Env) (s:Shared) (H:Hp) (E:XK):Cx where
  prog:=P
  w:=w
  K:=K
  mg:=mg
  base:=base
  A:=A.deeper (envOfC qual scope s.heap.objs.size f cd)
  N:=N
  s₀:=s
  H₀:=H
  env:=envOfC qual scope s.heap.objs.size f cd
  outer:=outer
  stack:=envOfC qual scope s.heap.objs.size f cd :: outer
  ex:=[]
  calm:=true
  fn:=fun _=>true
  pn:=[]
  xe:=fun e s'=>wpAny (model P w) (A.deeper (envOfC qual scope s.heap.objs.size f cd)) (leaving (envOfC qual scope s.heap.objs.size f cd) e) (fun _ s''=>CX outer H s E e s'') (fun e' s''=>CX outer H s E e' s'') s'
theorem cell_has {sc:Scope} {n:Nat} {x:Str} (h:sc.names.lookup x=some .cell):∃ c,(cellsFrom n sc.names []).lookup x=some c:=by
  have q:=PySem.W.cellsFrom_some sc.names n [] (.inl h)
  exact Option.isSome_iff_exists.mp q
theorem inv_start {CX:CXT} {P:Program} {w:World} {K:PySem.W.Frag} {mg:Str→Option Value} {base:Heap} {N ps:List Str} {qual:Str} {scope:Scope} {f:Addr} {cd:Value} {A:Around} {outer:List Env} {s s1:Shared} {H:Hp} {E:XK} {us:List Value} {vs:List V}
    (S:FnScope N ps scope) (hd:A.handled=none) (e0:Env0 P w K mg base A outer s H) (hl:vs.length=ps.length) (r:Vals vs us)
    (x:InCallC s s.heap.objs.size (bindL (envOfC qual scope s.heap.objs.size f cd).kindOf (ps.zip us) fun _=>none) (cellsFrom (s.heap.objs.size + 1) scope.names []) (bindC (envOfC qual scope s.heap.objs.size f cd).kindOf (ps.zip us) fun _=>none) s1) :
    Inv (cxOf CX P w K mg base N qual scope f cd A outer s H E) [] (start N vs) H s1:=by
  have hpl:ps.length≤N.length:=by have:=congrArg List.length S.pre; rw [List.length_take] at this; omega
  obtain ⟨h1,tk,rfl,hk⟩:=x.done
  have noA:∀ b:Addr,b∉(cxOf CX P w K mg base N qual scope f cd A outer s H E).ex:=fun b z=>absurd (show b∈([]:List Addr) from z) (by simp)
  refine ⟨⟨e0.mod,S.kind,rfl,rfl,Nat.le_refl _,fun y z c h1 h2=>?_,fun y hy=>?_,fun y c _ h=>?_,fun _=>hd,Around.frames_deeper e0.frames,.inr ⟨rfl,rfl⟩,fun b z=>absurd z (noA b),e0.bs,e0.bsz,fun b _ _=>noA b,fun b z=>absurd z (noA b),e0.funs,e0.frf,e0.tb⟩,
    rfl,e0.bare,Un.kept hk,⟨_,x.toInCall.ns,fun i y v h1 h2 h3=>?_⟩,fun y c h=>⟨_,x.cell y c h⟩,e0.hok.fresh (Nat.le_refl _),fun y c h=>?_,fun p hp=>absurd (show p∈([]:List (Addr×Obj)) from hp) (by simp),e0.hok.kept hk,?_⟩
  · exact name_of_addr x.apart (PySem.mem_of_lookup h1) (PySem.mem_of_lookup h2)
  · have hy:scope.names.lookup y=some .cell∨scope.names.lookup y=some .free:=hy
    rcases hy with hy | hy
    · exact cell_has hy
    · exact absurd rfl (S.nofree _ (PySem.mem_of_lookup hy))
  · exact Nat.le_of_lt (x.above y c (PySem.mem_of_lookup h))
  · have hi:i < vs.length:=by
      unfold start at h2
      by_cases hi:i < vs.length
      · exact hi
      · rw [List.getElem?_append_right (by simpa using hi)] at h2
        rw [List.getElem?_replicate] at h2
        split at h2 <;> cases h2
    have ha:vs[i]?=some v:=by
      unfold start at h2
      rw [List.getElem?_append_left (by simpa using hi),List.getElem?_map] at h2
      cases e:vs[i]? with
      | none=>rw [e] at h2; cases h2
      | some a=>rw [e] at h2; cases h2; rfl
    obtain ⟨u,hu,rv⟩:=r.get ha
    have hp:ps[i]?=some y:=by
      rw [← S.pre,List.getElem?_take_of_lt (by omega)]; exact h1
    have ndP:ps.Nodup:=by rw [← S.pre]; exact S.nd.sublist (List.take_sublist _ _)
    refine ⟨u,rv,?_⟩
    rcases S.par y (List.mem_of_getElem? hp) with k | k
    · exact .inl ⟨k,bindL_get ndP hp hu k⟩
    · obtain ⟨c,e⟩:=cell_has (n:=s.heap.objs.size + 1) k
      refine .inr ⟨.inl k,c,e,?_⟩
      have q:=x.cell y c e
      rw [bindC_get ndP hp hu (by show scope.names.lookup y≠_; rw [k]; decide)] at q
      exact q
  · exact .inl (e0.hok.fresh (Nat.le_of_lt (x.above y c (PySem.mem_of_lookup h))))
  · unfold start
    show _=N.length
    rw [List.length_append,List.length_map,List.length_replicate]
    omega
theorem fn_of {CX:CXT} {P:Program} {w:World} {K:PySem.W.Frag} {mg:Str→Option Value} {base:Heap} {k:Nat} {f:Addr} {name qual:Str} {params:Arguments} {body:List Stmt} {scope:Scope} {dV kV doc pm cdv ct oc:Value} {an od:Option Addr}
    {osl:Array (Option Value)} {N ps:List Str} {sp:Sp} (lk:K.lookup f=some ⟨oc,od,.func (PySem.W.fnOf name qual params body scope dV kV doc pm an cdv ct),osl⟩) (hcd:PySem.W.codeIn K cdv qual=true) (S:FnScope N ps scope)
    (len:∀ vs H Q E,sp vs H Q E→vs.length=ps.length)
    (hbody:∀ (A:Around) (outer:List Env) (s:Shared) (H:Hp) (vs:List V) (Q:VK) (E:XK),Room k (A.deeper (envOfC qual scope s.heap.objs.size f cdv))→sp vs H Q E →
      ∃ t,PSs (cxOf CX P w K mg base N qual scope f cdv A outer s H E) body t∧t { nx:=fun _ H'=>Q .non H',rt:=Q } (start N vs) H) :
    FnOk P w K mg base CX (k + 1) f (PySem.W.fnOf name qual params body scope dV kV doc pm an cdv ct) ps sp:=by
  refine ⟨len,fun A outer s H args us vs Q E hr e0 hb r hsp=>?_⟩
  have hl:=len _ _ _ _ hsp
  have KX:K.In s.heap:=e0.mod.kin.keeps fun b o e=>(e0.bs b o e).1
  have lim:s.heap.NoLimit:=e0.mod.nolimit.keeps fun b o e=>(e0.bs b o e).1
  have hkind:∀ y∈ps.zip us,scope.names.lookup y.1=some .local∨(scope.names.lookup y.1=some .cell∧((cellsFrom (s.heap.objs.size + 1) scope.names []).lookup y.1).isSome=true):=fun ⟨n,v⟩ hy=>by
    rcases S.par n (List.of_mem_zip hy).1 with q | q
    · exact .inl q
    · exact .inr ⟨q,PySem.W.cellsFrom_some _ _ _ (.inl q)⟩
  refine codeAny_call_function hr.depth (KX _ _ lk) rfl S.co S.gen rfl (PySem.W.codeRec_of KX hcd) (hb _ _ _ _ ?_)
  refine wpAny_newFunctionEnv_cells S.kind hkind fun env he s1 x=>?_
  subst he
  refine ⟨lim.keeps x.toInCall.keep,codeAny_func ?_⟩
  obtain ⟨t,ht,hq⟩:=hbody A outer s H vs Q E (hr.deeper _) hsp
  have I:Inv (cxOf CX P w K mg base N qual scope f cdv A outer s H E) [] (start N vs) H s1:=inv_start S hr.hd e0 hl r x
  refine wpAny_mono (ht [] s1 (start N vs) H _ I hq) (fun fl s' hs=>?_) fun e s' hs=>hs
  have fin:∀ {σ':St} {H':Hp} {v:V} {u:Value},Inv (cxOf CX P w K mg base N qual scope f cdv A outer s H E) [] σ' H' s'→RelV v u→Q v H'→CE outer P w H s Q u s' :=
    fun {σ' H' v u} J rv q=>⟨v,H',J.os,J.bare,J.base,J.hok,rv,q⟩
  cases fl with
  | ret u =>
    obtain ⟨v,σ',H',J,rv,q⟩:=hs
    exact fin J rv q
  | next =>
    obtain ⟨σ',H',J,q⟩:=hs
    exact fin (v:=V.non) (u:=Value.none) J rfl q
  | brk =>
    obtain ⟨_,_,_,q⟩:=hs
    exact False.elim q
  | cont =>
    obtain ⟨_,_,_,q⟩:=hs
    exact False.elim q
end L2
namespace L2
open PySem PySem.Spec PyProof.Rows
section
variable {X:Cx} {x:Str} {p pos:Pos} {e:Expr} {es:List Expr} {t:TA} {id T:String} {r:List V→Hp→VK→Prop}
def tCB (r:List V→Hp→VK→Prop) (t:TA):TE:=fun σ H Q=>t σ H fun vs H1=>r vs H1 Q
theorem pe_callB (hc:CallR X (.builtin id) r) (hg:Gl X x) (hm:X.mg x=none) (hv:bootBuiltins x=some (.builtin id)) (ha:PA X (e :: es) t) (hn:x ≠ "__name__" := by decide) (hdb:(x == ("__debug__" : Str))=false:=by decide)
    (he:starEach (e :: es) X.env=(false,eval e X.env) :: starEach es X.env:=by rfl) (hpl:(backTo pos (starEach es X.env)).any (·.1)=false:=by rfl):PE X (.Call (.Name x p) (e :: es) [] pos) (tCB r t):=by
  intro pins s σ H Q I h
  refine wpAny_Call_Name_kw (ld_blt I hg hm hv ?_ hn hdb)
  exact PyProof.Rows.callWith_builtin1 (thn (ha pos pins s σ H _ I h) fun us s1 ⟨vs,H1,I1,r1,q1⟩=>hc pins s1 σ H1 vs us Q I1 r1 q1) he hpl
theorem pe_callTy (hc:CallR X (.type T) r) (hg:Gl X x) (hm:X.mg x=none) (hv:bootBuiltins x=some (.type T)) (ha:PA X (e :: es) t) (hn:x ≠ "__name__" := by decide) (hdb:(x == ("__debug__" : Str))=false:=by decide)
    (he:starEach (e :: es) X.env=(false,eval e X.env) :: starEach es X.env:=by rfl) (hpl:(backTo pos (starEach es X.env)).any (·.1)=false:=by rfl):PE X (.Call (.Name x p) (e :: es) [] pos) (tCB r t):=by
  intro pins s σ H Q I h
  refine wpAny_Call_Name_kw (ld_blt I hg hm hv ?_ hn hdb)
  exact PyProof.Rows.callWith_type1 (thn (ha pos pins s σ H _ I h) fun us s1 ⟨vs,H1,I1,r1,q1⟩=>hc pins s1 σ H1 vs us Q I1 r1 q1) he hpl
end
end L2
namespace HT
open PySem PyProof.Rows
section
open PySem.SeqAt
open PySem.AutoSeq1 (wpAny_loadPart')
open PySem.MeetsSeq PySem.MeetsSeq2 PySem.MeetsSeq3
end
section
variable {prog:Program} {w:World} {A:Around} {E:Value→Shared→Prop} {s:Shared}
def sIx (n d:Nat):Option Int→Nat
  | none=>d
  | some v=>if v < 0 then (v + (n:Int)).toNat else min v.toNat n
theorem sIx_nat (n d k:Nat):sIx n d (some (k:Int))=min k n:=by
  show (if (k:Int) < 0 then ((k:Int) + (n:Int)).toNat else min (k:Int).toNat n)=min k n
  rw [if_neg (by omega),Int.toNat_natCast]
end
end HT
namespace L2
open PySem PySem.Spec PyProof.Rows
abbrev TO:=St→Hp→(Option Int→Hp→Prop)→Prop
def PO (X:Cx) (e:Option Expr) (t:TO):Prop :=
  ∀ (pins:List (Addr×Obj)) (s:Shared) (σ:St) (H:Hp) (Q:Option Int→Hp→Prop),Inv X pins σ H s→t σ H Q →
    wpAny (model X.prog X.w) X.A (evalPart e X.env) (fun u s'=>∃ o H',Inv X pins σ H' s'∧IsPart u o∧Q o H') X.xe s
def tNoPart:TO:=fun _ H Q=>Q none H
def tPart (t:TE):TO:=fun σ H Q=>t σ H fun x H1=>∃ i,x=.int i∧Q (some i) H1
theorem intsAre_of {ns:List Int}:∀ {us:List Value},Vals (ns.map V.int) us→IntsAre us ns:=by
  induction ns with
  | nil=>intro us r; rw [List.map_nil] at r; cases r; exact .nil
  | cons n ns ih =>
    intro us r
    rw [List.map_cons] at r
    cases r with
    | cons r1 r2 =>
      obtain ⟨t,e⟩:=r1
      subst e
      exact .cons n t (ih r2)
section
variable {X:Cx} {e:Expr} {te:TE} {lo hi:Option Expr} {tl th:TO} {pos p2:Pos}
theorem po_none:PO X none tNoPart:=by
  intro pins s σ H Q I h
  rw [evalPart_none]
  exact wpAny_pure ⟨none,H,I,.none,h⟩
theorem po_some (h:PE X e te):PO X (some e) (tPart te):=by
  intro pins s σ H Q I hw
  rw [evalPart_some]
  refine thn (h pins s σ H _ I hw) fun u s1 ⟨x,H1,I1,r1,q1⟩=>?_
  obtain ⟨i,rfl,q⟩:=q1
  obtain ⟨t,rfl⟩:=r1
  exact ⟨some i,H1,I1,.int i t,q⟩
def SlR (X:Cx) (r:V→Option Int→Option Int→Hp→VK→Prop):Prop :=
  ∀ (pins:List (Addr×Obj)) (s:Shared) (σ:St) (H:Hp) (x:V) (v vl vu:Value) (lo hi:Option Int) (sl:Addr) (Q:VK),Inv X pins σ H s→RelV x v→s.heap.IsSliceOf sl vl vu .none→IsPart vl lo→IsPart vu hi→r x lo hi H Q →
    ∃ T id,typeLookup (.type T) "__getitem__" = pure (some (.builtin id))∧s.TypeIs v T∧wpAny (model X.prog X.w) X.A (getItem v (.ref sl)) (EP X pins σ Q) X.xe s
def tSl (r:V→Option Int→Option Int→Hp→VK→Prop) (te:TE) (tl th:TO):TE:=fun σ H Q=>te σ H fun x H1=>tl σ H1 fun l H2=>th σ H2 fun u H3=>r x l u H3 Q
theorem pe_slice {r:V→Option Int→Option Int→Hp→VK→Prop} (hr:SlR X r) (he:PE X e te) (hl:PO X lo tl) (hu:PO X hi th):PE X (.Subscript e (.Slice lo hi none p2) pos) (tSl r te tl th):=by
  intro pins s σ H Q I h
  refine Subscript_ (thn (he pins s σ H _ I h) fun v s1 ⟨x,H1,I1,r1,q1⟩=>?_)
  refine wpAny_Slice (thn (hl pins s1 σ H1 _ I1 q1) fun vl s2 ⟨l,H2,I2,pl,q2⟩=>thn (hu pins s2 σ H2 _ I2 q2) fun vu s3 ⟨u,H3,I3,pu,q3⟩=>?_)
  rw [evalPart_none]
  refine wpAny_pure ?_
  have I4:Inv X pins σ H3 { s3 with heap:=s3.heap.push { cls:=.type "slice", data:=.fields #[vl,vu,.none] } }:=I3.kept (t':=s3.toks) fun b ob q=>Heap.get?_push_of_some _ q
  obtain ⟨T,id,hT,ht,hg⟩:=hr pins { s3 with heap:=s3.heap.push { cls:=.type "slice", data:=.fields #[vl,vu,.none] } } σ H3 x v vl vu l u s3.heap.objs.size Q I4 r1 (Heap.IsSliceOf.new ..) pl pu q3
  show wpAny (model X.prog X.w) X.A (subscriptTail e (.Slice lo hi none p2) v (.ref s3.heap.objs.size)) (EP X pins σ Q) X.xe { s3 with heap:=s3.heap.push { cls:=.type "slice", data:=.fields #[vl,vu,.none] } }
  exact tail_any (ops:=[.ref s3.heap.objs.size,v]) ht hT hg (by with_unfolding_all rfl)
def cutV (xs:List V) (lo hi:Option Int):List V:=(xs.drop (HT.sIx xs.length 0 lo)).take (HT.sIx xs.length xs.length hi - HT.sIx xs.length 0 lo)
theorem cutV_length (xs:List V) (lo hi:Option Int):(cutV xs lo hi).length≤xs.length:=by
  unfold cutV
  rw [List.length_take,List.length_drop]
  omega
end
end L2
namespace L2
open PySem PySem.Spec PyProof.Rows
def ixN (n:Nat) (i:Int):Option Nat:=if 0≤i then (if i < n then some i.toNat else none) else if -(n:Int)≤i then some (i + n).toNat else none
def atI {α:Type} (xs:List α) (i:Int):Option α:=(ixN xs.length i).bind fun j=>xs[j]?
theorem ixN_seq {n:Nat} {i:Int} {j:Nat} (h:ixN n i=some j):seqIndex? i n=some j∧j < n∧-(n:Int)≤i∧i < n:=by
  unfold ixN at h
  by_cases h0:0≤i
  · rw [if_pos h0] at h
    by_cases h1:i < n
    · rw [if_pos h1] at h
      have e:i.toNat=j:=Option.some.inj h
      exact ⟨by rw [seqIndex_of h0 h1,e],by omega,by omega,h1⟩
    · rw [if_neg h1] at h; cases h
  · rw [if_neg h0] at h
    by_cases h1:-(n:Int)≤i
    · rw [if_pos h1] at h
      have e:(i + n).toNat=j:=Option.some.inj h
      exact ⟨by rw [seqIndex_neg (by omega) h1,e],by omega,h1,by omega⟩
    · rw [if_neg h1] at h; cases h
theorem atI_get {α:Type} {xs:List α} {i:Int} {v:α} (h:atI xs i=some v):∃ j,seqIndex? i xs.length=some j∧xs[j]?=some v∧j < xs.length∧-(xs.length:Int)≤i∧i < xs.length:=by
  unfold atI at h
  cases e:ixN xs.length i with
  | none=>rw [e] at h; cases h
  | some j =>
    rw [e] at h
    obtain ⟨h1,h2,h3,h4⟩:=ixN_seq e
    exact ⟨j,h1,h,h2,h3,h4⟩
theorem atI_nat {α:Type} {xs:List α} {j:Nat} {v:α} (h:xs[j]?=some v):atI xs (j:Int)=some v:=by
  have hj:j < xs.length:=(List.getElem?_eq_some_iff.mp h).1
  have e:ixN xs.length (j:Int)=some j:=by
    unfold ixN
    rw [if_pos (by omega),if_pos (by omega)]; simp
  unfold atI; rw [e]; exact h
theorem atI_last {α:Type} (xs:List α) (v:α):atI (xs ++ [v]) (-1)=some v:=by
  have hl:(xs ++ [v]).length=xs.length + 1:=by simp
  have e:ixN (xs ++ [v]).length (-1)=some xs.length:=by
    unfold ixN
    rw [hl,if_neg (by decide),if_pos (by omega)]
    congr 1
    omega
  unfold atI
  rw [e]
  show (xs ++ [v])[xs.length]?=some v
  simp
def PlainIx (b:Expr):Prop:=∀ o i,subscripted b false o i=operate [o,i] (getItem o i)
def IxR (X:Cx) (r:R2):Prop :=
  ∀ (value slice:Expr) (pins:List (Addr×Obj)) (s:Shared) (σ:St) (H:Hp) (x y:V) (v u:Value) (Q:VK),Inv X pins σ H s→RelV x v→RelV y u→r x y H Q →
    subscripted slice false v u=operate [v,u] (getItem v u)→wpAny (model X.prog X.w) X.A (subscriptTail value slice v u) (EP X pins σ Q) X.xe s
def MtR (X:Cx) (id:String) (r:V→List V→Hp→VK→Prop):Prop :=
  ∀ (pins:List (Addr×Obj)) (s:Shared) (σ:St) (H:Hp) (x:V) (xs:List V) (v:Value) (us:List Value) (Q:VK),Inv X pins σ H s→RelV x v→Vals xs us→r x xs H Q →
    wpAny (model X.prog X.w) X.A (call (.builtin id) (v :: us)) (EP X pins σ Q) X.xe s
section
variable {X:Cx} {a b:Expr} {ta tb:TE} {pos:Pos}
theorem pe_ix {r:R2} (hr:IxR X r) (ha:PE X a ta) (hb:PE X b tb) (hs:PlainIx b):PE X (.Subscript a b pos) (tOp r ta tb):=by
  intro pins s σ H Q I h
  exact Subscript_ (binT ha hb I h fun v u s2 x y H2 I2 rx ry q=>hr a b pins s2 σ H2 x y v u Q I2 rx ry q (hs _ _))
def rIxL (K:PySem.W.Frag):R2:=fun x y H Q=>∃ p xs i v,x=.ref p∧y=.int i∧SqL K H p xs∧atI xs i=some v∧Q v H
theorem ix_list:IxR X (rIxL X.K):=by
  intro value slice pins s σ H x y v u Q I rx ry h hs
  obtain ⟨p,xs,i,z,rfl,rfl,hq,he,q⟩:=h
  cases rx
  obtain ⟨t,rfl⟩:=ry
  obtain ⟨its,r,pl,hz⟩:=I.list hq
  obtain ⟨j,h1,h2,h3,h4,h5⟩:=atI_get he
  obtain ⟨w,ew,rw'⟩:=r.get h2
  have hl:=r.length
  have hn:=line63
  have fin:EP X pins σ Q w s:=⟨z,H,I,rw',q⟩
  by_cases h0:0≤i
  · have hj:i.toNat=j:=by
      rw [seqIndex_of h0 h5] at h1
      exact Option.some.inj h1
    exact item_listR pl.isList h0 (by omega) (by rw [hj]; simpa using ew) fin hs
  · have hj:(i + (its.toArray.size:Int)).toNat=j:=by
      rw [seqIndex_neg (by omega) h4] at h1
      rw [List.size_toArray,← hl]
      exact Option.some.inj h1
    exact subscriptTail_builtinR (x:=w) pl.isList.typeIs slot_list_getitem.lookup
      (wpAny_getItem_list_neg (Q:=fun r s'=>r=w∧EP X pins σ Q r s') pl.isList (by omega) (by rw [List.size_toArray] <;> omega) (by omega) (by rw [hj]; simpa using ew) ⟨rfl,fin⟩) hs
theorem mapSeq_set (its:List Value) (n j:Nat) (u:Value):Obj.mapSeq (·.setIfInBounds j u) { cls:=.type "list", data:=.seq its.toArray n }={ cls:=.type "list", data:=.seq (its.set j u).toArray n }:=by
  simp [Obj.mapSeq]
theorem Inv.lst {pins:List (Addr×Obj)} {σ:St} {H:Hp} {s:Shared} {p:Addr} {xs:List V} (I:Inv X pins σ H s) (h:H p=some (.lst xs)) :
    ∃ (its:List Value) (n:Nat),Vals xs its∧s.heap.get? p=some { cls:=.type "list", data:=.seq its.toArray n }∧xs.length≤sizeLine:=by
  obtain ⟨z,its,n,r,e⟩:=I.hok p _ h
  exact ⟨its,n,r,e,z⟩
theorem Inv.lstUpd {pins:List (Addr×Obj)} {σ:St} {H:Hp} {s:Shared} {p:Addr} {xs ys:List V} {its its':List Value} {n n':Nat} {f:Obj→Obj} (I:Inv X pins σ H s) (h:H p=some (.lst xs))
    (ho:s.heap.get? p=some { cls:=.type "list", data:=.seq its.toArray n }) (hf:f { cls:=.type "list", data:=.seq its.toArray n }={ cls:=.type "list", data:=.seq its'.toArray n' }) (r:Vals ys its') (hz:ys.length≤sizeLine) (t:Nat) :
    Inv X pins σ (upd H p (.lst ys)) { s with heap:=s.heap.update p f,toks:=t }:=by
  have e:(s.heap.update p f).get? p=some { cls:=.type "list", data:=.seq its'.toArray n' }:=by
    rw [Heap.get?_update_self f ho (by rw [hf] <;> rfl),hf]
  refine I.write (x:=p) (e:=p) (by rw [h]; trivial) (.inl rfl) (fun b u hb q=>(Heap.get?_update_other _ _ (Ne.symm hb)).trans q) ⟨_,e⟩ ?_
  exact ⟨hz,its',n',r,e⟩
def rSetL:V→V→V→Hp→(Hp→Prop)→Prop:=fun o i v H Q=>∃ p xs k j,o=.ref p∧i=.int k∧H p=some (.lst xs)∧ixN xs.length k=some j∧Q (upd H p (.lst (xs.set j v)))
theorem set_list:PSet X rSetL:=by
  intro pins s σ H o i v ov iv u Q I ro ri rv h
  obtain ⟨p,xs,k,j,rfl,rfl,hp,hj,q⟩:=h
  cases ro
  obtain ⟨t,rfl⟩:=ri
  obtain ⟨its,n,r,ho,hz⟩:=I.lst hp
  obtain ⟨h1,h2,h3,h4⟩:=ixN_seq hj
  have hl:=r.length
  have hn:=line63
  have I':Inv X pins σ (upd H p (.lst (xs.set j v))) { s with heap:=s.heap.update p (Obj.mapSeq (·.setIfInBounds j u)) } :=
    I.lstUpd hp ho (mapSeq_set its n j u) (r.set rv j) (by rw [List.length_set]; exact hz) s.toks
  by_cases h0:0≤k
  · have hk:k.toNat=j:=by
      rw [seqIndex_of h0 h4] at h1
      exact Option.some.inj h1
    exact PySem.W.ki_setAt ho h0 (by omega) (by rw [List.size_toArray,← hl]; exact h4) (by rw [hk]; exact ⟨_,I',q⟩)
  · have hk:(k + (its.toArray.size:Int)).toNat=j:=by
      rw [seqIndex_neg (by omega) h3] at h1
      rw [List.size_toArray,← hl]
      exact Option.some.inj h1
    exact PySem.W.ki_setBack ho (by omega) (by rw [List.size_toArray,← hl]; exact h3) (by omega) (by rw [hk]; exact ⟨_,I',q⟩)
theorem slice_bounds (lo hi:Option Int) (n:Nat):(sliceBounds lo hi none n).1=((HT.sIx n 0 lo:Nat):Int)∧(sliceBounds lo hi none n).2.1=((HT.sIx n n hi:Nat):Int)∧(sliceBounds lo hi none n).2.2=1:=by
  refine ⟨?_,?_,rfl⟩
  · cases lo with
    | none=>simp [sliceBounds,HT.sIx]
    | some i =>
      simp only [sliceBounds,HT.sIx,Option.getD_none,show (1:Int) > 0 by decide,if_true]
      by_cases h:i < 0
      · simp only [h,if_true] <;> omega
      · simp only [h,if_false] <;> omega
  · cases hi with
    | none=>simp [sliceBounds,HT.sIx]
    | some i =>
      simp only [sliceBounds,HT.sIx,Option.getD_none,show (1:Int) > 0 by decide,if_true]
      by_cases h:i < 0
      · simp only [h,if_true] <;> omega
      · simp only [h,if_false] <;> omega
theorem slicePick_cut (its:List Value) (lo hi:Option Int):slicePick its.toArray lo hi none=((its.drop (HT.sIx its.length 0 lo)).take (HT.sIx its.length its.length hi - HT.sIx its.length 0 lo)).toArray:=by
  obtain ⟨h1,h2,h3⟩:=slice_bounds lo hi its.toArray.size
  unfold slicePick
  rw [h1,h2,h3]
  simp only [sliceRange_one,pick_run,List.size_toArray] <;> rfl
def rSlL (K:PySem.W.Frag):V→Option Int→Option Int→Hp→VK→Prop:=fun x lo hi H Q=>∃ a xs,x=.ref a∧SqL K H a xs∧∀ p,H p=none→Q (.ref p) (upd H p (.lst (cutV xs lo hi)))
theorem sl_list:SlR X (rSlL X.K):=by
  intro pins s σ H x v vl vu lo hi sl Q I rx hs pl pu h
  obtain ⟨a,xs,rfl,hx,q⟩:=h
  cases rx
  obtain ⟨its,r,ht,hz⟩:=I.list hx
  have hlen:=r.length
  refine ⟨"list", _,slot_list_getitem.lookup,ht.isList.typeIs,?_⟩
  refine wpAny_getItem_list_slice ht.isList hs pl pu .none (by simp) ?_ (by rw [List.size_toArray] <;> omega)
  rw [slicePick_cut,← hlen]
  refine ⟨.ref s.heap.objs.size,_,I.laid (t':=s.toks) (o:=.lst (cutV xs lo hi)) (fun b ob q=>Heap.get?_push_of_some _ q) (Nat.le_refl _) ?_,rfl,q _ (I.hok.fresh (Nat.le_refl _))⟩
  exact ⟨Nat.le_trans (cutV_length xs lo hi) hz,_,0,(r.drop (HT.sIx xs.length 0 lo)).take (HT.sIx xs.length xs.length hi - HT.sIx xs.length 0 lo),Heap.get?_push_size _ rfl⟩
def flatV:V→Bool
  | .non=>true
  | .bl _=>true
  | .int _=>true
  | .str _=>true
  | _=>false
def eqV:V→V→Bool
  | .non,.non=>true
  | .bl a,.bl b=>a == b
  | .bl a,.int b=>(if a then 1 else 0) == b
  | .int a,.bl b=>a == (if b then 1 else 0)
  | .int a,.int b=>a == b
  | .str a,.str b=>a == b
  | _,_=>false
theorem eqAt_V {A:Around} {s:Shared} {y x:V} {u v:Value} (ry:RelV y u) (rx:RelV x v) (fy:flatV y=true) (fx:flatV x=true):SeqAt.EqAt A s u v (eqV y x):=by
  cases y with
  | non =>
    cases ry
    cases x with
    | non=>cases rx; exact SeqAt.EqAt.same _
    | bl b=>cases rx; exact SeqAt.EqAt.none_bool b
    | int b=>obtain ⟨t,rfl⟩:=rx; exact SeqAt.EqAt.none_int b t
    | str b=>obtain ⟨t,rfl⟩:=rx; exact SeqAt.EqAt.none_str b t
    | _=>exact absurd (show false=true from fx) Bool.false_ne_true
  | bl a =>
    cases ry
    cases x with
    | non=>cases rx; exact SeqAt.EqAt.bool_none a
    | bl b=>cases rx; exact SeqAt.EqAt.bool_bool a b
    | int b=>obtain ⟨t,rfl⟩:=rx; exact SeqAt.EqAt.bool_int a b t
    | str b=>obtain ⟨t,rfl⟩:=rx; exact SeqAt.EqAt.bool_str a b t
    | _=>exact absurd (show false=true from fx) Bool.false_ne_true
  | int a =>
    obtain ⟨t',rfl⟩:=ry
    cases x with
    | non=>cases rx; exact SeqAt.EqAt.int_none a t'
    | bl b=>cases rx; exact SeqAt.EqAt.int_bool a t' b
    | int b=>obtain ⟨t,rfl⟩:=rx; exact SeqAt.EqAt.int_int a t' b t
    | str b=>obtain ⟨t,rfl⟩:=rx; exact SeqAt.EqAt.int_str a t' b t
    | _=>exact absurd (show false=true from fx) Bool.false_ne_true
  | str a =>
    obtain ⟨t',rfl⟩:=ry
    cases x with
    | non=>cases rx; exact SeqAt.EqAt.str_none a t'
    | bl b=>cases rx; exact SeqAt.EqAt.str_bool a t' b
    | int b=>obtain ⟨t,rfl⟩:=rx; exact SeqAt.EqAt.str_int a t' b t
    | str b=>obtain ⟨t,rfl⟩:=rx; exact SeqAt.EqAt.str_str a t' b t
    | _=>exact absurd (show false=true from fx) Bool.false_ne_true
  | _=>exact absurd (show false=true from fy) Bool.false_ne_true
def eqU (x:V) (u:Value):Bool:=match u with
  | .none=>eqV .non x
  | .bool b=>eqV (.bl b) x
  | .int i _=>eqV (.int i) x
  | .str z _=>eqV (.str z) x
  | _=>false
theorem eqU_of {x y:V} {u:Value} (r:RelV y u) (f:flatV y=true):eqU x u=eqV y x:=by
  cases y with
  | non=>cases r; rfl
  | bl b=>cases r; rfl
  | int i=>obtain ⟨t,rfl⟩:=r; rfl
  | str z=>obtain ⟨t,rfl⟩:=r; rfl
  | _=>exact absurd (show false=true from f) Bool.false_ne_true
theorem any_eqU {x:V}:∀ {xs:List V} {us:List Value},Vals xs us→xs.all flatV=true→us.any (eqU x)=xs.any fun y=>eqV y x
  | _,_,.nil,_=>rfl
  | y :: xs,u :: us,.cons r t,f=>by
    rw [List.all_cons,Bool.and_eq_true] at f
    rw [List.any_cons,List.any_cons,eqU_of r f.1,any_eqU t f.2]
theorem mem_eqAt {A:Around} {s:Shared} {x:V} {v:Value} (rx:RelV x v) (fx:flatV x=true):∀ {xs:List V} {us:List Value},Vals xs us→xs.all flatV=true→∀ u∈us,SeqAt.EqAt A s u v (eqU x u)
  | _,_,.nil,_=>fun u hu=>by cases hu
  | y :: xs,u :: us,.cons r t,f=>fun u' hu=>by
    rw [List.all_cons,Bool.and_eq_true] at f
    rcases List.mem_cons.mp hu with rfl | hu
    · rw [eqU_of r f.1]; exact eqAt_V r rx f.1 fx
    · exact mem_eqAt rx fx t f.2 u' hu
def inV (x:V) (xs:List V):Bool:=xs.any fun y=>eqV y x
def rIn (K:PySem.W.Frag) (neg:Bool):R2:=fun x y H Q=>∃ p xs,y=.ref p∧(SqL K H p xs∨SqT K H p xs)∧flatV x=true∧xs.all flatV=true∧Q (.bl (if neg then !inV x xs else inV x xs)) H
theorem op_in_seq:OpR X (compareOp .In) (rIn X.K false):=by
  intro pins s σ H x y v u Q I rx ry h
  obtain ⟨p,xs,rfl,hq,fx,fs,q⟩:=h
  cases ry
  rcases hq with hq | hq
  · obtain ⟨its,r,pl,hz⟩:=I.list hq
    refine SeqAt.in_listAt (eqU x) pl.isList (fun w hw=>mem_eqAt rx fx r fs w (by simpa using hw)) ⟨.bl _,H,I,rfl,?_⟩
    rw [show its.toArray.any (eqU x)=its.any (eqU x) by simp,any_eqU r fs]
    exact q
  · obtain ⟨its,r,pl,hz⟩:=I.tuple hq
    refine SeqAt.in_tupleAt (eqU x) pl (fun w hw=>mem_eqAt rx fx r fs w (by simpa using hw)) ⟨.bl _,H,I,rfl,?_⟩
    rw [show its.toArray.any (eqU x)=its.any (eqU x) by simp,any_eqU r fs]
    exact q
theorem op_notIn_seq:OpR X (compareOp .NotIn) (rIn X.K true):=by
  intro pins s σ H x y v u Q I rx ry h
  obtain ⟨p,xs,rfl,hq,fx,fs,q⟩:=h
  cases ry
  rcases hq with hq | hq
  · obtain ⟨its,r,pl,hz⟩:=I.list hq
    refine SeqAt.notIn_listAt (eqU x) pl.isList (fun w hw=>mem_eqAt rx fx r fs w (by simpa using hw)) ⟨.bl _,H,I,rfl,?_⟩
    rw [show its.toArray.any (eqU x)=its.any (eqU x) by simp,any_eqU r fs]
    exact q
  · obtain ⟨its,r,pl,hz⟩:=I.tuple hq
    refine SeqAt.notIn_tupleAt (eqU x) pl (fun w hw=>mem_eqAt rx fx r fs w (by simpa using hw)) ⟨.bl _,H,I,rfl,?_⟩
    rw [show its.toArray.any (eqU x)=its.any (eqU x) by simp,any_eqU r fs]
    exact q
theorem call_len_seq:CallR X (.builtin "len") (fun xs H Q=>∃ p ys,xs=[.ref p]∧(SqL X.K H p ys∨SqT X.K H p ys)∧Q (.int ys.length) H):=by
  intro pins s σ H xs us Q I r h
  obtain ⟨p,ys,rfl,hq,q⟩:=h
  obtain ⟨u,rfl,rx⟩:=vals1 r
  cases rx
  have hn:=line63
  rcases hq with hq | hq
  · obtain ⟨its,r',pl,hz⟩:=I.list hq
    have hlen:=r'.length
    exact Calls.call_len_list pl.isList (by simp only [List.size_toArray] <;> omega) ⟨.int ys.length,H,I.tok _,⟨s.toks + 1,by rw [List.size_toArray,hlen]⟩,q⟩
  · obtain ⟨its,r',pl,hz⟩:=I.tuple hq
    have hlen:=r'.length
    exact len_tuple pl (by simp only [List.size_toArray] <;> omega) ⟨.int ys.length,H,I.tok _,⟨s.toks + 1,by rw [List.size_toArray,hlen]⟩,q⟩
theorem call_list_of:CallR X (.type "list") (fun xs H Q=>∃ p ys,xs=[.ref p]∧(SqL X.K H p ys∨SqT X.K H p ys)∧∀ l,H l=none→Q (.ref l) (upd H l (.lst ys))):=by
  intro pins s σ H xs us Q I r h
  obtain ⟨p,ys,rfl,hq,q⟩:=h
  obtain ⟨u,rfl,rx⟩:=vals1 r
  cases rx
  have fin:∀ (its:List Value),Vals ys its→ys.length≤sizeLine→∀ (h':Heap) (c':Nat),(∀ b o',s.heap.get? b=some o'→h'.get? b=some o') →
      h'.get? s.heap.objs.size=some { cls:=.type "list", dict:=none,data:=.seq its.toArray c',slots:=#[] }→EP X pins σ Q (.ref s.heap.objs.size) { s with heap:=h' }:=fun its r' hz h' c' kp e =>
    ⟨.ref s.heap.objs.size,_,I.laid (t':=s.toks) kp (Nat.le_refl _) (show ObjOk X.prog X.w _ h' _ (.lst ys) from ⟨hz,its,c',r',e⟩),rfl,q _ (I.hok.fresh (Nat.le_refl _))⟩
  rcases hq with hq | hq
  · obtain ⟨its,r',pl,hz⟩:=I.list hq
    have hlen:=r'.length
    obtain ⟨o,ho,hc,n,hd⟩:=pl.isList
    exact call_list_seq p (.inl rfl) ho hc hd (fun h' c' kp e=>fin its r' hz h' c' kp e) (by simp only [List.size_toArray] <;> omega)
  · obtain ⟨its,r',pl,hz⟩:=I.tuple hq
    have hlen:=r'.length
    obtain ⟨o,ho,hc,n,hd⟩:=pl
    exact call_list_seq p (.inr rfl) ho hc hd (fun h' c' kp e=>fin its r' hz h' c' kp e) (by simp only [List.size_toArray] <;> omega)
def tyV (K:PySem.W.Frag) (T:String) (x:V) (H:Hp):Prop:=match x with
  | .str _=>T = "str"
  | .int _=>T = "int"
  | .ref p=>(T = "list" ∧ ∃ xs,SqL K H p xs)∨(T = "tuple" ∧ ∃ o,K.lookup p=some o∧o.cls=.type "tuple" ∧ o.dict=none) ∨
      (T = "dict" ∧ ((∃ kvs,H p=some (.dK kvs))∨∃ kvs,H p=some (.dT kvs)))∨(T = "set" ∧ ∃ S n,H p=some (.set S n))
  | _=>False
theorem tyV_is {pins:List (Addr×Obj)} {σ:St} {H:Hp} {s:Shared} {T:String} {x:V} {v:Value} (I:Inv X pins σ H s) (r:RelV x v) (ty:tyV X.K T x H) :
    s.TypeIs v T∧∀ a,v=.ref a→∃ ob,s.heap.get? a=some ob∧ob.dict=none:=by
  cases x with
  | str z =>
    obtain ⟨t,rfl⟩:=r
    cases (show T = "str" from ty)
    exact ⟨typeIs_str s z t,fun _ e=>nomatch e⟩
  | int i =>
    obtain ⟨t,rfl⟩:=r
    cases (show T = "int" from ty)
    exact ⟨typeIs_int s i t,fun _ e=>nomatch e⟩
  | ref p =>
    cases r
    rcases ty with ⟨rfl,xs,hq⟩ | ⟨rfl,o,hk,hc,hd⟩ | ⟨rfl,hk⟩ | ⟨rfl,S,n,hk⟩
    · obtain ⟨its,_,pl,_⟩:=I.list hq
      refine ⟨pl.isList.typeIs,fun a e=>?_⟩
      cases e
      obtain ⟨o,n,e,c,hd,_⟩:=pl
      exact ⟨o,e,hd⟩
    · refine ⟨⟨o,I.kIn p o hk,hc⟩,fun a e=>?_⟩
      cases e
      exact ⟨o,I.kIn _ o hk,hd⟩
    · have z:∃ o,s.heap.get? p=some o∧o.ExactDict:=by
        rcases hk with ⟨kvs,hk⟩ | ⟨kvs,hk⟩
        · obtain ⟨_,_,_,_,o,_,_,e,ex,_⟩:=I.hok p _ hk
          exact ⟨o,e,ex⟩
        · obtain ⟨_,_,_,_,o,_,_,e,ex,_⟩:=I.hok p _ hk
          exact ⟨o,e,ex⟩
      obtain ⟨o,e,ex⟩:=z
      refine ⟨⟨o,e,ex.1⟩,fun a e2=>?_⟩
      cases e2
      exact ⟨o,e,ex.2.1⟩
    · obtain ⟨o,_,_,_,e,ex,_⟩:=I.hok p _ hk
      refine ⟨⟨o,e,ex.1⟩,fun a e2=>?_⟩
      cases e2
      exact ⟨o,e,ex.2.1⟩
  | _=>exact False.elim ty
def tBM0 (K:PySem.W.Frag) (T:String) (r:V→List V→Hp→VK→Prop) (to:TE):TE:=fun σ H Q=>to σ H fun x H1=>tyV K T x H1∧r x [] H1 Q
def tBM (K:PySem.W.Frag) (T:String) (r:V→List V→Hp→VK→Prop) (to:TE) (t:TA):TE:=fun σ H Q=>to σ H fun x H1=>tyV K T x H1∧t σ H1 fun xs H2=>r x xs H2 Q
variable {o e:Expr} {es:List Expr} {to:TE} {t:TA} {name:Str} {apos cpos:Pos} {T id:String} {r:V→List V→Hp→VK→Prop}
theorem pe_bm0 (pa:PlainAttrs T) (slot:Slot T name id) (hty:typeOf (.builtin id)=pure (.type "method_descriptor")) (hm:MtR X id r) (ho:PE X o to)
    (hbase:attributeBase o name X.env (eval o X.env)=eval o X.env:=by rfl) (hline:(apos.endLine == cpos.line)=true:=by rfl):PE X (.Call (.Attribute o name apos) [] [] cpos) (tBM0 X.K T r to):=by
  intro pins s σ H Q I h
  refine wpAny_Call_method0_late hbase hline (thn (ho pins s σ H _ I h) fun v s1 ⟨x,H1,I1,r1,ty,q1⟩=>?_)
  obtain ⟨h1,h2⟩:=tyV_is I1 r1 ty
  exact ⟨T,id,pa,slot,hty,h1,h2,Calls.callWith_builtin rfl (PySem.evalArgs_none (hm pins s1 σ H1 x [] v [] Q I1 r1 .nil q1))⟩
theorem pe_bm (pa:PlainAttrs T) (slot:Slot T name id) (hty:typeOf (.builtin id)=pure (.type "method_descriptor")) (hm:MtR X id r) (ho:PE X o to) (ha:PA X (e :: es) t)
    (hbase:attributeBase o name X.env (eval o X.env)=eval o X.env:=by rfl)
    (hfew:((backTo cpos (starEach (e :: es) X.env)).all (fun x=>!x.1) && (backToKw cpos (keywordEach [] X.env)).all (fun x=>x.1.isSome)
      && decide ((e :: es).length + ([]:List Keyword).length + (if ([]:List Keyword).isEmpty then 0 else 1) < 30))=true:=by rfl)
    (hline:(apos.endLine == cpos.line)=true:=by rfl) (hs:starEach (e :: es) X.env=(false,eval e X.env) :: starEach es X.env:=by rfl) (hplain:(backTo cpos (starEach es X.env)).any (·.1)=false:=by rfl) :
    PE X (.Call (.Attribute o name apos) (e :: es) [] cpos) (tBM X.K T r to t):=by
  intro pins s σ H Q I h
  refine wpAny_Call_method_late hbase hfew hline rfl (thn (ho pins s σ H _ I h) fun v s1 ⟨x,H1,I1,r1,ty,q1⟩=>?_)
  obtain ⟨h1,h2⟩:=tyV_is I1 r1 ty
  refine ⟨T,id,pa,slot,hty,h1,h2,?_⟩
  have hA:=ha cpos pins s1 σ H1 _ I1 q1
  rw [hs] at hA ⊢
  refine Calls.callWith_builtin (by show (false || (backTo cpos (starEach es X.env)).any (·.1))=false; rw [hplain] <;> rfl) (Calls.evalArgs_plain ?_)
  exact thn hA fun us s2 ⟨vs,H2,I2,r2,q2⟩=>hm pins s2 σ H2 x vs v us Q I2 r1 r2 q2
end
end L2
namespace L2
open PySem PySem.Spec PyProof.Rows
def MtM (X:Cx) (id:String) (r:V→List V→Hp→VK→Prop):Prop :=
  ∀ (pins:List (Addr×Obj)) (s:Shared) (σ:St) (H:Hp) (x:V) (xs:List V) (v:Value) (us:List Value) (Q:VK),Inv X pins σ H s→RelV x v→Vals xs us→r x xs H Q →
    wpAny (model X.prog X.w) X.A (call (.builtin id) (v :: us)) (EP X pins σ Q) X.xe s
theorem Vals.one:∀ {x:V} {us:List Value},Vals [x] us→∃ u,us=[u]∧RelV x u
  | _,_,.cons r .nil=>⟨_,rfl,r⟩
theorem Vals.two:∀ {x y:V} {us:List Value},Vals [x,y] us→∃ u v,us=[u,v]∧RelV x u∧RelV y v
  | _,_,_,.cons r (.cons q .nil)=>⟨_,_,rfl,r,q⟩
theorem Vals.zero:∀ {us:List Value},Vals [] us→us=[]
  | _,.nil=>rfl
theorem Vals.reverse {xs:List V} {us:List Value} (h:Vals xs us):Vals xs.reverse us.reverse:=by
  induction h with
  | nil=>exact .nil
  | cons r t ih=>rw [List.reverse_cons,List.reverse_cons]; exact Vals.append ih (.cons r .nil)
section
variable {X:Cx} {pins:List (Addr×Obj)} {σ:St} {H:Hp} {s:Shared} {l b:Addr} {xs ys zs:List V}
theorem Inv.lset {its its':List Value} {n:Nat} {f:Array Value→Array Value} {t':Nat} (I:Inv X pins σ H s) (hH:H l=some (.lst xs))
    (e:s.heap.get? l=some { cls:=.type "list", data:=.seq its.toArray n }) (hf:f its.toArray=its'.toArray) (hv:Vals ys its') (hz:ys.length≤sizeLine) :
    Inv X pins σ (upd H l (.lst ys)) { s with heap:=s.heap.update l (Obj.mapSeq f),toks:=t' }:=by
  have q:=PySem.IsL.update e f
  rw [hf] at q
  refine I.write (x:=l) (e:=l) (by rw [hH]; exact trivial) (.inl rfl) (fun b' u hb hu=>(Heap.get?_update_other s.heap (Obj.mapSeq f) (Ne.symm hb)).trans hu) ⟨_,q⟩ ?_
  exact ⟨hz,its',_,hv,q⟩
theorem Inv.lnew {its:List Value} {t':Nat} (I:Inv X pins σ H s) (hv:Vals ys its) (hz:ys.length≤sizeLine) :
    Inv X pins σ (upd H s.heap.objs.size (.lst ys)) { s with heap:=s.heap.push { cls:=.type "list", data:=.seq its.toArray },toks:=t' } :=
  I.laid (fun _ _ q=>Heap.get?_push_of_some _ q) (Nat.le_refl _) ⟨hz,its,0,hv,Heap.get?_push_size _ rfl⟩
theorem Inv.fresh (I:Inv X pins σ H s):H s.heap.objs.size=none:=I.hok.fresh (Nat.le_refl _)
theorem Inv.lstM (I:Inv X pins σ H s) (hH:H l=some (.lst xs)):xs.length≤sizeLine∧∃ (its:List Value) (n:Nat),Vals xs its∧xs.length=its.length∧s.heap.get? l=some { cls:=.type "list", data:=.seq its.toArray n }:=by
  obtain ⟨z,its,n,r,e⟩:=I.hok l _ hH
  exact ⟨z,its,n,r,r.length,e⟩
end
section
variable {X:Cx}
def rAppend:V→List V→Hp→VK→Prop:=fun x vs H Q=>∃ l xs y,x=.ref l∧vs=[y]∧H l=some (.lst xs)∧xs.length < sizeLine∧Q .non (upd H l (.lst (xs ++ [y])))
theorem mt_append:MtM X "list.append" rAppend:=by
  intro pins s σ H x vs v us Q I rx rv h
  obtain ⟨l,xs,y,rfl,rfl,hH,hz,q⟩:=h
  cases rx
  obtain ⟨u,rfl,ru⟩:=rv.one
  obtain ⟨z,its,n,r,hl,e⟩:=I.lstM hH
  refine call_meets F.slot_list_append ⟨_,e,rfl⟩ F.entry_list_append (F.args_list_append_2 _ _) (PySem.list_append l its.toArray n u (by rw [List.size_toArray]; omega)) ⟨e,?_⟩
  refine ⟨.non,_,I.lset (its':=its ++ [u]) hH e (by simp) (r.append (.cons ru .nil)) ?_,rfl,q⟩
  rw [List.length_append,List.length_singleton]
  omega
def rClear:V→List V→Hp→VK→Prop:=fun x vs H Q=>∃ l xs,x=.ref l∧vs=[]∧H l=some (.lst xs)∧Q .non (upd H l (.lst []))
theorem mt_clear:MtM X "list.clear" rClear:=by
  intro pins s σ H x vs v us Q I rx rv h
  obtain ⟨l,xs,rfl,rfl,hH,q⟩:=h
  cases rx
  have hus:=rv.zero
  subst hus
  obtain ⟨z,its,n,r,hl,e⟩:=I.lstM hH
  refine call_meets F.slot_list_clear ⟨_,e,rfl⟩ F.entry_list_clear (F.args_list_clear_1 _) (AutoSeq1.list_clear_list_0 l its.toArray n (by rw [List.size_toArray]; omega)) ⟨e,?_⟩
  exact ⟨.non,_,I.lset (its':=[]) (ys:=[]) hH e rfl .nil (Nat.zero_le _),rfl,q⟩
end
section
variable {prog:Program} {w:World} {A:Around} {E:Value→Shared→Prop} {s:Shared}
end
section
variable {X:Cx}
end
end L2
namespace Att
open PySem PySem.W PySem.Calls PyProof.Rows
theorem ints_of_wellAll {P:Params} {h:Heap}:∀ (ns:List Int) (vs:List Value),WellAll P h vs (ns.map WData.int)→IntsAre vs ns:=by
  intro ns
  induction ns with
  | nil =>
    intro vs w
    rw [List.map_nil] at w
    cases w
    exact .nil
  | cons n ns ih =>
    intro vs w
    rw [List.map_cons] at w
    cases w with
    | cons a b =>
      cases a
      exact .cons _ _ (ih _ b)
theorem script_of {l:OpenLaw} {n:Nat} (hn:l.most=some n) {P:Params} {h:Heap} {args:List WData} {vals:List Value}
    (hpre:l.row.toRowW.claim.pre args=true) (hwl:WellAll P h vals args) :
    ∃ a vs ns,vals=[Value.ref a]∧args=[WData.list (ns.map WData.int)]∧h.get? a=some { cls:=.type "list", data:=.seq vs.toArray }∧IntsAre vs ns∧ns.length≤n:=by
  have hsh:WShape.hasAll [] args [.list .int]=true:=(pre_splitW hpre).1
  have hc:l.pre.holds [] { args:=args }=true:=(pre_splitW hpre).2
  obtain ⟨d,r,rfl,h1,h2⟩:=hasAllW_cons hsh
  obtain rfl:=hasAllW_nil h2
  obtain ⟨xs,rfl,h3⟩:=hasW_list h1
  obtain ⟨ns,rfl⟩:=items_int h3
  have hlen:ns.length≤n:=by
    unfold OpenLaw.pre at hc
    have h4:(WTm.not (.lt (.lit (.int (n:Int))) (.len (.arg 0)))).holds [] { args:=[.list (ns.map .int)] }=true:=by
      have h4:=(holds_andW hc).1
      rw [hn] at h4
      exact h4
    have h5:=condW_of h4 (w_not (w_lt w_lit (w_len_list (w_arg rfl))))
    rw [List.length_map] at h5
    refine Nat.le_of_not_lt fun q=>?_
    have q':(n:Int) < ((ns.length:Nat):Int):=by omega
    first
      | (rw [decide_eq_true q'] at h5; exact absurd h5 (by decide))
      | (simp at h5; omega)
  cases hwl with
  | cons w1 w2 =>
    cases w2
    cases w1 with
    | list ho hall=>exact ⟨_,_,ns,rfl,rfl,ho,ints_of_wellAll ns _ hall,hlen⟩
theorem post_true (l:OpenLaw) (args:List WData):l.row.toRowW.claim.post args (.bool true) args=true :=
  postW_of (r:=l.row.toRowW) (X:=(true == true))
    (show WShape.has [] (.bool true) .bool=true by first | rfl | decide | simp [WShape.has,WShape.arms,WShape.armsAll])
    (show (WTm.eq .res (.lit (.bool true))).value [] { args:=args,res:=some (.bool true),after:=args }=some (.bool (true == true)) from w_eq_bool (w_res rfl) w_lit) rfl
theorem attach_call {l:OpenLaw} {n:Nat} {q:Program} {loose:List Str} {XP:(Str→Option Value)→Heap→Prop} {YP:World→Heap→Prop} {d:DefRec}
    (hn:l.most=some n) (hdf:d.params.defaults=[])
    (call:∀ (w:World) (s₀ s₁:Shared) (mg mb:Str→Option Value) (fa:Addr) (o:Obj) (pm cd doc:Value) (a:Addr) (vs:List Value) (ns:List Int),
      Ground q loose [] XP w s₀ mg mb s₁.heap→YP w s₁.heap →
      s₁.heap.get? fa=some o→o.data=.func (docDef d.name d.params d.body d.scope pm cd doc)→s₁.heap.CodeRec cd d.name→mg d.name=some (.ref fa) →
      s₁.heap.get? a=some { cls:=.type "list", data:=.seq vs.toArray }→IntsAre vs ns→ns.length≤n→s₁.gens=#[] →
      codeAny (model l.prog w) callerA (.call (.ref fa) ⟨[.ref a],[]⟩) (fun r s'=>r=.ok (.ret (.bool true))∧OldK s₁.heap s'.heap∧s'.os=s₁.os∧AllBare s'.gens) s₁) :
    WalkO q loose XP YP l.row.toRowW d [] (fun f vs=>PySem.call f vs):=by
  intro w s₀ s₁ mg mb G Y fa o pm cd doc dV kV ho hd hcd hD hmg hg args vals as hpre hlay hrd hwl hlo
  obtain rfl:dV=.none:=Dflts.none hD hdf
  obtain rfl:kV=.none:=Dflts.noKw hD
  obtain ⟨a,vs,ns,rfl,rfl,hobj,hints,hlen⟩:=script_of hn hpre hwl
  refine enter_call (codeAny_mono (call w s₀ s₁ mg mb fa o pm cd doc a vs ns G Y ho (fd_plain hd) hcd hmg hobj hints hlen hg) fun r s' hq=>?_)
  obtain ⟨rfl,h2,h3,h4⟩:=hq
  exact ⟨.inl ⟨.bool true,.bool true,[],rfl,fun _=>rfl,.bool true,post_true l _,fun _=>⟨List.Pairwise.nil,fun _ hm=>(nomatch hm)⟩⟩,h2,h3,h4⟩
section
variable {prog:Program} {w:World} {A:Around} {E:Value→Shared→Prop} {s:Shared} {K:Frag}
end
end Att
namespace L2
open PySem PySem.Spec PyProof.Rows
theorem vals_ints:∀ {vs:List Value} {ns:List Int},IntsAre vs ns→Vals (ns.map V.int) vs
  | _,_,.nil=>.nil
  | _,_,.cons n t h=>.cons ⟨t,rfl⟩ (vals_ints h)
theorem tabsOf_mem {K:PySem.W.Frag} {p:Addr×Str} (h:p∈tabsOf K):∃ c o vs,K.lookup c=some o∧o.cls=.type "code" ∧ o.data=.fields vs∧vs[11]?=some (.ref p.1):=by
  obtain ⟨⟨c,_⟩,_,e⟩:=List.mem_filterMap.mp h
  obtain ⟨o,e1,e2⟩:=Option.bind_eq_some_iff.mp e
  unfold tabAt at e2
  split at e2
  · rename_i vs h1 h2
    split at e2
    · rename_i q t P h3 h4
      split at e2
      · cases e2
        exact ⟨c,o,vs,e1,h1,h2,h4⟩
      · cases e2
    · cases e2
  · cases e2
theorem law_call {P:Program} {w:World} {K:PySem.W.Frag} {mg mb:Str→Option Value} {CX:CXT} {k:Nat} {fa a:Addr} {fd:FuncData} {x:Str} {sp:Sp} {s₁:Shared} {vs:List Value} {ns:List Int}
    (KX:K.In s₁.heap) (hT0:(∀ p∈tabsOf K,s₁.heap.get? p.1=some (PySem.W.tabObj #[]))∧tabsUq K=true)
    (hbm:∃ bm ob,mg "__builtins__" = some (.ref bm)∧bm≠builtinsNs∧s₁.heap.get? bm=some ob∧ob.cls=.type "module" ∧ ob.dict=some builtinsNs∧ob.data=.plain)
    (hns:s₁.heap.Ns mainGlobals mg) (hb:s₁.heap.Ns builtinsNs mb) (hbb:∀ x:Str,x ≠ "__name__" → mb x=bootBuiltins x) (hlim:s₁.heap.NoLimit) (hg:s₁.gens=#[])
    (ha:s₁.heap.get? a=some { cls:=.type "list", data:=.seq vs.toArray }) (hi:IntsAre vs ns) (hl:ns.length≤sizeLine) (hr:Room k callerA)
    (F:∀ base:Heap,K.In base→base.Ns mainGlobals mg→FnOk P w K mg base CX k fa fd [x] sp) (hbind:∀ (s:Shared) (u:Value),BindsTo s fd ⟨[u],[]⟩ [(x,u)])
    (hsp:∀ H:Hp,SqL K H a (ns.map V.int)→sp [.ref a] H (fun v _=>v=.bl true) fun _ _ _=>False)
    (hCX:∀ H e s',CX [] H s₁ (fun _ _ _=>False) e s'→False) :
    codeAny (model P w) callerA (.call (.ref fa) ⟨[.ref a],[]⟩) (fun r s'=>r=.ok (.ret (.bool true))∧OldK s₁.heap s'.heap∧s'.os=s₁.os∧AllBare s'.gens) s₁:=by
  have uq:=hT0.2
  unfold tabsUq at uq
  have hT:∀ p∈tabsOf K,s₁.heap.get? p.1=some (PySem.W.tabObj #[])∧K.lookup p.1=none:=fun p hp=>⟨hT0.1 p hp,by
    have:=List.all_eq_true.mp uq p hp
    simp only [Bool.and_eq_true] at this
    exact Option.isNone_iff_eq_none.mp this.1⟩
  have one:∀ p q:Addr×Str,p∈tabsOf K→q∈tabsOf K→p.1=q.1→p.2=q.2:=fun p q hp hq e=>by
    have:=List.all_eq_true.mp uq p hp
    simp only [Bool.and_eq_true] at this
    have:=List.all_eq_true.mp this.2 q hq
    simpa [e] using this
  have rv:=vals_ints hi
  have lenV:=hi.length
  have core:∀ H:Hp,SqL K H a (ns.map V.int)→HOk P w H s₁.heap→(∀ b,H b=none∨(b=a∧∃ o xs,H b=some (.frz o (.lst xs)))∨∃ p∈tabsOf K,b=p.1∧∃ ps,H b=some (.tbl ps))→(H a≠none→K.lookup a=none)→TbOk K H →
      codeAny (model P w) callerA (.call (.ref fa) ⟨[.ref a],[]⟩) (fun r s'=>r=.ok (.ret (.bool true))∧OldK s₁.heap s'.heap∧s'.os=s₁.os∧AllBare s'.gens) s₁:=by
    intro H hS hok hA hK hTb
    have base_of:∀ {b:Addr} {o:Obj},s₁.heap.get? b=some o→H b=none→(hidT s₁.heap H).get? b=some o:=fun e n=>hidT_get e n
    have noA:∀ {b:Addr} {o:Obj},s₁.heap.get? b=some o→(∀ vs:Array Value,∀ n,o.data≠.seq vs n)→(∀ vs,o.data≠.fields vs)→H b=none:=fun {b o} e d1 d2=>by
      rcases hA b with z | ⟨rfl,_⟩ | ⟨p,hp,rfl,_⟩
      · exact z
      · rw [ha] at e; cases e
        exact absurd rfl (d1 _ _)
      · rw [(hT p hp).1] at e; cases e
        exact absurd rfl (d2 _)
    have nsK:∀ {b:Addr} {m:Str→Option Value},s₁.heap.Ns b m→(hidT s₁.heap H).Ns b m:=fun {b m} ⟨o,es,ep,e,d,r⟩=>⟨o,es,ep,base_of e (noA e (fun _ _ z=>by rw [d] at z; cases z) fun _ z=>by rw [d] at z; cases z),d,r⟩
    have hKb:K.In (hidT s₁.heap H):=fun b o e=>base_of (KX b o e) (by
      rcases hA b with z | ⟨rfl,_,_,z⟩ | ⟨p,hp,rfl,_⟩
      · exact z
      · rw [hK (by rw [z]; simp)] at e; cases e
      · rw [(hT p hp).2] at e; cases e)
    have hM:Mod K mg (hidT s₁.heap H):=⟨hKb,nsK hns,⟨mb,nsK hb,hbb⟩,let ⟨mc,h1,h2⟩:=hlim; ⟨mc,nsK h1,h2⟩,let ⟨bm,ob,q1,q2,q3,q4,q5,q6⟩:=hbm; ⟨bm,ob,q1,q2,base_of q3 (noA q3 (fun _ _ z=>by rw [q6] at z; cases z) fun _ z=>by rw [q6] at z; cases z),q4,q5,q6⟩⟩
    have e0:Env0 P w K mg (hidT s₁.heap H) callerA [] s₁ H:=⟨rfl,hM,fun b o e=>of_hidT e,Nat.le_of_eq (hidT_size _ _),trivial,fun b hb=>absurd (show b∈([]:List Addr) from hb) (by simp),hok,.of_eq hg,hTb⟩
    refine codeAny_mono ((F _ hKb (nsK hns)).run callerA [] s₁ H ⟨[.ref a],[]⟩ [.ref a] [.ref a] _ _ hr e0 (hbind s₁ (.ref a)) (.cons rfl .nil) (hsp H hS)) fun r s' h=>?_
    cases r with
    | error e=>exact (hCX H e s' h).elim
    | ok fl =>
      cases fl with
      | next=>exact False.elim h
      | brk=>exact False.elim h
      | cont=>exact False.elim h
      | ret u =>
        obtain ⟨v,H',os,bare,un,hok',r',q⟩:=h
        have q':v=.bl true:=q
        subst q'
        obtain rfl:u=Value.bool true:=r'
        refine ⟨rfl,⟨fun b o e=>?_,fun b o e=>un.there b o e (by simp)⟩,os,bare⟩
        rcases hA b with z | ⟨rfl,ob,xs,z⟩ | ⟨p,hp,rfl,ps,z⟩
        · exact .inl (un.keep b o e z (by intro z; exact absurd (show b∈([]:List Addr) from z) (by simp)) (by simp))
        · have z2:=un.frzs _ ob _ z
          obtain ⟨e1,_⟩:=hok _ _ z
          obtain ⟨e2,_⟩:=hok' _ _ z2
          rw [e] at e1; cases e1
          exact .inl e2
        · obtain ⟨m,z2⟩:=un.tbls _ _ z
          obtain ⟨vs',e2,_⟩:=hok' _ _ z2
          obtain ⟨c,oc,cs,k1,k2,k3,k4⟩:=tabsOf_mem hp
          rw [(hT p hp).1] at e
          cases e
          exact .inr (.inl ⟨⟨c,oc,cs,KX _ _ k1,k2,k3,k4⟩,rfl,#[],vs',rfl,by simpa using e2⟩)
  have tabH:∀ {H:Hp} {p:Addr×Str},p∈tabsOf K→ObjOk P w H s₁.heap p.1 (.tbl #[.str p.2 0]):=fun {H p} hp=>⟨#[],(hT p hp).1,trivial,fun q v z=>by cases z⟩
  let HT:Hp:=fun b=>((tabsOf K).find? fun p=>p.1 == b).map fun p=>HO.tbl #[.str p.2 0]
  have HTat:∀ b,HT b=none∨∃ p∈tabsOf K,b=p.1∧HT b=some (.tbl #[.str p.2 0]):=fun b=>by
    cases q:(tabsOf K).find? fun p=>p.1 == b with
    | none=>exact .inl (by show Option.map _ _=none; rw [q]; rfl)
    | some p=>exact .inr ⟨p,List.mem_of_find?_eq_some q,(show p.1=b by have:=List.find?_some q; simpa using this).symm,by show Option.map _ _=_; rw [q]; rfl⟩
  have HTok:TbOk K HT:=fun p hp=>by
    rcases HTat p.1 with z | ⟨q,hq,e,z⟩
    · exfalso
      have z':Option.map _ ((tabsOf K).find? fun q=>q.1 == p.1)=none:=z
      rw [Option.map_eq_none_iff,List.find?_eq_none] at z'
      exact z' p hp (by simp)
    · exact ⟨0,#[],by rw [z,one p q hp hq e]; simp⟩
  cases hk:K.lookup a with
  | some o =>
    have e:=KX a o hk
    rw [ha] at e
    cases e
    refine core HT (.inr ⟨_,vs.toArray,_,hk,rfl,rfl,rfl,by rw [List.size_toArray,lenV]; exact hl,by simpa using rv⟩) (fun b u z=>?_) (fun b=>?_) (fun z=>?_) HTok
    · rcases HTat b with y | ⟨p,hp,rfl,y⟩
      · rw [y] at z; cases z
      · rw [y] at z; cases z; exact tabH hp
    · rcases HTat b with y | ⟨p,hp,e,y⟩
      · exact .inl y
      · exact .inr (.inr ⟨p,hp,e,_,y⟩)
    · rcases HTat a with y | ⟨p,hp,rfl,y⟩
      · exact absurd y z
      · exact (hT p hp).2
  | none =>
    have na:∀ p∈tabsOf K,p.1≠a:=fun p hp e=>by
      have:=(hT p hp).1
      rw [e,ha] at this; cases this
    refine core (fun b=>if b=a then some (.frz { cls:=.type "list", data:=.seq vs.toArray } (.lst (ns.map V.int))) else HT b) (.inl (.inr ⟨{ cls:=.type "list", data:=.seq vs.toArray },if_pos rfl⟩)) (fun b u z=>?_) (fun b=>?_) (fun _=>hk) fun p hp=>?_
    · by_cases hb:b=a
      · have z':=(if_pos hb).symm.trans z
        cases z'
        subst hb
        exact ⟨ha,by rw [List.length_map]; exact hl,vs,_,rv,ha⟩
      · have z':=(if_neg hb).symm.trans z
        rcases HTat b with y | ⟨p,hp,rfl,y⟩
        · rw [y] at z'; cases z'
        · rw [y] at z'; cases z'; exact tabH hp
    · by_cases hb:b=a
      · exact .inr (.inl ⟨hb,_,_,if_pos hb⟩)
      · rcases HTat b with y | ⟨p,hp,e,y⟩
        · exact .inl ((if_neg hb).trans y)
        · exact .inr (.inr ⟨p,hp,e,_,(if_neg hb).trans y⟩)
    · obtain ⟨t,m,e⟩:=HTok p hp
      exact ⟨t,m,(if_neg (na p hp)).trans e⟩
end L2
namespace L2
open PySem PySem.Spec PyProof.Rows
theorem walk_of {l:PySem.W.OpenLaw} {n k:Nat} {q:Program} {loose:List Str} {XP:(Str→Option Value)→Heap→Prop} {YP:World→Heap→Prop} {d:DefRec} {K:Params→PySem.W.Frag} {CX:World→CXT} {sp:World→Sp} {x:Str}
    (hn:l.most=some n) (hn2:n≤sizeLine) (hdf:d.params.defaults=[]) (hr:Room k callerA)
    (hY:∀ (w:World) (h:Heap),YP w h→(K w.params).In h) (hT:∀ (w:World) (h:Heap),YP w h→(∀ p∈tabsOf (K w.params),h.get? p.1=some (PySem.W.tabObj #[]))∧tabsUq (K w.params)=true)
    (F:∀ (w:World) (mg:Str→Option Value) (fa:Addr) (h:Heap),(K w.params).In h→h.Ns mainGlobals mg→mg d.name=some (.ref fa) →
      ∃ fd:FuncData,(∀ (s:Shared) (u:Value),BindsTo s fd ⟨[u],[]⟩ [(x,u)]) ∧
        ∀ base:Heap,(K w.params).In base→base.Ns mainGlobals mg→FnOk l.prog w (K w.params) mg base (CX w) k fa fd [x] (sp w))
    (hsp:∀ (w:World) (H:Hp) (a:Addr) (ns:List Int),ns.length≤n→SqL (K w.params) H a (ns.map V.int)→sp w [.ref a] H (fun v _=>v=.bl true) fun _ _ _=>False)
    (hCX:∀ (w:World) (H:Hp) (s:Shared) (e:Value) (s':Shared),CX w [] H s (fun _ _ _=>False) e s'→False) :
    PySem.W.WalkO q loose XP YP l.row.toRowW d [] (fun f vs=>PySem.call f vs):=by
  refine Att.attach_call hn hdf fun w s₀ s₁ mg mb fa o pm cd doc a vs ns G Y ho hd hcd hmg hobj hints hlen hg=>?_
  have KX:=hY w _ Y
  obtain ⟨fd,hb,hF⟩:=F w mg fa _ KX G.T.g hmg
  exact law_call KX (hT w _ Y) G.T.bmain G.T.g G.T.b G.T.builtins G.T.nolimit hg hobj hints (Nat.le_trans hlen hn2) hr hF hb (fun H hS=>hsp w H a ns hlen hS) fun H e s'=>hCX w H s₁ e s'
end L2
namespace L2
open PySem PySem.Spec PyProof.Rows
def defArgs (s:Stmt):Arguments:=match s with
  | .FunctionDef _ a _ _ _ _ _ _ _ _=>a
  | _=>{ posonlyargs:=[],args:=[],vararg:=none,kwonlyargs:=[],kw_defaults:=[],kwarg:=none,defaults:=[] }
def defBody (s:Stmt):List Stmt:=match s with
  | .FunctionDef _ _ b _ _ _ _ _ _ _=>b
  | _=>[]
def defScope (s:Stmt):Scope:=match s with
  | .FunctionDef _ _ _ _ _ _ sc _ _ _=>sc
  | _=>{ kind:=.function,names:=[],isGenerator:=false,isCoroutine:=false }
abbrev CX0:CXT:=fun _ _ _ _ _ _=>False
abbrev E0:XK:=fun _ _ _=>False
theorem pass0 {X:Cx}:Passes CX0 X E0:=fun _ _ _ _ _ _ _ h=>h.elim
structure Fun (K:PySem.W.Frag) (x qual:Str) (st:Stmt) (f:Addr) (fd:FuncData):Prop where
  ex:∃ (oc:Value) (od:Option Addr) (kV doc pm:Value) (an:Option Addr) (cdv ct:Value) (osl:Array (Option Value)),
    fd=PySem.W.fnOf x qual (defArgs st) (defBody st) (defScope st) .none kV doc pm an cdv ct∧K.lookup f=some ⟨oc,od,.func fd,osl⟩∧PySem.W.codeIn K cdv qual=true
  kp:PySem.W.keepIn K (.ref f)=true
section
variable {P:Program} {w:World} {K:PySem.W.Frag} {mg:Str→Option Value} {base:Heap}
theorem Fun.ok {x qual:Str} {st:Stmt} {f:Addr} {fd:FuncData} {N ps:List Str} {k:Nat} {sp:Sp} (F:Fun K x qual st f fd) (S:FnScope N ps (defScope st)) (len:∀ vs H Q E,sp vs H Q E→vs.length=ps.length)
    (hbody:∀ (cdv:Value) (A:Around) (outer:List Env) (s:Shared) (H:Hp) (vs:List V) (Q:VK) (E:XK),Room k (A.deeper (envOfC qual (defScope st) s.heap.objs.size f cdv))→sp vs H Q E →
      ∃ t,PSs (cxOf CX0 P w K mg base N qual (defScope st) f cdv A outer s H E).nox (defBody st) t∧t { nx:=fun _ H'=>Q .non H',rt:=Q } (start N vs) H):FnOk P w K mg base CX0 (k + 1) f fd ps sp:=by
  obtain ⟨oc,od,kV,doc,pm,an,cdv,ct,osl,rfl,lk,hcd⟩:=F.ex
  refine fn_of lk hcd S len fun A outer s H vs Q E hr hsp=>?_
  obtain ⟨t,h,q⟩:=hbody cdv A outer s H vs Q E hr hsp
  exact ⟨t,h.nox,q⟩
theorem Fun.binds {x qual:Str} {st:Stmt} {f:Addr} {fd:FuncData} {ps:List Str} (F:Fun K x qual st f fd)
    (h:∀ (kV doc pm:Value) (an:Option Addr) (cdv ct:Value) (us:List Value),us.length=ps.length→bindArgs (PySem.W.fnOf x qual (defArgs st) (defBody st) (defScope st) .none kV doc pm an cdv ct) ⟨us,[]⟩=pure (ps.zip us)):Binds K fd ps []:=by
  obtain ⟨oc,od,kV,doc,pm,an,cdv,ct,osl,rfl,lk,hcd⟩:=F.ex
  exact .all (h kV doc pm an cdv ct)
theorem fun_mk {x qual:Str} {st:Stmt} {f:Addr} {oc:Value} {od an:Option Addr} {osl:Array (Option Value)} {kV doc pm cdv ct:Value} (l:K.lookup f=some ⟨oc,od,.func (PySem.W.fnOf x qual (defArgs st) (defBody st) (defScope st) .none kV doc pm an cdv ct),osl⟩)
    (c:PySem.W.codeIn K cdv qual=true) (k:PySem.W.keepIn K (.ref f)=true):Fun K x qual st f (PySem.W.fnOf x qual (defArgs st) (defBody st) (defScope st) .none kV doc pm an cdv ct):=⟨⟨oc,od,kV,doc,pm,an,cdv,ct,osl,rfl,l,c⟩,k⟩
end
section
variable {X:Cx}
theorem pv (i:Nat) {x:Str} {pos:Pos} (hN:X.N[i]?=some x:=by rfl) (hv:Vis X.env.scope x:=by first | exact Or.inl rfl | exact Or.inr (Or.inl rfl) | exact Or.inr (Or.inr rfl)) (hd:(x == ("__debug__" : Str))=false:=by decide)
    (hcd:(x == ("__classdict__" : Str))=false:=by decide):PE X (.Name x pos) (tVar i):=pe_var hN hv hd hcd
end
theorem iteF {A B:Prop} (h:B):if false=true then A else B:=by
  rw [if_neg Bool.false_ne_true]
  exact h
theorem iteT {A B:Prop} (h:A):if true=true then A else B:=by
  rw [if_pos rfl]
  exact h
def Same (H H':Hp):Prop:=∀ b o,H b=some o→H' b=some o
theorem Same.refl (H:Hp):Same H H:=fun _ _ h=>h
theorem Same.trans {H H1 H2:Hp} (a:Same H H1) (b:Same H1 H2):Same H H2:=fun c o h=>b c o (a c o h)
theorem Same.free {H H':Hp} (e:Same H H') {l:Addr} (h:H' l=Option.none):H l=Option.none:=by
  cases q:H l with
  | none=>rfl
  | some o =>
    rw [e l o q] at h
    cases h
theorem Same.seq {K:PySem.W.Frag} {H H':Hp} {a:Addr} {xs:List V} (e:Same H H') (h:SqL K H a xs):SqL K H' a xs:=by
  rcases h with (h | ⟨o,h⟩) | h
  · exact .inl (.inl (e _ _ h))
  · exact .inl (.inr ⟨o,e _ _ h⟩)
  · exact .inr h
end L2
set_option maxHeartbeats 1000000
namespace L2
open PySem PySem.Spec PyProof.Rows PySem.SeqAt
section
variable {X:Cx}
theorem op_mulB:OpR X (binaryOp .Mult) (rI IntMulOk fun i j=>.int (i * j)):=opI fun _ _ _ _ _ _ _ hc q=>mul_int q hc
mutual
inductive Dp (K:PySem.W.Frag) (H:Hp):V→PyData→Prop
  | non:Dp K H .non .none
  | bl (b:Bool):Dp K H (.bl b) (.bool b)
  | int (i:Int):Dp K H (.int i) (.int i)
  | str (x:Str):Dp K H (.str x) (.str x)
  | lst {a:Addr} {xs:List V} {ds:List PyData}:SqL K H a xs→DpAll K H xs ds→Dp K H (.ref a) (.list ds)
  | tup {a:Addr} {xs:List V} {ds:List PyData}:SqT K H a xs→DpAll K H xs ds→Dp K H (.ref a) (.tuple ds)
inductive DpAll (K:PySem.W.Frag) (H:Hp):List V→List PyData→Prop
  | nil:DpAll K H [] []
  | cons {v:V} {vs:List V} {d:PyData} {ds:List PyData}:Dp K H v d→DpAll K H vs ds→DpAll K H (v :: vs) (d :: ds)
end
mutual
theorem Dp.reads {pins:List (Addr×Obj)} {σ:St} {H:Hp} {s:Shared} (I:Inv X pins σ H s):∀ {x:V} {d:PyData} {u:Value},Dp X.K H x d→RelV x u→∃ as,Reads s.heap u d as
  | _,_,u,.non,r=>by cases (show u=Value.none from r); exact ⟨_,.none⟩
  | _,_,u,.bl b,r=>by cases (show u=Value.bool b from r); exact ⟨_,.bool b⟩
  | _,_,u,.int i,r=>by obtain ⟨t,e⟩:=(show ∃ t,u=Value.int i t from r); subst e; exact ⟨_,.int i t⟩
  | _,_,u,.str x,r=>by obtain ⟨t,e⟩:=(show ∃ t,u=Value.str x t from r); subst e; exact ⟨_,.str x t⟩
  | _,_,u,@Dp.lst _ _ a xs ds h k,r=>by
    cases (show u=Value.ref a from r)
    obtain ⟨its,rv,⟨o,n,e,c,_,d⟩,_⟩:=I.list h
    obtain ⟨as,ra⟩:=DpAll.reads I k rv
    exact ⟨_,.list e c d (by simpa using ra)⟩
  | _,_,u,@Dp.tup _ _ a xs ds h k,r=>by
    cases (show u=Value.ref a from r)
    obtain ⟨its,rv,⟨o,e,c,n,d⟩,_⟩:=I.tuple h
    obtain ⟨as,ra⟩:=DpAll.reads I k rv
    exact ⟨_,.tuple e c d (by simpa using ra)⟩
theorem DpAll.reads {pins:List (Addr×Obj)} {σ:St} {H:Hp} {s:Shared} (I:Inv X pins σ H s):∀ {xs:List V} {ds:List PyData} {us:List Value},DpAll X.K H xs ds→Vals xs us→∃ as,ReadsAll s.heap us ds as
  | _,_,_,.nil,.nil=>⟨_,.nil⟩
  | _,_,_,.cons h k,.cons r t=>by
    obtain ⟨as,ra⟩:=Dp.reads I h r
    obtain ⟨bs,rb⟩:=DpAll.reads I k t
    exact ⟨_,.cons ra rb⟩
end
def rEqD (K:PySem.W.Frag) (neg:Bool):R2:=fun x y H Q=>∃ d e,Dp K H x d∧Dp K H y e∧shaped d=true∧shaped e=true∧Q (.bl (if neg then !PyData.eqv d e else PyData.eqv d e)) H
theorem op_eqD (hu:X.A.units + 64 < cLine):OpR X (compareOp .Eq) (rEqD X.K false):=by
  intro pins s σ H x y v u Q I rx ry h
  obtain ⟨d,e,h1,h2,z1,z2,q⟩:=h
  obtain ⟨as,ra⟩:=h1.reads I rx
  obtain ⟨bs,rb⟩:=h2.reads I ry
  exact eq_dataH ra rb z1 z2 hu ⟨.bl (PyData.eqv d e),H,I,rfl,q⟩
theorem Inv.turnNew {pins:List (Addr×Obj)} {σ:St} {H:Hp} {s:Shared} {h':Heap} {fp:List Addr} {T:Addr} {o:HO} {t':Nat} (I:Inv X pins σ H s) (hf:∀ b∈fp,FpOk X pins H b)
    (k:∀ b u,b∉fp→s.heap.get? b=some u→h'.get? b=some u) (hT:s.heap.objs.size≤T) (new:ObjOk X.prog X.w (upd H T o) h' T o):Inv X pins σ (upd H T o) { s with heap:=h',toks:=t' }:=by
  have hn:H T=none:=I.hok.fresh hT
  have nfp:∀ b u,H b=some u→b∉fp:=fun b u e z=>by rw [(hf b z).1] at e; cases e
  have neT:∀ b u,s.heap.get? b=some u→b≠T:=fun b u e=>Nat.ne_of_lt (Nat.lt_of_lt_of_le (Heap.lt_size e) hT)
  refine I.step (g':=s.gens) (d':=s.drawn) (ch:=fp) (fun b hb=>⟨(hf b hb).2.2.2.1,(hf b hb).2.1,(hf b hb).2.2.2.2.1,(hf b hb).2.2.2.2.2⟩) (fun b u _ _ hc e _=>k b u hc e) (fun b u _ _ hc e _=>⟨u.slots,k b u hc e⟩)
    (fun b u _ e n=>by rw [upd_ne (neT b u e)]; exact n) (fun b u hc e=>⟨u,k b u hc e⟩) (fun b xs e=>by rw [upd_ne (ne_of_none e hn)]; exact e) (fun b u v e=>by rw [upd_ne (ne_of_none e hn)]; exact e) (fun b ps e=>⟨#[],by rw [upd_ne (ne_of_none e hn),e]; simp⟩)
    (fun m hm=>?_) (fun b u e=>?_) I.bare
  · obtain ⟨ob,es,ep,ho,r⟩:=hm
    exact ⟨ob,es,ep,k _ ob (fun z=>(hf _ z).2.1 rfl) ho,r⟩
  · by_cases hb:b=T
    · subst hb; rw [upd_same] at e; cases e; exact new
    · rw [upd_ne hb] at e
      refine (I.hok b u e).stay (fun c v hc q=>k c v ?_ q) (fun c q=>by rw [upd_ne (ne_of_none q hn)]; exact q) fun c xs q=>by rw [upd_ne (ne_of_none q hn)]; exact q
      rcases hc with z | z
      · rw [z]; exact nfp b u e
      · exact nfp c _ z
end
theorem ad {m n:Nat} (h:m≠n):(show Addr from m)≠(show Addr from n):=h
section
variable {X:Cx}
end
end L2
namespace L2
open PySem PySem.Spec PyProof.Rows
def Cx.blk (X:Cx) (N:List Str) (scope:Scope) (cl:List (Str×Addr)) (C:Addr) (s:Shared) (H:Hp) (fp:List Addr):Cx :=
  { X with N:=N,s₀:=s,H₀:=H,env:=compEnvC scope cl C X.env,outer:=X.stack,stack:=X.stack,ex:=fp,fn:=fun _=>false,pn:=[],xe:=fun _ _=>False }
def capt (js:List (Option Nat)) (σ:St):St:=js.map fun o=>match o with | none=>none | some j=>(σ[j]?).join
structure CompOk (X:Cx) (N:List Str) (scope:Scope) (cl:List (Str×Addr)) (js:List (Option Nat)):Prop where
  clos:closureFor scope X.env=pure cl
  nocell:∀ y∈scope.names,y.2≠.cell
  kind:scope.kind=.function
  names:∀ y∈scope.names,y.2=.local→scope.names.lookup y.1=some .local
  cells:∀ p∈cl,X.env.cells.lookup p.1=some p.2
  has:∀ y∈scope.names,y.2=.free→(cl.lookup y.1).isSome=true
  len:js.length=N.length
  cap:∀ (i j:Nat),js[i]?=some (some j)→∃ x,N[i]?=some x∧X.N[j]?=some x∧scope.names.lookup x=some .free∧(X.env.scope.names.lookup x=some .cell∨X.env.scope.names.lookup x=some .free)
def Sub (σ σ':St):Prop:=σ.length=σ'.length∧∀ (i:Nat) v,σ[i]?=some (some v)→σ'[i]?=some (some v)
theorem Sub.set {σ:St} {i:Nat} {x:Option V} (h:σ[i]?=some none):Sub σ (σ.set i x):=by
  refine ⟨by simp,fun j v e=>?_⟩
  have ne:j≠i:=by rintro rfl; rw [h] at e; cases e
  rw [List.getElem?_set_ne (Ne.symm ne)]
  exact e
theorem relabel_free {env:Env} (hk:env.scope.kind=.function):∀ {names:List (Str×NameKind)} {x:Str},names.lookup x=some .free→env.scope.names.lookup x=some .cell →
    (names.map fun (n,k)=>if (k == NameKind.free && env.scope.kind == .function && env.kindOf n == some .cell) then (n,NameKind.cell) else (n,k)).lookup x=some .cell
  | [],_,h,_=>by simp at h
  | (n,k) :: r,x,h,hc=>by
    have ih:=@relabel_free env hk r x
    show List.lookup x ((if (k == NameKind.free && env.scope.kind == .function && env.kindOf n == some .cell)=true then (n,NameKind.cell) else (n,k)) :: _)=_
    cases hx:x == n with
    | true =>
      have e:x=n:=by simpa using hx
      subst e
      simp only [List.lookup_cons,hx] at h
      cases h
      have c:(NameKind.free == NameKind.free && env.scope.kind == .function && env.kindOf x == some .cell)=true:=by
        have q:env.kindOf x=some .cell:=hc
        rw [hk,q]; rfl
      rw [if_pos c,List.lookup_cons,hx]
    | false =>
      simp only [List.lookup_cons,hx] at h
      by_cases hcc:(k == NameKind.free && env.scope.kind == .function && env.kindOf n == some .cell)=true
      · rw [if_pos hcc,List.lookup_cons,hx]; exact ih h hc
      · rw [if_neg hcc,List.lookup_cons,hx]; exact ih h hc
theorem relabel_keep {env:Env}:∀ {names:List (Str×NameKind)} {x:Str},names.lookup x=some .free→env.scope.names.lookup x=some .free →
    (names.map fun (n,k)=>if (k == NameKind.free && env.scope.kind == .function && env.kindOf n == some .cell) then (n,NameKind.cell) else (n,k)).lookup x=some .free
  | [],_,h,_=>by simp at h
  | (n,k) :: r,x,h,hc=>by
    have ih:=@relabel_keep env r x
    show List.lookup x ((if (k == NameKind.free && env.scope.kind == .function && env.kindOf n == some .cell)=true then (n,NameKind.cell) else (n,k)) :: _)=_
    cases hx:x == n with
    | true =>
      have e:x=n:=by simpa using hx
      subst e
      simp only [List.lookup_cons,hx] at h
      cases h
      have q:env.kindOf x=some .free:=hc
      rw [if_neg (by rw [q]; simp),List.lookup_cons,hx]
    | false =>
      simp only [List.lookup_cons,hx] at h
      by_cases hcc:(k == NameKind.free && env.scope.kind == .function && env.kindOf n == some .cell)=true
      · rw [if_pos hcc,List.lookup_cons,hx]; exact ih h hc
      · rw [if_neg hcc,List.lookup_cons,hx]; exact ih h hc
theorem relabel_back {env:Env}:∀ {names:List (Str×NameKind)} {x:Str},(∀ y∈names,y.2≠.cell) →
    ((names.map fun (n,k)=>if (k == NameKind.free && env.scope.kind == .function && env.kindOf n == some .cell) then (n,NameKind.cell) else (n,k)).lookup x=some .cell ∨
     (names.map fun (n,k)=>if (k == NameKind.free && env.scope.kind == .function && env.kindOf n == some .cell) then (n,NameKind.cell) else (n,k)).lookup x=some .free)→∃ y∈names,y.1=x∧y.2=.free
  | [],_,_,h=>by simp at h
  | (n,k) :: r,x,hn,h=>by
    have ih:=@relabel_back env r x (fun y hy=>hn y (List.mem_cons_of_mem _ hy))
    have h':List.lookup x ((if (k == NameKind.free && env.scope.kind == .function && env.kindOf n == some .cell)=true then (n,NameKind.cell) else (n,k)) :: (r.map fun (n,k)=>if (k == NameKind.free && env.scope.kind == .function && env.kindOf n == some .cell) then (n,NameKind.cell) else (n,k)))=some .cell ∨
      List.lookup x ((if (k == NameKind.free && env.scope.kind == .function && env.kindOf n == some .cell)=true then (n,NameKind.cell) else (n,k)) :: (r.map fun (n,k)=>if (k == NameKind.free && env.scope.kind == .function && env.kindOf n == some .cell) then (n,NameKind.cell) else (n,k)))=some .free:=h
    cases hx:x == n with
    | true =>
      have e:x=n:=by simpa using hx
      subst e
      by_cases hcc:(k == NameKind.free && env.scope.kind == .function && env.kindOf x == some .cell)=true
      · have kf:k=.free:=by
          cases k <;> first | rfl | (simp at hcc)
        exact ⟨(x,k),List.mem_cons_self,rfl,kf⟩
      · rw [if_neg hcc] at h'
        simp only [List.lookup_cons,hx] at h'
        rcases h' with q | q
        · cases q; exact absurd rfl (hn (x,.cell) List.mem_cons_self)
        · cases q; exact ⟨(x,.free),List.mem_cons_self,rfl,rfl⟩
    | false =>
      by_cases hcc:(k == NameKind.free && env.scope.kind == .function && env.kindOf n == some .cell)=true
      · rw [if_pos hcc] at h'
        simp only [List.lookup_cons,hx] at h'
        obtain ⟨y,hy,e⟩:=ih h'
        exact ⟨y,List.mem_cons_of_mem _ hy,e⟩
      · rw [if_neg hcc] at h'
        simp only [List.lookup_cons,hx] at h'
        obtain ⟨y,hy,e⟩:=ih h'
        exact ⟨y,List.mem_cons_of_mem _ hy,e⟩
section
variable {X:Cx} {N:List Str} {scope:Scope} {cl:List (Str×Addr)} {js:List (Option Nat)} {pins:List (Addr×Obj)} {σ:St} {H:Hp} {s:Shared} {fp:List Addr}
theorem blk_start (K:CompOk X N scope cl js) (I:Inv X pins σ H s) (hf:∀ b∈fp,FpOk X pins H b) (hlt:∀ b∈fp,b < s.heap.objs.size) {h1:Heap} {m1:Str→Option Value} {tk:Nat} (hn:h1.Ns s.heap.objs.size m1)
    (hk:∀ b o,s.heap.get? b=some o→h1.get? b=some o) :
    Inv (X.blk N scope cl s.heap.objs.size s H fp) [] (capt js σ) H { s with heap:=h1,toks:=tk }:=by
  have bigC:∀ b∈fp,b≠s.heap.objs.size:=fun b hb=>Nat.ne_of_lt (hlt b hb)
  have hcl:∀ x c,cl.lookup x=some c→X.env.cells.lookup x=some c:=fun x c e=>K.cells (x,c) (PySem.mem_of_lookup e)
  refine ⟨⟨I.ok.mod,K.kind,I.ok.glob,I.ok.blt,Nat.le_refl _,fun x y c e1 e2=>I.ok.inj x y c (hcl x c e1) (hcl y c e2),fun x hx=>?_,fun x c z _=>absurd z (by intro q; cases q),I.ok.hd,I.ok.frames,.inl rfl,fun b hb=>⟨bigC b hb,fun x c e=>(hf b hb).2.2.2.2.1 x c (hcl x c e)⟩,
    I.bs,Nat.le_trans I.ok.bsz I.sz,fun b o e hb=>?_,fun b hb z=>?_,I.stack,I.stkFree,I.ok.tb.un I.base⟩,rfl,I.bare,Un.kept hk,⟨m1,hn,fun i x v e1 e2 e3=>?_⟩,fun x c e=>?_,I.hok.fresh (Nat.le_refl _),fun x c e=>(I.freeC x c (hcl x c e)).imp id fun z=>⟨rfl,z.2⟩,fun p hp=>absurd (show p∈([]:List (Addr×Obj)) from hp) (by simp),I.hok.kept hk,?_⟩
  · obtain ⟨y,hy,e1,e2⟩:=relabel_back K.nocell hx
    have q:=K.has y hy e2
    rw [e1] at q
    exact Option.isSome_iff_exists.mp q
  · rcases (hf b hb).2.2.2.1 with z | z
    · exact I.ok.noex b o e z
    · exact absurd (Nat.lt_of_lt_of_le (Heap.lt_size e) (Nat.le_trans I.ok.bsz z)) (Nat.lt_irrefl _)
  · rcases List.mem_cons.mp (I.stkSub b z) with q | q
    · exact (hf b hb).2.1 q
    · exact (hf b hb).2.2.1 q
  ·
    have hi:(capt js σ)[i]?=some (some v):=e2
    unfold capt at hi
    rw [List.getElem?_map] at hi
    cases ej:js[i]? with
    | none=>rw [ej] at hi; cases hi
    | some o =>
      rw [ej] at hi
      cases o with
      | none=>cases hi
      | some j =>
        obtain ⟨y,h1',h2',h3',h4'⟩:=K.cap i j ej
        have e1':N[i]?=some x:=e1
        rw [h1'] at e1'
        cases e1'
        have hj:σ[j]?=some (some v):=by
          cases q:σ[j]? with
          | none=>have hi':(Option.join σ[j]?)=some v:=Option.some.inj hi; rw [q] at hi'; cases hi'
          | some w=>have hi':(Option.join σ[j]?)=some v:=Option.some.inj hi; rw [q] at hi'; cases w with
            | none=>cases hi'
            | some w=>exact congrArg some hi'
        obtain ⟨m,_,hl⟩:=I.loc
        obtain ⟨u,r,l⟩:=hl j x v h2' hj (.inr h4')
        refine ⟨u,r,.inr ⟨h4'.imp (fun z=>relabel_free I.ok.kind h3' z) (fun z=>relabel_keep h3' z),?_⟩⟩
        rcases l with ⟨k,_⟩ | ⟨_,c,ec,hc⟩
        · rcases h4' with h4' | h4' <;> exact absurd (k.symm.trans h4') (by intro z; cases z)
        · obtain ⟨c',ec'⟩:=Option.isSome_iff_exists.mp (K.has (x,.free) (PySem.mem_of_lookup h3') rfl)
          have e3':=hcl x c' ec'
          rw [ec] at e3'
          cases e3'
          exact ⟨c,ec',hc.keeps hk⟩
  · obtain ⟨v,hv⟩:=I.cell x c (hcl x c e)
    exact ⟨v,hv.keeps hk⟩
  · show (capt js σ).length=N.length
    unfold capt
    rw [List.length_map]
    exact K.len
theorem blk_end {σ':St} {H':Hp} {s':Shared} {h':Heap} (I:Inv X pins σ H s) (hf:∀ b∈fp,FpOk X pins H b) (J:Inv (X.blk N scope cl s.heap.objs.size s H fp) [] σ' H' s') (hs:Heap.SameBut s.heap.objs.size s'.heap h') :
    Inv X pins σ H' { s' with heap:=h' }:=by
  have neC:∀ b o,s.heap.get? b=some o→b≠s.heap.objs.size:=fun b o e=>Nat.ne_of_lt (Heap.lt_size e)
  have u:=J.base
  have u':Un (frs X.stack) fp H H' s.heap s'.heap:=u
  refine I.call' (s':={ s' with heap:=h' }) (ch:=fp) J.os ⟨fun b o e n hb hx=>?_,fun b o e n hb hx=>?_,u'.free,fun b o e hx=>?_,u'.tups,u'.frzs,u'.tbls⟩ (fun b ob e=>?_) J.bare fun b hb=>?_
  · exact (hs.2 b (neC b o e)).trans (u'.keep b o e n hb hx)
  · obtain ⟨sl,q⟩:=u'.slot b o e n hb hx
    exact ⟨sl,(hs.2 b (neC b o e)).trans q⟩
  · obtain ⟨o',q⟩:=u'.there b o e hx
    exact ⟨o',(hs.2 b (neC b o e)).trans q⟩
  · have hfree:H' s.heap.objs.size=none:=J.free
    refine (J.hok b ob e).stay (fun c w' hc q=>(hs.2 c ?_).trans q) (fun _ q=>q) fun _ _ q=>q
    rintro rfl
    rcases hc with rfl | hc
    · rw [hfree] at e; cases e
    · rw [hfree] at hc; cases hc
  · obtain ⟨f0,f1,f2,f3,f4,f5⟩:=hf b hb
    exact ⟨f3,f1,f4,f5⟩
end
end L2
namespace L2
open PySem PySem.Spec PyProof.Rows
def PIf (X:Cx) (ifs:List Expr) (t:TT):Prop :=
  ∀ (pins:List (Addr×Obj)) (s:Shared) (σ:St) (H:Hp) (Q:Bool→Hp→Prop),Inv X pins σ H s→t σ H Q →
    wpAny (model X.prog X.w) X.A (forIn ifs true fun c r=>if r=true then (do let ok ← isTrue c X.env (eval c X.env); pure (ForInStep.yield ok)) else pure (ForInStep.yield r)) (TP X pins σ Q) X.xe s
def tYes:TT:=fun _ H Q=>Q true H
theorem pif_nil {X:Cx}:PIf X [] tYes:=fun _ _ _ H _ I h=>wpAny_tests_nil ⟨H,I,h⟩
theorem pif_one {X:Cx} {c:Expr} {t:TT} (h:PT X c t):PIf X [c] t:=fun pins s σ H Q I q=>wpAny_tests_one (h pins s σ H Q I q)
def compR (J:It) (g:TG) (tt:TT) (te:TE) (σc:St) (Q:VK) (H1:Hp):Prop:=∀ D,H1 D=none →
  ∃ W:Nat→Nat→List V→Hp→Prop,(∃ m,W 0 m [] (upd H1 D (.lst [])))∧∀ i m ys H,W i m ys H →
    (J.stop i H∧Q (.ref D) H) ∨
    (J.go i H∧∃ N:List V→Hp→Prop,(∀ zs H',N zs H'→∃ m',m' < m∧W (i + 1) m' zs H')∧∀ x H',J.yld i H x H'→g x σc H' fun σ2 H2=>Sub σc σ2∧tt σ2 H2 fun b H3 =>
      if b=true then te σ2 H3 fun v H4=>H4 D=some (.lst ys)∧ys.length < sizeLine∧N (ys ++ [v]) (upd H4 D (.lst (ys ++ [v]))) else N ys H3)
def tComp (js:List (Option Nat)) (wi:TI) (g:TG) (tt:TT) (te:TE):TE:=fun σ H Q=>wi σ H fun J H1=>compR J g tt te (capt js σ) Q H1
section
variable {prog:Program} {w:World} {A:Around} {R:Result→Shared→Prop} {s:Shared}
theorem comp_loop {elt tg iter:Expr} {ifs:List Expr} {scope:Scope} {pos:Pos} {it acc:Value} {env:Env} (Iv:Nat→Shared→Prop) (F:Value→Shared→Prop) (hF:∀ e s,¬ F e s)
    (turn:∀ n s,Iv n s→wpAny (model prog w) A (pyNext it) (fun r s1=>(r=none→R (.ok .next) s1)∧∀ v,r=some v →
      wpAny (model prog w) A (letOwnedTupleGo tg it v) (fun _ s2=>wpAny (model prog w) A (assign tg env v) (fun _ s3 =>
        wpAny (model prog w) A (forIn ifs true fun c r=>if r=true then (do let ok ← isTrue c env (eval c env); pure (ForInStep.yield ok)) else pure (ForInStep.yield r)) (fun ok s4 =>
          (ok=false→∃ m,m < n∧Iv m s4)∧(ok=true→wpAny (model prog w) A (eval elt env) (fun x s5=>wpAny (model prog w) A (call (.builtin "list.append") [acc,x]) (fun _ s6=>∃ m,m < n∧Iv m s6) F s5) F s4)) F s3) F s2) F s1) F s)
    (n:Nat) (h:Iv n s):codeAny (model prog w) A (.compLoop (.ListComp elt [⟨tg,iter,ifs,0⟩] scope pos) 0 it acc env) R s:=by
  refine codeAny_loop rfl Iv (fun n s hI=>?_) n h
  show wpAny _ A (Sem.onRaise (compTurn (.ListComp elt [⟨tg,iter,ifs,0⟩] scope pos) 0 it acc env) (fun x=>do noteFrame x env; theTreesLotGoes x)) _ _ s
  refine wpAny_noted ?_
  rw [compTurn_list]
  have ff:∀ {E:Value→Shared→Prop} (e:Value) (s:Shared),F e s→E e s:=fun e s z=>(hF e s z).elim
  refine wpAny_bind (wpAny_standAt (wpAny_bind (wpAny_mono (turn n s hI) (fun r s1 h1=>?_) ff)))
  obtain ⟨h0,h1⟩:=h1
  cases r with
  | none=>exact wpAny_pure (h0 rfl)
  | some v =>
    refine wpAny_bind (wpAny_mono (h1 v rfl) (fun _ s2 h2=>?_) ff)
    refine wpAny_bind (wpAny_mono h2 (fun _ s3 h3=>?_) ff)
    refine wpAny_bind (wpAny_mono h3 (fun ok s4 h4=>?_) ff)
    cases ok with
    | false=>exact wpAny_pure ⟨rfl,h4.1 rfl⟩
    | true =>
      refine wpAny_bind (wpAny_bind (wpAny_mono (h4.2 rfl) (fun x s5 h5=>?_) ff))
      exact wpAny_bind (wpAny_mono h5 (fun _ s6 h6=>wpAny_pure (wpAny_pure ⟨rfl,h6⟩)) ff)
end
section
variable {X:Cx} {N:List Str} {scope:Scope} {cl:List (Str×Addr)} {js:List (Option Nat)} {pins:List (Addr×Obj)} {σ:St} {H:Hp} {s:Shared}
theorem comp_core {elt tg iter:Expr} {ifs:List Expr} {pos:Pos} {J:It} {fp:List Addr} {it:Addr} {tn:Nat→Heap→Prop} {g:TG} {tt:TT} {te:TE} {Q:VK} {E:Value→Shared→Prop} {RR:Value→Addr→Result→Shared→Prop}
    (hc:X.calm=true) (K:CompOk X N scope cl js) (I:Inv X pins σ H s) (T:Turn X.prog X.w X.K tg J fp it tn) (st:tn 0 s.heap) (hf:∀ b∈fp,FpOk X pins H b)
    (hg:∀ C s H fp,PG (X.blk N scope cl C s H fp) tg g) (ht:∀ C s H fp,PIf (X.blk N scope cl C s H fp) ifs tt) (he:∀ C s H fp,PE (X.blk N scope cl C s H fp) elt te)
    (hq:compR J g tt te (capt js σ) Q H)
    (hRR:∀ (D:Addr) (s3 s':Shared) (H':Hp) (σ':St),Inv X pins σ (upd H D (.lst [])) s3→(∀ b∈fp,FpOk X pins (upd H D (.lst [])) b)→Inv (X.blk N scope cl s3.heap.objs.size s3 (upd H D (.lst [])) fp) [] σ' H' s'→Q (.ref D) H'→RR (.ref D) s3.heap.objs.size (.ok .next) s') :
    wpAny (model X.prog X.w) X.A (newList []) (fun acc s3=>wpAny (model X.prog X.w) X.A (newFunctionEnv scope X.env.globals cl [] X.env.qual none .none (some X.env)) (fun cenv s4 =>
      codeAny (model X.prog X.w) X.A (.compStart (.ListComp elt [⟨tg,iter,ifs,0⟩] scope pos) 0 (.ref it) acc { cenv with scope:=relabel scope X.env }) (RR acc cenv.locals) s4) E s3) E s:=by
  have fresh:H s.heap.objs.size=none:=I.fresh
  have lt:∀ b∈fp,b < s.heap.objs.size:=fun b hb=>by
    obtain ⟨o,e,_⟩:=T.obj _ _ st b hb
    exact Heap.lt_size e
  obtain ⟨W,⟨m0,w0⟩,step⟩:=hq _ fresh
  refine wpAny_newObj_type ?_
  have I3:=I.lnew (ys:=[]) (its:=[]) (t':=s.toks) .nil (Nat.zero_le _)
  have f3:∀ b∈fp,FpOk X pins (upd H s.heap.objs.size (.lst [])) b:=fun b hb=>⟨by rw [upd_ne (Nat.ne_of_lt (lt b hb))]; exact (hf b hb).1,(hf b hb).2⟩
  generalize e3:({ s with heap:=s.heap.push { cls:=.type "list", data:=.seq ([]:List Value).toArray },toks:=s.toks }:Shared)=s3 at I3
  have st3:tn 0 s3.heap:=by
    rw [← e3]
    exact T.keep _ _ _ st fun b _ o e=>Heap.get?_push_of_some _ e
  have lt3:∀ b∈fp,b < s3.heap.objs.size:=fun b hb=>by
    obtain ⟨o,e,_⟩:=T.obj _ _ st3 b hb
    exact Heap.lt_size e
  refine wpAny_newFunctionEnv K.nocell (by intro y hy; simp at hy) (fun h4 n4 k4=>?_) K.kind
  have old:∀ b o,s3.heap.get? b=some o→h4.get? b=some o:=fun b o e=>(k4.2 b (Nat.ne_of_lt (Heap.lt_size e))).trans (Heap.get?_push_of_some _ e)
  have I4:=blk_start K I3 f3 lt3 (tk:=s3.toks + ([]:List (Str×Value)).length) n4 old
  have st4:tn 0 h4:=T.keep _ _ _ st3 fun b _ o e=>old b o e
  have fpB:∀ {H':Hp},(∀ b∈fp,H' b=none)→∀ b∈fp,FpOk (X.blk N scope cl s3.heap.objs.size s3 (upd H s.heap.objs.size (.lst [])) fp) [] H' b:=fun hn b hb =>
    ⟨hn b hb,Nat.ne_of_lt (lt3 b hb),fun z=>(List.mem_cons.mp (I3.stkSub b z)).elim (f3 b hb).2.1 (f3 b hb).2.2.1,.inl hb,fun x c e=>(f3 b hb).2.2.2.2.1 x c (K.cells (x,c) (PySem.mem_of_lookup e)),fun p hp=>absurd (show p∈([]:List (Addr×Obj)) from hp) (by simp)⟩
  have loop:codeAny (model X.prog X.w) X.A (.compLoop (.ListComp elt [⟨tg,iter,ifs,0⟩] scope pos) 0 (.ref it) (.ref s.heap.objs.size) (compEnvC scope cl s3.heap.objs.size X.env)) (RR (.ref s.heap.objs.size) s3.heap.objs.size)
      ({ s3 with heap:=h4,toks:=s3.toks + ([]:List (Str×Value)).length }:Shared):=by
    refine comp_loop (fun n s'=>∃ i ys H',Inv (X.blk N scope cl s3.heap.objs.size s3 (upd H s.heap.objs.size (.lst [])) fp) [] (capt js σ) H' s'∧tn i s'.heap∧(∀ b∈fp,H' b=none)∧W i n ys H') (fun _ _=>False) (fun _ _ z=>z) ?_ m0
      ⟨0,[],_,I4,st4,fun b hb=>(f3 b hb).1,w0⟩
    rintro n s5 ⟨i,ys,H5,I5,st5,fr5,w5⟩
    rcases step i n ys H5 w5 with ⟨stop,qn⟩ | ⟨go,Nn,hN,nxt⟩
    · refine thn (T.done (X.blk N scope cl s3.heap.objs.size s3 (upd H s.heap.objs.size (.lst [])) fp) rfl rfl rfl hc i [] s5 (capt js σ) H5 _ I5 (fpB fr5) st5 stop) fun r s6 ⟨hr,I6⟩=>⟨fun _=>?_,fun v e=>?_⟩
      · exact hRR _ s3 s6 H5 _ I3 f3 I6 qn
      · rw [hr] at e; cases e
    · refine thn (T.item (X.blk N scope cl s3.heap.objs.size s3 (upd H s.heap.objs.size (.lst [])) fp) rfl rfl rfl hc i [] s5 (capt js σ) H5 _ I5 (fpB fr5) st5 go) fun r s6 ⟨u,hr,h6⟩=>⟨fun e=>?_,fun v e=>?_⟩
      · rw [hr] at e; cases e
      rw [hr] at e; cases e
      refine thn h6 fun _ s7 ⟨x,H7,I7,r7,y7,st7,fr7⟩=>?_
      have I7':=I7.pinned (fpB fr7) (T.obj _ _ st7)
      have back:∀ {σ':St} {H':Hp} {s':Shared} {i' n':Nat} {zs:List V},Inv (X.blk N scope cl s3.heap.objs.size s3 (upd H s.heap.objs.size (.lst [])) fp) ([] ++ pinsAt fp s7.heap) σ' H' s'→Sub (capt js σ) σ'→W (i + 1) n' zs H' →
          ∃ i ys H',Inv (X.blk N scope cl s3.heap.objs.size s3 (upd H s.heap.objs.size (.lst [])) fp) [] (capt js σ) H' s'∧tn i s'.heap∧(∀ b∈fp,H' b=none)∧W i n' ys H':=fun {σ' H' s' i' n' zs} I' sb w'=>by
        refine ⟨i + 1,zs,H',(I'.unpinned).weak sb.1 sb.2,T.keep _ _ _ st7 fun b hb o e=>(I'.pin (b,o) (List.mem_append_right _ (List.mem_append_right _ (mem_pinsAt hb e)))).1,fun b hb=>?_,w'⟩
        obtain ⟨o,e,_⟩:=T.obj _ _ st7 b hb
        exact (I'.pin (b,o) (List.mem_append_right _ (List.mem_append_right _ (mem_pinsAt hb e)))).2.1
      refine thn (hg _ _ _ _ _ s7 (capt js σ) H7 x _ _ I7' r7 (nxt x H7 y7)) fun _ s8 ⟨σ8,H8,I8,sb8,q8⟩=>?_
      refine thn (ht _ _ _ _ _ s8 σ8 H8 _ I8 q8) fun ok s9 ⟨H9,I9,q9⟩=>⟨fun e=>?_,fun e=>?_⟩
      · rw [e,if_neg Bool.false_ne_true] at q9
        obtain ⟨m',hm,w'⟩:=hN _ _ q9
        exact ⟨m',hm,back (i':=0) I9 sb8 w'⟩
      · rw [e,if_pos rfl] at q9
        refine thn (he _ _ _ _ _ s9 σ8 H9 _ I9 q9) fun xv sa ⟨v,Ha,Ia,ra,qa,za,nn⟩=>?_
        obtain ⟨m',hm,w'⟩:=hN _ _ nn
        refine thn (mt_append (X:=X.blk N scope cl s3.heap.objs.size s3 (upd H s.heap.objs.size (.lst [])) fp) _ sa σ8 Ha (.ref s.heap.objs.size) [v] (.ref s.heap.objs.size) [xv] (fun y H'=>H'=upd Ha s.heap.objs.size (.lst (ys ++ [v]))) Ia rfl (.cons ra .nil) ⟨_,ys,v,rfl,rfl,qa,za,rfl⟩) fun y sb ⟨z,Hb,Ib,_,eb⟩=>?_
        rw [eb] at Ib
        exact ⟨m',hm,back (i':=0) Ib sb8 w'⟩
  exact codeAny_compStart_list loop (T.self _ 0 _ _ _ st4 loop)
theorem pe_comp {elt tg iter:Expr} {ifs:List Expr} {pos:Pos} {wi:TI} {g:TG} {tt:TT} {te:TE} (hc:X.calm=true) (K:CompOk X N scope cl js) (hi:PI X tg iter wi)
    (hg:∀ C s H fp,PG (X.blk N scope cl C s H fp) tg g) (ht:∀ C s H fp,PIf (X.blk N scope cl C s H fp) ifs tt) (he:∀ C s H fp,PE (X.blk N scope cl C s H fp) elt te)
    (hs:∀ x,foldedSetIterable iter X.env x=pure x:=by intro _; rfl):PE X (.ListComp elt [⟨tg,iter,ifs,0⟩] scope pos) (tComp js wi g tt te):=by
  intro pins s σ H Q I h
  rw [eval_ListComp]
  refine wpAny_comprehension_free (use:=none) rfl hs K.clos K.kind K.names (thn (hi pins s σ H _ I h) fun v s1 h1=>thn h1 fun itv s2 h2=>?_)
  obtain ⟨it,fp,tn,J,H2,e,I2,T,st2,f2,hq⟩:=h2
  subst e
  refine comp_core (RR:=fun acc C=>compPost (model X.prog X.w) X.A X.xe none (EP X pins σ Q) acc C) hc K I2 T st2 f2 hg ht he hq ?_
  intro D s3 s' H' σ' I3 f3 J' q
  obtain ⟨m,hn,_⟩:=J'.loc
  exact ⟨m,hn,fun h'' hs''=>⟨.ref D,H',blk_end I3 f3 J' hs'',rfl,q⟩⟩
theorem ps_setComp {elt tg iter:Expr} {ifs:List Expr} {pos spos py:Pos} {i:Nat} {y:Str} {wi:TI} {g:TG} {tt:TT} {te:TE} (hc:X.calm=true) (hN:X.N.Nodup) (hiN:X.N[i]?=some y) (hy:X.env.scope.names.lookup y=some .local) (K:CompOk X N scope cl js) (hi:PI X tg iter wi)
    (hg:∀ C s H fp,PG (X.blk N scope cl C s H fp) tg g) (ht:∀ C s H fp,PIf (X.blk N scope cl C s H fp) ifs tt) (he:∀ C s H fp,PE (X.blk N scope cl C s H fp) elt te)
    (hsw:swapsWith (.ListComp elt [⟨tg,iter,ifs,0⟩] scope pos) (some (.Name y py)) spos.line X.env=pure true:=by rfl)
    (hs:∀ x,foldedSetIterable iter X.env x=pure x:=by intro _; rfl):PS X (.Assign [.Name y py] (.ListComp elt [⟨tg,iter,ifs,0⟩] scope pos) spos) (tAsg (tComp js wi g tt te) (gName i)):=by
  intro pins s σ H D I h
  rw [exec_Assign_Name_used _ _ _ _ hsw]
  refine wpAny_bind (wpAny_standAt (wpAny_bind ?_))
  show wpAny _ X.A (do let _ ← comprehension (.ListComp elt [⟨tg,iter,ifs,0⟩] scope pos) scope X.env _ (newList []) false (eval iter X.env) (some (assign (.Name y py) X.env))) _ _ s
  refine wpAny_bind (wpAny_mono (wpAny_comprehension_free (use:=some (assign (.Name y py) X.env)) (Q:=fun _ s'=>SP X pins D .next s') rfl hs K.clos K.kind K.names
    (thn (hi pins s σ H _ I h) fun v s1 h1=>thn h1 fun itv s2 h2=>?_)) (fun _ s' hq=>wpAny_pure (wpAny_pure hq)) fun _ _ e=>e)
  obtain ⟨it,fp,tn,J,H2,e,I2,T,st2,f2,hq⟩:=h2
  subst e
  refine comp_core (RR:=fun acc C=>compPost (model X.prog X.w) X.A X.xe (some (assign (.Name y py) X.env)) (fun _ s'=>SP X pins D .next s') acc C) hc K I2 T st2 f2 hg ht he hq ?_
  intro Dl s3 s' H' σ' I3 f3 J' q
  have I':Inv X pins σ H' s':=blk_end I3 f3 J' (Heap.SameBut.refl ..)
  obtain ⟨m,hn,_⟩:=J'.loc
  have hC:s3.heap.objs.size≠X.env.locals:=Ne.symm (Nat.ne_of_lt I3.lt)
  have hcell:∀ x c,X.env.cells.lookup x=some c→c≠s3.heap.objs.size:=fun x c e z=>by
    obtain ⟨v,q⟩:=I3.cell x c e
    exact absurd q.lt (by rw [z]; exact Nat.lt_irrefl _)
  show wpAny _ X.A (assign (.Name y py) X.env (.ref Dl)) _ _ _
  refine wpAny_assign_Name (store_ok2 I' hN hiN (.inl hy) (v:=.ref Dl) rfl (fun s'' I'' ⟨a,hs2,ha⟩=>?_) (.inr hy))
  have ha':s3.heap.objs.size≠a:=by
    rcases ha with ha | ha
    · rw [ha]; exact hC
    · exact Ne.symm (hcell y a ha)
  refine ⟨m,hn.sameBut hs2 ha',fun h3 hs3=>?_⟩
  refine ⟨_,H',I''.turned (t':=s''.toks) (it:=s3.heap.objs.size) (fun b o hb e=>(hs3.2 b hb).trans e) J'.free hC (.inr I3.sz) hcell (fun p hp z=>?_),q⟩
  exact absurd (Heap.lt_size (I3.pin p hp).1) (by rw [z]; exact Nat.lt_irrefl _)
end
end L2
namespace L2
open PySem PySem.Spec PyProof.Rows
structure Callee (P:Program) (w:World) (K:PySem.W.Frag) (mg:Str→Option Value) (base:Heap) (CX:CXT) (x:Str) (ps:List Str) (k:Nat) (sp:Sp):Prop where
  ex:∃ f fd,FnOk P w K mg base CX k f fd ps sp∧mg x=some (.ref f)∧PySem.W.keepIn K (.ref f)=true∧Binds K fd ps []
section
variable {X:Cx} {CX:CXT} {k:Nat} {ps:List Str} {sp:Sp} {E:XK} {x:Str} {p pos:Pos} {e:Expr} {es:List Expr} {t:TA}
theorem pe_fn (C:Callee X.prog X.w X.K X.mg X.base CX x ps k sp) (hr:Room k X.A) (hg:Gl X x) (hx:Passes CX X E) (ha:PA X (e :: es) t)
    (hdb:(x == ("__debug__" : Str))=false:=by decide) (he:starEach (e :: es) X.env=(false,eval e X.env) :: starEach es X.env:=by rfl) (hpl:(backTo pos (starEach es X.env)).any (·.1)=false:=by rfl) :
    PE X (.Call (.Name x p) (e :: es) [] pos) (tCall sp [] E t):=by
  intro pins s σ H Q I h
  obtain ⟨f,fd,F,hm,hk,hb⟩:=C.ex
  exact (pe_call F hr hg hm hk hb .nil hx ha hdb he hpl) pins s σ H Q I h
end
theorem CompOk.of {X:Cx} {N:List Str} {scope:Scope} {cl:List (Str×Addr)} {js:List (Option Nat)} (clos:closureFor scope X.env=pure cl) (nc:(scope.names.all fun y=>y.2 != .cell)=true) (kind:scope.kind=.function)
    (nm:(scope.names.all fun y=>y.2 != .local || (scope.names.lookup y.1 == some .local))=true) (cells:∀ p∈cl,X.env.cells.lookup p.1=some p.2) (has:(scope.names.all fun y=>y.2 != .free || (cl.lookup y.1).isSome)=true)
    (len:js.length=N.length) (cap:((js.zip N).all fun p=>match p.1 with | none=>true | some j=>(X.N[j]? == some p.2) && (scope.names.lookup p.2 == some .free) && (X.env.scope.names.lookup p.2 == some .cell || X.env.scope.names.lookup p.2 == some .free))=true):CompOk X N scope cl js:=by
  rw [List.all_eq_true] at nc nm has cap
  refine ⟨clos,fun y hy=>by simpa using nc y hy,kind,fun y hy e=>?_,cells,fun y hy e=>?_,len,fun i j e=>?_⟩
  · have q:=nm y hy
    rw [e] at q
    simpa using q
  · have q:=has y hy
    rw [e] at q
    simpa using q
  · have hi:i < js.length:=(List.getElem?_eq_some_iff.mp e).1
    have hx:N[i]?=some (N[i]'(by omega)):=List.getElem?_eq_getElem (by omega)
    have hz:(js.zip N)[i]?=some (some j,N[i]'(by omega)):=by
      rw [List.getElem?_zip_eq_some]
      exact ⟨e,hx⟩
    have q:=cap _ (List.mem_of_getElem? hz)
    simp only [Bool.and_eq_true,Bool.or_eq_true,beq_iff_eq] at q
    exact ⟨_,hx,q.1.1,q.1.2,q.2⟩
theorem Same.new {H:Hp} {p:Addr} (h:H p=none) (o:HO):Same H (upd H p o):=fun b u q=>by rw [upd_ne (ne_of_none q h)]; exact q
def spLaw (K:PySem.W.Frag):Sp:=fun vs H Q _=>∃ (a:Addr) (ns:List Int),vs=[.ref a]∧SqL K H a (ns.map V.int)∧ns.length≤63∧∀ H',Q (.bl true) H'
end L2
namespace L2
open PySem PySem.Spec PyProof.Rows
theorem dp_ints {K:PySem.W.Frag} {H:Hp}:∀ ns:List Int,DpAll K H (ns.map V.int) (ns.map PyData.int)
  | []=>.nil
  | n :: r=>.cons (.int n) (dp_ints r)
end L2
namespace PySem
theorem lri_no_len:typeLookup (.type "list_reverseiterator") "__len__" = pure none:=by rw [typeLookup_type,builtinLookup_eq_fast]; kernel_rfl
theorem lri_hint:typeLookup (.type "list_reverseiterator") "__length_hint__" = pure (some (.builtin "list_reverseiterator.__length_hint__")):=by rw [typeLookup_type,builtinLookup_eq_fast]; kernel_rfl
section
variable {prog:Program} {w:World} {A:Around} {E:Value→Shared→Prop} {s:Shared} {R:Result→Shared→Prop}
theorem lri_hint_no {it:Addr} {Q:Bool→Shared→Prop} (hT:s.TypeIs (.ref it) "list_reverseiterator") (h:Q false s):wpAny (model prog w) A (Builtin.List.listLengthHint (.ref it)) Q E s:=by
  unfold Builtin.List.listLengthHint
  refine wpAny_bind (wpAny_specialOf hT lri_no_len ?_)
  refine wpAny_bind (wpAny_specialOf hT lri_hint ?_)
  generalize hid:("list_reverseiterator.__length_hint__" : String)=id0
  wp_delta
  rw [show splitId id0=some ("list_reverseiterator", "__length_hint__") from by subst hid; decide +kernel]
  subst hid
  refine wpAny_bind (wpAny_isInstance (T := "list_reverseiterator") (b:=true) hT (by rw [isSubtype_type]; kernel_rfl) ?_)
  refine wpAny_ite_split (fun hab=>absurd hab (by decide)) (fun _=>?_)
  refine wpAny_ite_split (fun _=>?_) (fun hab=>absurd (by decide +kernel) hab)
  refine wpAny_ite_split (fun hab=>absurd hab (by decide +kernel)) (fun _=>?_)
  exact wpAny_pure h
theorem extend_rev {it l:Addr} {items:Array Value} (hh:A.handled=none) (hit:s.heap.IsRevIter it l ((items.size:Int) - 1)) (hl:s.heap.IsList l items) (hne:l≠it) (S:Addr) (res:Value) (c0:Nat) (hS:s.heap.get? S=some { cls:=.type "list", data:=.seq #[] c0 }) (hSi:S≠it) (hSl:S≠l) (hz:items.size≤sizeLine)
    (hR:∀ h' tk acc' c',(∀ b o,b≠S→b≠it→s.heap.get? b=some o→h'.get? b=some o)→h'.get? S=some { cls:=.type "list", dict:=none,data:=.seq acc' c',slots:=#[] }→ItemsOf (fun i v=>items[items.size - 1 - i]?=some v) acc' items.size→R (.ok (.ret res)) { s with heap:=h',toks:=tk }) :
    wpAny (model prog w) A.in1 (Builtin.List.listExtendWith (.ref S) (.ref it) res)
      (fun fin s'=>match fin with | .done f=>R (.ok f) s' | .again c'=>c'.quiet=true∧codeAny (model prog w) A c' R s') (fun e s'=>R (.error e) s') s:=by
  have W:=(Walks.listRev (prog:=prog) (w:=w) (A:=A.in1) hh it l hne items).toS
  have hT:s.TypeIs (.ref it) "list_reverseiterator" := hit.typeIs
  unfold Builtin.List.listExtendWith
  refine wpAny_bind (wpAny_typeOf hT ?_)
  have h1:Builtin.List.listSameRef (.ref S) (.ref it)=false:=by simp [Builtin.List.listSameRef,hSi]
  have h2:(Value.type "list_reverseiterator" == Value.type "list")=false:=by decide
  have h3:(Value.type "list_reverseiterator" == Value.type "tuple")=false:=by decide
  simp only [h1,h2,h3,Bool.or_false,Bool.false_eq_true,if_false]
  refine wpAny_bind (wpAny_pyIter_revIter hit ?_)
  refine wpAny_bind (wpAny_holding (lri_hint_no hT ?_))
  refine wpAny_ite_split (fun hab=>absurd hab (by decide +kernel)) (fun _=>?_)
  refine wpAny_pure ⟨plainId_quiet F.plain_extend_loop _,codeAny_extend_loopS W hz S (by simp [hSi,hSl]) res items.size 0 _ #[] c0 rfl (Nat.zero_le _) ⟨Nat.zero_le _,by simpa using hit,hl⟩ hS (ItemsOf.nil _) fun s' acc' c' hm hS' hacc=>?_⟩
  rw [Moved.eq_with hm]
  exact hR s'.heap s'.toks acc' c' (fun b o hb hi e=>hm.heap b o (by simp [hb,hi]) e) hS' hacc
theorem call_list_rev {it l:Addr} {items:Array Value} {Q:Value→Shared→Prop} (hh:A.handled=none) (hit:s.heap.IsRevIter it l ((items.size:Int) - 1)) (hl:s.heap.IsList l items) (hne:l≠it) (hz:items.size≤sizeLine)
    (hQ:∀ h' tk acc' c',(∀ b o,b≠it→s.heap.get? b=some o→h'.get? b=some o)→h'.get? s.heap.objs.size=some { cls:=.type "list", dict:=none,data:=.seq acc' c',slots:=#[] }→ItemsOf (fun i v=>items[items.size - 1 - i]?=some v) acc' items.size→Q (.ref s.heap.objs.size) { s with heap:=h',toks:=tk }) :
    wpAny (model prog w) A (call (.type "list") [.ref it]) Q E s:=by
  have lt:∀ {b o},s.heap.get? b=some o→s.heap.objs.size≠b:=fun e=>Nat.ne_of_gt (Heap.lt_size e)
  refine callType_codes (Q₁:=fun obj s₁=>obj=.ref s.heap.objs.size∧s₁={ s with heap:=s.heap.push { cls:=.type "list", data:=.seq #[] } }) F.called_list (F.typeCall_list_1 _) F.entry_list_init
    (code_list_new _ ⟨rfl,rfl⟩) fun obj s₁ h₁=>?_
  obtain ⟨rfl,rfl⟩:=h₁
  have hS:(s.heap.push { cls:=.type "list", data:=.seq #[] }).get? s.heap.objs.size=some { cls:=.type "list", data:=.seq #[] }:=Heap.get?_push_size _ rfl
  obtain ⟨oi,ei,_⟩:=id hit
  obtain ⟨ol,el,_⟩:=id hl
  refine ⟨⟨_,hS,rfl⟩,F.args_list_init_2 _ _,?_⟩
  show wpAny _ A.in1.in1 (do let old ← Builtin.List.listItems (.ref s.heap.objs.size); Builtin.List.listUpdate (.ref s.heap.objs.size) (fun _=>#[]); letGo old.toList.reverse; Builtin.List.listExtendWith (.ref s.heap.objs.size) (.ref it) .none) _ _ _
  refine wpAny_bind ?_
  unfold Builtin.List.listItems
  refine wpAny_bind (wpAny_seqItems hS rfl (wpAny_pure ?_))
  refine wpAny_bind (m:=updateSeq s.heap.objs.size (fun _=>#[])) (wpAny_updateSeq hS rfl ?_)
  have hS₂:=Heap.get?_update_self (Obj.mapSeq (fun _=>(#[]:Array Value))) hS rfl
  have oth:∀ b o,s.heap.get? b=some o→((s.heap.push { cls:=.type "list", data:=.seq #[] }).update s.heap.objs.size (Obj.mapSeq (fun _=>(#[]:Array Value)))).get? b=some o :=
    fun b o e=>(Heap.get?_update_other _ _ (lt e)).trans (Heap.get?_push_of_some _ e)
  refine wpAny_bind (wpAny_letGo ?_)
  refine extend_rev (A:=A.in1) hh (hit.at fun o e=>oth _ o e) (hl.at fun o e=>oth _ o e) hne _ .none _ hS₂ (lt ei) (lt el) hz fun h' tk acc' c' hk hS' hacc=>?_
  exact ⟨rfl,hQ h' tk acc' c' (fun b o hb e=>hk b o (Ne.symm (lt e)) hb (oth b o e)) hS' hacc⟩
end
end PySem
namespace L2
open PySem PySem.Spec PyProof.Rows
section
variable {X:Cx}
theorem rev_vals {xs:List V} {its:List Value} {acc:Array Value} (r:Vals xs its) (h:ItemsOf (fun i v=>its.toArray[its.toArray.size - 1 - i]?=some v) acc its.toArray.size):Vals xs.reverse acc.toList:=by
  have e:acc.toList=its.reverse:=by
    have hs:acc.size=its.length:=by rw [h.1,List.size_toArray]
    refine List.ext_getElem? fun i=>?_
    by_cases hi:i < its.length
    · have ha:acc[i]?=some (acc[i]'(by omega)):=Array.getElem?_eq_getElem (by omega)
      have q:=h.2 i _ ha
      rw [List.getElem?_reverse hi,Array.getElem?_toList,ha,← q,List.size_toArray,List.getElem?_toArray]
    · rw [List.getElem?_eq_none (by rw [Array.length_toList]; omega),List.getElem?_eq_none (by rw [List.length_reverse]; omega)]
  rw [e]
  exact r.reverse
def tListRev (K:PySem.W.Frag) (ta:TA):TE:=fun σ H Q=>ta σ H fun vs H1=>∃ a xs,vs=[.ref a]∧SqL K H1 a xs∧∀ p,H1 p=none→Q (.ref p) (upd H1 p (.lst xs.reverse))
theorem pe_listRev {a:Expr} {ta:TA} {p p2 pos pos2:Pos} (hc:X.calm=true) (hg:Gl X "list") (hm:X.mg "list" = none) (hg2:Gl X "reversed") (hm2:X.mg "reversed" = none) (ha:PA X [a] ta) (he:starEach (a :: []) X.env=(false,eval a X.env) :: starEach [] X.env:=by rfl)
    (he2:starEach (Expr.Call (.Name "reversed" p2) [a] [] pos2 :: []) X.env=(false,eval (.Call (.Name "reversed" p2) [a] [] pos2) X.env) :: starEach [] X.env:=by rfl) :
    PE X (.Call (.Name "list" p) [.Call (.Name "reversed" p2) [a] [] pos2] [] pos) (tListRev X.K ta):=by
  intro pins s σ H Q I h
  refine wpAny_Call_Name_kw (ld_blt I hg hm (u:=.type "list") (by decide +kernel) ?_ (by decide) (by decide))
  refine PyProof.Rows.callWith_type1 ?_ he2 (by rfl)
  rw [he2]
  show wpAny _ _ (spliced ((false,eval (.Call (.Name "reversed" p2) [a] [] pos2) X.env) :: backTo pos (starEach [] X.env))) _ _ s
  refine Calls.spliced_cons ?_
  refine wpAny_Call_Name_kw (ld_blt I hg2 hm2 (u:=.type "reversed") (by decide +kernel) ?_ (by decide) (by decide))
  refine PyProof.Rows.callWith_type1 (thn (ha pos2 pins s σ H _ I h) fun us s1 ⟨vs,H1,I1,r1,q1⟩=>?_) he (by rfl)
  obtain ⟨a1,xs,rfl,hx,q⟩:=q1
  obtain ⟨u,rfl,ru⟩:=r1.one
  cases (show u=Value.ref a1 from ru)
  obtain ⟨its,rx,px,zx⟩:=I1.list hx
  refine call_reversed_list px.isList ?_
  refine Calls.spliced_nil ?_
  have hl:=rx.length
  have hne:a1≠s1.heap.objs.size:=by
    obtain ⟨o,e,_⟩:=px.isList
    exact Nat.ne_of_lt (Heap.lt_size e)
  have I2:Inv X pins σ H1 { s1 with heap:=s1.heap.push (revObj a1 ((its.toArray.size:Int) - 1)) }:=I1.kept (t':=s1.toks) fun b o e=>Heap.get?_push_of_some _ e
  refine call_list_rev (s:={ s1 with heap:=s1.heap.push (revObj a1 ((its.toArray.size:Int) - 1)) }) (I1.ok.hd hc) ⟨_,Heap.get?_push_size _ rfl,rfl,rfl⟩ (px.isList.at fun o e=>Heap.get?_push_of_some _ e) hne (by rw [List.size_toArray]; omega) fun h' tk acc' c' hk hS' hacc=>?_
  have hp:H1 (s1.heap.push (revObj a1 ((its.toArray.size:Int) - 1))).objs.size=none:=I2.fresh
  have rv:=rev_vals rx hacc
  refine ⟨.ref _,_,I2.turnNew (fp:=[s1.heap.objs.size]) (t':=tk) (fun b hb=>?_) (fun b u hb e=>hk b u (by simpa using hb) e) (Nat.le_refl _) ?_,rfl,q _ hp⟩
  · have e:b=s1.heap.objs.size:=by simpa using hb
    subst e
    exact I1.fpOk (Nat.le_refl _) (I1.hok.fresh (Nat.le_refl _))
  · exact ⟨by rw [List.length_reverse]; exact zx,acc'.toList,c',rv,by simpa using hS'⟩
end
end L2
namespace L2
open PySem PySem.Spec PyProof.Rows
section
variable {X:Cx} {K:PySem.W.Frag}
theorem ix_listK (hK:X.K=K):IxR X (rIxL K):=by subst hK; exact ix_list
theorem call_len_seqK (hK:X.K=K):CallR X (.builtin "len") (fun xs H Q=>∃ p ys,xs=[.ref p]∧(SqL K H p ys∨SqT K H p ys)∧Q (.int ys.length) H):=by subst hK; exact call_len_seq
theorem call_list_ofK (hK:X.K=K):CallR X (.type "list") (fun xs H Q=>∃ p ys,xs=[.ref p]∧(SqL K H p ys∨SqT K H p ys)∧∀ l,H l=none→Q (.ref l) (upd H l (.lst ys))):=by subst hK; exact call_list_of
theorem op_eqDK (hK:X.K=K) (hu:X.A.units + 64 < cLine):OpR X (compareOp .Eq) (rEqD K false):=by subst hK; exact op_eqD hu
theorem sl_listK (hK:X.K=K):SlR X (rSlL K):=by subst hK; exact sl_list
theorem op_in_seqK (hK:X.K=K):OpR X (compareOp .In) (rIn K false):=by subst hK; exact op_in_seq
theorem op_notIn_seqK (hK:X.K=K):OpR X (compareOp .NotIn) (rIn K true):=by subst hK; exact op_notIn_seq
theorem pg_tupK {es:List Expr} {k:Nat} {t:TGs} {n:Nat} {pos:Pos} (hK:X.K=K) (hc:X.calm=true) (h:PGs X es t)
    (hn:(assignEach es X.env).length=n:=by rfl) (hst:(assignEach es X.env).findIdx? (·.1)=none:=by rfl):PG X (.Tuple es k pos) (gTup K n t):=by subst hK; exact pg_tup hc h hn hst
end
end L2
namespace L2
open PySem PySem.Spec PyProof.Rows PySem.SeqAt
section
variable {X:Cx} {K:PySem.W.Frag}
def rEqS (K:PySem.W.Frag):R2:=fun x y H Q=>∃ d,Dp K H x d∧Dp K H y d∧shaped d=true∧Q (.bl true) H
def rNeS (K:PySem.W.Frag):R2:=fun x y H Q=>∃ d,Dp K H x d∧Dp K H y d∧shaped d=true∧Q (.bl false) H
theorem op_eqS (hu:X.A.units + 64 < cLine):OpR X (compareOp .Eq) (rEqS X.K):=by
  intro pins s σ H x y v u Q I rx ry h
  obtain ⟨d,h1,h2,z,q⟩:=h
  obtain ⟨as,ra⟩:=h1.reads I rx
  obtain ⟨bs,rb⟩:=h2.reads I ry
  refine eq_dataH ra rb z z hu ?_
  rw [eqv_refl d (canLay_of_shaped z)]
  exact ⟨.bl true,H,I,rfl,q⟩
theorem op_neS (hu:X.A.units + 64 < cLine):OpR X (compareOp .NotEq) (rNeS X.K):=by
  intro pins s σ H x y v u Q I rx ry h
  obtain ⟨d,h1,h2,z,q⟩:=h
  obtain ⟨as,ra⟩:=h1.reads I rx
  obtain ⟨bs,rb⟩:=h2.reads I ry
  refine ne_dataH ra rb z z hu ?_
  rw [eqv_refl d (canLay_of_shaped z)]
  exact ⟨.bl false,H,I,rfl,q⟩
theorem op_eqSK (hK:X.K=K) (hu:X.A.units + 64 < cLine):OpR X (compareOp .Eq) (rEqS K):=by subst hK; exact op_eqS hu
theorem op_neSK (hK:X.K=K) (hu:X.A.units + 64 < cLine):OpR X (compareOp .NotEq) (rNeS K):=by subst hK; exact op_neS hu
end
end L2
namespace L2
open PySem PySem.Spec PyProof.Rows
section
end
end L2
namespace Cm
open PySem L2
theorem take_succ {α:Type} {xs:List α} {i:Nat} {x:α} (h:xs[i]?=some x):xs.take (i + 1)=xs.take i ++ [x]:=by
  rw [List.take_add_one,h]; rfl
theorem callee {P:Program} {w:World} {K:PySem.W.Frag} {mg:Str→Option Value} {base:Heap} {x:Str} {st:Stmt} {f:Addr} {fd:FuncData} {ps:List Str} {k:Nat} {sp:Sp} (F:Fun K x x st f fd) (hm:mg x=some (.ref f)) (hb:Binds K fd ps []) (G:FnOk P w K mg base CX0 k f fd ps sp) :
    Callee P w K mg base CX0 x ps k sp:=⟨f,fd,G,hm,F.kp,hb⟩
structure At (K:PySem.W.Frag) (x:Str) (st:Stmt) (f:Addr) (fd:FuncData):Prop where
  ns:PySem.W.nsIn K mainGlobals x=some (some (.ref f))
  fn:Fun K x x st f fd
theorem top_mk {K:PySem.W.Frag} {x:Str} {st:Stmt} {f:Addr} {oc:Value} {od an:Option Addr} {osl:Array (Option Value)} {kV doc pm cdv ct:Value} (a:PySem.W.nsIn K mainGlobals x=some (some (.ref f)))
    (l:K.lookup f=some ⟨oc,od,.func (PySem.W.fnOf x x (defArgs st) (defBody st) (defScope st) .none kV doc pm an cdv ct),osl⟩) (c:PySem.W.codeIn K cdv x=true) (k:PySem.W.keepIn K (.ref f)=true):∃ f fd,At K x st f fd:=⟨f,_,a,fun_mk l c k⟩
end Cm
namespace PD
open PySem L2
variable {K:PySem.W.Frag}
theorem Same.seqT {H H':Hp} {a:Addr} {xs:List V} (e:Same H H') (h:SqT K H a xs):SqT K H' a xs:=by
  rcases h with (h | ⟨o,h⟩) | h
  · exact .inl (.inl (e _ _ h))
  · exact .inl (.inr ⟨o,e _ _ h⟩)
  · exact .inr h
mutual
theorem dp_same {F F':Hp} (e:Same F F'):∀ {v:V} {d:PyData},Dp K F v d→Dp K F' v d
  | _,_,.non=>.non
  | _,_,.bl b=>.bl b
  | _,_,.int i=>.int i
  | _,_,.str x=>.str x
  | _,_,.lst h k=>.lst (e.seq h) (dpAll_same e k)
  | _,_,.tup h k=>.tup (Same.seqT e h) (dpAll_same e k)
theorem dpAll_same {F F':Hp} (e:Same F F'):∀ {vs:List V} {ds:List PyData},DpAll K F vs ds→DpAll K F' vs ds
  | _,_,.nil=>.nil
  | _,_,.cons h k=>.cons (dp_same e h) (dpAll_same e k)
end
theorem DpAll.length {F:Hp}:∀ {vs:List V} {ds:List PyData},DpAll K F vs ds→vs.length=ds.length
  | _,_,.nil=>rfl
  | _,_,.cons _ k=>congrArg (· + 1) (DpAll.length k)
theorem DpAll.get {F:Hp}:∀ {vs:List V} {ds:List PyData} {i:Nat} {d:PyData},DpAll K F vs ds→ds[i]?=some d→∃ v,vs[i]?=some v∧Dp K F v d
  | _,_,_,_,.nil,e=>by simp at e
  | _,_,0,_,.cons h _,e=>by simp at e; subst e; exact ⟨_,rfl,h⟩
  | _,_,i + 1,d,.cons _ k,e=>by
    obtain ⟨v,h1,h2⟩:=DpAll.get (i:=i) k (by simpa using e)
    exact ⟨v,by simpa using h1,h2⟩
theorem dpAll_ints {F:Hp} (ns:List Int):DpAll K F (ns.map V.int) (ns.map PyData.int):=dp_ints ns
theorem dpAll_of_ints {F:Hp}:∀ {vs:List V} {ns:List Int},DpAll K F vs (ns.map PyData.int)→vs=ns.map V.int
  | _,[],.nil=>rfl
  | _,n :: r,.cons h t=>by cases h; rw [List.map_cons,dpAll_of_ints t]
theorem dp_int {F:Hp} {v:V} {i:Int} (h:Dp K F v (.int i)):v=.int i:=by cases h; rfl
theorem dp_bl {F:Hp} {v:V} {b:Bool} (h:Dp K F v (.bool b)):v=.bl b:=by cases h; rfl
structure Gr (H F H' F':Hp):Prop where
  h:Same H H'
  f:Same F F'
  le:Same F' H'
  ap:∀ a o,H a=some o→F a=none→F' a=none
theorem Gr.refl {H F:Hp} (le:Same F H):Gr H F H F:=⟨.refl _,.refl _,le,fun _ _ _ h=>h⟩
theorem Gr.trans {H F H1 F1 H2 F2:Hp} (a:Gr H F H1 F1) (b:Gr H1 F1 H2 F2):Gr H F H2 F2:=⟨a.h.trans b.h,a.f.trans b.f,b.le,fun c o q n=>b.ap c o (a.h _ _ q) (a.ap c o q n)⟩
theorem Gr.new {H F:Hp} {p:Addr} (le:Same F H) (hp:H p=none) (o:HO):Gr H F (upd H p o) (upd F p o):=by
  have fp:F p=none:=le.free hp
  refine ⟨Same.new hp o,Same.new fp o,fun b u q=>?_,fun b u q n=>?_⟩
  · by_cases e:b=p
    · subst e; rw [upd_same] at q ⊢; exact q
    · rw [upd_ne e] at q ⊢; exact le _ _ q
  · rw [upd_ne (ne_of_none q hp)]; exact n
theorem Gr.newO {H F:Hp} {p:Addr} (le:Same F H) (hp:H p=none) (o:HO):Gr H F (upd H p o) F:=⟨Same.new hp o,.refl _,fun b u q=>by rw [upd_ne (ne_of_none (le _ _ q) hp)]; exact le _ _ q,fun _ _ _ n=>n⟩
inductive Sx where
  | fresh | spoil (T:Addr→Prop)
def Sx.has (S:Sx) (H0:Hp) (a:Addr):Prop:=match S with | .fresh=>H0 a≠none | .spoil T=>H0 a≠none∨T a
def LN (K:PySem.W.Frag) (κ:Bool) (S:Sx) (H0 F:Hp) (a:Addr) (xs:List V):Prop:=match κ with
  | true=>F a=some (.lst xs)∧¬ S.has H0 a
  | false=>SqL K F a xs
theorem LN.sq {κ:Bool} {S:Sx} {H0 F:Hp} {a:Addr} {xs:List V} (h:LN K κ S H0 F a xs):SqL K F a xs:=by
  cases κ with
  | true=>exact SqL.of h.1
  | false=>exact h
theorem LN.mono {κ:Bool} {S:Sx} {H0 F F':Hp} {a:Addr} {xs:List V} (h:LN K κ S H0 F a xs) (e:Same F F'):LN K κ S H0 F' a xs:=by
  cases κ with
  | true=>exact ⟨e _ _ h.1,h.2⟩
  | false=>exact e.seq h
theorem LN.new {κ:Bool} {S:Sx} {H0 F:Hp} {a:Addr} {xs:List V} (h:¬ S.has H0 a):LN K κ S H0 (upd F a (.lst xs)) a xs:=by
  cases κ with
  | true=>exact ⟨upd_same,h⟩
  | false=>exact SqL.of upd_same
mutual
inductive Rp (K:PySem.W.Frag) (κ:Bool) (S:Sx) (H0 F:Hp):V→PyData→Prop
  | non:Rp K κ S H0 F .non .none
  | bl (b:Bool):Rp K κ S H0 F (.bl b) (.bool b)
  | int (i:Int):Rp K κ S H0 F (.int i) (.int i)
  | str (x:Str):Rp K κ S H0 F (.str x) (.str x)
  | lst {a:Addr} {xs:List V} {ds:List PyData}:LN K κ S H0 F a xs→RpAll K κ S H0 F xs ds→Rp K κ S H0 F (.ref a) (.list ds)
  | tup {a:Addr} {xs:List V} {ds:List PyData}:SqT K F a xs→RpAll K κ S H0 F xs ds→Rp K κ S H0 F (.ref a) (.tuple ds)
inductive RpAll (K:PySem.W.Frag) (κ:Bool) (S:Sx) (H0 F:Hp):List V→List PyData→Prop
  | nil:RpAll K κ S H0 F [] []
  | cons {v:V} {vs:List V} {d:PyData} {ds:List PyData}:Rp K κ S H0 F v d→RpAll K κ S H0 F vs ds→RpAll K κ S H0 F (v :: vs) (d :: ds)
end
section
variable {κ κ':Bool} {S S':Sx} {H0 H0' F F':Hp}
mutual
theorem rp_map (hl:∀ a xs,LN K κ S H0 F a xs→LN K κ' S' H0' F' a xs) (ht:∀ a xs,SqT K F a xs→SqT K F' a xs):∀ {v:V} {d:PyData},Rp K κ S H0 F v d→Rp K κ' S' H0' F' v d
  | _,_,.non=>.non
  | _,_,.bl b=>.bl b
  | _,_,.int i=>.int i
  | _,_,.str x=>.str x
  | _,_,.lst h k=>.lst (hl _ _ h) (rpAll_map hl ht k)
  | _,_,.tup h k=>.tup (ht _ _ h) (rpAll_map hl ht k)
theorem rpAll_map (hl:∀ a xs,LN K κ S H0 F a xs→LN K κ' S' H0' F' a xs) (ht:∀ a xs,SqT K F a xs→SqT K F' a xs):∀ {vs:List V} {ds:List PyData},RpAll K κ S H0 F vs ds→RpAll K κ' S' H0' F' vs ds
  | _,_,.nil=>.nil
  | _,_,.cons h k=>.cons (rp_map hl ht h) (rpAll_map hl ht k)
end
theorem rp_mono (e:Same F F') {v:V} {d:PyData} (h:Rp K κ S H0 F v d):Rp K κ S H0 F' v d:=rp_map (fun _ _ z=>z.mono e) (fun _ _ z=>Same.seqT e z) h
theorem rpAll_mono (e:Same F F') {vs:List V} {ds:List PyData} (h:RpAll K κ S H0 F vs ds):RpAll K κ S H0 F' vs ds:=rpAll_map (fun _ _ z=>z.mono e) (fun _ _ z=>Same.seqT e z) h
mutual
theorem rp_dp:∀ {v:V} {d:PyData},Rp K κ S H0 F v d→Dp K F v d
  | _,_,.non=>.non
  | _,_,.bl b=>.bl b
  | _,_,.int i=>.int i
  | _,_,.str x=>.str x
  | _,_,.lst h k=>.lst h.sq (rpAll_dp k)
  | _,_,.tup h k=>.tup h (rpAll_dp k)
theorem rpAll_dp:∀ {vs:List V} {ds:List PyData},RpAll K κ S H0 F vs ds→DpAll K F vs ds
  | _,_,.nil=>.nil
  | _,_,.cons h k=>.cons (rp_dp h) (rpAll_dp k)
end
mutual
theorem dp_rp:∀ {v:V} {d:PyData},Dp K F v d→Rp K false S H0 F v d
  | _,_,.non=>.non
  | _,_,.bl b=>.bl b
  | _,_,.int i=>.int i
  | _,_,.str x=>.str x
  | _,_,.lst h k=>.lst h (dpAll_rp k)
  | _,_,.tup h k=>.tup h (dpAll_rp k)
theorem dpAll_rp:∀ {vs:List V} {ds:List PyData},DpAll K F vs ds→RpAll K false S H0 F vs ds
  | _,_,.nil=>.nil
  | _,_,.cons h k=>.cons (dp_rp h) (dpAll_rp k)
end
theorem rp_weak (hk:κ'=true→κ=true) {v:V} {d:PyData} (h:Rp K κ S H0 F v d):Rp K κ' S H0 F v d:=by
  cases κ' with
  | false=>exact dp_rp (rp_dp h)
  | true=>rw [hk rfl] at h; exact h
theorem RpAll.length {vs:List V} {ds:List PyData} (h:RpAll K κ S H0 F vs ds):vs.length=ds.length:=DpAll.length (rpAll_dp h)
theorem RpAll.get:∀ {vs:List V} {ds:List PyData} {i:Nat} {d:PyData},RpAll K κ S H0 F vs ds→ds[i]?=some d→∃ v,vs[i]?=some v∧Rp K κ S H0 F v d
  | _,_,_,_,.nil,e=>by simp at e
  | _,_,0,_,.cons h _,e=>by simp at e; subst e; exact ⟨_,rfl,h⟩
  | _,_,i + 1,d,.cons _ k,e=>by
    obtain ⟨v,h1,h2⟩:=RpAll.get (i:=i) k (by simpa using e)
    exact ⟨v,by simpa using h1,h2⟩
theorem RpAll.get':∀ {vs:List V} {ds:List PyData} {i:Nat} {v:V},RpAll K κ S H0 F vs ds→vs[i]?=some v→∃ d,ds[i]?=some d∧Rp K κ S H0 F v d
  | _,_,_,_,.nil,e=>by simp at e
  | _,_,0,_,.cons h _,e=>by simp at e; subst e; exact ⟨_,rfl,h⟩
  | _,_,i + 1,d,.cons _ k,e=>by
    obtain ⟨v,h1,h2⟩:=RpAll.get' (i:=i) k (by simpa using e)
    exact ⟨v,by simpa using h1,h2⟩
theorem RpAll.append:∀ {vs ws:List V} {ds es:List PyData},RpAll K κ S H0 F vs ds→RpAll K κ S H0 F ws es→RpAll K κ S H0 F (vs ++ ws) (ds ++ es)
  | _,_,_,_,.nil,k=>k
  | _,_,_,_,.cons h t,k=>.cons h (RpAll.append t k)
theorem RpAll.take:∀ {vs:List V} {ds:List PyData} (n:Nat),RpAll K κ S H0 F vs ds→RpAll K κ S H0 F (vs.take n) (ds.take n)
  | _,_,0,_=>.nil
  | _,_,_ + 1,.nil=>.nil
  | _,_,n + 1,.cons h t=>.cons h (RpAll.take n t)
theorem RpAll.drop:∀ {vs:List V} {ds:List PyData} (n:Nat),RpAll K κ S H0 F vs ds→RpAll K κ S H0 F (vs.drop n) (ds.drop n)
  | _,_,0,r=>r
  | _,_,_ + 1,.nil=>.nil
  | _,_,n + 1,.cons _ t=>RpAll.drop n t
theorem RpAll.set {v:V} {d:PyData} (h:Rp K κ S H0 F v d):∀ {vs:List V} {ds:List PyData} (n:Nat),RpAll K κ S H0 F vs ds→RpAll K κ S H0 F (vs.set n v) (ds.set n d)
  | _,_,_,.nil=>.nil
  | _,_,0,.cons _ t=>.cons h t
  | _,_,n + 1,.cons q t=>.cons q (RpAll.set h n t)
theorem RpAll.reverse:∀ {vs:List V} {ds:List PyData},RpAll K κ S H0 F vs ds→RpAll K κ S H0 F vs.reverse ds.reverse
  | _,_,.nil=>.nil
  | _,_,.cons h t=>by
    rw [List.reverse_cons,List.reverse_cons]
    exact RpAll.append (RpAll.reverse t) (.cons h .nil)
theorem rp_int {v:V} {i:Int} (h:Rp K κ S H0 F v (.int i)):v=.int i:=by cases h; rfl
theorem rp_bl {v:V} {b:Bool} (h:Rp K κ S H0 F v (.bool b)):v=.bl b:=by cases h; rfl
theorem rp_lst {v:V} {ds:List PyData} (h:Rp K κ S H0 F v (.list ds)):∃ a vs,v=.ref a∧LN K κ S H0 F a vs∧RpAll K κ S H0 F vs ds:=by cases h with | lst h k=>exact ⟨_,_,rfl,h,k⟩
theorem rp_tup {v:V} {ds:List PyData} (h:Rp K κ S H0 F v (.tuple ds)):∃ a vs,v=.ref a∧SqT K F a vs∧RpAll K κ S H0 F vs ds:=by cases h with | tup h k=>exact ⟨_,_,rfl,h,k⟩
end
def imm:PyData→Bool
  | .none=>true
  | .bool _=>true
  | .int _=>true
  | .str _=>true
  | .tuple ds=>immAll ds
  | _=>false
where immAll:List PyData→Bool
  | []=>true
  | d :: r=>imm d && immAll r
mutual
theorem dp_imm {κ:Bool} {S:Sx} {H0 F:Hp}:∀ {v:V} {d:PyData},imm d=true→Dp K F v d→Rp K κ S H0 F v d
  | _,_,_,.non=>.non
  | _,_,_,.bl b=>.bl b
  | _,_,_,.int i=>.int i
  | _,_,_,.str x=>.str x
  | _,_,h,.lst _ _=>by unfold imm at h; cases h
  | _,_,h,.tup q k=>.tup q (dpAll_imm (by unfold imm at h; exact h) k)
theorem dpAll_imm {κ:Bool} {S:Sx} {H0 F:Hp}:∀ {vs:List V} {ds:List PyData},imm.immAll ds=true→DpAll K F vs ds→RpAll K κ S H0 F vs ds
  | _,_,_,.nil=>.nil
  | _,_,h,.cons p k=>by
    unfold imm.immAll at h
    rw [Bool.and_eq_true] at h
    exact .cons (dp_imm h.1 p) (dpAll_imm h.2 k)
end
theorem dpAll_immL {κ:Bool} {S:Sx} {H0 F:Hp} {vs:List V} {ds:List PyData} (h:∀ d∈ds,imm d=true) (k:DpAll K F vs ds):RpAll K κ S H0 F vs ds:=by
  refine dpAll_imm ?_ k
  clear k
  induction ds with
  | nil=>rfl
  | cons d r ih =>
    unfold imm.immAll
    rw [h d List.mem_cons_self,ih fun x hx=>h x (List.mem_cons_of_mem _ hx)]
    rfl
inductive DV where
  | fz (κ:Bool) (d:PyData) | ow (κ:Bool) (ds:List PyData) | tn (d:PyData) | ox | o2 (r:Option Addr) (dss:List (List PyData)) | fn (a:Addr) | xn (o:Addr→HO) | oa (a:Addr) (κ:Bool) (ds:List PyData) | xp (φ:Hp→V→Prop) | od (o:HO) | og (ad:Hp→V→Addr→Prop) (ψ:Sx→Hp→Hp→Hp→V→Prop)
abbrev Ctx:=List (Option DV)
structure OwnO (S:Sx) (H0 H F:Hp) (a:Addr) (o:HO):Prop where
  h:H a=some o
  f:F a=none
  n:H0 a=none
  s:¬ S.has H0 a
abbrev OwnAt (S:Sx) (H0 H F:Hp) (a:Addr) (vs:List V):Prop:=OwnO S H0 H F a (.lst vs)
structure IdA (r:Option Addr) (v:V) (a:Addr):Prop where
  eq:v=.ref a
  id:∀ b,r=some b→a=b
structure GOk (ad:Hp→V→Addr→Prop) (ψ:Sx→Hp→Hp→Hp→V→Prop):Prop where
  pl:∀ H H' v,(∀ a,ad H v a→H' a=H a)→∀ a,ad H' v a↔ad H v a
  ps:∀ S H0 H H' F F' v,(∀ a,ad H v a→H' a=H a)→Same F F'→ψ S H0 H F v→ψ S H0 H' F' v
def HasV (K:PySem.W.Frag) (S:Sx) (H0 H F:Hp) (v:V):DV→Prop
  | .fz κ d=>Rp K κ S H0 F v d
  | .ow κ ds=>∃ a vs,v=.ref a∧OwnAt S H0 H F a vs∧RpAll K κ S H0 F vs ds
  | .tn d=>∃ T,S=.spoil T∧Rp K true (.spoil fun a=>¬ T a) (fun _=>none) F v d
  | .ox=>∃ a vs,v=.ref a∧OwnAt S H0 H F a vs
  | .fn a=>v=.ref a
  | .xn o=>∃ a,v=.ref a∧F a=some (o a)
  | .oa a κ ds=>v=.ref a∧∃ vs,OwnAt S H0 H F a vs∧RpAll K κ S H0 F vs ds
  | .xp φ=>∃ F1,Same F1 F∧φ F1 v
  | .od o=>∃ a,v=.ref a∧OwnO S H0 H F a o
  | .og ad ψ=>GOk ad ψ∧(∀ a,ad H v a→∃ o,OwnO S H0 H F a o)∧ψ S H0 H F v
  | .o2 r dss=>∃ a vs,IdA r v a∧OwnAt S H0 H F a vs∧V.ref a∉vs∧vs.Nodup∧vs.length=dss.length∧∀ (j:Nat) x,vs[j]?=some x→∃ b us ds,x=.ref b∧OwnAt S H0 H F b us∧dss[j]?=some ds∧RpAll K true S H0 F us ds
def Owns (H:Hp) (v:V):DV→Addr→Prop
  | .ow _ _,a=>v=.ref a
  | .ox,a=>v=.ref a
  | .oa _ _ _,a=>v=.ref a
  | .od _,a=>v=.ref a
  | .og ad _,a=>ad H v a
  | .o2 _ _,a=>v=.ref a∨∃ p vs,v=.ref p∧H p=some (.lst vs)∧V.ref a∈vs
  | _,_=>False
structure DEnv (K:PySem.W.Frag) (S:Sx) (H0 F0 H F:Hp) (σ:St) (Γ:Ctx):Prop where
  gr:Gr H0 F0 H F
  l0:Same F0 H0
  sd:∀ a,S.has H0 a→∃ o,H a=some o
  s0:∀ T,S=.spoil T→∀ a,T a→H0 a=none
  len:σ.length=Γ.length
  has:∀ (i:Nat) (x:DV),Γ[i]?=some (some x)→∃ v,σ[i]?=some (some v)∧HasV K S H0 H F v x
  ne:∀ (i j:Nat) (x y:DV) (v w:V) (a:Addr),Γ[i]?=some (some x)→Γ[j]?=some (some y)→σ[i]?=some (some v)→σ[j]?=some (some w)→Owns H v x a→Owns H w y a→i=j
variable {S:Sx} {κ:Bool}
theorem DEnv.le {H0 F0 H F:Hp} {σ:St} {Γ:Ctx} (e:DEnv K S H0 F0 H F σ Γ):Same F H:=e.gr.le
theorem DEnv.out {H0 F0 H F:Hp} {σ:St} {Γ:Ctx} (e:DEnv K S H0 F0 H F σ Γ) {p:Addr} (hp:H p=none):¬ S.has H0 p:=fun c=>by
  obtain ⟨o,q⟩:=e.sd p c
  rw [hp] at q; cases q
theorem OwnO.mono {H0 H F H' F':Hp} {a:Addr} {u:HO} (o:OwnO S H0 H F a u) (g:Gr H F H' F'):OwnO S H0 H' F' a u:=⟨g.h _ _ o.h,g.ap _ _ o.h o.f,o.n,o.s⟩
theorem HasV.mono {H0 H F H' F':Hp} {v:V} {x:DV} (h:HasV K S H0 H F v x) (g:Gr H F H' F'):HasV K S H0 H' F' v x:=by
  cases x with
  | fz κ d=>exact rp_mono g.f h
  | ow κ ds=>obtain ⟨a,vs,e,o,k⟩:=h; exact ⟨a,vs,e,o.mono g,rpAll_mono g.f k⟩
  | tn d=>obtain ⟨T,e,k⟩:=h; exact ⟨T,e,rp_mono g.f k⟩
  | ox=>obtain ⟨a,vs,e,o⟩:=h; exact ⟨a,vs,e,o.mono g⟩
  | o2 r dss =>
    obtain ⟨a,vs,e,o,n1,n2,l,k⟩:=h
    refine ⟨a,vs,e,o.mono g,n1,n2,l,fun j x hx=>?_⟩
    obtain ⟨b,us,ds,e2,o2,h2,k2⟩:=k j x hx
    exact ⟨b,us,ds,e2,o2.mono g,h2,rpAll_mono g.f k2⟩
  | fn a=>exact h
  | xn φ=>obtain ⟨a,e,k⟩:=h; exact ⟨a,e,g.f _ _ k⟩
  | oa a κ ds=>obtain ⟨e,vs,o,k⟩:=h; exact ⟨e,vs,o.mono g,rpAll_mono g.f k⟩
  | xp φ=>obtain ⟨F1,s,k⟩:=h; exact ⟨F1,s.trans g.f,k⟩
  | od u=>obtain ⟨a,e,o⟩:=h; exact ⟨a,e,o.mono g⟩
  | og ad ψ =>
    obtain ⟨ok,w,p⟩:=h
    have eq:∀ a,ad H v a→H' a=H a:=fun a z=>by
      obtain ⟨o,y⟩:=w a z
      rw [y.h]
      exact g.h _ _ y.h
    refine ⟨ok,fun a z=>?_,ok.ps S H0 H H' F F' v eq g.f p⟩
    obtain ⟨o,y⟩:=w a ((ok.pl H H' v eq a).mp z)
    exact ⟨o,y.mono g⟩
theorem HasV.owns {H0 H F:Hp} {v:V} {x:DV} {a:Addr} (h:HasV K S H0 H F v x) (o:Owns H v x a):∃ u,OwnO S H0 H F a u:=by
  cases x with
  | fz _ _=>exact o.elim
  | tn _=>exact o.elim
  | ow κ ds=>obtain ⟨b,vs,e,w,_⟩:=h; cases (show v=.ref a from o); cases e; exact ⟨_,w⟩
  | ox=>obtain ⟨b,vs,e,w⟩:=h; cases (show v=.ref a from o); cases e; exact ⟨_,w⟩
  | o2 r dss =>
    obtain ⟨b,vs,e,w,_,_,_,k⟩:=h
    rcases o with o | ⟨p,us,e2,hp,hm⟩
    · cases o; cases e.eq; exact ⟨_,w⟩
    · cases e.eq
      cases e2
      have hw:=w.h
      rw [hp] at hw
      cases hw
      obtain ⟨j,hj⟩:=List.mem_iff_getElem?.mp hm
      obtain ⟨c,ws,ds,e3,o3,_⟩:=k j _ hj
      cases e3
      exact ⟨_,o3⟩
  | fn _=>exact o.elim
  | xn _=>exact o.elim
  | oa b κ ds=>obtain ⟨e,vs,w,_⟩:=h; cases (show v=.ref a from o); cases e; exact ⟨_,w⟩
  | xp _=>exact o.elim
  | od u=>obtain ⟨b,e,w⟩:=h; cases (show v=.ref a from o); cases e; exact ⟨u,w⟩
  | og ad ψ=>exact h.2.1 a o
theorem Owns.back {H0 H F H':Hp} {v:V} {x:DV} {a:Addr} (h:HasV K S H0 H F v x) (g:∀ b u,OwnO S H0 H F b u→H' b=some u) (o:Owns H' v x a):Owns H v x a:=by
  cases x with
  | fz _ _=>exact o.elim
  | tn _=>exact o.elim
  | ow κ ds=>exact o
  | ox=>exact o
  | o2 r dss =>
    rcases o with o | ⟨p,us,e2,hp,hm⟩
    · exact .inl o
    · obtain ⟨b,vs,e',w,_⟩:=h
      have e:=e'.eq
      rw [e2] at e
      cases e
      rw [g _ _ w] at hp
      cases hp
      exact .inr ⟨p,_,e2,w.h,hm⟩
  | fn _=>exact o.elim
  | xn _=>exact o.elim
  | oa b κ ds=>exact o
  | xp _=>exact o.elim
  | od _=>exact o
  | og ad ψ =>
    obtain ⟨ok,w,p⟩:=h
    exact (ok.pl H H' v (fun b z=>by
      obtain ⟨u,y⟩:=w b z
      rw [g _ _ y,y.h]) a).mp o
theorem DEnv.mono {H0 F0 H F H' F':Hp} {σ:St} {Γ:Ctx} (e:DEnv K S H0 F0 H F σ Γ) (g:Gr H F H' F'):DEnv K S H0 F0 H' F' σ Γ where
  gr:=e.gr.trans g
  l0:=e.l0
  sd:=fun a h=>let ⟨o,q⟩:=e.sd a h; ⟨o,g.h _ _ q⟩
  s0:=e.s0
  len:=e.len
  has:=fun i x h=>let ⟨v,a,b⟩:=e.has i x h; ⟨v,a,b.mono g⟩
  ne:=fun i j x y v w a h1 h2 h3 h4 o1 o2=>by
    obtain ⟨v',q1,q2⟩:=e.has i x h1
    obtain ⟨w',q3,q4⟩:=e.has j y h2
    rw [h3] at q1
    cases q1
    rw [h4] at q3
    cases q3
    exact e.ne i j x y v w a h1 h2 h3 h4 (o1.back q2 fun _ _ z=>g.h _ _ z.h) (o2.back q4 fun _ _ z=>g.h _ _ z.h)
section
variable {Γ:Ctx}
def EvE (K:PySem.W.Frag) (S:Sx) (κ:Bool) (t:TE) (Γ:Ctx) (d:PyData):Prop:=∀ (H0 F0 H F:Hp) (σ:St),DEnv K S H0 F0 H F σ Γ→∀ Q:VK,(∀ v H' F',Gr H F H' F'→Rp K κ S H0 F' v d→Q v H')→t σ H Q
def EvO (K:PySem.W.Frag) (S:Sx) (κ:Bool) (t:TE) (Γ:Ctx) (ds:List PyData):Prop:=∀ (H0 F0 H F:Hp) (σ:St),DEnv K S H0 F0 H F σ Γ→∀ Q:VK,(∀ a vs H' F',Gr H F H' F'→H a=none→H' a=some (.lst vs)→F' a=none→RpAll K κ S H0 F' vs ds→Q (.ref a) H')→t σ H Q
def EvL (K:PySem.W.Frag) (S:Sx) (κ:Bool) (t:TE) (Γ:Ctx) (ds:List PyData):Prop:=∀ (H0 F0 H F:Hp) (σ:St),DEnv K S H0 F0 H F σ Γ→∀ Q:VK,(∀ a vs H' F',Gr H F H' F'→SqL K H' a vs→RpAll K κ S H0 F' vs ds→Q (.ref a) H')→t σ H Q
def EvD (K:PySem.W.Frag) (S:Sx) (t:TE) (Γ:Ctx) (d:PyData):Prop:=∀ (H0 F0 H F:Hp) (σ:St),DEnv K S H0 F0 H F σ Γ→∀ Q:VK,(∀ v H' F',Gr H F H' F'→Dp K H' v d→Q v H')→t σ H Q
def EvT (K:PySem.W.Frag) (S:Sx) (t:TT) (Γ:Ctx) (b:Bool):Prop:=∀ (H0 F0 H F:Hp) (σ:St),DEnv K S H0 F0 H F σ Γ→∀ Q:Bool→Hp→Prop,(∀ H' F',Gr H F H' F'→Q b H')→t σ H Q
def EvA (K:PySem.W.Frag) (S:Sx) (κ:Bool) (t:TA) (Γ:Ctx) (ds:List PyData):Prop:=∀ (H0 F0 H F:Hp) (σ:St),DEnv K S H0 F0 H F σ Γ→∀ Q:List V→Hp→Prop,(∀ vs H' F',Gr H F H' F'→RpAll K κ S H0 F' vs ds→Q vs H')→t σ H Q
def EvP (K:PySem.W.Frag) (S:Sx) (t:TO) (Γ:Ctx) (o:Option Int):Prop:=∀ (H0 F0 H F:Hp) (σ:St),DEnv K S H0 F0 H F σ Γ→∀ Q:Option Int→Hp→Prop,(∀ H' F',Gr H F H' F'→Q o H')→t σ H Q
theorem EvE.toD {t:TE} {d:PyData} (h:EvE K S κ t Γ d):EvD K S t Γ d:=fun H0 F0 H F σ e Q q=>h H0 F0 H F σ e Q fun v H' F' g p=>q v H' F' g (dp_same g.le (rp_dp p))
theorem EvE.weak {κ':Bool} {t:TE} {d:PyData} (h:EvE K S κ t Γ d) (hk:κ'=true→κ=true):EvE K S κ' t Γ d:=fun H0 F0 H F σ e Q q=>h H0 F0 H F σ e Q fun v H' F' g p=>q v H' F' g (rp_weak hk p)
theorem EvE.imm {κ':Bool} {t:TE} {d:PyData} (h:EvE K S κ t Γ d) (hk:imm d=true):EvE K S κ' t Γ d:=fun H0 F0 H F σ e Q q=>h H0 F0 H F σ e Q fun v H' F' g p=>q v H' F' g (dp_imm hk (rp_dp p))
theorem EvE.toL {t:TE} {ds:List PyData} (h:EvE K S κ t Γ (.list ds)):EvL K S κ t Γ ds:=fun H0 F0 H F σ e Q q=>h H0 F0 H F σ e Q fun v H' F' g p=>by
  obtain ⟨a,vs,rfl,h1,h2⟩:=rp_lst p
  exact q a vs H' F' g (g.le.seq h1.sq) h2
theorem EvL.imm {κ':Bool} {t:TE} {ds:List PyData} (h:EvL K S κ t Γ ds) (hk:∀ d∈ds,imm d=true):EvL K S κ' t Γ ds:=fun H0 F0 H F σ e Q q=>h H0 F0 H F σ e Q fun a vs H' F' g p k=>q a vs H' F' g p (dpAll_immL hk (rpAll_dp k))
theorem EvO.toL {t:TE} {ds:List PyData} (h:EvO K S κ t Γ ds):EvL K S κ t Γ ds:=fun H0 F0 H F σ e Q q=>h H0 F0 H F σ e Q fun a vs H' F' g _ p _ k=>q a vs H' F' g (SqL.of p) k
theorem EvO.toE {t:TE} {ds:List PyData} (h:EvO K S κ t Γ ds):EvE K S κ t Γ (.list ds):=fun H0 F0 H F σ e Q q=>h H0 F0 H F σ e Q fun a vs H' F' g n p f k=>by
  have s:Same F' (upd F' a (.lst vs)):=Same.new f _
  refine q (.ref a) H' (upd F' a (.lst vs)) ⟨g.h,g.f.trans s,fun b u z=>?_,fun b u z y=>?_⟩ (.lst (LN.new (e.out n)) (rpAll_mono s k))
  · by_cases eb:b=a
    · subst eb; rw [upd_same] at z; rw [← z]; exact p
    · rw [upd_ne eb] at z; exact g.le _ _ z
  · rw [upd_ne (ne_of_none z n)]; exact g.ap _ _ z y
theorem evl_own {i:Nat} {ds:List PyData} (h:Γ[i]?=some (some (.ow κ ds))):EvL K S κ (tVar i) Γ ds:=fun H0 F0 H F σ e Q q=>by
  obtain ⟨v,h1,a,vs,rfl,o,k⟩:=e.has i _ h
  exact ⟨_,h1,q a vs H F (.refl e.le) (SqL.of o.h) k⟩
theorem ev_var {i:Nat} {d:PyData} (h:Γ[i]?=some (some (.fz κ d))):EvE K S κ (tVar i) Γ d:=fun H0 F0 H F σ e Q q=>by
  obtain ⟨v,hv,hd⟩:=e.has i _ h
  exact ⟨v,hv,q v H F (.refl e.le) hd⟩
theorem ev_int {i:Int}:EvE K S κ (tC (.int i)) Γ (.int i):=fun _ _ H F _ e _ q=>q _ H F (.refl e.le) (.int i)
theorem ev_bl {b:Bool}:EvE K S κ (tC (.bl b)) Γ (.bool b):=fun _ _ H F _ e _ q=>q _ H F (.refl e.le) (.bl b)
theorem ev_non:EvE K S κ (tC .non) Γ .none:=fun _ _ H F _ e _ q=>q _ H F (.refl e.le) .non
theorem ev_op {r:R2} {ta tb:TE} {x y d:PyData} (ha:EvE K S false ta Γ x) (hb:EvE K S false tb Γ y) (hr:∀ v w H F (Q:VK),Same F H→Dp K F v x→Dp K F w y→(∀ z,(∀ F,Dp K F z d)→Q z H)→r v w H Q) (hi:imm d=true:=by rfl):EvE K S κ (tOp r ta tb) Γ d:=fun H0 F0 H F σ e Q q =>
  ha H0 F0 H F σ e _ fun v H1 F1 g1 p1=>hb H0 F0 H1 F1 σ (e.mono g1) _ fun w H2 F2 g2 p2=>by
    exact hr v w H2 F2 Q g2.le (dp_same g2.f (rp_dp p1)) (rp_dp p2) fun z p3=>q z H2 F2 (g1.trans g2) (dp_imm hi (p3 F2))
theorem ev_I0 {g:Int→Int→V} {ta tb:TE} {i j:Int} {d:PyData} (hi:imm d=true) (hg:∀ F,Dp K F (g i j) d) (ha:EvE K S false ta Γ (.int i)) (hb:EvE K S false tb Γ (.int j)):EvE K S κ (tOp (rI0 g) ta tb) Γ d :=
  ev_op ha hb (fun v w H F Q le p1 p2 k=>by cases dp_int p1; cases dp_int p2; exact ⟨i,j,rfl,rfl,k _ hg⟩) hi
theorem ev_I {C:Int→Int→Prop} {g:Int→Int→V} {ta tb:TE} {i j:Int} {d:PyData} (hi:imm d=true) (hg:∀ F,Dp K F (g i j) d) (ha:EvE K S false ta Γ (.int i)) (hb:EvE K S false tb Γ (.int j)) (hc:C i j):EvE K S κ (tOp (rI C g) ta tb) Γ d :=
  ev_op ha hb (fun v w H F Q le p1 p2 k=>by cases dp_int p1; cases dp_int p2; exact ⟨i,j,rfl,rfl,hc,k _ hg⟩) hi
theorem ev_add {ta tb:TE} {i j:Int} (ha:EvE K S false ta Γ (.int i)) (hb:EvE K S false tb Γ (.int j)):EvE K S κ (tOp (rI0 fun i j=>.int (i + j)) ta tb) Γ (.int (i + j)):=ev_I0 rfl (fun _=>.int _) ha hb
theorem ev_sub {ta tb:TE} {i j:Int} (ha:EvE K S false ta Γ (.int i)) (hb:EvE K S false tb Γ (.int j)):EvE K S κ (tOp (rI0 fun i j=>.int (i - j)) ta tb) Γ (.int (i - j)):=ev_I0 rfl (fun _=>.int _) ha hb
theorem ev_lt {ta tb:TE} {i j:Int} (ha:EvE K S false ta Γ (.int i)) (hb:EvE K S false tb Γ (.int j)):EvE K S κ (tOp (rI0 fun i j=>.bl (decide (i < j))) ta tb) Γ (.bool (decide (i < j))):=ev_I0 rfl (fun _=>.bl _) ha hb
theorem ev_gt {ta tb:TE} {i j:Int} (ha:EvE K S false ta Γ (.int i)) (hb:EvE K S false tb Γ (.int j)):EvE K S κ (tOp (rI0 fun i j=>.bl (decide (j < i))) ta tb) Γ (.bool (decide (j < i))):=ev_I0 rfl (fun _=>.bl _) ha hb
theorem ev_ge {ta tb:TE} {i j:Int} (ha:EvE K S false ta Γ (.int i)) (hb:EvE K S false tb Γ (.int j)):EvE K S κ (tOp (rI0 fun i j=>.bl (decide (j≤i))) ta tb) Γ (.bool (decide (j≤i))):=ev_I0 rfl (fun _=>.bl _) ha hb
theorem ev_mul {ta tb:TE} {i j:Int} (ha:EvE K S false ta Γ (.int i)) (hb:EvE K S false tb Γ (.int j)) (hc:IntMulOk i j):EvE K S κ (tOp (rI IntMulOk fun i j=>.int (i * j)) ta tb) Γ (.int (i * j)):=ev_I rfl (fun _=>.int _) ha hb hc
theorem ev_fdiv {ta tb:TE} {i j:Int} (ha:EvE K S false ta Γ (.int i)) (hb:EvE K S false tb Γ (.int j)) (hc:CDiv i j):EvE K S κ (tOp (rI CDiv fun i j=>.int (i / j)) ta tb) Γ (.int (i / j)):=ev_I rfl (fun _=>.int _) ha hb hc
theorem ev_mod {ta tb:TE} {i j:Int} (ha:EvE K S false ta Γ (.int i)) (hb:EvE K S false tb Γ (.int j)) (hc:0 < j):EvE K S κ (tOp (rI (fun _ j=>0 < j) fun i j=>.int (i % j)) ta tb) Γ (.int (i % j)):=ev_I rfl (fun _=>.int _) ha hb hc
theorem ev_neg {ta:TE} {i:Int} (ha:EvE K S false ta Γ (.int i)):EvE K S κ (tUn (rU fun i=>.int (-i)) ta) Γ (.int (-i)):=fun H0 F0 H F σ e Q q =>
  ha H0 F0 H F σ e _ fun v H1 F1 g1 p1=>by cases rp_int p1; exact ⟨i,rfl,q _ H1 F1 g1 (.int _)⟩
theorem dec_int (i j:Int):decide (V.int i=V.int j)=decide (i=j):=by by_cases h:i=j <;> simp [h]
theorem ev_eqI {ta tb:TE} {i j:Int} (ha:EvE K S false ta Γ (.int i)) (hb:EvE K S false tb Γ (.int j)):EvE K S κ (tOp rEq ta tb) Γ (.bool (decide (i=j))) :=
  ev_op ha hb fun v w H F Q le p1 p2 k=>by
    cases dp_int p1; cases dp_int p2
    refine ⟨rfl,?_⟩
    rw [dec_int]; exact k _ fun _=>.bl _
theorem ev_neI {ta tb:TE} {i j:Int} (ha:EvE K S false ta Γ (.int i)) (hb:EvE K S false tb Γ (.int j)):EvE K S κ (tOp rNe ta tb) Γ (.bool (!(decide (i=j)))) :=
  ev_op ha hb fun v w H F Q le p1 p2 k=>by
    cases dp_int p1; cases dp_int p2
    refine ⟨rfl,?_⟩
    rw [dec_int]; exact k _ fun _=>.bl _
def isNone:PyData→Bool
  | .none=>true
  | _=>false
theorem isNone_v {F:Hp} {v:V} {d:PyData} (h:Dp K F v d):decide (v=.non)=isNone d:=by
  cases h <;> first | rfl | exact decide_eq_false (by intro e; cases e)
theorem ev_isN {ta:TE} {d:PyData} (ha:EvD K S ta Γ d):EvE K S κ (tOp (fun x y H Q=>y=.non∧Q (.bl (decide (x=.non))) H) ta (tC .non)) Γ (.bool (isNone d)):=fun H0 F0 H F σ e Q q =>
  ha H0 F0 H F σ e _ fun v H1 F1 g1 p1=>⟨rfl,by rw [isNone_v p1]; exact q _ H1 F1 g1 (.bl _)⟩
theorem ev_eqD {neg:Bool} {ta tb:TE} {d f:PyData} (ha:EvD K S ta Γ d) (hb:EvD K S tb Γ f) (z1:SeqAt.shaped d=true) (z2:SeqAt.shaped f=true):EvE K S κ (tOp (rEqD K neg) ta tb) Γ (.bool (if neg then !PyData.eqv d f else PyData.eqv d f)):=fun H0 F0 H F σ e Q q =>
  ha H0 F0 H F σ e _ fun v H1 F1 g1 p1=>hb H0 F0 H1 F1 σ (e.mono g1) _ fun w H2 F2 g2 p2=>⟨d,f,dp_same g2.h p1,p2,z1,z2,q _ H2 F2 (g1.trans g2) (.bl _)⟩
theorem ev_eqSm {ta tb:TE} {d:PyData} (ha:EvD K S ta Γ d) (hb:EvD K S tb Γ d) (z:SeqAt.shaped d=true):EvE K S κ (tOp (rEqS K) ta tb) Γ (.bool true):=fun H0 F0 H F σ e Q q =>
  ha H0 F0 H F σ e _ fun v H1 F1 g1 p1=>hb H0 F0 H1 F1 σ (e.mono g1) _ fun w H2 F2 g2 p2=>⟨d,dp_same g2.h p1,p2,z,q _ H2 F2 (g1.trans g2) (.bl _)⟩
theorem ev_neSm {ta tb:TE} {d:PyData} (ha:EvD K S ta Γ d) (hb:EvD K S tb Γ d) (z:SeqAt.shaped d=true):EvE K S κ (tOp (rNeS K) ta tb) Γ (.bool false):=fun H0 F0 H F σ e Q q =>
  ha H0 F0 H F σ e _ fun v H1 F1 g1 p1=>hb H0 F0 H1 F1 σ (e.mono g1) _ fun w H2 F2 g2 p2=>⟨d,dp_same g2.h p1,p2,z,q _ H2 F2 (g1.trans g2) (.bl _)⟩
theorem atI_dp {H0 F:Hp} {vs:List V} {ds:List PyData} {i:Int} {d:PyData} (k:RpAll K κ S H0 F vs ds) (h:atI ds i=some d):∃ v,atI vs i=some v∧Rp K κ S H0 F v d:=by
  unfold atI at h ⊢
  rw [RpAll.length k]
  cases e:ixN ds.length i with
  | none=>rw [e] at h; cases h
  | some j=>rw [e] at h; exact RpAll.get k h
theorem ev_ixL {ta tb:TE} {ds:List PyData} {i:Int} {d:PyData} (ha:EvL K S κ ta Γ ds) (hb:EvE K S false tb Γ (.int i)) (h:atI ds i=some d):EvE K S κ (tOp (rIxL K) ta tb) Γ d:=fun H0 F0 H F σ e Q q =>
  ha H0 F0 H F σ e _ fun a vs H1 F1 g1 p1 k1=>hb H0 F0 H1 F1 σ (e.mono g1) _ fun w H2 F2 g2 p2=>by
    cases rp_int p2
    obtain ⟨v,h1,h2⟩:=atI_dp (rpAll_mono g2.f k1) h
    exact ⟨a,vs,i,v,rfl,rfl,g2.h.seq p1,h1,q _ H2 F2 (g1.trans g2) h2⟩
theorem ev_and {ta tb:TE} {a b:Bool} (ha:EvE K S false ta Γ (.bool a)) (hb:a=true→EvE K S false tb Γ (.bool b)):EvE K S κ (tAndV ta tb) Γ (.bool (a && b)):=fun H0 F0 H F σ e Q q =>
  ha H0 F0 H F σ e _ fun v H1 F1 g1 p1=>by
    cases rp_bl p1
    refine ⟨a,rfl,?_⟩
    cases a with
    | true=>exact iteT (hb rfl H0 F0 H1 F1 σ (e.mono g1) Q fun v H2 F2 g2 p2=>by cases rp_bl p2; exact q _ H2 F2 (g1.trans g2) (.bl _))
    | false=>exact iteF (q _ H1 F1 g1 (.bl _))
theorem ev_not {ta:TE} {a:Bool} (ha:EvE K S false ta Γ (.bool a)):EvE K S κ (tNotV ta) Γ (.bool (!a)):=fun H0 F0 H F σ e Q q =>
  ha H0 F0 H F σ e _ fun v H1 F1 g1 p1=>by cases rp_bl p1; exact ⟨a,rfl,q _ H1 F1 g1 (.bl _)⟩
theorem et_test {t:TE} {b:Bool} (h:EvE K S false t Γ (.bool b)):EvT K S (tTest t) Γ b:=fun H0 F0 H F σ e Q q =>
  h H0 F0 H F σ e _ fun v H1 F1 g1 p1=>by cases rp_bl p1; exact ⟨b,rfl,q H1 F1 g1⟩
theorem et_B {t:TE} {b:Bool} (h:EvE K S false t Γ (.bool b)):EvT K S (tB t) Γ b:=fun H0 F0 H F σ e Q q =>
  h H0 F0 H F σ e _ fun v H1 F1 g1 p1=>by cases rp_bl p1; exact ⟨b,rfl,q H1 F1 g1⟩
theorem et_and {t u:TT} {a b:Bool} (ha:EvT K S t Γ a) (hb:a=true→EvT K S u Γ b):EvT K S (tAnd t u) Γ (a && b):=fun H0 F0 H F σ e Q q =>
  ha H0 F0 H F σ e _ fun H1 F1 g1=>by
    cases a with
    | true=>exact iteT (hb rfl H0 F0 H1 F1 σ (e.mono g1) Q fun H2 F2 g2=>q H2 F2 (g1.trans g2))
    | false=>exact iteF (q H1 F1 g1)
theorem et_or {t u:TT} {a b:Bool} (ha:EvT K S t Γ a) (hb:a=false→EvT K S u Γ b):EvT K S (tOr t u) Γ (a || b):=fun H0 F0 H F σ e Q q =>
  ha H0 F0 H F σ e _ fun H1 F1 g1=>by
    cases a with
    | false=>exact iteF (hb rfl H0 F0 H1 F1 σ (e.mono g1) Q fun H2 F2 g2=>q H2 F2 (g1.trans g2))
    | true=>exact iteT (q H1 F1 g1)
theorem et_not {t:TT} {a:Bool} (ha:EvT K S t Γ a):EvT K S (tNot t) Γ (!a):=fun H0 F0 H F σ e Q q=>ha H0 F0 H F σ e _ fun H1 F1 g1=>q H1 F1 g1
theorem et_yes:EvT K S tYes Γ true:=fun H0 F0 H F σ e Q q=>q H F (.refl e.le)
theorem EvT.eq {t:TT} {a b:Bool} (h:EvT K S t Γ a) (e:a=b):EvT K S t Γ b:=e ▸ h
theorem EvE.eq {t:TE} {a b:PyData} (h:EvE K S κ t Γ a) (e:a=b):EvE K S κ t Γ b:=e ▸ h
theorem EvO.eq {t:TE} {a b:List PyData} (h:EvO K S κ t Γ a) (e:a=b):EvO K S κ t Γ b:=e ▸ h
theorem ea_nil:EvA K S κ tNil Γ []:=fun H0 F0 H F σ e Q q=>q [] H F (.refl e.le) .nil
theorem ea_cons {t:TE} {u:TA} {d:PyData} {ds:List PyData} (h:EvE K S κ t Γ d) (k:EvA K S κ u Γ ds):EvA K S κ (tCons t u) Γ (d :: ds):=fun H0 F0 H F σ e Q q =>
  h H0 F0 H F σ e _ fun v H1 F1 g1 p1=>k H0 F0 H1 F1 σ (e.mono g1) _ fun vs H2 F2 g2 p2=>q _ H2 F2 (g1.trans g2) (.cons (rp_mono g2.f p1) p2)
theorem ev_tup {t:TA} {ds:List PyData} (h:EvA K S κ t Γ ds) (hz:ds.length≤sizeLine):EvE K S κ (tTup t) Γ (.tuple ds):=fun H0 F0 H F σ e Q q =>
  h H0 F0 H F σ e _ fun vs H1 F1 g1 p1=>⟨by rw [RpAll.length p1]; exact hz,fun p hp=>q _ _ (upd F1 p (.tup vs)) (g1.trans (.new g1.le hp _)) (.tup (SqT.of upd_same) (rpAll_mono (Same.new (g1.le.free hp) _) p1))⟩
theorem evo_lst {t:TA} {ds:List PyData} (h:EvA K S κ t Γ ds) (hz:ds.length≤sizeLine):EvO K S κ (tLst t) Γ ds:=fun H0 F0 H F σ e Q q =>
  h H0 F0 H F σ e _ fun vs H1 F1 g1 p1=>⟨by rw [RpAll.length p1]; exact hz,fun p hp=>q p vs _ F1 (g1.trans (.newO g1.le hp _)) (g1.h.free hp) upd_same (g1.le.free hp) p1⟩
def spD (K:PySem.W.Frag) (κ:Bool) (pre:List PyData→PyData→Prop):Sp:=fun vs H Q _=>∃ F ds d,Same F H∧DpAll K F vs ds∧pre ds d∧∀ v H' F',Gr H F H' F'→Rp K κ .fresh H F' v d→Q v H'
theorem ev_callF {pre:List PyData→PyData→Prop} {E:XK} {t:TA} {ds:List PyData} {d:PyData} (h:EvA K S false t Γ ds) (hp:pre ds d):EvE K S κ (tCall (spD K true pre) [] E t) Γ d:=fun H0 F0 H F σ e Q q =>
  h H0 F0 H F σ e _ fun vs H1 F1 g1 p1=>⟨F1,ds,d,g1.le,by rw [List.append_nil]; exact rpAll_dp p1,hp,fun v H2 F2 g2 p2=>q v H2 F2 (g1.trans g2) (rp_weak (κ:=true) (fun _=>rfl) (rp_map (κ:=true) (κ':=true) (S':=S) (H0':=H0) (fun a xs z=>⟨z.1,fun c=>by
    obtain ⟨u,hu⟩:=(e.mono g1).sd a c
    exact z.2 (by show H1 a≠none; rw [hu]; simp)⟩) (fun _ _ z=>z) p2))⟩
theorem ev_len {ta:TE} {ds:List PyData} (h:EvL K S false ta Γ ds):EvE K S κ (tCB (fun xs H Q=>∃ p ys,xs=[.ref p]∧(SqL K H p ys∨SqT K H p ys)∧Q (.int ys.length) H) (tCons ta tNil)) Γ (.int ds.length):=fun H0 F0 H F σ e Q q =>
  h H0 F0 H F σ e _ fun a vs H1 F1 g1 p1 k1=>⟨a,vs,rfl,.inl p1,q _ H1 F1 g1 (by rw [RpAll.length k1]; exact .int _)⟩
theorem evo_list {ta:TE} {ds:List PyData} (h:EvL K S κ ta Γ ds):EvO K S κ (tCB (fun xs H Q=>∃ p ys,xs=[.ref p]∧(SqL K H p ys∨SqT K H p ys)∧∀ l,H l=none→Q (.ref l) (upd H l (.lst ys))) (tCons ta tNil)) Γ ds:=fun H0 F0 H F σ e Q q =>
  h H0 F0 H F σ e _ fun a vs H1 F1 g1 p1 k1=>⟨a,vs,rfl,.inl p1,fun p hp=>q p vs _ F1 (g1.trans (.newO g1.le hp _)) (g1.h.free hp) upd_same (g1.le.free hp) k1⟩
def cutD (xs:List PyData) (lo hi:Option Int):List PyData:=(xs.drop (HT.sIx xs.length 0 lo)).take (HT.sIx xs.length xs.length hi - HT.sIx xs.length 0 lo)
theorem cut_dp {H0 F:Hp} {vs:List V} {ds:List PyData} {lo hi:Option Int} (k:RpAll K κ S H0 F vs ds):RpAll K κ S H0 F (cutV vs lo hi) (cutD ds lo hi):=by
  unfold cutV cutD
  rw [RpAll.length k]
  exact RpAll.take _ (RpAll.drop _ k)
theorem ep_none:EvP K S tNoPart Γ none:=fun H0 F0 H F σ e Q q=>q H F (.refl e.le)
theorem ep_some {t:TE} {i:Int} (h:EvE K S false t Γ (.int i)):EvP K S (tPart t) Γ (some i):=fun H0 F0 H F σ e Q q =>
  h H0 F0 H F σ e _ fun v H1 F1 g1 p1=>by cases rp_int p1; exact ⟨i,rfl,q H1 F1 g1⟩
theorem evo_slice {t:TE} {tl th:TO} {ds:List PyData} {lo hi:Option Int} (h:EvL K S κ t Γ ds) (hl:EvP K S tl Γ lo) (hh:EvP K S th Γ hi):EvO K S κ (tSl (rSlL K) t tl th) Γ (cutD ds lo hi):=fun H0 F0 H F σ e Q q =>
  h H0 F0 H F σ e _ fun a vs H1 F1 g1 p1 k1=>hl H0 F0 H1 F1 σ (e.mono g1) _ fun H2 F2 g2=>hh H0 F0 H2 F2 σ ((e.mono g1).mono g2) _ fun H3 F3 g3 =>
    ⟨a,vs,rfl,(g2.h.trans g3.h).seq p1,fun p hp=>q p _ _ F3 (((g1.trans g2).trans g3).trans (.newO g3.le hp _)) (((g1.trans g2).trans g3).h.free hp) upd_same (g3.le.free hp) (cut_dp (rpAll_mono (g2.f.trans g3.f) k1))⟩
end
end PD
namespace L2
open PySem PySem.Spec PyProof.Rows
section
variable {X:Cx} {K:PySem.W.Frag}
def rCatS (K:PySem.W.Frag):R2:=fun x y H Q=>∃ l b xs zs,x=.ref l∧y=.ref b∧SqL K H l xs∧SqL K H b zs∧xs.length + zs.length≤sizeLine∧∀ p,H p=none→Q (.ref p) (upd H p (.lst (xs ++ zs)))
theorem op_catS:OpR X (binaryOp .Add) (rCatS X.K):=by
  intro pins s σ H x y v u Q I rx ry h
  obtain ⟨l,b,xs,zs,rfl,rfl,hH,hB,hz,q⟩:=h
  cases rx
  cases ry
  obtain ⟨its,r,pl,z⟩:=I.list hH
  obtain ⟨its2,r2,pl2,z2⟩:=I.list hB
  have l1:=r.length
  have l2:=r2.length
  obtain ⟨⟨cls,dd,data,sl⟩,ho,hc,n,hd⟩:=pl.isList
  obtain ⟨⟨cls2,dd2,data2,sl2⟩,ho2,hc2,n2,hd2⟩:=pl2.isList
  simp only at hc hd hc2 hd2
  subst hc hd hc2 hd2
  have e:its.toArray ++ its2.toArray=(its ++ its2).toArray:=by simp
  refine concat_meets ⟨_,ho,rfl⟩ ⟨_,ho2,rfl⟩ noFill_list_add seq_list_add PySem.F.slot_list_add PySem.F.entry_list_add (PySem.F.args_list_add_2 _ _) (list_addW l b its.toArray its2.toArray n n2 dd dd2 sl sl2 (by simp only [List.size_toArray]; omega)) ⟨ho,ho2,?_⟩
  rw [e]
  exact ⟨.ref _,_,I.lnew (t':=s.toks) (r.append r2) (by rw [List.length_append]; omega),rfl,q _ I.fresh⟩
def tyD:PyData→String
  | .none => "NoneType"
  | .bool _ => "bool"
  | .int _ => "int"
  | .str _ => "str"
  | .list _ => "list"
  | .tuple _ => "tuple"
  | _ => "object"
def rIsiD (K:PySem.W.Frag):List V→Hp→VK→Prop:=fun xs H Q=>∃ x d T b,xs=[x,.ty T]∧Dp K H x d∧PySem.W.kitOne K (.type (tyD d)) (.type T)=some b∧Q (.bl b) H
theorem call_isiD:CallR X (.builtin "isinstance") (rIsiD X.K):=by
  intro pins s σ H xs us Q I r h
  obtain ⟨x,d,T,b,rfl,dp,e,q⟩:=h
  obtain ⟨u,v,rfl,ru,rv⟩:=r.two
  cases (show v=Value.type T from rv)
  have fin:∀ tk,EP X pins σ Q (.bool b) { s with toks:=tk }:=fun tk=>⟨.bl b,H,I.tok tk,rfl,q⟩
  cases dp with
  | non=>cases (show u=Value.none from ru); exact PySem.W.kia_one PySem.W.kitx_none I.kIn True.intro e (fun z=>nomatch z) fin
  | bl y=>cases (show u=Value.bool y from ru); exact PySem.W.kia_one PySem.W.kitx_bool I.kIn True.intro e (fun z=>nomatch z) fin
  | int i=>obtain ⟨t,z⟩:=(show ∃ t,u=Value.int i t from ru); cases z; exact PySem.W.kia_one PySem.W.kitx_int I.kIn True.intro e (fun z=>nomatch z) fin
  | str y=>obtain ⟨t,z⟩:=(show ∃ t,u=Value.str y t from ru); cases z; exact PySem.W.kia_one PySem.W.kitx_str I.kIn True.intro e (fun z=>nomatch z) fin
  | @lst a xs ds h k =>
    cases (show u=Value.ref a from ru)
    obtain ⟨its,rv,⟨o,n,h1,h2,_⟩,_⟩:=I.list h
    exact PySem.W.kia_one PySem.W.kitx_list I.kIn ⟨_,h1,h2⟩ e (fun z=>nomatch z) fin
  | @tup a xs ds h k =>
    cases (show u=Value.ref a from ru)
    obtain ⟨its,rv,⟨o,h1,h2,_⟩,_⟩:=I.tuple h
    exact PySem.W.kia_one PySem.W.kitx_tuple I.kIn ⟨_,h1,h2⟩ e (fun z=>nomatch z) fin
theorem call_isiDK (hK:X.K=K):CallR X (.builtin "isinstance") (rIsiD K):=by subst hK; exact call_isiD
theorem op_catSK (hK:X.K=K):OpR X (binaryOp .Add) (rCatS K):=by subst hK; exact op_catS
end
end L2
namespace PD
open PySem L2
section
variable {K:PySem.W.Frag} {S:Sx} {κ:Bool} {Γ:Ctx}
theorem evo_cat {ta tb:TE} {xs ys:List PyData} (ha:EvL K S κ ta Γ xs) (hb:EvL K S κ tb Γ ys) (hz:xs.length + ys.length≤sizeLine):EvO K S κ (tOp (rCatS K) ta tb) Γ (xs ++ ys):=fun H0 F0 H F σ e Q q =>
  ha H0 F0 H F σ e _ fun a vs H1 F1 g1 p1 k1=>hb H0 F0 H1 F1 σ (e.mono g1) _ fun b ws H2 F2 g2 p2 k2 =>
    ⟨a,b,vs,ws,rfl,rfl,g2.h.seq p1,p2,by rw [RpAll.length k1,RpAll.length k2]; exact hz,fun p hp=>q p _ _ F2 ((g1.trans g2).trans (.newO g2.le hp _)) ((g1.trans g2).h.free hp) upd_same (g2.le.free hp) (RpAll.append (rpAll_mono g2.f k1) k2)⟩
theorem ev_isi {ta:TE} {d:PyData} {T:String} {b:Bool} (h:EvD K S ta Γ d) (hi:PySem.W.kitOne K (.type (tyD d)) (.type T)=some b):EvE K S κ (tCB (rIsiD K) (tCons ta (tCons (tC (.ty T)) tNil))) Γ (.bool b):=fun H0 F0 H F σ e Q q =>
  h H0 F0 H F σ e _ fun v H1 F1 g1 p1=>⟨v,d,T,b,rfl,p1,hi,q _ H1 F1 g1 (.bl b)⟩
theorem flat_int (ns:List Int):(ns.map V.int).all flatV=true:=by
  rw [List.all_eq_true]
  intro v hv
  obtain ⟨n,_,rfl⟩:=List.mem_map.mp hv
  rfl
theorem inV_int (i:Int) (ns:List Int):inV (.int i) (ns.map V.int)=decide (i∈ns):=by
  unfold inV
  rw [List.any_map]
  by_cases h:i∈ns
  · rw [decide_eq_true h,List.any_eq_true]
    exact ⟨i,h,by show eqV (.int i) (.int i)=true; simp [eqV]⟩
  · rw [decide_eq_false h,List.any_eq_false]
    intro x hx hq
    have:x=i:=by
      have q:eqV (.int x) (.int i)=true:=hq
      simpa [eqV] using q
    exact h (this ▸ hx)
theorem ev_inI {neg:Bool} {ta tb:TE} {i:Int} {ns:List Int} (ha:EvE K S false ta Γ (.int i)) (hb:EvL K S false tb Γ (ns.map .int)):EvE K S κ (tOp (rIn K neg) ta tb) Γ (.bool (if neg then !decide (i∈ns) else decide (i∈ns))):=fun H0 F0 H F σ e Q q =>
  ha H0 F0 H F σ e _ fun v H1 F1 g1 p1=>hb H0 F0 H1 F1 σ (e.mono g1) _ fun b ws H2 F2 g2 p2 k2=>by
    cases rp_int p1
    cases dpAll_of_ints (rpAll_dp k2)
    refine ⟨b,_,rfl,.inl p2,rfl,flat_int ns,?_⟩
    rw [inV_int]
    exact q _ H2 F2 (g1.trans g2) (.bl _)
def ExG (K:PySem.W.Frag) (S:Sx) (κ:Bool) (g:TG) (js:List Nat) (d:PyData) (Γ:Ctx) (k:Ctx→Prop):Prop:=∀ (H0 F0 H F:Hp) (σ:St) (v:V),DEnv K S H0 F0 H F σ Γ→Rp K κ S H0 F v d→∀ Q:St→Hp→Prop,
  (∀ Γ' σ' H' F',k Γ'→Gr H F H' F'→DEnv K S H0 F0 H' F' σ' Γ'→σ'.length=σ.length→(∀ j,j∉js→σ'[j]?=σ[j]?)→Q σ' H')→g v σ H Q
theorem DEnv.set {H0 F0 H F:Hp} {σ:St} {i:Nat} {v:V} {x:DV} (e:DEnv K S H0 F0 H F σ Γ) (p:HasV K S H0 H F v x)
    (hne:∀ a,Owns H v x a→∀ (j:Nat) y w,j≠i→Γ[j]?=some (some y)→σ[j]?=some (some w)→¬ Owns H w y a):DEnv K S H0 F0 H F (σ.set i (some v)) (Γ.set i (some x)):=by
  refine ⟨e.gr,e.l0,e.sd,e.s0,by simp [e.len],fun j f h=>?_,fun j k' x1 y1 v1 w1 b g1 g2 g3 g4 o1 o2=>?_⟩
  · by_cases hj:j=i
    · subst hj
      by_cases hl:j < Γ.length
      · rw [List.getElem?_set_self hl] at h
        cases h
        exact ⟨v,by rw [List.getElem?_set_self (by rw [e.len]; exact hl)],p⟩
      · rw [List.getElem?_eq_none (by simp; omega)] at h
        cases h
    · rw [List.getElem?_set_ne (Ne.symm hj)] at h ⊢
      exact e.has j f h
  · have li:∀ {j:Nat} {y:DV},(Γ.set i (some x))[j]?=some (some y)→j < Γ.length:=fun {j y} z=>by
      have:=(List.getElem?_eq_some_iff.mp z).1
      rw [List.length_set] at this
      exact this
    by_cases hj:j=i
    · subst hj
      by_cases hk:k'=j
      · exact hk.symm
      · rw [List.getElem?_set_self (by rw [e.len]; exact li g1)] at g3
        rw [List.getElem?_set_self (li g1)] at g1
        cases g1
        cases g3
        rw [List.getElem?_set_ne (Ne.symm hk)] at g4 g2
        exact absurd o2 (hne b o1 k' y1 w1 hk g2 g4)
    · rw [List.getElem?_set_ne (Ne.symm hj)] at g3 g1
      by_cases hk:k'=i
      · subst hk
        rw [List.getElem?_set_self (by rw [e.len]; exact li g2)] at g4
        rw [List.getElem?_set_self (li g2)] at g2
        cases g2
        cases g4
        exact absurd o1 (hne b o2 j x1 v1 hj g1 g3)
      · rw [List.getElem?_set_ne (Ne.symm hk)] at g4 g2
        exact e.ne j k' x1 y1 v1 w1 b g1 g2 g3 g4 o1 o2
theorem DEnv.setF {H0 F0 H F:Hp} {σ:St} {i:Nat} {v:V} {d:PyData} (e:DEnv K S H0 F0 H F σ Γ) (p:Rp K κ S H0 F v d):DEnv K S H0 F0 H F (σ.set i (some v)) (Γ.set i (some (.fz κ d))):=e.set (x:=.fz κ d) p fun _ z=>z.elim
theorem OwnO.other {H0 H F:Hp} {a b:Addr} {u oo:HO} (w:OwnO S H0 H F b u) (h:b≠a):OwnO S H0 (upd H a oo) F b u:=⟨by rw [upd_ne h]; exact w.h,w.f,w.n,w.s⟩
theorem HasV.other {H0 H F:Hp} {a:Addr} {v:V} {x:DV} {oo:HO} (h:HasV K S H0 H F v x) (n:¬ Owns H v x a):HasV K S H0 (upd H a oo) F v x:=by
  cases x with
  | fz κ d=>exact h
  | tn d=>exact h
  | ow κ ds=>obtain ⟨b,us,eb,wo,kk⟩:=h; exact ⟨b,us,eb,wo.other fun z=>n (by rw [eb,z]; rfl),kk⟩
  | ox=>obtain ⟨b,us,eb,wo⟩:=h; exact ⟨b,us,eb,wo.other fun z=>n (by rw [eb,z]; rfl)⟩
  | o2 r dss =>
    obtain ⟨b,us,eb,wo,n1,n2,l,k⟩:=h
    refine ⟨b,us,eb,wo.other fun z=>n (.inl (by rw [eb.eq,z])),n1,n2,l,fun j y hy=>?_⟩
    obtain ⟨c,ws,ds,e2,o2,h2,k2⟩:=k j y hy
    exact ⟨c,ws,ds,e2,o2.other fun z=>n (.inr ⟨b,us,eb.eq,wo.h,by rw [← z,← e2]; exact List.mem_of_getElem? hy⟩),h2,k2⟩
  | fn a=>exact h
  | xn φ=>exact h
  | oa b κ ds=>obtain ⟨eb,us,wo,kk⟩:=h; exact ⟨eb,us,wo.other fun z=>n (by rw [eb,z]; rfl),kk⟩
  | xp φ=>exact h
  | od u=>obtain ⟨b,eb,wo⟩:=h; exact ⟨b,eb,wo.other fun z=>n (by rw [eb,z]; rfl)⟩
  | og ad ψ =>
    obtain ⟨ok,w,p⟩:=h
    have eq:∀ b,ad H v b→upd H a oo b=H b:=fun b z=>upd_ne fun y=>n (y ▸ z)
    refine ⟨ok,fun b z=>?_,ok.ps S H0 H _ F F v eq (.refl _) p⟩
    have z:=(ok.pl H _ v eq b).mp z
    obtain ⟨o,y⟩:=w b z
    exact ⟨o,y.other fun q=>n (q ▸ z)⟩
theorem Owns.other {H0 H F:Hp} {a c:Addr} {v:V} {x:DV} {oo:HO} (h:HasV K S H0 H F v x) (n:¬ Owns H v x a) (o:Owns (upd H a oo) v x c):Owns H v x c:=by
  cases x with
  | fz _ _=>exact o.elim
  | tn _=>exact o.elim
  | ow κ ds=>exact o
  | ox=>exact o
  | o2 r dss =>
    rcases o with o | ⟨p,us,e2,hp,hm⟩
    · exact .inl o
    · rw [upd_ne (fun z=>n (.inl (by rw [e2,z])))] at hp
      exact .inr ⟨p,us,e2,hp,hm⟩
  | fn _=>exact o.elim
  | xn _=>exact o.elim
  | oa _ _ _=>exact o
  | xp _=>exact o.elim
  | od _=>exact o
  | og ad ψ=>exact (h.1.pl H (upd H a oo) v (fun b z=>upd_ne fun y:b=a=>n (y ▸ z)) c).mp o
theorem DEnv.putO {H0 F0 H F:Hp} {σ:St} {i:Nat} {a:Addr} {v:V} {oo:HO} {x y:DV} (e:DEnv K S H0 F0 H F σ Γ) (h:Γ[i]?=some (some x)) (ha:σ[i]?=some (some v)) (ho:Owns H v x a)
    (k:HasV K S H0 (upd H a oo) F v y) (ko:∀ c,Owns (upd H a oo) v y c→Owns H v x c):DEnv K S H0 F0 (upd H a oo) F σ (Γ.set i (some y)):=by
  obtain ⟨v',q1,q2⟩:=e.has i x h
  rw [ha] at q1
  cases q1
  obtain ⟨ws,w⟩:=q2.owns ho
  have hs:Same F (upd H a oo):=fun b u z=>by
    have:b≠a:=by rintro rfl; rw [w.f] at z; cases z
    rw [upd_ne this]; exact e.le _ _ z
  have li:=(List.getElem?_eq_some_iff.mp h).1
  have far:∀ {j:Nat} {f:DV} {u:V},j≠i→Γ[j]?=some (some f)→σ[j]?=some (some u)→¬ Owns H u f a:=fun {j f u} hj z r o=>hj (e.ne j i f x u v a z h r ha o ho)
  refine ⟨⟨fun b u z=>?_,e.gr.f,hs,e.gr.ap⟩,e.l0,fun b c=>?_,e.s0,by simp [e.len],fun j f z=>?_,fun j k' x1 y1 v1 w1 b g1 g2 g3 g4 o1 o2=>?_⟩
  · rw [upd_ne (ne_of_none z w.n)]; exact e.gr.h _ _ z
  · obtain ⟨o,q⟩:=e.sd b c
    by_cases hb:b=a
    · subst hb; exact ⟨_,upd_same⟩
    · exact ⟨o,by rw [upd_ne hb]; exact q⟩
  · by_cases hj:j=i
    · subst hj
      rw [List.getElem?_set_self li] at z
      cases z
      exact ⟨_,ha,k⟩
    · rw [List.getElem?_set_ne (Ne.symm hj)] at z
      obtain ⟨u,r1,r2⟩:=e.has j f z
      exact ⟨u,r1,r2.other (far hj z r1)⟩
  · have bk:∀ {j:Nat} {f:DV} {u:V},(Γ.set i (some y))[j]?=some (some f)→σ[j]?=some (some u)→Owns (upd H a oo) u f b→∃ g,Γ[j]?=some (some g)∧Owns H u g b:=fun {j f u} z r o=>by
      by_cases hj:j=i
      · subst hj
        rw [List.getElem?_set_self li] at z
        cases z
        rw [ha] at r
        cases r
        exact ⟨x,h,ko b o⟩
      · rw [List.getElem?_set_ne (Ne.symm hj)] at z
        obtain ⟨u',r1,r2⟩:=e.has j f z
        rw [r] at r1
        cases r1
        exact ⟨f,z,o.other r2 (far hj z r)⟩
    obtain ⟨f1,z1,w1'⟩:=bk g1 g3 o1
    obtain ⟨f2,z2,w2'⟩:=bk g2 g4 o2
    exact e.ne j k' f1 f2 v1 w1 b z1 z2 g3 g4 w1' w2'
theorem DEnv.put {H0 F0 H F:Hp} {σ:St} {i:Nat} {a:Addr} {v:V} {vs:List V} {x y:DV} (e:DEnv K S H0 F0 H F σ Γ) (h:Γ[i]?=some (some x)) (ha:σ[i]?=some (some v)) (ho:Owns H v x a)
    (k:HasV K S H0 (upd H a (.lst vs)) F v y) (ko:∀ c,Owns (upd H a (.lst vs)) v y c→Owns H v x c):DEnv K S H0 F0 (upd H a (.lst vs)) F σ (Γ.set i (some y)):=e.putO h ha ho k ko
theorem OwnO.frz {H0 H F:Hp} {a b:Addr} {u oo:HO} (w:OwnO S H0 H F b u) (h:b≠a):OwnO S H0 H (upd F a oo) b u:=⟨w.h,by rw [upd_ne h]; exact w.f,w.n,w.s⟩
theorem HasV.frz {H0 H F:Hp} {a:Addr} {v:V} {x:DV} {vs:List V} (h:HasV K S H0 H F v x) (s:Same F (upd F a (.lst vs))) (n:¬ Owns H v x a):HasV K S H0 H (upd F a (.lst vs)) v x:=by
  cases x with
  | fz κ d=>exact rp_mono s h
  | tn d=>obtain ⟨T,eT,k⟩:=h; exact ⟨T,eT,rp_mono s k⟩
  | ow κ ds=>obtain ⟨b,us,eb,wo,kk⟩:=h; exact ⟨b,us,eb,wo.frz fun z=>n (by rw [eb,z]; rfl),rpAll_mono s kk⟩
  | ox=>obtain ⟨b,us,eb,wo⟩:=h; exact ⟨b,us,eb,wo.frz fun z=>n (by rw [eb,z]; rfl)⟩
  | o2 r dss =>
    obtain ⟨b,us,eb,wo,n1,n2,l,k⟩:=h
    refine ⟨b,us,eb,wo.frz fun z=>n (.inl (by rw [eb.eq,z])),n1,n2,l,fun j y hy=>?_⟩
    obtain ⟨c,ws,ds,e2,o2,h2,k2⟩:=k j y hy
    exact ⟨c,ws,ds,e2,o2.frz fun z=>n (.inr ⟨b,us,eb.eq,wo.h,by rw [← z,← e2]; exact List.mem_of_getElem? hy⟩),h2,rpAll_mono s k2⟩
  | fn a=>exact h
  | xn φ=>obtain ⟨b,e,k⟩:=h; exact ⟨b,e,s _ _ k⟩
  | oa b κ ds=>obtain ⟨eb,us,wo,kk⟩:=h; exact ⟨eb,us,wo.frz fun z=>n (by rw [eb,z]; rfl),rpAll_mono s kk⟩
  | xp φ=>obtain ⟨F1,s1,k⟩:=h; exact ⟨F1,s1.trans s,k⟩
  | od u=>obtain ⟨b,eb,wo⟩:=h; exact ⟨b,eb,wo.frz fun z=>n (by rw [eb,z]; rfl)⟩
  | og ad ψ =>
    obtain ⟨ok,w,p⟩:=h
    refine ⟨ok,fun b z=>?_,ok.ps S H0 H H F _ v (fun _ _=>rfl) s p⟩
    obtain ⟨o,y⟩:=w b z
    exact ⟨o,y.frz fun q=>n (q ▸ z)⟩
theorem DEnv.froz {H0 F0 H F:Hp} {σ:St} {i:Nat} {a:Addr} {v:V} {vs:List V} {x y:DV} (e:DEnv K S H0 F0 H F σ Γ) (h:Γ[i]?=some (some x)) (hv:σ[i]?=some (some v)) (ho:Owns H v x a) (w:OwnAt S H0 H F a vs)
    (k:HasV K S H0 H (upd F a (.lst vs)) v y) (ko:∀ c,Owns H v y c→Owns H v x c):Same F (upd F a (.lst vs))∧DEnv K S H0 F0 H (upd F a (.lst vs)) σ (Γ.set i (some y)):=by
  have s:Same F (upd F a (.lst vs)):=Same.new w.f _
  have li:=(List.getElem?_eq_some_iff.mp h).1
  have g:Gr H0 F0 H (upd F a (.lst vs)):=⟨e.gr.h,e.gr.f.trans s,fun b u z=>by
    by_cases eb:b=a
    · subst eb; rw [upd_same] at z; rw [← z]; exact w.h
    · rw [upd_ne eb] at z; exact e.le _ _ z,fun b u z y=>by
    rw [upd_ne (ne_of_none z w.n)]; exact e.gr.ap _ _ z y⟩
  refine ⟨s,g,e.l0,e.sd,e.s0,by simp [e.len],fun j f z=>?_,fun j k' x1 y1 v1 w1 b g1 g2 g3 g4 o1 o2=>?_⟩
  · by_cases hj:j=i
    · subst hj
      rw [List.getElem?_set_self li] at z
      cases z
      exact ⟨v,hv,k⟩
    · rw [List.getElem?_set_ne (Ne.symm hj)] at z
      obtain ⟨u,r1,r2⟩:=e.has j f z
      exact ⟨u,r1,r2.frz s fun o=>hj (e.ne j i f x u v a z h r1 hv o ho)⟩
  · have bk:∀ {j:Nat} {f:DV} {u:V},(Γ.set i (some y))[j]?=some (some f)→σ[j]?=some (some u)→Owns H u f b→∃ g,Γ[j]?=some (some g)∧Owns H u g b:=fun {j f u} z r o=>by
      by_cases hj:j=i
      · subst hj
        rw [List.getElem?_set_self li] at z
        cases z
        rw [hv] at r
        cases r
        exact ⟨x,h,ko b o⟩
      · rw [List.getElem?_set_ne (Ne.symm hj)] at z
        exact ⟨f,z,o⟩
    obtain ⟨f1,z1,w1'⟩:=bk g1 g3 o1
    obtain ⟨f2,z2,w2'⟩:=bk g2 g4 o2
    exact e.ne j k' f1 f2 v1 w1 b z1 z2 g3 g4 w1' w2'
theorem DEnv.freeze {H0 F0 H F:Hp} {σ:St} {i:Nat} {ds:List PyData} (e:DEnv K S H0 F0 H F σ Γ) (h:Γ[i]?=some (some (.ow κ ds))):∃ F',Same F F'∧DEnv K S H0 F0 H F' σ (Γ.set i (some (.fz κ (.list ds)))):=by
  obtain ⟨v,q1,a,vs,rfl,w,q5⟩:=e.has i _ h
  exact ⟨_,e.froz (y:=.fz κ (.list ds)) h q1 rfl w (.lst (LN.new w.s) (rpAll_mono (Same.new w.f _) q5)) fun _ z=>z.elim⟩
theorem eg_name {i:Nat} {d:PyData} {k:Ctx→Prop} (h:k (Γ.set i (some (.fz κ d)))):ExG K S κ (gName i) [i] d Γ k:=fun H0 F0 H F σ v e p Q q =>
  q _ _ H F h (.refl e.le) (e.setF p) (by simp) fun j hj=>by rw [List.getElem?_set_ne (by intro z; exact hj (by simp [z]))]
structure ItD (K:PySem.W.Frag) (S:Sx) (κ:Bool) (H0 F:Hp) (J:It) (ds:List PyData):Prop where
  go:∀ i H F',Same F F'→Same F' H→i < ds.length→J.go i H
  yld:∀ i H F' x H',Same F F'→Same F' H→(∀ a,S.has H0 a→∃ o,H a=some o)→i < ds.length→J.yld i H x H'→∃ d F'',ds[i]?=some d∧Gr H F' H' F''∧Rp K κ S H0 F'' x d
  stop:∀ H F',Same F F'→Same F' H→J.stop ds.length H
def EvI (K:PySem.W.Frag) (S:Sx) (κ:Bool) (t:TI) (Γ:Ctx) (ds:List PyData):Prop:=∀ (H0 F0 H F:Hp) (σ:St),DEnv K S H0 F0 H F σ Γ→∀ R:It→Hp→Prop,(∀ J H' F',Gr H F H' F'→ItD K S κ H0 F' J ds→R J H')→t σ H R
theorem ei_list {t:TE} {ds:List PyData} (h:EvE K S κ t Γ (.list ds)):EvI K S κ (iList K t) Γ ds:=fun H0 F0 H F σ e R q =>
  h H0 F0 H F σ e _ fun v H1 F1 g1 p1=>by
    obtain ⟨a,vs,rfl,h1,h2⟩:=rp_lst p1
    have hl:=RpAll.length h2
    have up:∀ {F' H':Hp},Same F1 F'→Same F' H'→SqL K H' a vs:=fun s1 s2=>(s1.trans s2).seq h1.sq
    refine ⟨a,rfl,⟨vs,up (.refl _) g1.le⟩,q _ H1 F1 g1 ⟨fun i H' F' s1 s2 hi=>?_,fun i H' F' x H'' s1 s2 _ hi y=>?_,fun H' F' s1 s2=>?_⟩⟩
    · exact ⟨vs,vs[i]'(by omega),up s1 s2,by simp⟩
    · obtain ⟨rfl,y⟩:=y
      obtain ⟨d,hd,hp⟩:=RpAll.get' h2 (y vs (up s1 s2))
      exact ⟨d,F',hd,.refl s2,rp_mono s1 hp⟩
    · exact ⟨vs,up s1 s2,by omega⟩
theorem ei_rng1 {t:TA} {n:Int} (h:EvA K S false t Γ [.int n]) (h1:-(2 ^ 62)≤n) (h2:n < 2 ^ 62):EvI K S κ (iRng1 t) Γ ((List.range n.toNat).map fun i:Nat=>.int (i:Int)):=fun H0 F0 H F σ e R q =>
  h H0 F0 H F σ e _ fun vs H1 F1 g1 p1=>by
    cases p1 with
    | cons p p1 =>
      cases p1
      cases rp_int p
      refine ⟨n,rfl,h1,h2,q _ H1 F1 g1 ⟨fun i H' F' s1 s2 hi=>?_,fun i H' F' x H'' s1 s2 _ hi y=>?_,fun H' F' s1 s2=>?_⟩⟩
      · show i < n.toNat
        simpa using hi
      · obtain ⟨rfl,rfl⟩:=y
        have hi':i < n.toNat:=by simpa using hi
        refine ⟨.int i,F',by simp [hi'],.refl s2,?_⟩
        have:(0:Int) + (i:Int)=i:=by omega
        rw [this]; exact .int _
      · show n.toNat≤_
        simp
theorem evo_listRev {t:TE} {xs:List PyData} (h:EvL K S κ t Γ xs):EvO K S κ (tListRev K (tCons t tNil)) Γ xs.reverse:=fun H0 F0 H F σ e Q q =>
  h H0 F0 H F σ e _ fun a us H1 F1 g1 h1 h2=>⟨a,us,rfl,h1,fun p hp=>q p _ _ F1 (g1.trans (.newO g1.le hp _)) (g1.h.free hp) upd_same (g1.le.free hp) (RpAll.reverse h2)⟩
def captG (js:List (Option Nat)) (Γ:Ctx):Ctx:=js.map fun o=>match o with | none=>none | some j=>(Γ[j]?).join
theorem captG_get {js:List (Option Nat)} {i:Nat} {d:DV} (h:(captG js Γ)[i]?=some (some d)):∃ j,js[i]?=some (some j)∧Γ[j]?=some (some d):=by
  unfold captG at h
  rw [List.getElem?_map] at h
  cases e:js[i]? with
  | none=>rw [e] at h; cases h
  | some o =>
    rw [e] at h
    cases o with
    | none=>cases h
    | some j =>
      refine ⟨j,rfl,?_⟩
      have h':(Γ[j]?).join=some d:=Option.some.inj h
      cases q:Γ[j]? with
      | none=>rw [q] at h'; cases h'
      | some o=>rw [q] at h'; exact congrArg some h'
theorem capt_get {js:List (Option Nat)} {σ:St} {i j:Nat} {v:V} (h:js[i]?=some (some j)) (k:σ[j]?=some (some v)):(capt js σ)[i]?=some (some v):=by
  unfold capt
  rw [List.getElem?_map,h]
  show some ((σ[j]?).join)=_
  rw [k]; rfl
theorem DEnv.capt {H0 F0 H F:Hp} {σ:St} {js:List (Option Nat)} (e:DEnv K S H0 F0 H F σ Γ) (hj:∀ i j k:Nat,js[i]?=some (some k)→js[j]?=some (some k)→i=j):DEnv K S H0 F0 H F (L2.capt js σ) (captG js Γ):=by
  refine ⟨e.gr,e.l0,e.sd,e.s0,by unfold L2.capt captG; simp,fun i d h=>?_,fun i j x y v w a h1 h2 h3 h4 o1 o2=>?_⟩
  · obtain ⟨j,e1,e2⟩:=captG_get h
    obtain ⟨v,e3,e4⟩:=e.has j d e2
    exact ⟨v,capt_get e1 e3,e4⟩
  · obtain ⟨m,e1,e2⟩:=captG_get h1
    obtain ⟨n,e3,e4⟩:=captG_get h2
    obtain ⟨v1,q1,_⟩:=e.has m x e2
    obtain ⟨v2,q2,_⟩:=e.has n y e4
    have c1:=capt_get (σ:=σ) e1 q1
    have c2:=capt_get (σ:=σ) e3 q2
    rw [h3] at c1
    rw [h4] at c2
    cases c1
    cases c2
    have:=e.ne m n x y v w a e2 e4 q1 q2 o1 o2
    subst this
    exact hj i j m e1 e3
theorem evo_comp {κ':Bool} {js:List (Option Nat)} {wi:TI} {g:TG} {tt:TT} {te:TE} {is:List Nat} {ds:List PyData} (p:PyData→Bool) (f:PyData→PyData) (hi:EvI K S κ' wi Γ ds) (hjs:∀ i∈is,js[i]?=some none) (hj:∀ i j k:Nat,js[i]?=some (some k)→js[j]?=some (some k)→i=j)
    (hz:ds.length≤sizeLine) (hb:∀ d∈ds,ExG K S κ' g is d (captG js Γ) fun Γ'=>EvT K S tt Γ' (p d)∧(p d=true→EvE K S κ te Γ' (f d))):EvO K S κ (tComp js wi g tt te) Γ ((ds.filter p).map f):=fun H0 F0 H F σ e Q q =>
  hi H0 F0 H F σ e _ fun J H1 F1 g1 I1=>by
    intro D hD
    have sdm:∀ {H2 F2:Hp},Gr H1 F1 H2 F2→∀ a,S.has H0 a→∃ o,H2 a=some o:=fun g2 a c=>let ⟨o,z⟩:=(e.mono g1).sd a c; ⟨o,g2.h _ _ z⟩
    refine ⟨fun i m ys H2=>m=ds.length - i∧i≤ds.length∧∃ F2,Gr H1 F1 H2 F2∧H2 D=some (.lst ys)∧F2 D=none∧RpAll K κ S H0 F2 ys (((ds.take i).filter p).map f),⟨_,rfl,Nat.zero_le _,F1,.newO g1.le hD _,upd_same,g1.le.free hD,.nil⟩,?_⟩
    rintro i m ys H2 ⟨rfl,hi,F2,g2,hl,fl,k2⟩
    by_cases hlt:i < ds.length
    · refine .inr ⟨I1.go i H2 F2 g2.f g2.le hlt,fun zs H3=>i + 1≤ds.length∧∃ F2,Gr H1 F1 H3 F2∧H3 D=some (.lst zs)∧F2 D=none∧RpAll K κ S H0 F2 zs (((ds.take (i + 1)).filter p).map f),fun zs H3 h3=>⟨ds.length - (i + 1),by omega,rfl,h3⟩,fun x H3 y=>?_⟩
      obtain ⟨d,F3,hd,g3,p3⟩:=I1.yld i H2 F2 x H3 g2.f g2.le (sdm g2) hlt y
      have hl3:=g3.h _ _ hl
      have fl3:=g3.ap _ _ hl fl
      have E3:=((e.mono g1).mono (g2.trans g3)).capt hj
      refine hb d (List.mem_of_getElem? hd) H0 F0 H3 F3 _ x E3 p3 _ fun Γ' σ' H4 F4 hΓ g4 E4 len4 out4=>?_
      obtain ⟨ht,he⟩:=hΓ
      have hl4:=g4.h _ _ hl3
      have fl4:=g4.ap _ _ hl3 fl3
      have tk:ds.take (i + 1)=ds.take i ++ [d]:=by rw [List.take_add_one,hd]; rfl
      refine ⟨⟨len4.symm,fun j v hv=>?_⟩,ht H0 F0 H4 F4 σ' E4 _ fun H5 F5 g5=>?_⟩
      · by_cases hjj:j∈is
        · have:=hjs j hjj
          unfold L2.capt at hv
          rw [List.getElem?_map,this] at hv
          cases hv
        · rw [out4 j hjj]; exact hv
      have hl5:=g5.h _ _ hl4
      have fl5:=g5.ap _ _ hl4 fl4
      cases hpd:p d with
      | false =>
        refine iteF ⟨hlt,F5,g2.trans ((g3.trans g4).trans g5),hl5,fl5,?_⟩
        rw [tk,List.filter_append,List.map_append]
        simp only [List.filter_cons,hpd,List.filter_nil]
        simpa using rpAll_mono ((g3.trans g4).trans g5).f k2
      | true =>
        refine iteT (he hpd H0 F0 H5 F5 σ' (E4.mono g5) _ fun v H6 F6 g6 p6=>?_)
        have hl6:=g6.h _ _ hl5
        have fl6:=g6.ap _ _ hl5 fl5
        have gg:=(g3.trans g4).trans (g5.trans g6)
        have G6:=g2.trans gg
        refine ⟨hl6,?_,hlt,F6,⟨fun b u z=>?_,G6.f,fun b u z=>?_,G6.ap⟩,upd_same,fl6,?_⟩
        · have h1:=RpAll.length k2
          rw [List.length_map] at h1
          have h2:=List.length_filter_le p (ds.take i)
          rw [List.length_take] at h2
          omega
        · rw [upd_ne (ne_of_none z hD)]; exact G6.h _ _ z
        · rw [upd_ne (by rintro rfl; rw [fl6] at z; cases z)]; exact G6.le _ _ z
        · rw [tk,List.filter_append,List.map_append]
          simp only [List.filter_cons,hpd,List.filter_nil,if_true,List.map_cons,List.map_nil]
          exact RpAll.append (rpAll_mono gg.f k2) (.cons p6 .nil)
    · have ei:i=ds.length:=by omega
      subst ei
      rw [List.take_length] at k2
      exact .inl ⟨I1.stop H2 F2 g2.f g2.le,q D ys H2 F2 (g1.trans g2) (g1.h.free hD) hl fl k2⟩
end
end PD
namespace PD
open PySem L2
section
variable {K:PySem.W.Frag} {S:Sx} {κ:Bool} {Γ:Ctx}
structure Post where
  nx:Ctx→Prop
  rt:PyData→Prop
  bk:Ctx→Prop:=fun _=>False
  ct:Ctx→Prop:=fun _=>False
  kr:Bool:=false
structure Into (K:PySem.W.Frag) (S:Sx) (H0 F0 B:Hp) (P:Post) (D:Ends):Prop where
  nx:∀ Γ' σ' H' F',P.nx Γ'→Same B F'→DEnv K S H0 F0 H' F' σ' Γ'→D.nx σ' H'
  rt:∀ d v H' F',P.rt d→Gr H0 F0 H' F'→Rp K P.kr .fresh H0 F' v d→D.rt v H'
  bk:∀ Γ' σ' H' F',P.bk Γ'→Same B F'→DEnv K S H0 F0 H' F' σ' Γ'→D.bk σ' H'
  ct:∀ Γ' σ' H' F',P.ct Γ'→Same B F'→DEnv K S H0 F0 H' F' σ' Γ'→D.ct σ' H'
def Avoid (S:Sx) (B:Hp):Prop:=∀ T,S=.spoil T→∀ a xs,B a=some (.lst xs)→¬ T a
def ExT (K:PySem.W.Frag) (S S':Sx) (t:TS) (Γ:Ctx) (P:Post):Prop:=∀ (H0 F0 H F:Hp) (σ:St) (B:Hp),DEnv K S H0 F0 H F σ Γ→Same B F→(S'=S∨Avoid S B)→∀ D:Ends,Into K S' H0 F0 B P D→t D σ H
abbrev ExS (K:PySem.W.Frag) (S:Sx) (t:TS) (Γ:Ctx) (P:Post):Prop:=ExT K S S t Γ P
variable {S':Sx}
variable {P:Post}
theorem ex_next (h:P.nx Γ):ExS K S tNext Γ P:=fun H0 F0 H F σ B e b _ D I=>I.nx Γ σ H F h b e
theorem ex_seq {t u:TS} (N:Ctx→Prop) (h1:ExT K S S t Γ { P with nx:=N,bk:=fun _=>False,ct:=fun _=>False }) (h2:∀ Γ',N Γ'→ExT K S S' u Γ' P):ExT K S S' (tSeq t u) Γ P:=fun H0 F0 H F σ B e b v D I =>
  h1 H0 F0 H F σ B e b (.inl rfl) { D with nx:=u D } ⟨fun Γ' σ' H' F' n s e'=>h2 Γ' n H0 F0 H' F' σ' B e' s v D I,I.rt,fun _ _ _ _ z=>z.elim,fun _ _ _ _ z=>z.elim⟩
theorem has_fresh {H0:Hp} {a:Addr} (h:¬ S.has H0 a):¬ Sx.has .fresh H0 a:=by
  cases S with
  | fresh=>exact h
  | spoil T=>exact fun c=>h (.inl c)
theorem ret_kind {H0 F:Hp} {kr:Bool} {v:V} {d:PyData} (hk:(S=S∧κ=kr)∨kr=false) (p:Rp K κ S H0 F v d):Rp K kr .fresh H0 F v d:=by
  rcases hk with ⟨_,rfl⟩ | rfl
  · cases κ with
    | false=>exact dp_rp (rp_dp p)
    | true=>exact rp_map (κ:=true) (κ':=true) (fun a xs z=>⟨z.1,has_fresh z.2⟩) (fun _ _ z=>z) p
  · exact dp_rp (rp_dp p)
theorem ex_ret {te:TE} {d:PyData} (κ:Bool) (h:EvE K S κ te Γ d) (hr:P.rt d) (hk:(S=S∧κ=P.kr)∨P.kr=false):ExT K S S' (tRet te) Γ P:=fun H0 F0 H F σ B e b _ D I=>h H0 F0 H F σ e _ fun v H' F' g p=>I.rt d v H' F' hr (e.gr.trans g) (ret_kind hk p)
theorem ex_freeze {t:TS} (i:Nat) {ds:List PyData} (h:Γ[i]?=some (some (.ow κ ds))) (k:ExT K S S' t (Γ.set i (some (.fz κ (.list ds)))) P):ExT K S S' t Γ P:=fun H0 F0 H F σ B e b v D I=>by
  obtain ⟨F',s,e'⟩:=e.freeze h
  exact k H0 F0 H F' σ B e' (b.trans s) v D I
theorem ex_retO {i:Nat} {ds:List PyData} (h:Γ[i]?=some (some (.ow κ ds))) (hr:P.rt (.list ds)) (hk:(S=S∧κ=P.kr)∨P.kr=false):ExT K S S' (tRet (tVar i)) Γ P :=
  ex_freeze i h (ex_ret κ (ev_var (by rw [List.getElem?_set_self (List.getElem?_eq_some_iff.mp h).1])) hr hk)
theorem ex_set {te:TE} {i:Nat} {d:PyData} (h:EvE K S κ te Γ d) (k:P.nx (Γ.set i (some (.fz κ d)))):ExS K S (tAsg te (gName i)) Γ P:=fun H0 F0 H F σ B e b _ D I =>
  h H0 F0 H F σ e _ fun v H' F' g p=>I.nx _ _ H' F' k (b.trans g.f) ((e.mono g).setF p)
theorem ex_setO {te:TE} {i:Nat} {ds:List PyData} (h:EvO K S κ te Γ ds) (k:P.nx (Γ.set i (some (.ow κ ds)))):ExS K S (tAsg te (gName i)) Γ P:=fun H0 F0 H F σ B e b _ D I =>
  h H0 F0 H F σ e _ fun a vs H' F' g n p f q=>I.nx _ _ H' F' k (b.trans g.f) ((e.mono g).set (x:=.ow κ ds) ⟨a,vs,rfl,⟨p,f,e.gr.h.free n,e.out n⟩,q⟩ fun c oc j y w hj z hw o=>by
    cases (show V.ref a=.ref c from oc)
    obtain ⟨v,q1,q2⟩:=e.has j y z
    rw [hw] at q1
    cases q1
    obtain ⟨us,w1⟩:=q2.owns (o.back q2 fun _ _ z=>g.h _ _ z.h)
    have:=w1.h
    rw [n] at this; cases this)
theorem ex_append {te:TE} {i:Nat} {ds:List PyData} {d:PyData} (h:Γ[i]?=some (some (.ow κ ds))) (he:EvE K S κ te Γ d) (hz:ds.length < sizeLine) (k:P.nx (Γ.set i (some (.ow κ (ds ++ [d]))))):ExS K S (tDrop (tBM K "list" rAppend (tVar i) (tCons te tNil))) Γ P:=fun H0 F0 H F σ B e b _ D I=>by
  obtain ⟨v0,q1,a,vs,rfl,w,q5⟩:=e.has i _ h
  refine ⟨_,q1,.inl ⟨rfl,_,SqL.of w.h⟩,he H0 F0 H F σ e _ fun v H' F' g p=>?_⟩
  have k':=rpAll_mono g.f q5
  refine ⟨a,vs,v,rfl,rfl,g.h _ _ w.h,by rw [RpAll.length q5]; exact hz,?_⟩
  exact I.nx _ _ _ F' k (b.trans g.f) ((e.mono g).put (y:=.ow κ (ds ++ [d])) h q1 (show Owns H' (.ref a) (.ow κ ds) a from rfl) ⟨a,_,rfl,⟨upd_same,(w.mono g).f,w.n,w.s⟩,RpAll.append k' (.cons p .nil)⟩ fun _ z=>z)
theorem ex_setItem {te ti:TE} {i j:Nat} {m:Int} {ds:List PyData} {d:PyData} (h:Γ[i]?=some (some (.ow κ ds))) (he:EvE K S κ te Γ d) (hi:EvE K S false ti Γ (.int m)) (hm:ixN ds.length m=some j) (k:P.nx (Γ.set i (some (.ow κ (ds.set j d))))) :
    ExS K S (tAsg te (gSub (tVar i) ti rSetL)) Γ P:=fun H0 F0 H F σ B e b _ D I=>by
  obtain ⟨v0,q1,a,vs,rfl,w,q5⟩:=e.has i _ h
  refine he H0 F0 H F σ e _ fun v H1 F1 g1 p1=>⟨_,q1,hi H0 F0 H1 F1 σ (e.mono g1) _ fun w' H2 F2 g2 p2=>?_⟩
  cases rp_int p2
  have k':=rpAll_mono (g1.trans g2).f q5
  refine ⟨a,vs,m,j,rfl,rfl,(g1.trans g2).h _ _ w.h,by rw [RpAll.length q5]; exact hm,?_⟩
  exact I.nx _ _ _ F2 k (b.trans (g1.trans g2).f) ((e.mono (g1.trans g2)).put (y:=.ow κ (ds.set j d)) h q1 (show Owns H2 (.ref a) (.ow κ ds) a from rfl) ⟨a,_,rfl,⟨upd_same,(w.mono (g1.trans g2)).f,w.n,w.s⟩,RpAll.set (rp_mono g2.f p1) _ k'⟩ fun _ z=>z)
theorem ex_if {c:TT} {t u:TS} {b:Bool} (hc:EvT K S c Γ b) (h1:b=true→ExT K S S' t Γ P) (h2:b=false→ExT K S S' u Γ P):ExT K S S' (tIfS c t u) Γ P:=fun H0 F0 H F σ B e bb v D I =>
  hc H0 F0 H F σ e _ fun H' F' g=>by
    cases b with
    | true=>exact iteT (h1 rfl H0 F0 H' F' σ B (e.mono g) (bb.trans g.f) v D I)
    | false=>exact iteF (h2 rfl H0 F0 H' F' σ B (e.mono g) (bb.trans g.f) v D I)
theorem ex_for {wi:TI} {g:TG} {tb:TS} {ds:List PyData} (κ:Bool) (Iv:Nat→Ctx→Prop) (hi:EvI K S κ wi Γ ds) (h0:Iv 0 Γ)
    (hs:∀ i d Γ',ds[i]?=some d→Iv i Γ'→∃ js,ExG K S κ g js d Γ' fun Γ''=>ExS K S tb Γ'' { nx:=Iv (i + 1),rt:=P.rt,bk:=P.nx,ct:=Iv (i + 1),kr:=P.kr }) (hd:∀ Γ',Iv ds.length Γ'→P.nx Γ'):ExS K S (tFor wi g tb) Γ P:=fun H0 F0 H F σ B e b _ D I =>
  hi H0 F0 H F σ e _ fun J H1 F1 g1 I1=>by
    refine ⟨fun i m σ2 H2=>m=ds.length - i∧i≤ds.length∧∃ Γ2 F2,Iv i Γ2∧Same F1 F2∧DEnv K S H0 F0 H2 F2 σ2 Γ2,⟨_,rfl,Nat.zero_le _,Γ,F1,h0,.refl _,e.mono g1⟩,?_⟩
    rintro i m σ2 H2 ⟨rfl,hi,Γ2,F2,v2,s2,e2⟩
    have b1:Same B F1:=b.trans g1.f
    by_cases hlt:i < ds.length
    · refine .inr ⟨I1.go i H2 F2 s2 e2.le hlt,fun σ3 H3=>i + 1≤ds.length∧∃ Γ3 F3,Iv (i + 1) Γ3∧Same F1 F3∧DEnv K S H0 F0 H3 F3 σ3 Γ3,fun σ3 H3 h3=>⟨_,by omega,rfl,h3⟩,fun x H3 y=>?_⟩
      obtain ⟨d,F3,hd,g3,p3⟩:=I1.yld i H2 F2 x H3 s2 e2.le e2.sd hlt y
      obtain ⟨js,hg⟩:=hs i d Γ2 hd v2
      refine hg H0 F0 H3 F3 σ2 x (e2.mono g3) p3 _ fun Γ' σ' H4 F4 k4 g4 e4 _ _=>?_
      have s4:Same F1 F4:=s2.trans (g3.f.trans g4.f)
      exact k4 H0 F0 H4 F4 σ' F1 e4 s4 (.inl rfl) _ ⟨fun Γ5 σ5 H5 F5 n s5 e5=>⟨hlt,Γ5,F5,n,s5,e5⟩,I.rt,fun Γ5 σ5 H5 F5 n s5 e5=>I.nx Γ5 σ5 H5 F5 n (b1.trans s5) e5,fun Γ5 σ5 H5 F5 n s5 e5=>⟨hlt,Γ5,F5,n,s5,e5⟩⟩
    · have ei:i=ds.length:=by omega
      subst ei
      exact .inl ⟨I1.stop H2 F2 s2 e2.le,I.nx Γ2 σ2 H2 F2 (hd Γ2 v2) (b1.trans s2) e2⟩
theorem ex_while {c:TT} {tb:TS} (Iv:Nat→Ctx→Prop) (m0:Nat) (h0:Iv m0 Γ)
    (hs:∀ m Γ',Iv m Γ'→∃ b,EvT K S c Γ' b∧(b=true→ExS K S tb Γ' { nx:=fun Γ''=>∃ m',m' < m∧Iv m' Γ'',rt:=P.rt,bk:=P.nx,ct:=fun Γ''=>∃ m',m' < m∧Iv m' Γ'',kr:=P.kr })∧(b=false→P.nx Γ')):ExS K S (tWhile c tb) Γ P:=fun H0 F0 H F σ B e bb _ D I=>by
  refine ⟨fun m σ2 H2=>∃ Γ2 F2,Iv m Γ2∧Same B F2∧DEnv K S H0 F0 H2 F2 σ2 Γ2,⟨m0,Γ,F,h0,bb,e⟩,?_⟩
  rintro m σ2 H2 ⟨Γ2,F2,v2,s2,e2⟩
  obtain ⟨b,hc,h1,h2⟩:=hs m Γ2 v2
  refine hc H0 F0 H2 F2 σ2 e2 _ fun H3 F3 g3=>?_
  have s3:=s2.trans g3.f
  cases b with
  | true =>
    refine iteT ⟨fun σ4 H4=>∃ m',m' < m∧∃ Γ4 F4,Iv m' Γ4∧Same B F4∧DEnv K S H0 F0 H4 F4 σ4 Γ4,fun σ4 H4 ⟨m',hm,h⟩=>⟨m',hm,h⟩,?_⟩
    exact h1 rfl H0 F0 H3 F3 σ2 B (e2.mono g3) s3 (.inl rfl) _ ⟨fun Γ5 σ5 H5 F5 ⟨m',hm,n⟩ s5 e5=>⟨m',hm,Γ5,F5,n,s5,e5⟩,I.rt,fun Γ5 σ5 H5 F5 n s5 e5=>I.nx Γ5 σ5 H5 F5 n s5 e5,fun Γ5 σ5 H5 F5 ⟨m',hm,n⟩ s5 e5=>⟨m',hm,Γ5,F5,n,s5,e5⟩⟩
  | false=>exact iteF (I.nx Γ2 σ2 H3 F3 (h2 rfl) s3 (e2.mono g3))
def startG (n:Nat) (ds:List PyData):Ctx:=ds.map (fun d=>some (.fz false d)) ++ List.replicate (n - ds.length) none
theorem denv_start {H F:Hp} {N:List Str} {vs:List V} {ds:List PyData} (le:Same F H) (k:DpAll K F vs ds):DEnv K .fresh H F H F (L2.start N vs) (startG N.length ds):=by
  have l:=DpAll.length k
  have no:∀ (i:Nat) (x:DV),(startG N.length ds)[i]?=some (some x)→∃ d,x=.fz false d∧ds[i]?=some d:=fun i x h=>by
    unfold startG at h
    by_cases hi:i < ds.length
    · rw [List.getElem?_append_left (by simpa using hi),List.getElem?_map] at h
      rw [List.getElem?_eq_getElem hi] at h ⊢
      have h':some (DV.fz false ds[i])=some x:=Option.some.inj h
      exact ⟨_,(Option.some.inj h').symm,rfl⟩
    · rw [List.getElem?_append_right (by simpa using Nat.le_of_not_lt hi)] at h
      rw [List.getElem?_replicate] at h
      split at h <;> cases h
  refine ⟨.refl le,le,fun a c=>?_,fun T z=>(nomatch z),by unfold L2.start startG; simp [l],fun i x h=>?_,fun i j x y v w a h _ _ _ o=>?_⟩
  · cases q:H a with
    | none=>exact absurd q c
    | some o=>exact ⟨o,rfl⟩
  · obtain ⟨d',e,h'⟩:=no i _ h
    cases e
    obtain ⟨v,h1,h2⟩:=DpAll.get k h'
    refine ⟨v,?_,dp_rp h2⟩
    unfold L2.start
    have hi:=(List.getElem?_eq_some_iff.mp h1).1
    rw [List.getElem?_append_left (by simpa using hi),List.getElem?_map,h1]
    rfl
  · obtain ⟨d',e,_⟩:=no i _ h
    cases e
    exact o.elim
theorem run_body {t:TS} {N:List Str} {H F:Hp} {vs:List V} {ds:List PyData} {d:PyData} {Q:VK} {Γ:Ctx} (hΓ:startG N.length ds=Γ) (h:ExS K .fresh t Γ { nx:=fun _=>d=.none,rt:=fun x=>x=d,kr:=κ }) (le:Same F H) (k:DpAll K F vs ds)
    (q:∀ v H' F',Gr H F H' F'→Rp K κ .fresh H F' v d→Q v H'):t { nx:=fun _ H'=>Q .non H',rt:=Q } (L2.start N vs) H:=by
  subst hΓ
  refine h H F H F (L2.start N vs) F (denv_start le k) (.refl _) (.inl rfl) _ ⟨fun Γ' σ' H' F' n _ e=>?_,fun d' v H' F' e g p=>?_,fun _ _ _ _ z=>z.elim,fun _ _ _ _ z=>z.elim⟩
  · have n':d=.none:=n
    subst n'
    exact q .non H' F' e.gr .non
  · have e':d'=d:=e
    subst e'
    exact q v H' F' g p
theorem spD_len {pre:List PyData→PyData→Prop} {n:Nat} (h:∀ ds d,pre ds d→ds.length=n) {vs:List V} {H:Hp} {Q:VK} {E:XK} (s:spD K κ pre vs H Q E):vs.length=n:=by
  obtain ⟨F,ds,d,_,k,p,_⟩:=s
  rw [DpAll.length k]
  exact h ds d p
def isLst:Option HO→Bool
  | some (.lst _)=>true
  | _=>false
open Classical in
noncomputable def drop (T:Addr→Prop) (F:Hp):Hp:=fun a=>if T a∧isLst (F a)=true then none else F a
theorem drop_some {T:Addr→Prop} {F:Hp} {a:Addr} {o:HO}:drop T F a=some o↔F a=some o∧¬ (T a∧isLst (some o)=true):=by
  unfold drop
  constructor
  · intro h
    split at h
    · cases h
    · rename_i c; rw [h] at c; exact ⟨h,c⟩
  · rintro ⟨h,c⟩
    rw [h,if_neg c]
end
end PD
namespace PD
open PySem L2
inductive SetC:Ctx→Nat→Option DV→Ctx→Prop
  | zero {a x:Option DV} {l:Ctx}:SetC (a :: l) 0 x (x :: l)
  | succ {a x:Option DV} {l l':Ctx} {i:Nat}:SetC l i x l'→SetC (a :: l) (i + 1) x (a :: l')
theorem SetC.eq {Γ Γ':Ctx} {i:Nat} {x:Option DV} (h:SetC Γ i x Γ'):Γ.set i x=Γ':=by
  induction h with
  | zero=>rfl
  | succ _ ih=>rw [List.set_cons_succ,ih]
inductive GetC:Ctx→Nat→DV→Prop
  | zero {x:DV} {l:Ctx}:GetC (some x :: l) 0 x
  | succ {a:Option DV} {x:DV} {l:Ctx} {i:Nat}:GetC l i x→GetC (a :: l) (i + 1) x
theorem GetC.eq {Γ:Ctx} {i:Nat} {x:DV} (h:GetC Γ i x):Γ[i]?=some (some x):=by
  induction h with
  | zero=>rfl
  | succ _ ih=>rw [List.getElem?_cons_succ,ih]
inductive CaptC:List (Option Nat)→Ctx→Ctx→Prop
  | nil {Γ:Ctx}:CaptC [] Γ []
  | no {js:List (Option Nat)} {Γ Γ':Ctx}:CaptC js Γ Γ'→CaptC (none :: js) Γ (none :: Γ')
  | got {js:List (Option Nat)} {Γ Γ':Ctx} {j:Nat} {x:DV}:GetC Γ j x→CaptC js Γ Γ'→CaptC (some j :: js) Γ (some x :: Γ')
theorem CaptC.eq {js:List (Option Nat)} {Γ Γ':Ctx} (h:CaptC js Γ Γ'):captG js Γ=Γ':=by
  induction h with
  | nil=>rfl
  | no _ ih =>
    unfold captG at ih ⊢
    rw [List.map_cons,ih]
  | got g _ ih =>
    unfold captG at ih ⊢
    rw [List.map_cons,ih]
    show (Option.join _ :: _)=_
    rw [g.eq]
    rfl
section
variable {K:PySem.W.Frag} {S S':Sx} {κ κ':Bool} {Γ Γ' Γ'':Ctx} {P:Post}
theorem evv {i:Nat} {d:PyData} (h:GetC Γ i (.fz κ' d)) (hk:κ=true→κ'=true):EvE K S κ (tVar i) Γ d:=(ev_var h.eq).weak hk
theorem evi {i:Nat} {d:PyData} (h:GetC Γ i (.fz κ' d)) (hk:imm d=true):EvE K S κ (tVar i) Γ d:=(ev_var h.eq).imm hk
theorem EvL.weak {t:TE} {ds:List PyData} (h:EvL K S κ' t Γ ds) (hk:κ=true→κ'=true):EvL K S κ t Γ ds:=fun H0 F0 H F σ e Q q=>h H0 F0 H F σ e Q fun a vs H' F' g p k=>q a vs H' F' g p (by
  cases κ with
  | false=>exact dpAll_rp (rpAll_dp k)
  | true=>rw [hk rfl] at k; exact k)
theorem evw {i:Nat} {ds:List PyData} (h:GetC Γ i (.ow κ' ds)) (hk:κ=true→κ'=true):EvL K S κ (tVar i) Γ ds:=(evl_own h.eq).weak hk
theorem exs {te:TE} {u:TS} {i:Nat} {d:PyData} (κ:Bool) (h:EvE K S κ te Γ d) (e:SetC Γ i (some (.fz κ d)) Γ') (k:ExT K S S' u Γ' P):ExT K S S' (tSeq (tAsg te (gName i)) u) Γ P:=ex_seq (·=Γ') (ex_set h e.eq) fun _ z=>z ▸ k
theorem exs1 {te:TE} {i:Nat} {d:PyData} (κ:Bool) (h:EvE K S κ te Γ d) (e:SetC Γ i (some (.fz κ d)) Γ') (k:P.nx Γ'):ExS K S (tAsg te (gName i)) Γ P:=ex_set h (e.eq ▸ k)
theorem exo {te:TE} {u:TS} {i:Nat} {ds:List PyData} (κ:Bool) (h:EvO K S κ te Γ ds) (e:SetC Γ i (some (.ow κ ds)) Γ') (k:ExT K S S' u Γ' P):ExT K S S' (tSeq (tAsg te (gName i)) u) Γ P:=ex_seq (·=Γ') (ex_setO h e.eq) fun _ z=>z ▸ k
theorem exo1 {te:TE} {i:Nat} {ds:List PyData} (κ:Bool) (h:EvO K S κ te Γ ds) (e:SetC Γ i (some (.ow κ ds)) Γ') (k:P.nx Γ'):ExS K S (tAsg te (gName i)) Γ P:=ex_setO h (e.eq ▸ k)
theorem exa {te:TE} {u:TS} {i:Nat} {ds:List PyData} {d:PyData} (h:GetC Γ i (.ow κ ds)) (he:EvE K S κ te Γ d) (e:SetC Γ i (some (.ow κ (ds ++ [d]))) Γ') (hz:ds.length < sizeLine) (k:ExT K S S' u Γ' P):ExT K S S' (tSeq (tDrop (tBM K "list" rAppend (tVar i) (tCons te tNil))) u) Γ P:=ex_seq (·=Γ') (ex_append h.eq he hz e.eq) fun _ z=>z ▸ k
theorem exa1 {te:TE} {i:Nat} {ds:List PyData} {d:PyData} (h:GetC Γ i (.ow κ ds)) (he:EvE K S κ te Γ d) (e:SetC Γ i (some (.ow κ (ds ++ [d]))) Γ') (hz:ds.length < sizeLine) (k:P.nx Γ'):ExS K S (tDrop (tBM K "list" rAppend (tVar i) (tCons te tNil))) Γ P:=ex_append h.eq he hz (e.eq ▸ k)
theorem exi1 {te ti:TE} {i j:Nat} {m:Int} {ds:List PyData} {d:PyData} (h:GetC Γ i (.ow κ ds)) (he:EvE K S κ te Γ d) (hi:EvE K S false ti Γ (.int m)) (hm:ixN ds.length m=some j) (e:SetC Γ i (some (.ow κ (ds.set j d))) Γ') (k:P.nx Γ'):ExS K S (tAsg te (gSub (tVar i) ti rSetL)) Γ P:=ex_setItem h.eq he hi hm (e.eq ▸ k)
theorem exfz {t:TS} (i:Nat) {ds:List PyData} (h:GetC Γ i (.ow κ ds)) (e:SetC Γ i (some (.fz κ (.list ds))) Γ') (k:ExT K S S' t Γ' P):ExT K S S' t Γ P:=ex_freeze i h.eq (by rw [e.eq]; exact k)
theorem egn {i:Nat} {d:PyData} {k:Ctx→Prop} (e:SetC Γ i (some (.fz κ d)) Γ') (h:k Γ'):ExG K S κ (gName i) [i] d Γ k:=eg_name (by rw [e.eq]; exact h)
theorem exro {i:Nat} {ds:List PyData} (h:GetC Γ i (.ow κ ds)) (hr:P.rt (.list ds)) (hk:(S=S∧κ=P.kr)∨P.kr=false):ExT K S S' (tRet (tVar i)) Γ P:=ex_retO h.eq hr hk
theorem exif2 {c:TT} {t u v:TS} {b:Bool} (hc:EvT K S c Γ b) (h1:b=true→ExT K S S' (tSeq t v) Γ P) (h2:b=false→ExT K S S' (tSeq u v) Γ P):ExT K S S' (tSeq (tIfS c t u) v) Γ P:=fun H0 F0 H F σ B e bb vv D I=>by
  refine hc H0 F0 H F σ e _ fun H' F' g=>?_
  cases b with
  | true=>exact iteT (h1 rfl H0 F0 H' F' σ B (e.mono g) (bb.trans g.f) vv D I)
  | false=>exact iteF (h2 rfl H0 F0 H' F' σ B (e.mono g) (bb.trans g.f) vv D I)
theorem exn {v:TS} (k:ExT K S S' v Γ P):ExT K S S' (tSeq tNext v) Γ P:=ex_seq (·=Γ) (ex_next rfl) fun _ z=>z ▸ k
theorem exifF {c:TT} {t v:TS} {b:Bool} (hc:EvT K S c Γ b) (hb:b=false) (k:ExT K S S' v Γ P):ExT K S S' (tSeq (tIfS c t tNext) v) Γ P:=exif2 hc (fun h=>by rw [hb] at h; cases h) fun _=>exn k
theorem exfor {wi:TI} {g:TG} {tb u:TS} {ds:List PyData} (κ:Bool) (Iv:Nat→Ctx→Prop) (hi:EvI K S κ wi Γ ds) (h0:Iv 0 Γ)
    (hs:∀ i d Γ',ds[i]?=some d→Iv i Γ'→∃ js,ExG K S κ g js d Γ' fun Γ''=>ExS K S tb Γ'' { nx:=Iv (i + 1),rt:=P.rt,bk:=Iv ds.length,ct:=Iv (i + 1),kr:=P.kr }) (hd:∀ Γ',Iv ds.length Γ'→ExT K S S' u Γ' P):ExT K S S' (tSeq (tFor wi g tb) u) Γ P:=ex_seq (Iv ds.length) (ex_for κ Iv hi h0 hs fun _ h=>h) hd
theorem exrs {te:TE} {v:TS} {d:PyData} (κ:Bool) (h:EvE K S κ te Γ d) (hr:P.rt d) (hk:(S=S∧κ=P.kr)∨P.kr=false):ExT K S S' (tSeq (tRet te) v) Γ P:=ex_seq (fun _=>False) (ex_ret κ h hr hk) fun _ z=>z.elim
theorem evo_comp' {js:List (Option Nat)} {Γc:Ctx} {wi:TI} {g:TG} {tt:TT} {te:TE} {is:List Nat} {ds:List PyData} (κ':Bool) (p:PyData→Bool) (f:PyData→PyData) (hi:EvI K S κ' wi Γ ds) (hc:CaptC js Γ Γc) (hjs:(is.all fun i=>js[i]? == some none)=true)
    (hj:(js.filterMap id).Nodup) (hz:ds.length≤sizeLine) (hb:∀ d∈ds,ExG K S κ' g is d Γc fun Γ'=>EvT K S tt Γ' (p d)∧(p d=true→EvE K S κ te Γ' (f d))):EvO K S κ (tComp js wi g tt te) Γ ((ds.filter p).map f):=by
  refine evo_comp p f hi (fun i hi=>?_) ?_ hz (by rw [hc.eq]; exact hb)
  · have:=List.all_eq_true.mp hjs i hi
    simpa using this
  · intro i j k h1 h2
    clear hc hjs hi hb
    induction js generalizing i j with
    | nil=>simp at h1
    | cons o js ih =>
      cases o with
      | none =>
        cases i with
        | zero=>simp at h1
        | succ i =>
          cases j with
          | zero=>simp at h2
          | succ j=>rw [ih (by simpa using hj) i j (by simpa using h1) (by simpa using h2)]
      | some m =>
        have hj':(m :: js.filterMap id).Nodup:=by simpa using hj
        have hm:=(List.nodup_cons.mp hj').1
        cases i with
        | zero =>
          cases j with
          | zero=>rfl
          | succ j =>
            have e1:m=k:=by simpa using h1
            subst e1
            have h2':js[j]?=some (some m):=by simpa using h2
            exact absurd (show m∈js.filterMap id from List.mem_filterMap.mpr ⟨some m,List.mem_of_getElem? h2',rfl⟩) hm
        | succ i =>
          cases j with
          | zero =>
            have e1:m=k:=by simpa using h2
            subst e1
            have h2':js[i]?=some (some m):=by simpa using h1
            exact absurd (show m∈js.filterMap id from List.mem_filterMap.mpr ⟨some m,List.mem_of_getElem? h2',rfl⟩) hm
          | succ j=>rw [ih (List.nodup_cons.mp hj').2 i j (by simpa using h1) (by simpa using h2)]
theorem evo_map {js:List (Option Nat)} {Γc:Ctx} {wi:TI} {g:TG} {te:TE} {is:List Nat} {ds:List PyData} (κ':Bool) (f:PyData→PyData) (hi:EvI K S κ' wi Γ ds) (hc:CaptC js Γ Γc) (hjs:(is.all fun i=>js[i]? == some none)=true)
    (hj:(js.filterMap id).Nodup) (hz:ds.length≤sizeLine) (hb:∀ d∈ds,ExG K S κ' g is d Γc fun Γ'=>EvE K S κ te Γ' (f d)):EvO K S κ (tComp js wi g tYes te) Γ (ds.map f):=by
  have h:=evo_comp' (K:=K) (S:=S) (κ:=κ) (g:=g) (tt:=tYes) (te:=te) (is:=is) κ' (fun _=>true) f hi hc hjs hj hz fun d hd H0 F0 H F σ v e p Q q=>hb d hd H0 F0 H F σ v e p Q fun Γ' σ' H' F' k=>q Γ' σ' H' F' ⟨et_yes,fun _=>k⟩
  rwa [List.filter_eq_self.mpr (fun _ _=>rfl)] at h
end
end PD
namespace PD
open PySem L2
inductive StartC:Nat→List PyData→Ctx→Prop
  | z:StartC 0 [] []
  | no {n:Nat} {Γ:Ctx}:StartC n [] Γ→StartC (n + 1) [] (none :: Γ)
  | got {n:Nat} {d:PyData} {ds:List PyData} {Γ:Ctx}:StartC n ds Γ→StartC (n + 1) (d :: ds) (some (.fz false d) :: Γ)
theorem StartC.eq {n:Nat} {ds:List PyData} {Γ:Ctx} (h:StartC n ds Γ):startG n ds=Γ:=by
  induction h with
  | z=>rfl
  | @no n Γ _ ih =>
    rw [← ih]
    unfold startG
    simp [List.replicate_succ]
  | @got n d ds Γ _ ih =>
    rw [← ih]
    unfold startG
    simp
theorem run_def {K:PySem.W.Frag} {κ:Bool} {t:TS} {N:List Str} {n:Nat} {H F:Hp} {vs:List V} {ds:List PyData} {d:PyData} {Q:VK} {Γ:Ctx} (le:Same F H) (k:DpAll K F vs ds) (q:∀ v H' F',Gr H F H' F'→Rp K κ .fresh H F' v d→Q v H') (hn:N.length=n) (hΓ:StartC n ds Γ)
    (h:ExS K .fresh t Γ { nx:=fun _=>d=.none,rt:=fun x=>x=d,kr:=κ }):t { nx:=fun _ H'=>Q .non H',rt:=Q } (L2.start N vs) H:=run_body (hn ▸ hΓ.eq) h le k q
end PD
namespace PD
open PySem L2
section
variable {K:PySem.W.Frag} {S:Sx} {κ:Bool} {Γ:Ctx}
end
theorem asm {p:Prop} (h:p):p:=h
theorem atI0 {α:Type} {a:α} {l:List α}:atI (a :: l) 0=some a:=by
  unfold atI ixN
  simp
theorem kit_of {K:PySem.W.Frag} {t c:Value} {b:Bool} (h:PySem.W.kitOne K t c=some b):PySem.W.kitOne K t c=some b:=h
end PD
namespace L2
open PySem PySem.Spec PyProof.Rows
section
variable {X:Cx} {K:PySem.W.Frag}
theorem pi_listK {tg l:Expr} {tl:TE} (hK:X.K=K) (hl:PE X l tl):PI X tg l (iList K tl):=by subst hK; exact pi_list hl
theorem pe_listRevK {a:Expr} {ta:TA} {p p2 pos pos2:Pos} (hK:X.K=K) (hc:X.calm=true) (hg:Gl X "list") (hm:X.mg "list" = none) (hg2:Gl X "reversed") (hm2:X.mg "reversed" = none) (ha:PA X [a] ta) (he:starEach (a :: []) X.env=(false,eval a X.env) :: starEach [] X.env:=by rfl)
    (he2:starEach (Expr.Call (.Name "reversed" p2) [a] [] pos2 :: []) X.env=(false,eval (.Call (.Name "reversed" p2) [a] [] pos2) X.env) :: starEach [] X.env:=by rfl) :
    PE X (.Call (.Name "list" p) [.Call (.Name "reversed" p2) [a] [] pos2] [] pos) (tListRev K ta):=by subst hK; exact pe_listRev hc hg hm hg2 hm2 ha he he2
variable {o e:Expr} {es:List Expr} {to:TE} {t:TA} {name:Str} {apos cpos:Pos} {T id:String} {r:V→List V→Hp→VK→Prop}
theorem pe_bm0K (hK:X.K=K) (pa:PlainAttrs T) (slot:Slot T name id) (hty:typeOf (.builtin id)=pure (.type "method_descriptor")) (hm:MtR X id r) (ho:PE X o to)
    (hbase:attributeBase o name X.env (eval o X.env)=eval o X.env:=by rfl) (hline:(apos.endLine == cpos.line)=true:=by rfl):PE X (.Call (.Attribute o name apos) [] [] cpos) (tBM0 K T r to):=by subst hK; exact pe_bm0 pa slot hty hm ho hbase hline
theorem pe_bmK (hK:X.K=K) (pa:PlainAttrs T) (slot:Slot T name id) (hty:typeOf (.builtin id)=pure (.type "method_descriptor")) (hm:MtR X id r) (ho:PE X o to) (ha:PA X (e :: es) t)
    (hbase:attributeBase o name X.env (eval o X.env)=eval o X.env:=by rfl)
    (hfew:((backTo cpos (starEach (e :: es) X.env)).all (fun x=>!x.1) && (backToKw cpos (keywordEach [] X.env)).all (fun x=>x.1.isSome)
      && decide ((e :: es).length + ([]:List Keyword).length + (if ([]:List Keyword).isEmpty then 0 else 1) < 30))=true:=by rfl)
    (hline:(apos.endLine == cpos.line)=true:=by rfl) (hs:starEach (e :: es) X.env=(false,eval e X.env) :: starEach es X.env:=by rfl) (hplain:(backTo cpos (starEach es X.env)).any (·.1)=false:=by rfl):PE X (.Call (.Attribute o name apos) (e :: es) [] cpos) (tBM K T r to t):=by subst hK; exact pe_bm pa slot hty hm ho ha hbase hfew hline hs hplain
end
end L2
namespace PD
open PySem L2
abbrev il (ns:List Int):PyData:=.list (ns.map .int)
def optD:Option Int→PyData
  | none=>.none
  | some i=>.int i
abbrev vl (vw:List (Option Int)):PyData:=.list (vw.map optD)
theorem imm_ints (ns:List Int):∀ d∈ns.map PyData.int,imm d=true:=fun d hd=>by
  obtain ⟨n,_,rfl⟩:=List.mem_map.mp hd
  rfl
section
variable {K:PySem.W.Frag} {S:Sx} {κ:Bool} {Γ:Ctx}
theorem evl_ints {t:TE} {ns:List Int} (h:EvE K S false t Γ (.list (ns.map .int))):EvL K S κ t Γ (ns.map .int):=h.toL.imm (imm_ints ns)
end
theorem get_map {α:Type} {g:α→PyData} {ns:List α} {i:Nat} {d:PyData} (h:(ns.map g)[i]?=some d):∃ n,ns[i]?=some n∧d=g n:=by
  rw [List.getElem?_map] at h
  cases e:ns[i]? with
  | none=>rw [e] at h; cases h
  | some n=>rw [e] at h; exact ⟨n,rfl,(Option.some.inj h).symm⟩
theorem small_mul {i j:Int} (h0:-(2 ^ 64) < j) (h1:j < 2 ^ 64):IntMulOk i j:=.of_right (intBits_le_64 h0 h1)
theorem atI_map {α:Type} {g:α→PyData} {xs:List α} {i:Nat} {x:α} (h:xs[i]?=some x):atI (xs.map g) (i:Int)=some (g x):=atI_nat (by rw [List.getElem?_map,h]; rfl)
theorem ixN_nat {n i:Nat} (h:i < n):ixN n (i:Int)=some i:=by
  unfold ixN
  rw [if_pos (by omega),if_pos (by omega)]
  simp
theorem range_get {n i:Nat} {d:PyData} (h:((List.range n).map fun k:Nat=>PyData.int (k:Int))[i]?=some d):i < n∧d=.int i:=by
  rw [List.getElem?_map] at h
  by_cases hi:i < n
  · rw [List.getElem?_range hi] at h
    exact ⟨hi,(Option.some.inj h).symm⟩
  · rw [List.getElem?_eq_none (by simp; omega)] at h
    cases h
theorem range_len (n:Nat):((List.range n).map fun k:Nat=>PyData.int (k:Int)).length=n:=by rw [List.length_map,List.length_range]
end PD
namespace PD
open PySem L2
end PD
namespace PD
open PySem L2
section
variable {K:PySem.W.Frag} {S S':Sx} {κ:Bool} {Γ:Ctx} {P:Post}
end
theorem lay_map {α:Type} {g:α→PyData} (h:∀ x,PyData.canLay0 (g x)=true):∀ xs:List α,PyData.canLayAll0 (xs.map g)=true
  | []=>rfl
  | x :: r=>by
    show (PyData.canLay0 (g x) && PyData.canLayAll0 (r.map g))=true
    rw [h,lay_map h r]
    rfl
theorem depth_map {α:Type} {g:α→PyData} {n:Nat} (h:∀ x,PyData.depth (g x)≤n):∀ xs:List α,PyData.depthAll (xs.map g)≤n
  | []=>Nat.zero_le _
  | x :: r=>by
    show max (PyData.depth (g x)) (PyData.depthAll (r.map g))≤n
    have:=depth_map h r
    have:=h x
    omega
theorem shaped_of {d:PyData} (h1:PyData.canLay0 d=true) (h2:PyData.depth d≤50):SeqAt.shaped d=true:=by
  unfold SeqAt.shaped
  rw [h1]
  simp
  omega
end PD
namespace L2
open PySem PySem.Spec PyProof.Rows
def srt (ns:List Int):List Int:=ns.mergeSort fun a b=>decide (a≤b)
theorem perm_sorted:∀ {a b:List Int},a.Perm b→a.Pairwise (·≤·)→b.Pairwise (·≤·)→a=b
  | [],b,p,_,_=>p.nil_eq
  | x :: r,[],p,_,_=>absurd p.length_eq (by simp)
  | x :: r,y :: t,p,h1,h2=>by
    have a1:=List.pairwise_cons.mp h1
    have a2:=List.pairwise_cons.mp h2
    have hx:x∈y :: t:=p.mem_iff.mp List.mem_cons_self
    have hy:y∈x :: r:=p.mem_iff.mpr List.mem_cons_self
    have e:x=y:=by
      rcases List.mem_cons.mp hx with e | hx
      · exact e
      · rcases List.mem_cons.mp hy with e | hy
        · exact e.symm
        · have:=a2.1 x hx
          have:=a1.1 y hy
          omega
    subst e
    rw [perm_sorted p.cons_inv a1.2 a2.2]
theorem srt_perm (ns:List Int):(srt ns).Perm ns:=List.mergeSort_perm ns _
theorem srt_sorted (ns:List Int):(srt ns).Pairwise (·≤·):=by
  have:=List.pairwise_mergeSort (le:=fun a b:Int=>decide (a≤b)) (fun a b c h1 h2=>by simp at *; omega) (fun a b=>by simp; omega) ns
  exact this.imp fun h=>by simpa using h
theorem srt_eq {a ns:List Int} (p:a.Perm ns) (h:a.Pairwise (·≤·)):a=srt ns:=perm_sorted (p.trans (srt_perm ns).symm) h (srt_sorted ns)
section
variable {X:Cx} {K:PySem.W.Frag}
theorem vals_of_ints:∀ {ns:List Int} {us:List Value},IntsAre us ns→Vals (ns.map V.int) us
  | _,_,.nil=>.nil
  | _,_,.cons _ t r=>.cons ⟨t,rfl⟩ (vals_of_ints r)
def rSorted (K:PySem.W.Frag):List V→Hp→VK→Prop:=fun xs H Q=>∃ p ns,xs=[.ref p]∧SqL K H p (ns.map V.int)∧ns.length < 64∧∀ l,H l=none→Q (.ref l) (upd H l (.lst ((srt ns).map V.int)))
theorem call_sorted:CallR X (.builtin "sorted") (rSorted X.K):=by
  intro pins s σ H xs us Q I r h
  obtain ⟨p,ns,rfl,hq,h64,q⟩:=h
  obtain ⟨u,rfl,rx⟩:=vals1 r
  cases rx
  obtain ⟨its,r',pl,hz⟩:=I.list hq
  have hl:=r'.length
  rw [List.length_map] at hl hz
  refine sorted_ints (vs:=its) pl.isList (intsAre_of r') (by omega) fun out ns' a1 a2 a3=>?_
  have e:=srt_eq a2 a3
  subst e
  obtain ⟨c,hc⟩:=sortedAll_at s.heap its out
  exact ⟨.ref (s.heap.objs.size + 1),_,I.laid (t':=s.toks) (fun _ _=>sortedAll_old) (Nat.le_succ _) (show ObjOk X.prog X.w _ _ _ (.lst ((srt ns).map V.int)) from ⟨by rw [List.length_map,(srt_perm ns).length_eq]; exact hz,out.toList,c,vals_of_ints a1,by simpa using hc⟩),rfl,q _ (I.hok.fresh (Nat.le_succ _))⟩
theorem call_sortedK (hK:X.K=K):CallR X (.builtin "sorted") (rSorted K):=by subst hK; exact call_sorted
def rIndex (K:PySem.W.Frag):V→List V→Hp→VK→Prop:=fun x vs H Q=>∃ l,∃ ns:List Int,∃ k,x=.ref l∧vs=[.int k]∧SqL K H l (ns.map V.int)∧k∈ns∧Q (.int (ns.idxOf k:Nat)) H
theorem mt_index:MtM X "list.index" (rIndex X.K):=by
  intro pins s σ H x vs v us Q I rx rv h
  obtain ⟨l,ns,k,rfl,rfl,hq,hk,q⟩:=h
  cases rx
  obtain ⟨u,rfl,ru⟩:=rv.one
  obtain ⟨t,rfl⟩:=ru
  obtain ⟨its,r,pl,hz⟩:=I.list hq
  have hl:=r.length
  have hi:=intsAre_of r
  have hj:ns.idxOf k < ns.length:=List.idxOf_lt_length_iff.mpr hk
  rw [List.length_map] at hl hz
  have hb:sizeLine < 2 ^ 62:=by decide
  obtain ⟨⟨c,dd,dt,sl⟩,ho,hc,n,hd⟩:=pl.isList
  simp only at hc hd
  subst hc hd
  refine call_meets F.slot_list_index ⟨_,ho,rfl⟩ F.entry_list_index (F.args_list_index_2 _ _) (SeqAt.list_indexAt l its.toArray n dd sl (.int k t) (isInt k) (ns.idxOf k) (by rw [List.size_toArray]; omega) (by omega) ?_ fun m hm lt=>?_)
    ⟨ho,fun y hy=>(eq_isInt k t hi y (by simpa using hy)).at _ _,.int _,H,I.tok _,⟨_,rfl⟩,q⟩
  · show isInt k its[ns.idxOf k]=true
    rw [isInt_at k hi (ns.idxOf k) (by omega) hj]
    simp
  · show isInt k its[m]=false
    rw [List.size_toArray] at hm
    rw [isInt_at k hi m hm (by omega)]
    exact ne_of_lt_idxOf lt (by omega)
theorem mt_indexK (hK:X.K=K):MtM X "list.index" (rIndex K):=by subst hK; exact mt_index
def rInsert:V→List V→Hp→VK→Prop:=fun x vs H Q=>∃ l xs j y,x=.ref l∧vs=[.int j,y]∧H l=some (.lst xs)∧0≤j∧j≤(xs.length:Int)∧xs.length < sizeLine∧Q .non (upd H l (.lst (xs.take j.toNat ++ y :: xs.drop j.toNat)))
theorem mt_insert:MtM X "list.insert" rInsert:=by
  intro pins s σ H x vs v us Q I rx rv h
  obtain ⟨l,xs,j,y,rfl,rfl,hH,h0,hj,hz,q⟩:=h
  cases rx
  cases rv with
  | cons ru rv' =>
    obtain ⟨t,rfl⟩:=ru
    obtain ⟨u,rfl,ry⟩:=Vals.one rv'
    obtain ⟨z,its,n,r,hl,e⟩:=I.lstM hH
    have hb:sizeLine < 2 ^ 62:=by decide
    have hf:Builtin.List.listFitsIndex j=true:=fitsIndex_both (by omega) (by omega)
    have hs:its.toArray.size≤sizeLine:=by rw [List.size_toArray]; omega
    have e1:¬ (j < 0):=by omega
    have e2:min j.toNat its.length=j.toNat:=by omega
    refine call_meets F.slot_list_insert ⟨_,e,rfl⟩ F.entry_list_insert (F.args_list_insert_3 _ _ _) (AutoSeq1.list_insert_list_int_val_1 l its.toArray n j t u (by rw [hf]; decide) hs) ⟨e,?_⟩
    refine ⟨.non,_,I.lset (its':=its.take j.toNat ++ u :: its.drop j.toNat) hH e ?_ ((r.take j.toNat).append (.cons ry (r.drop j.toNat))) ?_,rfl,q⟩
    · simp only [e1,if_false,List.size_toArray,e2]
      apply Array.toList_inj.mp
      simp
      exact List.take_of_length_le (by rw [List.length_drop]; exact Nat.le_refl _)
    · rw [List.length_append,List.length_cons,List.length_take,List.length_drop]
      omega
end
end L2
namespace PD
open PySem L2
section
variable {K:PySem.W.Frag} {S S':Sx} {κ κ':Bool} {Γ Γ' Γ'':Ctx} {P:Post}
theorem rpAll_ints {H0 F:Hp} (ns:List Int):RpAll K κ S H0 F (ns.map V.int) (ns.map .int):=dpAll_immL (imm_ints ns) (dpAll_ints ns)
theorem evo_sorted {ta:TE} {ns:List Int} (h:EvL K S false ta Γ (ns.map .int)) (h64:ns.length < 64):EvO K S κ (tCB (rSorted K) (tCons ta tNil)) Γ ((srt ns).map .int):=fun H0 F0 H F σ e Q q =>
  h H0 F0 H F σ e _ fun a vs H1 F1 g1 p1 k1=>by
    cases dpAll_of_ints (rpAll_dp k1)
    exact ⟨a,ns,rfl,p1,h64,fun p hp=>q p _ _ F1 (g1.trans (.newO g1.le hp _)) (g1.h.free hp) upd_same (g1.le.free hp) (rpAll_ints _)⟩
theorem ev_index {ta tb:TE} {ns:List Int} {k:Int} (ha:EvL K S false ta Γ (ns.map .int)) (hb:EvE K S false tb Γ (.int k)) (hk:k∈ns):EvE K S κ (tBM K "list" (rIndex K) ta (tCons tb tNil)) Γ (.int (ns.idxOf k:Nat)):=fun H0 F0 H F σ e Q q =>
  ha H0 F0 H F σ e _ fun a vs H1 F1 g1 p1 k1=>⟨.inl ⟨rfl,_,p1⟩,hb H0 F0 H1 F1 σ (e.mono g1) _ fun w H2 F2 g2 p2=>by
    cases rp_int p2
    cases dpAll_of_ints (rpAll_dp k1)
    exact ⟨a,ns,k,rfl,rfl,g2.h.seq p1,hk,q _ H2 F2 (g1.trans g2) (.int _)⟩⟩
theorem ex_insert {te ti:TE} {i:Nat} {m:Int} {ds:List PyData} {d:PyData} (h:Γ[i]?=some (some (.ow κ ds))) (hi:EvE K S false ti Γ (.int m)) (he:EvE K S κ te Γ d) (h0:0≤m) (h1:m≤ds.length) (hz:ds.length < sizeLine) (k:P.nx (Γ.set i (some (.ow κ (ds.take m.toNat ++ d :: ds.drop m.toNat))))) :
    ExS K S (tDrop (tBM K "list" rInsert (tVar i) (tCons ti (tCons te tNil)))) Γ P:=fun H0 F0 H F σ B e b _ D I=>by
  obtain ⟨v0,q1,a,vs,rfl,w,q5⟩:=e.has i _ h
  refine ⟨_,q1,.inl ⟨rfl,_,SqL.of w.h⟩,hi H0 F0 H F σ e _ fun v1 H1 F1 g1 p1=>he H0 F0 H1 F1 σ (e.mono g1) _ fun v H' F' g2 p=>?_⟩
  cases rp_int p1
  have g:=g1.trans g2
  have k':=rpAll_mono g.f q5
  have hl:=RpAll.length q5
  refine ⟨a,vs,m,v,rfl,rfl,g.h _ _ w.h,h0,by rw [hl]; exact h1,by rw [hl]; exact hz,?_⟩
  exact I.nx _ _ _ F' k (b.trans g.f) ((e.mono g).put (y:=.ow κ (ds.take m.toNat ++ d :: ds.drop m.toNat)) h q1 (show Owns H' (.ref a) (.ow κ ds) a from rfl) ⟨a,_,rfl,⟨upd_same,(w.mono g).f,w.n,w.s⟩,RpAll.append (RpAll.take _ k') (.cons p (RpAll.drop _ k'))⟩ fun _ z=>z)
theorem exin {te ti:TE} {i:Nat} {m:Int} {ds:List PyData} {d:PyData} (h:GetC Γ i (.ow κ ds)) (hi:EvE K S false ti Γ (.int m)) (he:EvE K S κ te Γ d) (h0:0≤m) (h1:m≤ds.length) (hz:ds.length < sizeLine) (e:SetC Γ i (some (.ow κ (ds.take m.toNat ++ d :: ds.drop m.toNat))) Γ') (k:P.nx Γ') :
    ExS K S (tDrop (tBM K "list" rInsert (tVar i) (tCons ti (tCons te tNil)))) Γ P:=ex_insert h.eq hi he h0 h1 hz (e.eq ▸ k)
theorem tup_drop {T:Addr→Prop} {F:Hp} {a:Addr} {xs:List V} (z:SqT K F a xs):SqT K (drop T F) a xs:=by
  rcases z with (z | ⟨o,z⟩) | z
  · exact .inl (.inl (drop_some.mpr ⟨z,fun c=>nomatch c.2⟩))
  · exact .inl (.inr ⟨o,drop_some.mpr ⟨z,fun c=>nomatch c.2⟩⟩)
  · exact .inr z
theorem drop_none {T:Addr→Prop} {F:Hp} {a:Addr} {xs:List V} (h:F a=some (.lst xs)) (t:T a):drop T F a=none:=by
  cases q:drop T F a with
  | none=>rfl
  | some o =>
    obtain ⟨q1,q2⟩:=drop_some.mp q
    rw [h] at q1
    cases q1
    exact absurd ⟨t,rfl⟩ q2
end
end PD
namespace L2
open PySem PySem.Spec PyProof.Rows
section
variable {X:Cx} {K:PySem.W.Frag}
theorem vals_bl:∀ {bs:List Bool} {us:List Value},Vals (bs.map V.bl) us→us=bs.map Value.bool
  | [],_,.nil=>rfl
  | _ :: _,_,.cons r t=>by rw [vals_bl t,show _=Value.bool _ from r]; rfl
theorem all_range:∀ (bs:List Bool) (f:Nat→Bool),(∀ i b,bs[i]?=some b→f i=b)→(List.range bs.length).all f=bs.all fun b=>b
  | [],_,_=>rfl
  | b :: r,f,h=>by
    have ih:=all_range r (fun i=>f (i + 1)) fun i b' hb=>h (i + 1) b' (by simpa using hb)
    rw [List.length_cons,List.range_succ_eq_map,List.all_cons,List.all_map,List.all_cons,h 0 b rfl,← ih]
    rfl
def rAll (K:PySem.W.Frag):List V→Hp→VK→Prop:=fun xs H Q=>∃ p,∃ bs:List Bool,xs=[.ref p]∧SqL K H p (bs.map V.bl)∧Q (.bl (bs.all fun b=>b)) H
theorem call_all (hc:X.calm=true):CallR X (.builtin "all") (rAll X.K):=by
  intro pins s σ H xs us Q I r h
  obtain ⟨p,bs,rfl,hq,q⟩:=h
  obtain ⟨u,rfl,rx⟩:=vals1 r
  cases rx
  obtain ⟨its,r',pl,hz⟩:=I.list hq
  have e:=vals_bl r'
  subst e
  have hl:=pl.isList
  refine call_all_walk (wpAny_pyIter_list hl ?_)
  have hne:p≠s.heap.objs.size:=by
    obtain ⟨o,ho,_⟩:=hl
    exact Nat.ne_of_lt (Heap.lt_size ho)
  refine ⟨s.heap.objs.size,_,_,_,_,_,fun i=>bs.getD i false,rfl,Walks.list (A:=X.A.in1) (I.ok.hd hc) _ p hne (bs.map Value.bool).toArray,⟨⟨_,Heap.get?_push_size _ rfl,rfl,rfl⟩,hl.push _⟩,fun i v s Q E hP hQ=>?_,fun h' tk hk=>?_⟩
  · have hP':(bs.map Value.bool)[i]?=some v:=by simpa using hP
    rw [List.getElem?_map] at hP'
    cases eb:bs[i]? with
    | none=>rw [eb] at hP'; cases hP'
    | some b =>
      rw [eb] at hP'
      cases hP'
      have:bs.getD i false=b:=by rw [List.getD_eq_getElem?_getD,eb]; rfl
      have hQ':Q (bs.getD i false) s:=hQ
      rw [this] at hQ'
      exact wpAny_truthy_bool hQ'
  · have e:(List.range (bs.map Value.bool).toArray.size).all (fun i=>bs.getD i false)=bs.all fun b=>b:=by
      rw [List.size_toArray,List.length_map]
      exact all_range bs _ fun i b hb=>by rw [List.getD_eq_getElem?_getD,hb]; rfl
    rw [e]
    exact ⟨.bl _,H,I.kept fun b o eb=>hk b o (by simpa using Nat.ne_of_lt (Heap.lt_size eb)) (Heap.get?_push_of_some _ eb),rfl,q⟩
theorem call_allK (hK:X.K=K) (hc:X.calm=true):CallR X (.builtin "all") (rAll K):=by subst hK; exact call_all hc
end
end L2
namespace PD
open PySem L2
section
variable {K:PySem.W.Frag} {S S':Sx} {κ κ':Bool} {Γ Γ' Γ'':Ctx} {P:Post}
theorem dpAll_of_bls {F:Hp}:∀ {vs:List V} {bs:List Bool},DpAll K F vs (bs.map PyData.bool)→vs=bs.map V.bl
  | _,[],.nil=>rfl
  | _,_ :: _,.cons h t=>by rw [dp_bl h,dpAll_of_bls t]; rfl
theorem ev_all {ta:TE} {bs:List Bool} (h:EvL K S false ta Γ (bs.map .bool)):EvE K S κ (tCB (rAll K) (tCons ta tNil)) Γ (.bool (bs.all fun b=>b)):=fun H0 F0 H F σ e Q q =>
  h H0 F0 H F σ e _ fun a vs H1 F1 g1 p1 k1=>by
    cases dpAll_of_bls (rpAll_dp k1)
    exact ⟨a,bs,rfl,p1,q _ H1 F1 g1 (.bl _)⟩
theorem rpAll_of {H0 F:Hp}:∀ {vs:List V} {ds:List PyData},vs.length=ds.length→(∀ (j:Nat) v d,vs[j]?=some v→ds[j]?=some d→Rp K κ S H0 F v d)→RpAll K κ S H0 F vs ds
  | [],[],_,_=>.nil
  | [],_ :: _,h,_=>by cases h
  | _ :: _,[],h,_=>by cases h
  | v :: vs,d :: ds,h,k=>.cons (k 0 v d rfl rfl) (rpAll_of (by simpa using h) fun j v' d' h1 h2=>k (j + 1) v' d' (by simpa using h1) (by simpa using h2))
theorem nodup_inj {α:Type}:∀ {l:List α},l.Nodup→∀ {i j:Nat} {x:α},l[i]?=some x→l[j]?=some x→i=j
  | [],_,i,j,x,h,_=>by simp at h
  | y :: r,n,0,0,x,_,_=>rfl
  | y :: r,n,0,j + 1,x,h1,h2=>by
    have e:y=x:=by simpa using h1
    exact absurd (List.mem_of_getElem? (show r[j]?=some x by simpa using h2)) (e ▸ (List.nodup_cons.mp n).1)
  | y :: r,n,i + 1,0,x,h1,h2=>by
    have e:y=x:=by simpa using h2
    exact absurd (List.mem_of_getElem? (show r[i]?=some x by simpa using h1)) (e ▸ (List.nodup_cons.mp n).1)
  | y :: r,n,i + 1,j + 1,x,h1,h2=>by rw [nodup_inj (List.nodup_cons.mp n).2 (show r[i]?=some x by simpa using h1) (show r[j]?=some x by simpa using h2)]
theorem exo2 {wi:TI} {i:Nat} {u:TS} {ds:List PyData} (hi:EvI K S κ' wi Γ ds) (hz:ds.length≤sizeLine) (es:SetC Γ i (some (.o2 none (List.replicate ds.length []))) Γ') (k:ExT K S S' u Γ' P) :
    ExT K S S' (tSeq (tAsg (tComp [none] wi (gName 0) tYes (tLst tNil)) (gName i)) u) Γ P:=fun H0 F0 H F σ B e bb vv D I =>
  hi H0 F0 H F σ e _ fun J H1 F1 g1 I1=>by
    intro L hL
    have sdm:∀ {H2 F2:Hp},Gr H1 F1 H2 F2→∀ a,S.has H0 a→∃ o,H2 a=some o:=fun g2 a c=>let ⟨o,z⟩:=(e.mono g1).sd a c; ⟨o,g2.h _ _ z⟩
    refine ⟨fun n m ys H2=>m=ds.length - n∧n≤ds.length∧∃ F2,Gr H1 F1 H2 F2∧H2 L=some (.lst ys)∧F2 L=none∧V.ref L∉ys∧ys.Nodup∧ys.length=n∧∀ (j:Nat) x,ys[j]?=some x→∃ c,x=.ref c∧H1 c=none∧H2 c=some (.lst [])∧F2 c=none,
      ⟨_,rfl,Nat.zero_le _,F1,.newO g1.le hL _,upd_same,g1.le.free hL,by simp,List.nodup_nil,rfl,by simp⟩,?_⟩
    rintro n m ys H2 ⟨rfl,hn,F2,g2,hl,fl,n1,n2,n3,hy⟩
    by_cases hlt:n < ds.length
    · refine .inr ⟨I1.go n H2 F2 g2.f g2.le hlt,fun zs H3=>n + 1≤ds.length∧∃ F2,Gr H1 F1 H3 F2∧H3 L=some (.lst zs)∧F2 L=none∧V.ref L∉zs∧zs.Nodup∧zs.length=n + 1∧∀ (j:Nat) x,zs[j]?=some x→∃ c,x=.ref c∧H1 c=none∧H3 c=some (.lst [])∧F2 c=none,fun zs H3 h3=>⟨ds.length - (n + 1),by omega,rfl,h3⟩,fun x H3 y=>?_⟩
      obtain ⟨d,F3,hd,g3,p3⟩:=I1.yld n H2 F2 x H3 g2.f g2.le (sdm g2) hlt y
      have g:=g2.trans g3
      have hl3:=g3.h _ _ hl
      have fl3:=g3.ap _ _ hl fl
      refine ⟨Sub.set rfl,?_⟩
      unfold tYes
      dsimp only
      refine iteT ⟨Nat.zero_le _,fun p hp=>?_⟩
      have npL:p≠L:=by rintro rfl; rw [hl3] at hp; cases hp
      have fp3:F3 p=none:=g3.le.free hp
      have hp1:H1 p=none:=g.h.free hp
      have np:V.ref p∉ys:=fun hm=>by
        obtain ⟨j,hj⟩:=List.mem_iff_getElem?.mp hm
        obtain ⟨c,ec,_,h2,_⟩:=hy j _ hj
        cases ec
        have:=g3.h _ _ h2
        rw [hp] at this; cases this
      refine ⟨by rw [upd_ne npL.symm]; exact hl3,by omega,hlt,F3,⟨fun b u z=>?_,g.f,fun b u z=>?_,g.ap⟩,upd_same,fl3,?_,?_,by rw [List.length_append,n3]; rfl,fun j x hx=>?_⟩
      · rw [upd_ne (ne_of_none z hL),upd_ne (ne_of_none z hp1)]
        exact g.h _ _ z
      · rw [upd_ne (by rintro rfl; rw [fl3] at z; cases z),upd_ne (by rintro rfl; rw [fp3] at z; cases z)]
        exact g3.le _ _ z
      · intro hm
        rcases List.mem_append.mp hm with hm | hm
        · exact n1 hm
        · have:V.ref L=.ref p:=by simpa using hm
          cases this
          exact npL rfl
      · refine List.nodup_append.mpr ⟨n2,by simp,fun a ha b hb=>?_⟩
        have:b=.ref p:=by simpa using hb
        rintro rfl
        exact np (this ▸ ha)
      · by_cases hj:j < ys.length
        · rw [List.getElem?_append_left hj] at hx
          obtain ⟨c,rfl,h1,h2,h3⟩:=hy j x hx
          have ncL:c≠L:=by rintro rfl; exact n1 (List.mem_of_getElem? hx)
          have ncp:c≠p:=by rintro rfl; exact np (List.mem_of_getElem? hx)
          exact ⟨c,rfl,h1,by rw [upd_ne ncL,upd_ne ncp]; exact g3.h _ _ h2,g3.ap _ _ h2 h3⟩
        · rw [List.getElem?_append_right (by omega)] at hx
          have:j - ys.length=0:=by
            have:=(List.getElem?_eq_some_iff.mp hx).1
            simp at this
            omega
          rw [this] at hx
          cases (show some (V.ref p)=some x from hx)
          exact ⟨p,rfl,hp1,by rw [upd_ne npL,upd_same],fp3⟩
    · have en:n=ds.length:=by omega
      subst en
      have g:=g1.trans g2
      have e2:=e.mono g
      have hHL:H L=none:=g1.h.free hL
      refine .inl ⟨I1.stop H2 F2 g2.f g2.le,?_⟩
      obtain rfl:=es.eq
      have hv:HasV K S H0 H2 F2 (.ref L) (.o2 none (List.replicate ds.length [])):=⟨L,ys,⟨rfl,fun _ z=>nomatch z⟩,⟨hl,fl,e.gr.h.free hHL,e.out hHL⟩,n1,n2,by rw [List.length_replicate]; exact n3,fun j x hx=>by
        obtain ⟨c,rfl,h1,h2,h3⟩:=hy j x hx
        have hHc:H c=none:=g1.h.free h1
        have hj:=(List.getElem?_eq_some_iff.mp hx).1
        exact ⟨c,[],[],rfl,⟨h2,h3,e.gr.h.free hHc,e.out hHc⟩,by rw [List.getElem?_replicate,if_pos (by omega)],.nil⟩⟩
      refine k H0 F0 H2 F2 _ B (e2.set hv fun a oa j y w hj z hw o=>?_) (bb.trans g.f) vv D I
      obtain ⟨v,q1,q2⟩:=e.has j y z
      rw [hw] at q1
      cases q1
      obtain ⟨us,w1⟩:=q2.owns (o.back q2 fun _ _ z=>g.h _ _ z.h)
      have ha:=w1.h
      rcases oa with oa | ⟨p,vs,ep,hp,hm⟩
      · cases oa
        rw [hHL] at ha; cases ha
      · cases ep
        rw [hl] at hp
        cases hp
        obtain ⟨j',hj'⟩:=List.mem_iff_getElem?.mp hm
        obtain ⟨c,ec,h1,_⟩:=hy j' _ hj'
        cases ec
        rw [g1.h.free h1] at ha; cases ha
theorem evl_o2 {r:Option Addr} {ti:TE} {i j:Nat} {m:Int} {dss:List (List PyData)} {ds:List PyData} (h:GetC Γ i (.o2 r dss)) (hi:EvE K S false ti Γ (.int m)) (hm:ixN dss.length m=some j) (hd:dss[j]?=some ds):EvL K S true (tOp (rIxL K) (tVar i) ti) Γ ds:=fun H0 F0 H F σ e Q q=>by
  obtain ⟨v0,q1,a,vs,⟨rfl,hid⟩,w,n1,n2,n3,hk⟩:=e.has i _ h.eq
  refine ⟨_,q1,hi H0 F0 H F σ e _ fun w' H1 F1 g1 p1=>?_⟩
  cases rp_int p1
  have hj:=(List.getElem?_eq_some_iff.mp hd).1
  have hx:vs[j]?=some (vs[j]'(by omega)):=List.getElem?_eq_getElem (by omega)
  obtain ⟨b,us,ds',ex,ow,hd',kk⟩:=hk j _ hx
  rw [hd] at hd'
  cases hd'
  have hat:atI vs m=some (.ref b):=by
    unfold atI
    rw [n3,hm]
    show vs[j]?=_
    rw [hx,ex]
  exact ⟨a,vs,m,_,rfl,rfl,SqL.of (g1.h _ _ w.h),hat,q b us H1 F1 g1 (SqL.of (g1.h _ _ ow.h)) (rpAll_mono g1.f kk)⟩
theorem ex_o2app {r:Option Addr} {ti te:TE} {i j:Nat} {m:Int} {dss:List (List PyData)} {ds:List PyData} {d:PyData} (h:GetC Γ i (.o2 r dss)) (hi:EvE K S false ti Γ (.int m)) (hm:ixN dss.length m=some j) (hd:dss[j]?=some ds) (he:EvE K S true te Γ d) (hz:ds.length < sizeLine)
    (es:SetC Γ i (some (.o2 r (dss.set j (ds ++ [d])))) Γ') (k:P.nx Γ'):ExS K S (tDrop (tBM K "list" rAppend (tOp (rIxL K) (tVar i) ti) (tCons te tNil))) Γ P:=fun H0 F0 H F σ B e bb _ D I=>by
  obtain ⟨v0,q1,a,vs,⟨rfl,hid⟩,w,n1,n2,n3,hk⟩:=e.has i _ h.eq
  refine ⟨_,q1,hi H0 F0 H F σ e _ fun w' H1 F1 g1 p1=>?_⟩
  cases rp_int p1
  have hj:=(List.getElem?_eq_some_iff.mp hd).1
  have hx:vs[j]?=some (vs[j]'(by omega)):=List.getElem?_eq_getElem (by omega)
  obtain ⟨b,us,ds',ex,ow,hd',kk⟩:=hk j _ hx
  rw [hd] at hd'
  cases hd'
  rw [ex] at hx
  have hat:atI vs m=some (.ref b):=by
    unfold atI
    rw [n3,hm]
    exact hx
  refine ⟨a,vs,m,_,rfl,rfl,SqL.of (g1.h _ _ w.h),hat,.inl ⟨rfl,_,SqL.of (g1.h _ _ ow.h)⟩,he H0 F0 H1 F1 σ (e.mono g1) _ fun v H2 F2 g2 p2=>?_⟩
  have g:=g1.trans g2
  have ow2:=ow.mono g
  have w2:=w.mono g
  have nba:b≠a:=by rintro rfl; exact n1 (List.mem_of_getElem? hx)
  refine ⟨b,us,v,rfl,rfl,ow2.h,by rw [RpAll.length kk]; exact hz,?_⟩
  obtain rfl:=es.eq
  refine I.nx _ _ _ F2 k (bb.trans g.f) ((e.mono g).put (y:=.o2 r (dss.set j (ds ++ [d]))) h.eq q1 (show Owns H2 (.ref a) (.o2 r dss) b from .inr ⟨a,vs,rfl,w2.h,List.mem_of_getElem? hx⟩) ?_ ?_)
  · refine ⟨a,vs,⟨rfl,hid⟩,w2.other nba.symm,n1,n2,by rw [List.length_set]; exact n3,fun j' x hx'=>?_⟩
    by_cases hjj:j'=j
    · subst hjj
      rw [hx] at hx'
      cases hx'
      exact ⟨b,us ++ [v],ds ++ [d],rfl,⟨upd_same,ow2.f,ow2.n,ow2.s⟩,by rw [List.getElem?_set_self hj],RpAll.append (rpAll_mono g.f kk) (.cons p2 .nil)⟩
    · obtain ⟨c,ws,ds',rfl,oc,hc,kc⟩:=hk j' x hx'
      have ncb:c≠b:=by
        rintro rfl
        exact hjj (nodup_inj n2 hx' hx)
      exact ⟨c,ws,ds',rfl,(oc.mono g).other ncb,by rw [List.getElem?_set_ne (Ne.symm hjj)]; exact hc,rpAll_mono g.f kc⟩
  · rintro c (oc | ⟨p,xs,ep,hp,hm'⟩)
    · exact .inl oc
    · cases ep
      rw [upd_ne nba.symm,w2.h] at hp
      cases hp
      exact .inr ⟨a,vs,rfl,w2.h,hm'⟩
theorem HasV.frzG {H0 H F F':Hp} {v:V} {x:DV} (h:HasV K S H0 H F v x) (s:Same F F') (n:∀ c,Owns H v x c→F' c=none):HasV K S H0 H F' v x:=by
  cases x with
  | fz κ d=>exact rp_mono s h
  | tn d=>obtain ⟨T,eT,k⟩:=h; exact ⟨T,eT,rp_mono s k⟩
  | ow κ ds=>obtain ⟨b,us,eb,wo,kk⟩:=h; exact ⟨b,us,eb,⟨wo.h,n b eb,wo.n,wo.s⟩,rpAll_mono s kk⟩
  | ox=>obtain ⟨b,us,eb,wo⟩:=h; exact ⟨b,us,eb,⟨wo.h,n b eb,wo.n,wo.s⟩⟩
  | o2 r dss =>
    obtain ⟨b,us,eb,wo,n1,n2,l,k⟩:=h
    refine ⟨b,us,eb,⟨wo.h,n b (.inl eb.eq),wo.n,wo.s⟩,n1,n2,l,fun j y hy=>?_⟩
    obtain ⟨c,ws,ds,e2,o2,h2,k2⟩:=k j y hy
    exact ⟨c,ws,ds,e2,⟨o2.h,n c (.inr ⟨b,us,eb.eq,wo.h,by rw [← e2]; exact List.mem_of_getElem? hy⟩),o2.n,o2.s⟩,h2,rpAll_mono s k2⟩
  | fn a=>exact h
  | xn φ=>obtain ⟨b,e,k⟩:=h; exact ⟨b,e,s _ _ k⟩
  | oa b κ ds=>obtain ⟨eb,us,wo,kk⟩:=h; exact ⟨eb,us,⟨wo.h,n b eb,wo.n,wo.s⟩,rpAll_mono s kk⟩
  | xp φ=>obtain ⟨F1,s1,k⟩:=h; exact ⟨F1,s1.trans s,k⟩
  | od u=>obtain ⟨b,eb,wo⟩:=h; exact ⟨b,eb,⟨wo.h,n b eb,wo.n,wo.s⟩⟩
  | og ad ψ =>
    obtain ⟨ok,w,p⟩:=h
    refine ⟨ok,fun b z=>?_,ok.ps S H0 H H F F' v (fun _ _=>rfl) s p⟩
    obtain ⟨o,y⟩:=w b z
    exact ⟨o,⟨y.h,n b z,y.n,y.s⟩⟩
open Classical in
noncomputable def frzF (F H:Hp) (a:Addr) (vs:List V):Hp:=fun c=>if c=a∨V.ref c∈vs then H c else F c
theorem DEnv.frz2 {r:Option Addr} {i:Nat} {dss:List (List PyData)} {H0 F0 H F:Hp} {σ:St} (e:DEnv K S H0 F0 H F σ Γ) (h:GetC Γ i (.o2 r dss)) (es:SetC Γ i (some (.fz true (.list (dss.map .list)))) Γ') :
    ∃ (Ff:Hp) (A:Addr→Prop),DEnv K S H0 F0 H Ff σ Γ'∧Same F Ff∧(∀ c,A c→F c=none∧∃ vs,Ff c=some (.lst vs))∧∀ c,¬ A c→Ff c=F c:=by
  have h':=h.eq
  obtain ⟨v0,q1,a,vs,⟨rfl,hid⟩,w,n1,n2,n3,hk⟩:=e.has i _ h'
  have inn:∀ {c:Addr},(c=a∨V.ref c∈vs)→∃ us,OwnAt S H0 H F c us:=fun {c} hc=>by
    rcases hc with rfl | hc
    · exact ⟨_,w⟩
    · obtain ⟨j,hj⟩:=List.mem_iff_getElem?.mp hc
      obtain ⟨b,us,ds,eb,ow,_⟩:=hk j _ hj
      cases eb
      exact ⟨us,ow⟩
  have Fin:∀ {c:Addr},(c=a∨V.ref c∈vs)→frzF F H a vs c=H c:=fun hc=>if_pos hc
  have Fout:∀ {c:Addr},¬ (c=a∨V.ref c∈vs)→frzF F H a vs c=F c:=fun hc=>if_neg hc
  have s:Same F (frzF F H a vs):=fun c o hc=>by
    rw [Fout fun z=>by obtain ⟨us,ow⟩:=inn z; rw [ow.f] at hc; cases hc]
    exact hc
  have le:Same (frzF F H a vs) H:=fun c o hc=>by
    by_cases z:c=a∨V.ref c∈vs
    · rw [Fin z] at hc; exact hc
    · rw [Fout z] at hc; exact e.le _ _ hc
  have li:=(List.getElem?_eq_some_iff.mp h').1
  have own:∀ {c:Addr},(c=a∨V.ref c∈vs)→Owns H (.ref a) (.o2 r dss) c:=fun {c} hc=>by
    rcases hc with rfl | hc
    · exact .inl rfl
    · exact .inr ⟨a,vs,rfl,w.h,hc⟩
  obtain rfl:=es.eq
  have hv:HasV K S H0 H (frzF F H a vs) (.ref a) (.fz true (.list (dss.map .list))):=by
    refine .lst ⟨by rw [Fin (.inl rfl)]; exact w.h,w.s⟩ (rpAll_of (by rw [List.length_map]; exact n3) fun j v d h1 h2=>?_)
    obtain ⟨b,us,ds,rfl,ow,hd,kk⟩:=hk j v h1
    rw [List.getElem?_map,hd] at h2
    cases h2
    exact .lst ⟨by rw [Fin (.inr (List.mem_of_getElem? h1))]; exact ow.h,ow.s⟩ (rpAll_mono s kk)
  have eF:DEnv K S H0 F0 H (frzF F H a vs) σ (Γ.set i (some (.fz true (.list (dss.map .list))))):=by
    refine ⟨⟨e.gr.h,e.gr.f.trans s,le,fun c o hc hn=>?_⟩,e.l0,e.sd,e.s0,by simp [e.len],fun j f z=>?_,fun j k' x1 y1 v1 w1 b g1 g2 g3 g4 o1 o2=>?_⟩
    · rw [Fout fun z=>by obtain ⟨us,ow⟩:=inn z; rw [ow.n] at hc; cases hc]
      exact e.gr.ap c o hc hn
    · by_cases hj:j=i
      · subst hj
        rw [List.getElem?_set_self li] at z
        cases z
        exact ⟨_,q1,hv⟩
      · rw [List.getElem?_set_ne (Ne.symm hj)] at z
        obtain ⟨u,r1,r2⟩:=e.has j f z
        refine ⟨u,r1,r2.frzG s fun c oc=>?_⟩
        by_cases zc:c=a∨V.ref c∈vs
        · exact absurd (e.ne j i f _ u _ c z h' r1 q1 oc (own zc)) hj
        · rw [Fout zc]
          obtain ⟨us,wo⟩:=r2.owns oc
          exact wo.f
    · by_cases hj:j=i
      · subst hj
        rw [List.getElem?_set_self li] at g1
        cases g1
        exact o1.elim
      · by_cases hk':k'=i
        · subst hk'
          rw [List.getElem?_set_self li] at g2
          cases g2
          exact o2.elim
        · rw [List.getElem?_set_ne (Ne.symm hj)] at g1
          rw [List.getElem?_set_ne (Ne.symm hk')] at g2
          exact e.ne j k' x1 y1 v1 w1 b g1 g2 g3 g4 o1 o2
  refine ⟨_,fun c=>c=a∨V.ref c∈vs,eF,s,fun c hc=>?_,fun c hc=>Fout hc⟩
  obtain ⟨us,ow⟩:=inn hc
  exact ⟨ow.f,us,by rw [Fin hc]; exact ow.h⟩
theorem exfz2 {r:Option Addr} {t:TS} (i:Nat) {dss:List (List PyData)} (h:GetC Γ i (.o2 r dss)) (es:SetC Γ i (some (.fz true (.list (dss.map .list)))) Γ') (k:ExT K S S' t Γ' P):ExT K S S' t Γ P:=fun H0 F0 H F σ B e bb vv D I=>by
  obtain ⟨Ff,A,eF,s,_⟩:=e.frz2 h es
  exact k H0 F0 H _ σ B eF (bb.trans s) vv D I
theorem imm_drop {H0 F:Hp} {T:Addr→Prop} {vs:List V} {ds:List PyData} (h:∀ d∈ds,imm d=true) (k:DpAll K F vs ds):RpAll K κ S H0 (drop T F) vs ds :=
  dpAll_immL h (rpAll_dp (rpAll_map (κ:=true) (κ':=true) (S:=.spoil T) (S':=.fresh) (H0:=fun _=>none) (H0':=fun _=>none) (F:=F) (F':=drop T F) (fun a xs z=>⟨drop_some.mpr ⟨z.1,fun c=>z.2 (.inr c.1)⟩,fun c=>z.2 (.inl c)⟩) (fun _ _ z=>tup_drop z) (dpAll_immL h k)))
theorem thaw {H0 F0 H F:Hp} {σ:St} {i:Nat} {ds:List PyData} {Γf:Ctx} (e:DEnv K S H0 F0 H F σ Γ) (h:GetC Γ i (.ow κ ds)) (es:SetC Γ i (some (.fz κ (.list ds))) Γf) :
    ∃ a Ff,DEnv K S H0 F0 H Ff σ Γf∧∀ H' F',Gr H Ff H' F'→Gr H F H' (drop (fun c=>c=a) F'):=by
  obtain ⟨v,q1,a,vs,rfl,w,q5⟩:=e.has i _ h.eq
  obtain ⟨s,e'⟩:=e.froz (y:=.fz κ (.list ds)) h.eq q1 rfl w (.lst (LN.new w.s) (rpAll_mono (Same.new w.f _) q5)) fun _ z=>z.elim
  rw [es.eq] at e'
  refine ⟨a,_,e',fun H' F' g=>⟨g.h,fun c o z=>drop_some.mpr ⟨g.f _ _ (s _ _ z),?_⟩,fun c o z=>g.le _ _ (drop_some.mp z).1,fun c o z n=>?_⟩⟩
  · rintro ⟨rfl,_⟩
    rw [w.f] at z; cases z
  · by_cases hc:c=a
    · subst hc
      exact drop_none (g.f _ _ upd_same) rfl
    · cases q':drop (fun c=>c=a) F' c with
      | none=>rfl
      | some o' =>
        have:=(drop_some.mp q').1
        rw [g.ap _ _ z (by rw [upd_ne hc]; exact n)] at this; cases this
theorem et_thaw (i:Nat) {t:TT} {b:Bool} {ds:List PyData} {Γf:Ctx} (h:GetC Γ i (.ow κ ds)) (es:SetC Γ i (some (.fz κ (.list ds))) Γf) (k:EvT K S t Γf b):EvT K S t Γ b:=fun H0 F0 H F σ e Q q=>by
  obtain ⟨a,Ff,e',g⟩:=thaw e h es
  exact k H0 F0 H Ff σ e' Q fun H' F' g'=>q H' _ (g H' F' g')
theorem ev_thaw (i:Nat) {t:TE} {d:PyData} {ds:List PyData} {Γf:Ctx} (h:GetC Γ i (.ow κ ds)) (es:SetC Γ i (some (.fz κ (.list ds))) Γf) (k:EvE K S false t Γf d) (hi:imm d=true):EvE K S κ' t Γ d:=fun H0 F0 H F σ e Q q=>by
  obtain ⟨a,Ff,e',g⟩:=thaw e h es
  refine k H0 F0 H Ff σ e' Q fun v H' F' g' p=>q v H' _ (g H' F' g') ?_
  cases imm_drop (K:=K) (κ:=κ') (S:=S) (H0:=H0) (T:=fun c=>c=a) (vs:=[v]) (ds:=[d]) (fun x hx=>by rw [List.mem_singleton.mp hx]; exact hi) (.cons (rp_dp p) .nil) with
  | cons z _=>exact z
end
end PD
namespace PD
open PySem L2
section
variable {K:PySem.W.Frag} {S S':Sx} {κ κ':Bool} {Γ Γ' Γ'':Ctx} {P:Post}
theorem evo_each {α:Type} {js:List (Option Nat)} {Γc:Ctx} {wi:TI} {g:TG} {te:TE} {is:List Nat} {xs:List α} (κ':Bool) (u f:α→PyData) (hu:∀ x∈xs,∀ y∈xs,u x=u y→f x=f y) (hi:EvI K S κ' wi Γ (xs.map u)) (hc:CaptC js Γ Γc) (hjs:(is.all fun i=>js[i]? == some none)=true)
    (hj:(js.filterMap id).Nodup) (hz:xs.length≤sizeLine) (hb:∀ x∈xs,ExG K S κ' g is (u x) Γc fun Γ'=>EvE K S κ te Γ' (f x)):EvO K S κ (tComp js wi g tYes te) Γ (xs.map f):=by
  classical
  let F:PyData→PyData:=fun d=>if h:∃ x,x∈xs∧u x=d then f h.choose else .none
  have hF:∀ x∈xs,F (u x)=f x:=fun x hx=>by
    have h:∃ y,y∈xs∧u y=u x:=⟨x,hx,rfl⟩
    show (if h:∃ y,y∈xs∧u y=u x then f h.choose else .none)=_
    rw [dif_pos h]
    exact hu _ h.choose_spec.1 _ hx h.choose_spec.2
  refine EvO.eq (evo_map (κ:=κ) κ' F hi hc hjs hj (by rw [List.length_map]; exact hz) fun d hd=>?_) ?_
  · obtain ⟨x,hx,rfl⟩:=List.mem_map.mp hd
    rw [hF x hx]
    exact hb x hx
  · rw [List.map_map]
    exact List.map_congr_left fun x hx=>hF x hx
end
end PD
namespace L2
open PySem PySem.Spec PyProof.Rows
section
variable {P:Program} {w:World} {H H':Hp} {h h':Heap}
theorem HOk.keptT (x:HOk P w H h) (k:∀ b o u,H b=some o→h.get? b=some u→h'.get? b=some u):HOk P w H h':=fun a o e =>
  (x a o e).stay (fun b u hb q=>hb.elim (fun z=>k b o u (z ▸ e) q) fun z=>k b _ u z q) (fun _ q=>q) fun _ _ q=>q
end
theorem ObjOk.get {P:Program} {w:World} {H:Hp} {h:Heap} {a:Addr} {o:HO} (x:ObjOk P w H h a o):∃ ob,h.get? a=some ob:=by
  cases o with
  | lst xs=>obtain ⟨_,_,_,_,e⟩:=x; exact ⟨_,e⟩
  | tup xs=>obtain ⟨_,_,_,_,e,_⟩:=x; exact ⟨_,e⟩
  | dK kvs=>obtain ⟨_,_,_,_,o,_,_,e,_⟩:=x; exact ⟨_,e⟩
  | dT kvs=>obtain ⟨_,_,_,_,o,_,_,e,_⟩:=x; exact ⟨_,e⟩
  | set S n=>obtain ⟨o,_,_,_,e,_⟩:=x; exact ⟨_,e⟩
  | ins C dx fs=>obtain ⟨_,_,_,e,_⟩:=x; exact ⟨_,e⟩
  | own y=>exact x
  | xd fs=>obtain ⟨_,⟨_,_,_,e,_⟩,_⟩:=x; exact ⟨_,e⟩
  | rng lo hi=>obtain ⟨_,_,_,e⟩:=x; exact ⟨_,e⟩
  | frz ob u=>exact ⟨_,x.1⟩
  | tbl ps=>obtain ⟨_,e,_⟩:=x; exact ⟨_,e⟩
  | met f y=>exact ⟨_,x⟩
  | ext φ=>exact x.2.1
section
variable {P:Program} {w:World} {outer:List Env} {H H':Hp} {s s':Shared} {C a:Addr} {B:Heap} {t:Value}
end
end L2
namespace L2
open PySem PySem.Spec PyProof.Rows
abbrev bmV:List Value:=[.type "ValueError", .type "Exception", .type "BaseException", .type "object"]
section
variable {X:Cx} {E:XK} {x:Str} {C:Addr} {e0:Expr} {es:List Expr} {ta:TA} {np cpos pos:Pos}
end
end L2
namespace L2
open PySem PySem.Spec PyProof.Rows PySem.W PySem.Builtin PySem.Builtin.ObjectAttr PySem.Builtin.Getset_descriptor
section
variable {prog:Program} {w:World} {A:Around} {E:Value→Shared→Prop} {s:Shared} {K:Frag} {a C:Addr} {o:Obj}
theorem looks_cls {M:Model} {h:Heap} (hx:h.get? a=some o) (hc:o.cls=.ref C):Looks M h (typeOf (.ref a)) (.ref C):=hc ▸ (Looks.ld hx).andThen .now
theorem bexc_check {M:Model} {nv:Value} {Q:Unit→Shared→Prop} (LI:Looks M s.heap (isInstance (.ref a) (.type "BaseException")) true) (q:Q () s):wpAny M A (checkBuiltinCall "BaseException.__getattribute__" ⟨[.ref a,nv],[]⟩) Q E s:=by
  have z1:splitId "BaseException.__getattribute__" = some ("BaseException", "__getattribute__"):=by decide +kernel
  have z2:builtinKind "BaseException.__getattribute__" = some .slot:=by decide +kernel
  have z3:=PySem.F.args_bexc_ga (.ref a) nv
  simp only [checkBuiltinCall,z2,z1]
  refine wpAny_bind (LI.at ?_)
  rw [if_neg (by decide)]
  unfold argsOk at z3
  exact wpAny_of_eq z3 q
theorem class_read {tp:Value} {R:Result→Shared→Prop} (L0:Looks (model prog w) s.heap (typeOf (.ref a)) (.ref C)) (L7:Looks (model prog w) s.heap (isSubtype (.ref C) (.type "object")) true) (q:R (.ok (.ret (.ref C))) s) :
    codeAny (model prog w) A (.call (.builtin "getset_descriptor.__get__") ⟨[.builtin "object.__class__", .ref a,tp],[]⟩) R s:=by
  obtain ⟨hh,g,d,t,os⟩:=s
  refine codeAny_call_builtin KF.slot_gs.plain KF.entry_gs ?_
  refine KF.slot_gs.check _ _ _ _ _ _ _ _ KF.type_class (KF.args_gs _ _ _) ?_
  unfold Builtin.«getset_descriptor.__get__»
  unfold descrGet
  rw [dga_obj]
  refine wpAny_bind (wpAny_pure ?_)
  unfold descrGetter descrCheckInstance
  unfold descrNameAndClass isInstance
  simp only [KF.owner_class]
  repeat lk
  refine ⟨Code.quiet_builtin _ (by decide +kernel),?_⟩
  refine codeAny_builtin KF.entry_class ?_
  unfold Builtin.«object.__class__»
  unfold shownTypeOf
  repeat lk
  exact q
theorem exc_class {Q:Option Value→Shared→Prop} (X:K.In s.heap) (hx:s.heap.get? a=some o) (hc:o.cls=.ref C)
    (g1:findIn K (.ref C) "__getattribute__" = some (some (.builtin "BaseException.__getattribute__"))) (g2:findIn K (.ref C) "__getattr__" = some none) (g3:findIn K (.ref C) "__class__" = some (some (.builtin "object.__class__")))
    (g4:specialIn K (.builtin "object.__class__") "__get__" = some (some (.builtin "getset_descriptor.__get__"))) (g5:takesIn K (.builtin "object.__class__")=some true) (g6:mroIn K C (.type "object")=some true) (g7:subIn K (.ref C) (.type "BaseException")=some true)
    (h:Q (some (.ref C)) { s with toks:=s.toks + 1 }):wpAny (model prog w) A (getAttr? (.ref a) "__class__") Q E s:=by
  obtain ⟨hh,g,d,t,os⟩:=s
  have L0:Looks (model prog w) hh (typeOf (.ref a)) (.ref C):=looks_cls hx hc
  have L1:=looks_findIn (M:=model prog w) X g1
  have L2:=looks_findIn (M:=model prog w) X g2
  have L3:=looks_findIn (M:=model prog w) X g3
  have L4:=looks_specialIn (M:=model prog w) X g4
  have L5:=looks_takesIn (M:=model prog w) X g5
  have L6:Looks (model prog w) hh (isInstance (.ref a) (.type "BaseException")) true:=L0.andThen (looks_subIn X g7)
  unfold getAttr? getAttrBy? getAttrBy
  refine wpAny_bind (wpAny_mkText (wpAny_bind (wpAny_attempt (wpAny_holding (wpAny_bind (L0.at (wpAny_bind (L1.at ?_))))))))
  dsimp only
  rw [if_neg (by
    have:(Value.builtin "BaseException.__getattribute__" == Value.builtin "object.__getattribute__")=false:=by decide +kernel
    rw [this,Bool.and_false]
    decide)]
  unfold getAttrByItsOwn hookBefore
  rw [if_pos (show onTheHeap (Value.ref C)=true from rfl)]
  refine wpAny_bind (L2.at ?_)
  refine wpAny_bind (wpAny_attempt (wpAny_holding ?_))
  unfold callGetattribute boundAndCalled
  rw [Bool.false_and,if_neg (by decide)]
  refine wpAny_bind (wpAny_of_eq (PySem.F.attr_ValueError.ga.bind (.ref a)) ?_)
  refine wpAny_call (codeAny_call_builtin PySem.F.attr_ValueError.ga.plain PySem.F.entry_bexc_ga (bexc_check L6 ?_))
  unfold Builtin.«object.__getattribute__»
  repeat lk
  show wpAny _ _ (run (Code.call (.builtin "getset_descriptor.__get__") ⟨[.builtin "object.__class__", .ref a,.ref C],[]⟩) none) _ _ _
  refine wpAny_run (class_read L0 (looks_mroIn X g6) ?_)
  refine wpAny_pure ?_
  refine wpAny_pure ?_
  exact handed_on rfl (wpAny_pure h)
end
end L2
namespace L2
open PySem PySem.Spec PyProof.Rows PySem.W
structure EIs (K:Frag) (C:Addr):Prop where
  g1:findIn K (.ref C) "__getattribute__" = some (some (.builtin "BaseException.__getattribute__"))
  g2:findIn K (.ref C) "__getattr__" = some none
  g3:findIn K (.ref C) "__class__" = some (some (.builtin "object.__class__"))
  g4:specialIn K (.builtin "object.__class__") "__get__" = some (some (.builtin "getset_descriptor.__get__"))
  g5:takesIn K (.builtin "object.__class__")=some true
  g6:mroIn K C (.type "object")=some true
  g7:subIn K (.ref C) (.type "BaseException")=some true
theorem cls_lookup {K:Frag} {C:Addr} {b:Value} {r:Bool} (h:mroIn K C b=some r):∃ c d cd sl,K.lookup C=some ⟨c,d,.cls cd,sl⟩:=by
  unfold mroIn at h
  obtain ⟨cd,hcd,_⟩:=Option.bind_eq_some_iff.mp h
  unfold clsIn at hcd
  split at hcd
  · rename_i c d cd' sl q
    exact ⟨c,d,cd',sl,q⟩
  · cases hcd
def excIs (C a:Addr):Heap→Prop:=fun h=>∃ o,h.get? a=some o∧o.cls=.ref C
theorem kitx_exc {K:Frag} {C a:Addr} (e:EIs K C):KitX K (.ref a) (.ref C) (excIs C a) where
  ty:=fun _ _ _ ⟨_,hx,hc⟩=>looks_cls hx hc
  it:=fun _ _ X _=>by
    obtain ⟨c,d,cd,sl,q⟩:=cls_lookup e.g6
    intro A' Q' E' s' k z
    unfold isType
    unfold loadHead
    exact wpAny_bind (wpAny_loadPart (k _ _ (X _ _ q)) (wpAny_pure z))
  ne:=fun h tp dd its n sl X htp=>by
    obtain ⟨c,d,cd,sl',q⟩:=cls_lookup e.g6
    refine Bool.eq_false_iff.mpr fun z=>?_
    cases beq_iff_eq.mp z
    have z:=(X _ _ q).symm.trans htp
    cases z
  ca:=fun X ⟨_,hx,hc⟩ k=>exc_class X hx hc e.g1 e.g2 e.g3 e.g4 e.g5 e.g6 e.g7 k
def clsV:V→Option Value
  | .ref c=>some (.ref c)
  | .ty t=>some (.type t)
  | _=>none
section
variable {X:Cx} {K:Frag}
end
section
variable {M:Model} {A:Around} {E:Value→Shared→Prop} {s:Shared} {env:Env}
theorem goesK {n:Str} {pos:Pos} {m:Str→Option Value} {Q:Unit→Shared→Prop} (hl:env.kindOf n=some .local) (hn:s.heap.Ns env.locals m) (hp:(env.scope.kind == .class || (env.scope.kind == .module && env.locals != env.globals))=false)
    (q:∀ h' v,h'.Ns env.locals (fun x=>if x=n then v else m x)→Heap.SameBut env.locals s.heap h'→Q () { s with heap:=h',toks:=s.toks + 1 }):wpAny M A (do bindName env n .none; unbindBehindTheSuite env n pos) Q E s:=by
  refine wpAny_bind (wpAny_bindName ?_)
  refine wpAny_storeName_local hl hn (fun h1 n1 s1=>?_) hp
  unfold unbindBehindTheSuite unbindName
  refine wpAny_onRaise (wpAny_bind (wpAny_point (wpAny_bind ?_)))
  unfold deleteName
  simp only [hp,hl]
  rw [if_neg (show ¬ (false=true) by decide)]
  refine wpAny_bind ?_
  refine wpAny_nsDel_keeps n1 fun h2 v n2 s2=>?_
  simp only [Option.isSome_some,if_true,Bool.not_true,if_false,Bool.false_eq_true]
  refine wpAny_pure (wpAny_point (q h2 v ?_ (s1.trans s2)))
  have e:(fun x=>if x=n then v else if x=n then some Value.none else m x)=fun x=>if x=n then v else m x:=by
    funext x
    by_cases z:x=n
    · rw [if_pos z,if_pos z]
    · rw [if_neg z,if_neg z,if_neg z]
  rw [e] at n2
  exact n2
end
section
variable {X:Cx} {pins:List (Addr×Obj)} {σ:St} {H:Hp} {s:Shared}
theorem Inv.track {a:Addr} {φ:Heap→Prop} {o:Obj} (I:Inv X pins σ H s) (ho:s.heap.get? a=some o) (hn:H a=none) (p:φ s.heap) (st:∀ h1 h2:Heap,φ h1→(∀ o,h1.get? a=some o→h2.get? a=some o)→φ h2)
    (new:X.s₀.heap.get? a=none) (hL:a≠X.env.locals) (hc:∀ x c,X.env.cells.lookup x=some c→c≠a) (hp:∀ q∈X.pn ++ pins,q.1≠a):Inv X pins σ (upd H a (.ext φ)) s:=by
  have ne:∀ b u,X.s₀.heap.get? b=some u→b≠a:=fun b u e z=>by rw [z,new] at e; cases e
  refine ⟨I.ok,I.os,I.bare,⟨I.base.keep,I.base.slot,fun b u e n hx=>?_,I.base.there,fun b xs e=>?_,fun b u v e=>?_,fun b ps e=>?_⟩,I.loc,I.cell,?_,fun x c e=>?_,fun q hq=>?_,fun b u e=>?_,I.len⟩
  · rw [upd_ne (ne b u e)]
    exact I.base.free b u e n hx
  · have:=I.base.tups b xs e
    rw [upd_ne (ne_of_none this hn)]
    exact this
  · have:=I.base.frzs b u v e
    rw [upd_ne (ne_of_none this hn)]
    exact this
  · obtain ⟨m,e1⟩:=I.base.tbls b ps e
    exact ⟨m,by rw [upd_ne (ne_of_none e1 hn)]; exact e1⟩
  · rw [upd_ne (Ne.symm hL)]
    exact I.free
  · rw [upd_ne (hc x c e)]
    exact I.freeC x c e
  · obtain ⟨e1,e2,e3,e4,e5⟩:=I.pin q hq
    exact ⟨e1,by rw [upd_ne (hp q hq)]; exact e2,e3,e4,e5⟩
  · by_cases z:b=a
    · subst z
      rw [upd_same] at e
      cases e
      exact ⟨p,⟨o,ho⟩,st⟩
    · rw [upd_ne z] at e
      exact (I.hok b u e).stay (fun _ _ _ q=>q) (fun c q=>by rw [upd_ne (ne_of_none q hn)]; exact q) fun c xs q=>by rw [upd_ne (ne_of_none q hn)]; exact q
theorem Inv.gone {i:Nat} {n:Str} {m:Str→Option Value} {h':Heap} {v:Option Value} {tk:Nat} (I:Inv X pins σ H s) (hi:X.N[i]?=some n) (hN:X.N.Nodup) (hm:s.heap.Ns X.env.locals m)
    (loc:∀ (i:Nat) (x:Str) (v:V),X.N[i]?=some x→σ[i]?=some (some v)→Vis X.env.scope x→∃ u,RelV v u∧Look X.env s.heap m x u)
    (h1:h'.Ns X.env.locals (fun x=>if x=n then v else m x)) (h2:Heap.SameBut X.env.locals s.heap h'):Inv X pins (σ.set i none) H { s with heap:=h',toks:=tk }:=by
  have neL:∀ b u,X.s₀.heap.get? b=some u→b≠X.env.locals:=fun b u e=>Nat.ne_of_lt (Nat.lt_of_lt_of_le (Heap.lt_size e) I.ok.above)
  refine ⟨I.ok,I.os,I.bare,⟨fun b o e n hb hx=>?_,fun b o e n hb hx=>?_,I.base.free,fun b o e hx=>?_,I.base.tups,I.base.frzs,I.base.tbls⟩,⟨_,h1,fun j x w e1 e2 e3=>?_⟩,fun y c e=>?_,I.free,I.freeC,fun q hq=>?_,?_,by rw [List.length_set]; exact I.len⟩
  · exact (h2.2 b (neL b o e)).trans (I.base.keep b o e n hb hx)
  · obtain ⟨sl,q⟩:=I.base.slot b o e n hb hx
    exact ⟨sl,(h2.2 b (neL b o e)).trans q⟩
  · obtain ⟨o',q⟩:=I.base.there b o e hx
    exact ⟨o',(h2.2 b (neL b o e)).trans q⟩
  · have hj:j≠i:=by
      rintro rfl
      rw [List.getElem?_set] at e2
      split at e2
      · split at e2 <;> cases e2
      · rename_i z
        exact z rfl
    rw [List.getElem?_set_ne (Ne.symm hj)] at e2
    obtain ⟨u,r,l⟩:=loc j x w e1 e2 e3
    refine ⟨u,r,?_⟩
    rcases l with ⟨k,l⟩ | ⟨k,c,l,z⟩
    · refine .inl ⟨k,?_⟩
      have:x≠n:=fun z=>hj (nodup_ix hN e1 (z ▸ hi))
      show (if x=n then v else m x)=some u
      rw [if_neg this]
      exact l
    · exact .inr ⟨k,c,l,z.sameBut h2 (I.cne x c l)⟩
  · obtain ⟨w,z⟩:=I.cell y c e
    exact ⟨w,z.sameBut h2 (I.cne y c e)⟩
  · obtain ⟨e1,e2,e3,e4,e5⟩:=I.pin q hq
    exact ⟨(h2.2 q.1 e3).trans e1,e2,e3,e4,e5⟩
  · refine I.hok.keptT fun b o u e q=>(h2.2 b ?_).trans q
    rintro rfl
    rw [I.free] at e; cases e
end
section
variable {M:Model} {A:Around} {E:Value→Shared→Prop} {s:Shared} {K:Frag} {a C D:Addr}
theorem matches_sub {o:Obj} {Q:Bool→Shared→Prop} (X:K.In s.heap) (hx:s.heap.get? a=some o) (hc:o.cls=.ref C) (m1:mroIn K C (.ref D)=some true) (m2:mroIn K D (.type "BaseException")=some true) (m3:typeIn K (.ref D)=some (.type "type")) (q:Q true s) :
    wpAny M A (excMatches (.ref a) (.ref D)) Q E s:=by
  obtain ⟨hh,g,d,t,os⟩:=s
  have L0:Looks M hh (typeOf (.ref a)) (.ref C):=looks_cls hx hc
  have L1:=looks_mroIn (M:=M) X m1
  have L2:=looks_mroIn (M:=M) X m2
  have L3:=looks_typeIn (M:=M) X m3
  have L4:Looks M hh (isSubtype (.type "type") (.type "tuple")) false:=Looks.of_pure tc_notTuple
  obtain ⟨c,dd,cd,sl,ho⟩:=cls_lookup m2
  have L5:Looks M hh (isType (.ref D)) true:=by
    intro A' Q' E' s' k z
    unfold isType
    unfold loadHead
    exact wpAny_bind (wpAny_loadPart (k _ _ (X _ _ ho)) (wpAny_pure z))
  unfold excMatches
  unfold isInstance
  repeat lk
  exact q
end
end L2
namespace L2
open PySem PySem.Spec PyProof.Rows PySem.W
abbrev Cx.inH (X:Cx) (a:Addr):Cx:={ X with A:=X.A.mark (some (.ref a)),calm:=false,xe:=fun _ _=>False }
section
variable {X:Cx} {pins:List (Addr×Obj)} {σ:St} {H:Hp} {s:Shared}
theorem Cx.Ok.inH (ok:X.Ok) (a:Addr):(X.inH a).Ok :=
  ⟨ok.mod,ok.kind,ok.glob,ok.blt,ok.above,ok.inj,ok.has,ok.cab,(fun z=>by cases z),ok.frames,ok.stk,ok.exf,ok.bs,ok.bsz,ok.noex,ok.exfs,ok.funs,ok.frf,ok.tb⟩
theorem Inv.inH (I:Inv X pins σ H s) (a:Addr):Inv (X.inH a) pins σ H s:=⟨I.ok.inH a,I.os,I.bare,I.base,I.loc,I.cell,I.free,I.freeC,I.pin,I.hok,I.len⟩
theorem Inv.outH {a:Addr} (ok:X.Ok) (I:Inv (X.inH a) pins σ H s):Inv X pins σ H s:=⟨ok,I.os,I.bare,I.base,I.loc,I.cell,I.free,I.freeC,I.pin,I.hok,I.len⟩
end
section
variable {X:Cx} {k:Nat} {ps:List Str} {sp:Sp} {x y n:Str} {p np cpos epos hpos tpos:Pos} {e:Expr} {es:List Expr} {ta:TA} {C D:Addr} {i:Nat} {b0:Stmt} {suite:List Stmt} {th:TS}
end
end L2
namespace L2
open PySem PySem.Spec PyProof.Rows
section
variable {P:Program} {w:World} {K:PySem.W.Frag} {mg:Str→Option Value} {base:Heap}
end
end L2
namespace PD
open PySem L2
section
variable {K:PySem.W.Frag} {S S':Sx} {κ κ':Bool} {Γ Γ' Γ'':Ctx} {P:Post} {E:XK} {C:Addr}
theorem DEnv.lose {H0 F0 H F:Hp} {σ:St} {i:Nat} (e:DEnv K S H0 F0 H F σ Γ):DEnv K S H0 F0 H F (σ.set i none) (Γ.set i none):=by
  have bk:∀ {j:Nat} {x:DV},(Γ.set i none)[j]?=some (some x)→j≠i∧Γ[j]?=some (some x):=fun {j x} h=>by
    by_cases hj:j=i
    · subst hj
      rw [List.getElem?_set] at h
      split at h
      · split at h <;> cases h
      · rename_i z; exact absurd rfl z
    · rw [List.getElem?_set_ne (Ne.symm hj)] at h
      exact ⟨hj,h⟩
  refine ⟨e.gr,e.l0,e.sd,e.s0,by rw [List.length_set,List.length_set]; exact e.len,fun j x h=>?_,fun j k x y v w a h1 h2 h3 h4 o1 o2=>?_⟩
  · obtain ⟨hj,h⟩:=bk h
    obtain ⟨v,q1,q2⟩:=e.has j x h
    exact ⟨v,by rw [List.getElem?_set_ne (Ne.symm hj)]; exact q1,q2⟩
  · obtain ⟨hj,h1⟩:=bk h1
    obtain ⟨hk,h2⟩:=bk h2
    rw [List.getElem?_set_ne (Ne.symm hj)] at h3
    rw [List.getElem?_set_ne (Ne.symm hk)] at h4
    exact e.ne j k x y v w a h1 h2 h3 h4 o1 o2
end
end PD
namespace L2
open PySem PySem.Spec PyProof.Rows
section
variable {X:Cx}
end
end L2
namespace PD
open PySem L2
section
variable {K:PySem.W.Frag} {S S':Sx} {κ κ':Bool} {Γ Γ' Γ'' Γ3:Ctx} {P:Post}
theorem evo_eachIf {α:Type} {js:List (Option Nat)} {Γc:Ctx} {wi:TI} {g:TG} {tt:TT} {te:TE} {is:List Nat} {xs:List α} (κ':Bool) (u f:α→PyData) (p:α→Bool) (hu:∀ x∈xs,∀ y∈xs,u x=u y→f x=f y∧p x=p y) (hi:EvI K S κ' wi Γ (xs.map u)) (hc:CaptC js Γ Γc) (hjs:(is.all fun i=>js[i]? == some none)=true)
    (hj:(js.filterMap id).Nodup) (hz:xs.length≤sizeLine) (hb:∀ x∈xs,ExG K S κ' g is (u x) Γc fun Γ'=>EvT K S tt Γ' (p x)∧(p x=true→EvE K S κ te Γ' (f x))):EvO K S κ (tComp js wi g tt te) Γ ((xs.filter p).map f):=by
  classical
  let F:PyData→PyData:=fun d=>if h:∃ x,x∈xs∧u x=d then f h.choose else .none
  let G:PyData→Bool:=fun d=>if h:∃ x,x∈xs∧u x=d then p h.choose else false
  have ex:∀ x∈xs,∃ y,y∈xs∧u y=u x:=fun x hx=>⟨x,hx,rfl⟩
  have hF:∀ x∈xs,F (u x)=f x:=fun x hx=>by
    show (if h:∃ y,y∈xs∧u y=u x then f h.choose else .none)=_
    rw [dif_pos (ex x hx)]
    exact (hu _ (ex x hx).choose_spec.1 _ hx (ex x hx).choose_spec.2).1
  have hG:∀ x∈xs,G (u x)=p x:=fun x hx=>by
    show (if h:∃ y,y∈xs∧u y=u x then p h.choose else false)=_
    rw [dif_pos (ex x hx)]
    exact (hu _ (ex x hx).choose_spec.1 _ hx (ex x hx).choose_spec.2).2
  refine EvO.eq (evo_comp' (κ:=κ) κ' G F hi hc hjs hj (by rw [List.length_map]; exact hz) fun d hd=>?_) ?_
  · obtain ⟨x,hx,rfl⟩:=List.mem_map.mp hd
    rw [hF x hx,hG x hx]
    exact hb x hx
  · rw [List.filter_map,List.map_map]
    have e1:xs.filter (G∘u)=xs.filter p:=List.filter_congr fun x hx=>hG x hx
    rw [e1]
    exact List.map_congr_left fun x hx=>hF x (List.mem_filter.mp hx).1
end
end PD
namespace L2
open PySem PySem.Spec PyProof.Rows
section
variable {X:Cx} {K:PySem.W.Frag}
def dd (ns:List Int):List Int:=ns.foldl step_dedup []
theorem firstMet_all (ns:List Int):firstMet (fun i=>ns.getD i 0) ns.length=dd ns:=by
  unfold firstMet dd
  congr 1
  refine List.ext_getElem? fun i=>?_
  rw [List.getElem?_map]
  by_cases h:i < ns.length
  · rw [List.getElem?_range h,List.getElem?_eq_getElem h]
    show some (ns.getD i 0)=_
    rw [List.getD_eq_getElem?_getD,List.getElem?_eq_getElem h]
    rfl
  · rw [List.getElem?_eq_none (by rw [List.length_range]; omega),List.getElem?_eq_none (by omega)]
    rfl
def rSetI (K:PySem.W.Frag):List V→Hp→VK→Prop:=fun xs H Q=>∃ p ns,xs=[.ref p]∧SqL K H p (ns.map V.int)∧ns.length < 4000∧∀ l,H l=none→Q (.ref l) (upd H l (.set (fun k=>(dd ns).any (· == k)) (dd ns).length))
theorem call_setI (hc:X.calm=true):CallR X (.type "set") (rSetI X.K):=by
  intro pins s σ H xs us Q I r h
  obtain ⟨p,ns,rfl,hq,hb,q⟩:=h
  obtain ⟨u,rfl,rx⟩:=vals1 r
  cases rx
  obtain ⟨its,r',pl,hz⟩:=I.list hq
  have hl:=r'.length
  rw [List.length_map] at hl hz
  refine PySem.call_set_list (ns:=ns) (I.ok.hd hc) pl.isList (by simpa using intsAre_of r') (by rw [List.size_toArray]; unfold scanBound; omega) fun h' tk hS hk=>?_
  have hz2:its.toArray.size=ns.length:=by rw [List.size_toArray,hl]
  rw [hz2,firstMet_all] at hS
  exact ⟨.ref s.heap.objs.size,_,I.laid (t':=tk) (fun b u e=>hk b u (Heap.lt_size e) e) (Nat.le_refl _) (show ObjOk X.prog X.w _ _ _ (.set _ _) from hS),rfl,q _ (I.hok.fresh (Nat.le_refl _))⟩
theorem call_setIK (hK:X.K=K) (hc:X.calm=true):CallR X (.type "set") (rSetI K):=by subst hK; exact call_setI hc
def rLenI:List V→Hp→VK→Prop:=fun xs H Q=>∃ p S n,xs=[.ref p]∧H p=some (.set S n)∧Q (.int n) H
theorem call_lenI:CallR X (.builtin "len") rLenI:=by
  intro pins s σ H xs us Q I r h
  obtain ⟨p,S,n,rfl,hH,q⟩:=h
  obtain ⟨u,rfl,rx⟩:=vals1 r
  cases rx
  obtain ⟨o,es,ep,t,ho,hex,hd,_,_,hb,hf,hn⟩:s.heap.SetOf (intKind X.prog X.w) p S n:=I.hok p _ hH
  exact PySem.call_len_set ho hex hd hf (by unfold scanBound at hb; omega) ⟨.int n,H,I.tok _,⟨_,by rw [hn]⟩,q⟩
theorem dd_snoc (ns:List Int) (k:Int):dd (ns ++ [k])=step_dedup (dd ns) k:=by
  unfold dd
  rw [List.foldl_append]
  rfl
theorem dd_mem (ns:List Int):∀ k,k∈dd ns↔k∈ns:=by
  suffices h:∀ n,∀ k,k∈dd (ns.take n)↔k∈ns.take n by simpa using h ns.length
  intro n
  induction n with
  | zero=>intro k; rfl
  | succ n ih =>
    intro k
    by_cases hn:n < ns.length
    · have e:ns.take (n + 1)=ns.take n ++ [ns[n]]:=by rw [List.take_succ,List.getElem?_eq_getElem hn]; rfl
      rw [e,dd_snoc]
      unfold step_dedup
      split
      · rename_i h
        obtain ⟨x,hx,ex⟩:=List.any_eq_true.mp h
        have:=eq_of_beq ex
        subst this
        rw [ih,List.mem_append]
        refine ⟨.inl,fun z=>?_⟩
        rcases z with z | z
        · exact z
        · rw [List.mem_singleton.mp z]
          exact (ih _).mp hx
      · rw [List.mem_append,List.mem_append,ih]
    · rw [List.take_of_length_le (by omega)]
      have:=ih k
      rw [List.take_of_length_le (by omega)] at this
      exact this
theorem dd_len (ns:List Int):(dd ns).length≤ns.length:=by
  have:=length_foldl_step_dedup_le ns ([]:List Int)
  simpa [dd] using this
end
end L2
namespace PD
open PySem L2
section
variable {K:PySem.W.Frag} {S S':Sx} {κ κ':Bool} {Γ Γ' Γ'':Ctx} {P:Post}
theorem ev_lenSet {ta:TE} {ns:List Int} (h:EvL K S false ta Γ (ns.map .int)) (hz:ns.length < 4000):EvE K S κ (tCB rLenI (tCons (tCB (rSetI K) (tCons ta tNil)) tNil)) Γ (.int (dd ns).length):=fun H0 F0 H F σ e Q q =>
  h H0 F0 H F σ e _ fun a vs H1 F1 g1 p1 k1=>by
    cases dpAll_of_ints (rpAll_dp k1)
    exact ⟨a,ns,rfl,p1,hz,fun p hp=>⟨p,_,_,rfl,upd_same,q _ _ F1 (g1.trans (.newO g1.le hp _)) (.int _)⟩⟩
end
end PD
namespace PD
open PySem L2
section
variable {K:PySem.W.Frag} {S S':Sx} {κ κ':Bool} {Γ Γ' Γ'':Ctx} {P:Post}
def spW (K:PySem.W.Frag) (κ:Bool) (pre:List PyData→(PyData→Prop)→Prop):Sp:=fun vs H Q _=>∃ F ds G,Same F H∧DpAll K F vs ds∧pre ds G∧∀ d v H' F',G d→Gr H F H' F'→Rp K κ .fresh H F' v d→Q v H'
theorem spW_len {pre:List PyData→(PyData→Prop)→Prop} {n:Nat} (h:∀ ds G,pre ds G→ds.length=n) {vs:List V} {H:Hp} {Q:VK} {E:XK} (s:spW K κ pre vs H Q E):vs.length=n:=by
  obtain ⟨F,ds,d,_,k,p,_⟩:=s
  rw [DpAll.length k]
  exact h ds d p
def EvOG (K:PySem.W.Frag) (S:Sx) (κ:Bool) (t:TE) (Γ:Ctx) (G:List PyData→Prop):Prop:=∀ (H0 F0 H F:Hp) (σ:St),DEnv K S H0 F0 H F σ Γ→∀ Q:VK,(∀ ds a vs H' F',G ds→Gr H F H' F'→H a=none→H' a=some (.lst vs)→F' a=none→RpAll K κ S H0 F' vs ds→Q (.ref a) H')→t σ H Q
theorem exog {te:TE} {u:TS} {i:Nat} {G:List PyData→Prop} {Γ':List PyData→Ctx} (κ:Bool) (h:EvOG K S κ te Γ G) (es:∀ ds,SetC Γ i (some (.ow κ ds)) (Γ' ds)) (k:∀ ds,G ds→ExT K S S' u (Γ' ds) P):ExT K S S' (tSeq (tAsg te (gName i)) u) Γ P :=
  ex_seq (fun Γ1=>∃ ds,G ds∧Γ1=Γ' ds) (fun H0 F0 H F σ B e b _ D I=>h H0 F0 H F σ e _ fun ds a vs H' F' hd g n p f q=>I.nx _ _ H' F' ⟨ds,hd,rfl⟩ (b.trans g.f) (by
    rw [← (es ds).eq]
    exact (e.mono g).set (x:=.ow κ ds) ⟨a,vs,rfl,⟨p,f,e.gr.h.free n,e.out n⟩,q⟩ fun c oc j y w hj z hw o=>by
      cases (show V.ref a=.ref c from oc)
      obtain ⟨v,q1,q2⟩:=e.has j y z
      rw [hw] at q1
      cases q1
      obtain ⟨us,w1⟩:=q2.owns (o.back q2 fun _ _ z=>g.h _ _ z.h)
      have:=w1.h
      rw [n] at this; cases this)) fun Γ1 ⟨ds,hd,z⟩=>z ▸ k ds hd
theorem run_defW {t:TS} {N:List Str} {n:Nat} {H F:Hp} {vs:List V} {ds:List PyData} {G:PyData→Prop} {Q:VK} {Γ:Ctx} (le:Same F H) (k:DpAll K F vs ds) (q:∀ d v H' F',G d→Gr H F H' F'→Rp K κ .fresh H F' v d→Q v H') (hn:N.length=n) (hΓ:StartC n ds Γ)
    (h:ExS K .fresh t Γ { nx:=fun _=>False,rt:=G,kr:=κ }):t { nx:=fun _ H'=>Q .non H',rt:=Q } (L2.start N vs) H:=by
  have e:=denv_start (N:=N) le k
  rw [hn,hΓ.eq] at e
  exact h H F H F _ F e (.refl _) (.inl rfl) _ ⟨fun _ _ _ _ z=>z.elim,fun d v H' F' r g p=>q d v H' F' r g p,fun _ _ _ _ z=>z.elim,fun _ _ _ _ z=>z.elim⟩
end
end PD
namespace L2
open PySem
def Rise (xs:Array Nat):Prop:=xs.toList.Pairwise (· < ·)
theorem Rise.lt {xs:Array Nat} (r:Rise xs) {i j:Nat} (h:i < j) (hj:j < xs.size):xs[i]'(by omega) < xs[j]:=by
  have:=List.pairwise_iff_getElem.mp r i j (by simp; omega) (by simpa using hj) h
  simpa using this
theorem below_go (xs:Array Nat) (r:Rise xs) (j:Nat):∀ (fuel lo hi:Nat),lo≤hi→hi≤xs.size→hi - lo≤fuel →
    (∀ i (h:i < xs.size),i < lo→xs[i] < j)→(∀ i (h:i < xs.size),hi≤i→j≤xs[i]) →
    SetTable.below.go xs j fuel lo hi≤xs.size∧(∀ i (h:i < xs.size),i < SetTable.below.go xs j fuel lo hi→xs[i] < j)∧∀ i (h:i < xs.size),SetTable.below.go xs j fuel lo hi≤i→j≤xs[i]
  | 0,lo,hi,h1,h2,h3,a,b=>by
    have:lo=hi:=by omega
    subst this
    exact ⟨h2,a,b⟩
  | f + 1,lo,hi,h1,h2,h3,a,b=>by
    unfold SetTable.below.go
    by_cases hl:lo < hi
    · rw [if_pos hl]
      dsimp only
      have hm:(lo + hi) / 2 < xs.size:=by omega
      have eg:xs.getD ((lo + hi) / 2) j=xs[(lo + hi) / 2]:=by simp [hm]
      rw [eg]
      by_cases hx:xs[(lo + hi) / 2] < j
      · rw [if_pos hx]
        refine below_go xs r j f _ _ (by omega) h2 (by omega) (fun i hi' hlt=>?_) b
        by_cases e:i=(lo + hi) / 2
        · subst e; exact hx
        · exact Nat.lt_trans (r.lt (show i < (lo + hi) / 2 by omega) hm) hx
      · rw [if_neg hx]
        refine below_go xs r j f _ _ (by omega) (by omega) (by omega) a fun i hi' hle=>?_
        by_cases e:i=(lo + hi) / 2
        · subst e; omega
        · have:=r.lt (show (lo + hi) / 2 < i by omega) hi'
          omega
    · rw [if_neg hl]
      have:lo=hi:=by omega
      subst this
      exact ⟨h2,a,b⟩
theorem below_ok (xs:Array Nat) (r:Rise xs) (j:Nat):SetTable.below xs j≤xs.size∧(∀ i (h:i < xs.size),i < SetTable.below xs j→xs[i] < j)∧∀ i (h:i < xs.size),SetTable.below xs j≤i→j≤xs[i] :=
  below_go xs r j _ _ _ (Nat.zero_le _) (Nat.le_refl _) (by omega) (fun _ _ h=>by omega) fun i h z=>by omega
structure TOk (b:Bool) (t:SetTable):Prop where
  led:t.led=b
  rise:Rise t.place
  dum:t.dummies=#[]
theorem TOk.fresh {b:Bool} {f m:Nat}:TOk b (.fresh f m b):=⟨rfl,List.Pairwise.nil,rfl⟩
theorem TOk.plain {b c:Bool} {t:SetTable} (h:TOk b t):TOk b { t with plain:=c }:=⟨h.led,h.rise,h.dum⟩
theorem TOk.standIn {b:Bool} {t:SetTable} (h:TOk b t) (n:Nat):TOk b (t.standIn n):=⟨h.led,by
  show (Array.range n).toList.Pairwise (· < ·)
  rw [Array.toList_range]
  exact List.pairwise_lt_range,rfl⟩
theorem TOk.orStandIn {b:Bool} {t:SetTable} (h:TOk b t) (n:Nat):TOk b (t.orStandIn n):=by
  unfold SetTable.orStandIn
  split
  · exact h
  · exact h.standIn n
theorem has_nil (j:Nat):SetTable.has #[] j=false:=rfl
theorem slot_ne {t:SetTable} {j:Nat} (h:t.slot j=.empty):t.place[SetTable.below t.place j]?≠some j:=by
  intro z
  unfold SetTable.slot at h
  simp [z] at h
theorem probe_empty {t:SetTable} {b:Bool} (ht:TOk b t) {g:Nat→Int} {h:Int}:∀ (n:Nat) (p:SetTable.Probe) {j:Nat} {d:Option Nat},p.dummy=none→SetTable.probe.go t g h n p=some (.empty j d)→d=none∧t.slot j=.empty
  | 0,p,j,d,_,e=>by cases e
  | n + 1,p,j,d,hp,e=>by
    unfold SetTable.probe.go at e
    split at e
    · rename_i hs
      injection e with e
      injection e with e1 e2
      subst e1
      exact ⟨e2 ▸ hp,hs⟩
    · rename_i hs
      exfalso
      unfold SetTable.slot at hs
      rw [ht.dum] at hs
      simp only [has_nil] at hs
      split at hs <;> simp at hs
    · split at e
      · cases e
      · refine probe_empty ht n _ ?_ e
        unfold SetTable.advance
        split
        · exact hp
        · exact hp
theorem put_ok {b:Bool} {t:SetTable} (h:TOk b t) {j:Nat} (hj:t.slot j=.empty):TOk b (t.put j).1:=by
  refine ⟨h.led,?_,by show (if SetTable.has t.dummies j=true then _ else _)=_; rw [h.dum,has_nil]; rfl⟩
  have hn:=slot_ne hj
  obtain ⟨a,b,c⟩:=below_ok t.place h.rise j
  show (SetTable.insertAt t.place (SetTable.below t.place j) j).toList.Pairwise (· < ·)
  generalize SetTable.below t.place j=p at *
  rw [SetTable.toList_insertAt,List.pairwise_append]
  have hr:t.place.toList.Pairwise (· < ·):=h.rise
  refine ⟨hr.sublist (List.take_sublist _ _),?_,?_⟩
  · rw [List.pairwise_cons]
    refine ⟨fun x hx=>?_,hr.sublist (List.drop_sublist _ _)⟩
    obtain ⟨i,hi,rfl⟩:=List.mem_iff_getElem.mp hx
    rw [List.length_drop,Array.length_toList] at hi
    rw [List.getElem_drop,Array.getElem_toList]
    have:=c (p + i) (by omega) (by omega)
    by_cases z:i=0
    · subst z
      have h2:t.place[p]≠j:=fun q=>hn (by rw [Array.getElem?_eq_getElem (by omega),q])
      simp only [Nat.add_zero] at this ⊢
      omega
    · have h3:=h.rise.lt (show p < p + i by omega) (show p + i < t.place.size by omega)
      have h4:=c p (by omega) (Nat.le_refl _)
      omega
  · intro x hx y hy
    obtain ⟨i,hi,rfl⟩:=List.mem_iff_getElem.mp hx
    rw [List.length_take,Array.length_toList] at hi
    rw [List.getElem_take,Array.getElem_toList]
    have h1:=b i (by omega) (by omega)
    rcases List.mem_cons.mp hy with rfl | hy
    · exact h1
    · obtain ⟨k,hk,rfl⟩:=List.mem_iff_getElem.mp hy
      rw [List.length_drop,Array.length_toList] at hk
      rw [List.getElem_drop,Array.getElem_toList]
      have:=c (p + k) (by omega) (by omega)
      omega
theorem layNew_ok {b:Bool} {t:SetTable} (h:TOk b t) (es:Array (Int×Value)) (k:Int) (x:Value):TOk b (layNew t es k x).2.1:=by
  unfold layNew
  split
  · rename_i slot wd e
    unfold SetTable.freeSlot at e
    split at e
    · rename_i j d e2
      obtain ⟨rfl,hs⟩:=probe_empty h _ _ rfl e2
      injection e with e
      injection e with e3 _
      have e3:j=slot:=e3
      subst e3
      exact (put_ok h hs).orStandIn _
    · cases e
  · exact h.standIn _
theorem relayAll_ok {b:Bool} {t:SetTable} (h:TOk b t) (es:Array (Int×Value)) (n:Nat):TOk b (relayAll t es n).2.1:=by
  unfold relayAll
  split
  · rename_i t' order e
    dsimp only
    split
    · unfold SetTable.relaid SetTable.laid at e
      simp only [Option.bind_eq_bind] at e
      obtain ⟨ow,_,e⟩:=Option.bind_eq_some_iff.mp e
      injection e with e
      injection e with e1 e2
      subst e1
      refine ⟨h.led,?_,rfl⟩
      show List.Pairwise (· < ·) _
      dsimp only
      rw [List.pairwise_map,List.pairwise_filterMap]
      refine List.pairwise_lt_range.imp fun {i j} hij x hx y hy=>?_
      obtain ⟨u,_,rfl⟩:=Option.map_eq_some_iff.mp hx
      obtain ⟨u',_,rfl⟩:=Option.map_eq_some_iff.mp hy
      exact hij
    · exact h.standIn _
  · exact h.standIn _
theorem pickOrder_perm {α:Type} (next:Nat→Nat) (xs:Array α):(pickOrder next xs).toList.Perm xs.toList:=by
  suffices h:∀ (n k:Nat) (l:List α) (out:Array α),l.length=n→(pickOrder.go next n k l out).toList.Perm (out.toList ++ l) by
    have:=h xs.size 0 xs.toList #[] (by simp)
    simpa [pickOrder] using this
  intro n
  induction n with
  | zero =>
    intro k l out hl
    have:l=[]:=List.length_eq_zero_iff.mp hl
    subst this
    simp [pickOrder.go]
  | succ n ih =>
    intro k l out hl
    unfold pickOrder.go
    have hm:next k % l.length < l.length:=Nat.mod_lt _ (by omega)
    rw [List.getElem?_eq_getElem hm]
    dsimp only
    refine (ih _ _ _ (by rw [List.length_eraseIdx_of_lt hm]; omega)).trans ?_
    rw [Array.toList_push,List.append_assoc]
    refine List.Perm.append_left _ ?_
    have e:l=l.take (next k % l.length) ++ l[next k % l.length] :: l.drop (next k % l.length + 1):=by
      rw [← List.drop_eq_getElem_cons hm,List.take_append_drop]
    conv=>rhs; rw [e]
    rw [List.eraseIdx_eq_take_drop_succ,List.singleton_append]
    exact List.perm_middle.symm
end L2
namespace L2
open PySem PySem.Spec PyProof.Rows
def IsE (e:Int×Value):Prop:=∃ k t,e=(hashInt k,.int k t)
def kOf (e:Int×Value):Int:=match e.2 with | .int k _=>k | _=>0
def SetI (b:Bool) (a:Addr) (l:List Int) (h:Heap):Prop :=
  ∃ o es ep t,h.get? a=some o∧o.ExactSet∧o.data=.set es ep t∧(∀ e∈es.toList,IsE e)∧(es.toList.map kOf).Perm l∧es.size < scanBound∧t.fits es.size=true∧TOk b t
section
variable {prog:Program} {w:World} {A:Around} {E:Value→Shared→Prop} {s:Shared} {b:Bool} {a:Addr} {l:List Int}
theorem SetI.at {h h':Heap} (x:SetI b a l h) (e:∀ o,h.get? a=some o→h'.get? a=some o):SetI b a l h' :=
  let ⟨o,es,ep,t,ho,r⟩:=x
  ⟨o,es,ep,t,e o ho,r⟩
theorem IsE.elems {es:List (Int×Value)} (h:∀ e∈es,IsE e):ElemsOf (intKind prog w) es:=fun e he=>by
  obtain ⟨k,t,rfl⟩:=h e he
  exact ⟨⟨k,intKind_is _ _ k t,rfl⟩,rfl⟩
theorem IsE.is {e:Int×Value} (h:IsE e) (k:Int):(intKind prog w).is k e.2=true↔kOf e=k:=by
  obtain ⟨j,t,rfl⟩:=h
  constructor
  · intro z
    exact ((intKind prog w).inj _ _ _ z (intKind_is _ _ j t)).symm
  · intro z
    have z:j=k:=z
    subst z
    exact intKind_is _ _ j t
theorem storeI {o:Obj} {es:Array (Int×Value)} {ep:Nat} {t:SetTable} {h:Heap} (ho:h.get? a=some o) (hd:o.data=.set es ep t) (es':Array (Int×Value)) (t':SetTable) :
    (h.update a (Obj.putSet es' t')).get? a=some { o with data:=.set es' (ep + 1) t' }:=by
  have q:=Heap.get?_update_self (Obj.putSet es' t') ho (by rw [putSet_of _ _ hd]; rfl)
  rwa [putSet_of _ _ hd] at q
theorem tailI {g:Bool→Sem Unit} (hg:∀ (c:Bool) (s₁:Shared) (R:Unit→Shared→Prop),R () s₁→wpAny (model prog w) A (g c) R E s₁)
    {o:Obj} {es:Array (Int×Value)} {ep:Nat} {t:SetTable} (ho:s.heap.get? a=some o) (hex:o.ExactSet) (hd:o.data=.set es ep t)
    {es1:Array (Int×Value)} {t2:SetTable} (he:∀ e∈es1.toList,IsE e) (hp:(es1.toList.map kOf).Perm l) (hz:es1.size < scanBound) (hf:t2.fits es1.size=true) (ht:TOk b t2) {wd:Bool} {R:Option Bool→Shared→Prop}
    (k:∀ h',Heap.SameBut a s.heap h'→SetI b a l h'→R (some true) { s with heap:=h' }) :
    wpAny (model prog w) A (do
      storeSet a es1 t2
      if (!wd && t2.tooFull)=true then do
        g (relayAll t2 es1 (SetTable.grown es1.size)).2.2; storeSet a (relayAll t2 es1 (SetTable.grown es1.size)).1 (relayAll t2 es1 (SetTable.grown es1.size)).2.1; pure (some true)
      else pure (some true)) R E s:=by
  refine wpAny_bind (wpAny_storeSet_of ho hd ?_ (fits_of_scanBound hz))
  have g1:=storeI ho hd es1 t2
  have u1:=Heap.SameBut.update s.heap a (Obj.putSet es1 t2)
  split
  · have hr:=relayAll_perm t2 es1 (SetTable.grown es1.size)
    have hq:=relayAll_fits t2 es1 (SetTable.grown es1.size)
    have hk:=relayAll_ok ht es1 (SetTable.grown es1.size)
    generalize relayAll t2 es1 (SetTable.grown es1.size)=Z at hr hq hk ⊢
    obtain ⟨es2,t3,gv⟩:=Z
    dsimp only at hr hq hk ⊢
    have z2:es2.size=es1.size:=by have:=hr.length_eq; simpa using this
    refine wpAny_bind (hg _ _ _ ?_)
    refine wpAny_bind (wpAny_storeSet_of g1 rfl ?_ (fits_of_scanBound (by rw [z2]; exact hz)))
    exact wpAny_pure (k _ (u1.trans (Heap.SameBut.update _ a _)) ⟨_,es2,_,t3,storeI g1 rfl es2 t3,hex,rfl,fun e x=>he e (hr.mem_iff.mp x),(hr.map kOf).trans hp,by rw [z2]; exact hz,hq,hk⟩)
  · exact wpAny_pure (k _ u1 ⟨_,es1,_,t2,g1,hex,rfl,he,hp,hz,hf,ht⟩)
theorem addI {k:Int} {tk:Tok} {Q:Bool→Shared→Prop} (hS:SetI b a l s.heap) (hl:l.length + 1 < scanBound)
    (h:∀ (r:Bool) h',Heap.SameBut a s.heap h'→SetI b a (step_dedup l k) h'→Q r { s with heap:=h' }) :
    wpAny (model prog w) A (setAddHashed a (.int k tk) (hashInt k)) Q E s:=by
  obtain ⟨o,es,ep,t,ho,hex,hd,hE,hp,hz,hf,ht⟩:=hS
  have hel:ElemsOf (intKind prog w) es.toList:=IsE.elems hE
  have hn:es.size=l.length:=by have:=hp.length_eq; simpa using this
  have hm:∀ k',k'∈l↔∃ e∈es.toList,(intKind prog w).is k' e.2=true:=fun k'=>by
    rw [← hp.mem_iff,List.mem_map]
    exact ⟨fun ⟨e,x,y⟩=>⟨e,x,((hE e x).is k').mpr y⟩,fun ⟨e,x,y⟩=>⟨e,x,((hE e x).is k').mp y⟩⟩
  unfold setAddHashed setAddHashedIn
  refine wpAny_holding (wpAny_bind (wpAny_setState_of ho hd hf ?_))
  dsimp only
  rw [byScan_of (knd:=intKind prog w) (x:=.int k tk) rfl hz hel]
  simp only [↓reduceIte]
  unfold setAddByScan
  refine wpAny_bind (wpAny_bind (wpAny_rule ?_))
  refine wpAny_bind (wpAny_setScan_of (knd:=intKind prog w) (k:=k) (intKind_is _ _ k tk) ho hd hf hel ?_)
  cases hr:List.findIdx? (fun e=>(intKind prog w).is k e.2) es.toList with
  | some j =>
    dsimp only
    obtain ⟨hj,hpj,_⟩:=List.findIdx?_eq_some_iff_getElem.mp hr
    have hk:k∈l:=(hm k).mpr ⟨es.toList[j],List.getElem_mem hj,hpj⟩
    have e1:step_dedup l k=l:=by unfold step_dedup; rw [if_pos (List.any_eq_true.mpr ⟨k,hk,by simp⟩)]
    have q:=h false s.heap (Heap.SameBut.refl a s.heap) (e1.symm ▸ ⟨o,es,ep,t,ho,hex,hd,hE,hp,hz,hf,ht⟩)
    exact wpAny_pure (wpAny_pure q)
  | none =>
    dsimp only
    have hk:k∉l:=fun z=>by
      obtain ⟨e,he,hpe⟩:=(hm k).mp z
      have q:=List.findIdx?_eq_none_iff.mp hr e he
      rw [hpe] at q; cases q
    have e1:step_dedup l k=l ++ [k]:=by
      unfold step_dedup
      refine if_neg fun z=>?_
      obtain ⟨x,hx,ex⟩:=List.any_eq_true.mp z
      exact hk (eq_of_beq ex ▸ hx)
    have hgw:∀ (c:Bool) {s₁:Shared} {R:Unit→Shared→Prop},R () s₁→wpAny (model prog w) A (match c with | true=>rule "set.scan.the-table-gave-way" | false=>pure ()) R E s₁:=fun c s₁ R q=>by
      cases c
      · exact wpAny_pure q
      · exact wpAny_rule q
    have hperm:=layNew_perm t es (hashInt k) (.int k tk)
    have hfits:=layNew_fits t es (hashInt k) (.int k tk)
    have hok:=layNew_ok ht es (hashInt k) (.int k tk)
    show wpAny _ _ (let (es,t,wasDummy,gave):=layNew t es (hashInt k) (.int k tk); _) _ _ _
    generalize layNew t es (hashInt k) (.int k tk)=Z at hperm hfits hok ⊢
    obtain ⟨es1,t1,wd,gv⟩:=Z
    dsimp only at hperm hfits hok ⊢
    rw [Array.toList_push] at hperm
    have hE1:∀ e∈es1.toList,IsE e:=fun e he=>by
      rcases List.mem_append.mp (hperm.mem_iff.mp he) with z | z
      · exact hE e z
      · rw [List.mem_singleton.mp z]; exact ⟨k,tk,rfl⟩
    have hp1:(es1.toList.map kOf).Perm (l ++ [k]):=by
      refine (hperm.map kOf).trans ?_
      rw [List.map_append]
      exact hp.append_right _
    have hz1:es1.size < scanBound:=by
      have q:=hp1.length_eq
      rw [List.length_map,Array.length_toList,List.length_append] at q
      have:es1.size=l.length + 1:=q
      omega
    refine wpAny_bind (hgw _ ?_)
    have kk:∀ h',Heap.SameBut a s.heap h'→SetI b a (l ++ [k]) h'→Q true { s with heap:=h' }:=fun h' u v=>h true h' u (e1.symm ▸ v)
    split
    · refine wpAny_bind ?_
      rw [hashByValue_scannable 8 (x:=.int k tk) rfl]
      refine wpAny_pure ?_
      refine tailI ?_ ho hex hd hE1 hp1 hz1 ?_ ?_ fun h' u v=>wpAny_pure (kk h' u v)
      · exact fun c s₁ R q=>hgw c q
      · split
        · exact hfits
        · exact SetTable.fits_plain_off hfits
      · split
        · exact hok
        · exact hok.plain
    · refine wpAny_bind (wpAny_pure ?_)
      simp only [↓reduceIte]
      refine tailI ?_ ho hex hd hE1 hp1 hz1 hfits hok fun h' u v=>wpAny_pure (kk h' u v)
      exact fun c s₁ R q=>hgw c q
end
end L2
namespace L2
open PySem PySem.Spec PyProof.Rows
end L2
namespace L2
open PySem PySem.Spec PyProof.Rows
section
variable {prog:Program} {w:World} {A:Around} {E:Value→Shared→Prop} {s:Shared} {b:Bool} {a I:Addr} {l:List Int}
end
end L2
namespace L2
open PySem PySem.Spec PyProof.Rows
section
variable {prog:Program} {w:World} {A:Around} {E:Value→Shared→Prop} {s:Shared} {b:Bool} {a I:Addr} {l:List Int}
end
end L2
namespace L2
open PySem PySem.Spec PyProof.Rows
section
variable {prog:Program} {w:World} {A:Around} {E:Value→Shared→Prop} {s:Shared} {b:Bool} {a I T:Addr} {l:List Int}
end
end L2
namespace L2
open PySem PySem.Spec PyProof.Rows
section
variable {prog:Program} {w:World} {A:Around} {E:Value→Shared→Prop} {s:Shared} {b:Bool} {a I T:Addr} {l:List Int}
end
end L2
namespace L2
open PySem PySem.Spec PyProof.Rows
section
variable {prog:Program} {w:World} {A:Around} {E:Value→Shared→Prop} {s:Shared} {b:Bool} {a I T:Addr} {l:List Int}
theorem updateI {R:Result→Shared→Prop} {fp wr:List Addr} {G:Array GenState→Array GenState→Prop} {n:Nat} {P:Nat→Value→Prop} {St:Nat→Shared→Prop} (W:WalksS prog w A.in1 I fp wr G n P St) (S:Addr) (hSf:S∉fp)
    (val:Nat→Int) (hval:∀ i v,P i v→∃ t,v=.int (val i) t) (hz:n + 1 < scanBound) :
    ∀ (k i:Nat) (s:Shared),n - i=k→i≤n→St i s→SetI b S (firstMet val i) s.heap→(∀ s',Moved (S :: wr) G s s'→SetI b S (firstMet val n) s'.heap→R (.ok (.ret .none)) s') →
      codeAny (model prog w) A (.builtin "set.update.loop" ⟨[.ref S,.ref I],[]⟩) R s:=by
  have hSw:S∉wr:=fun h=>hSf (W.sub _ h)
  have sb:∀ c∈wr,c∈S :: wr:=fun c=>List.mem_cons_of_mem _
  intro k
  induction k with
  | zero =>
    intro i s hk hi st hS hR
    obtain rfl:i=n:=by omega
    refine codeAny_builtin F.entry_set_update_loop ?_
    rw [Around.under_plainId F.plain_set_update_loop _]
    show wpAny _ A.in1 (pyNext (.ref I) >>= _) _ _ s
    refine wpAny_bind (W.done s _ _ st fun s' hm=>wpAny_pure (hR s' (hm.mono sb) (hS.at fun o z=>hm.heap S o hSw z)))
  | succ k ih =>
    intro i s hk hi st hS hR
    have hlt:i < n:=by omega
    refine codeAny_builtin F.entry_set_update_loop ?_
    rw [Around.under_plainId F.plain_set_update_loop _]
    show wpAny _ A.in1 (pyNext (.ref I) >>= _) _ _ s
    refine wpAny_bind (W.item i s _ _ hlt st fun v s' hP st' hm=>?_)
    obtain ⟨t,rfl⟩:=hval i v hP
    have hS':SetI b S (firstMet val i) s'.heap:=hS.at fun o z=>hm.heap S o hSw z
    show wpAny _ A.in1 (holding [Value.int (val i) t] (setAdd S (.int (val i) t)) >>= _) _ _ s'
    refine wpAny_bind (wpAny_holding ?_)
    unfold setAdd
    refine wpAny_holding (wpAny_bind ((intKind prog w).pyHash (k:=val i) (intKind_is _ _ _ _) ?_))
    have room:(firstMet val i).length + 1 < scanBound:=by have:=firstMet_length_le val i; omega
    refine addI (s:={ s' with toks:=s'.toks + 1 }) hS' room fun r h' u hS2=>?_
    rw [← firstMet_succ] at hS2
    refine wpAny_pure ⟨plainId_quiet F.plain_set_update_loop _,ih (i + 1) _ (by omega) hlt (W.frame _ s' _ _ st' (Nat.le_succ _) fun c hc o z=>?_) hS2 fun s'' hm'' hS''=>?_⟩
    · rw [u.2 c fun q:c=S=>hSf (by rw [← q]; exact hc)]; exact z
    · refine hR s'' (Moved.trans W.gtrans ((hm.mono sb).then_heap (Nat.le_succ _) fun c o hc z=>?_) hm'') hS''
      rw [u.2 c fun q:c=S=>hc (by rw [q]; exact .head _)]; exact z
theorem newI (x:Value) {Q₁:Value→Shared→Prop} (hb:w.params.followText "set-order" = b)
    (h:Q₁ (.ref s.heap.objs.size) { s with heap:=s.heap.push { cls:=.type "set", dict:=none,data:=.set #[] 0 (.fresh 0 0 (!b)) } }) :
    codeAny (model prog w) A (.call (.builtin "set.__new__") ⟨[.type "set", x],[]⟩) (wants Q₁ E) s:=by
  refine codeAny_of_tree ?_
  show wpAny _ A.in1 (do checkBuiltinCall "set.__new__" ⟨[.type "set", x],[]⟩; again (.builtin "set.__new__" ⟨[.type "set", x],[]⟩)) _ _ s
  refine wpAny_bind (wpAny_of_eq (F.newCall_set_1 x) (wpAny_pure ⟨plainId_quiet F.plain_set_new _,codeAny_builtin F.entry_set_new ?_⟩))
  rw [Around.under_plainId F.plain_set_new _]
  unfold Builtin.«set.__new__» Builtin.Frozenset.newClass
  have hsub:=sub_set_self
  obtain ⟨hp,g,d,tk,os⟩:=s
  dsimp only
  wp_walk
  refine wpAny_askSetting (wpAny_pure ?_)
  dsimp only
  simp only [newObj]
  refine wpAny_bind (wpAny_alloc (wpAny_pure (wpAny_pure ?_)))
  rw [show (model prog w).w.params.followText "set-order" = b from hb]
  exact h
end
end L2
namespace L2
open PySem PySem.Spec PyProof.Rows
section
variable {prog:Program} {w:World} {A:Around} {E:Value→Shared→Prop} {s:Shared} {b:Bool} {a I T:Addr} {l:List Int}
set_option maxHeartbeats 3200000 in
theorem setOfI {L:Addr} {items:Array Value} {ns:List Int} {Q:Value→Shared→Prop} (hh:A.handled=none) (hb:w.params.followText "set-order" = b) (hl:s.heap.IsList L items) (hi:IntsAre items.toList ns) (hz:items.size + 1 < scanBound)
    (k:∀ (h':Heap) (tk:Nat),SetI (!b) s.heap.objs.size (firstMet (fun i=>ns.getD i 0) items.size) h'→(∀ c o,s.heap.get? c=some o→h'.get? c=some o)→Q (.ref s.heap.objs.size) { s with heap:=h',toks:=tk }) :
    wpAny (model prog w) A (call (.type "set") [.ref L]) Q E s:=by
  obtain ⟨c,tl,hmro⟩:=F.called_set.mro
  have hmade:=F.called_set.made
  have hsub:=F.called_set.sub
  refine wpAny_call (codeAny_of_tree ?_)
  show wpAny _ _ (callAny (.type "set") _) _ _ _
  refine wpAny_pure ⟨Code.quiet_builtin _ (by decide +kernel),codeAny_builtin F.entry_type_call ?_⟩
  rw [Around.under_plain (weight_type_call_type "set" [.ref L] []) rfl]
  have h1:=F.called_set.notType
  have h2:=F.called_set.canCreate
  have hct:=F.typeCall_set_1 (.ref L)
  repeat (any_goals (first | assumption | wp_step))
  refine codeAny_mono (newI (.ref L) (E:=E) hb (Q₁:=fun x s₁=>x=.ref s.heap.objs.size∧s₁={ s with heap:=s.heap.push { cls:=.type "set", dict:=none,data:=.set #[] 0 (.fresh 0 0 (!b)) } }) ⟨rfl,rfl⟩) fun r s₁ hr=>?_
  cases r with
  | error e=>exact hr
  | ok fl =>
    cases fl with
    | ret obj =>
      obtain ⟨rfl,rfl⟩:=hr
      generalize ho0:({ cls:=.type "set", dict:=none,data:=.set #[] 0 (.fresh 0 0 (!b)) }:Obj)=o0
      have hS:(s.heap.push o0).get? s.heap.objs.size=some o0:=Heap.get?_push_size _ (by rw [← ho0]; rfl)
      have hS0:SetI (!b) s.heap.objs.size [] (s.heap.push o0):=⟨o0,#[],0,_,hS,by rw [← ho0]; exact ⟨rfl,rfl,rfl⟩,by rw [← ho0],(fun e z=>by simp at z),.nil,by decide,by rfl,TOk.fresh⟩
      have hT:Shared.TypeIs { s with heap:=s.heap.push o0 } (.ref s.heap.objs.size) "set" := ⟨_,hS,by rw [← ho0]⟩
      have hli:=F.called_set.init.lookup
      have hbi:=F.called_set.init.bind (.ref s.heap.objs.size)
      repeat (any_goals (first | assumption | wp_step))
      refine codeAny_mono (codeAny_call_builtin (R:=wants (fun r s₂=>r=.none∧∃ h' tk,s₂={ s with heap:=h',toks:=tk }∧SetI (!b) s.heap.objs.size (firstMet (fun i=>ns.getD i 0) items.size) h' ∧
          (∀ c o,s.heap.get? c=some o→h'.get? c=some o)) E) F.called_set.init.plain F.entry_set_init (check_set_init_1 hT ?_)) fun r₂ s₂ hr₂=>?_
      · obtain ⟨ol,hol,hcl,nl,hdl⟩:=hl
        obtain ⟨oc,od,odt,osl⟩:=ol
        simp only at hcl hdl
        subst hcl; subst hdl
        have hol':(s.heap.push o0).get? L=some { cls:=.type "list", dict:=od,data:=.seq items nl,slots:=osl }:=Heap.get?_push_of_some _ hol
        have e1:=F.sub_list_set
        have e2:=F.sub_list_frozenset
        have hne:(Value.type "list" == Value.type "dict")=false:=by decide
        have hl1:(s.heap.push o0).IsList L items:=⟨_,hol',rfl,nl,rfl⟩
        have hz0:(s.heap.push o0).objs.size=s.heap.objs.size + 1:=Heap.size_push _ _
        subst ho0
        unfold Builtin.«set.__init__» noKeywords Builtin.Frozenset.updateFrom
        generalize hPI:pyIter=PI
        wp_walk
        subst hPI
        refine wpAny_pyIter_list hl1 ?_
        refine wpAny_bind (wpAny_runValue ?_)
        have hlS:L < s.heap.objs.size:=Heap.lt_size hol
        have hh3:A.in1.in1.in1.handled=none:=hh
        have hneI:L≠(s.heap.push { cls:=.type "set", dict:=none,data:=.set #[] 0 (.fresh 0 0 (!b)) }).objs.size:=by rw [hz0]; exact Nat.ne_of_lt (Nat.lt_succ_of_lt hlS)
        have hSf:s.heap.objs.size∉[(s.heap.push { cls:=.type "set", dict:=none,data:=.set #[] 0 (.fresh 0 0 (!b)) }).objs.size,L]:=by
          rw [hz0]
          intro z
          rcases List.mem_cons.mp z with z | z
          · exact Nat.ne_of_lt (Nat.lt_succ_self _) z
          · exact Nat.ne_of_gt hlS (List.mem_singleton.mp z)
        have hval:∀ (i:Nat) (v:Value),items[i]?=some v→∃ t,v=.int ((fun i=>ns.getD i 0) i) t:=fun i v hv=>IntsAre.int_at hi i v (by rw [Array.getElem?_toList]; exact hv)
        refine updateI (b:=!b) ((Walks.list hh3 _ L hneI items).toS) s.heap.objs.size hSf (fun i=>ns.getD i 0) hval hz (items.size - 0) 0 _ (by omega) (Nat.zero_le _) ⟨⟨_,Heap.get?_push_size _ rfl,rfl,rfl⟩,(hl1.push _)⟩ ?hS0 ?hR
        case hS0=>exact hS0.at fun o z=>Heap.get?_push_of_some _ z
        case hR =>
          intro s' hm hS'
          obtain ⟨h',g',d',tk',os'⟩:=s'
          have eg:g'=s.gens:=hm.gens
          have ed:d'=s.drawn:=hm.drawn
          have eo:os'=s.os:=hm.os
          subst eg; subst ed; subst eo
          show wpAny _ _ _ _ _ _
          refine wpAny_pure ?_
          show wpAny _ _ (ret Value.none) _ _ _
          refine wpAny_pure ⟨rfl,h',tk',rfl,hS',fun c o z=>?_⟩
          have hc:c < s.heap.objs.size:=Heap.lt_size z
          refine hm.heap c o (fun q=>?_) (Heap.get?_push_of_some _ (Heap.get?_push_of_some _ z))
          rcases List.mem_cons.mp q with q | q
          · exact Nat.ne_of_lt hc q
          · have q:=List.mem_singleton.mp q
            rw [hz0] at q
            exact Nat.ne_of_lt (Nat.lt_succ_of_lt hc) q
      · cases r₂ with
        | error e=>exact hr₂
        | ok fl₂ =>
          cases fl₂ with
          | ret r =>
            obtain ⟨rfl,h',tk,rfl,hS',hk'⟩:=hr₂
            repeat (any_goals (first | assumption | wp_step))
            exact k _ _ hS' hk'
          | _=>exact hr₂.elim
    | _=>exact hr.elim
end
end L2
namespace L2
open PySem PySem.Spec PyProof.Rows
section
variable {X:Cx} {K:PySem.W.Frag} {b:Bool}
def SetB (b:Bool) (a:Addr) (l:List Int):HO:=.ext (SetI (!b) a l)
theorem setB_ok {P:Program} {w:World} {H:Hp} {h:Heap} {a:Addr} {l:List Int} (x:SetI (!b) a l h):ObjOk P w H h a (SetB b a l) :=
  ⟨x,(let ⟨o,_,_,_,ho,_⟩:=x; ⟨o,ho⟩),fun _ _ x1 k=>x1.at k⟩
def rSetB (K:PySem.W.Frag) (b:Bool):List V→Hp→VK→Prop:=fun xs H Q=>∃ p ns,xs=[.ref p]∧SqL K H p (ns.map V.int)∧ns.length < 4000∧∀ l,H l=none→Q (.ref l) (upd H l (SetB b l (dd ns)))
theorem call_setB (hK:X.K=K) (hc:X.calm=true) (hb:X.w.params.followText "set-order" = b):CallR X (.type "set") (rSetB K b):=by
  subst hK
  intro pins s σ H xs us Q I r h
  obtain ⟨p,ns,rfl,hq,hz,q⟩:=h
  obtain ⟨u,rfl,rx⟩:=vals1 r
  cases rx
  obtain ⟨its,r',pl,hy⟩:=I.list hq
  have hl:=r'.length
  rw [List.length_map] at hl hy
  refine setOfI (ns:=ns) (I.ok.hd hc) hb pl.isList (by simpa using intsAre_of r') (by rw [List.size_toArray]; unfold scanBound; omega) fun h' tk hS hk=>?_
  have z2:its.toArray.size=ns.length:=by rw [List.size_toArray,hl]
  rw [z2,firstMet_all] at hS
  exact ⟨.ref s.heap.objs.size,_,I.laid (t':=tk) hk (Nat.le_refl _) (setB_ok hS),rfl,q _ (I.hok.fresh (Nat.le_refl _))⟩
def rLenB (b:Bool):List V→Hp→VK→Prop:=fun xs H Q=>∃ p l,xs=[.ref p]∧H p=some (SetB b p l)∧Q (.int l.length) H
theorem call_lenB:CallR X (.builtin "len") (rLenB b):=by
  intro pins s σ H xs us Q I r h
  obtain ⟨p,l,rfl,hH,q⟩:=h
  obtain ⟨u,rfl,rx⟩:=vals1 r
  cases rx
  obtain ⟨o,es,ep,t,ho,hex,hd,_,hp,hz,hf,_⟩:SetI (!b) p l s.heap:=(I.hok p _ hH).1
  have e:es.size=l.length:=by have:=hp.length_eq; simpa using this
  exact PySem.call_len_set ho hex hd hf (by unfold scanBound at hz; omega) ⟨.int l.length,H,I.tok _,⟨_,by rw [e]⟩,q⟩
end
end L2
namespace PD
open PySem L2
section
variable {K:PySem.W.Frag} {S S':Sx} {κ κ' b:Bool} {Γ Γ' Γ'':Ctx} {P:Post}
end
end PD
namespace L2
open PySem
end L2
namespace L2
open PySem
end L2
namespace L2
open PySem PySem.Spec PyProof.Rows
theorem set_entryAnd:entryFor table "set.__and__" = some Builtin.«frozenset.__and__»:=entryFor_alias (id' := "frozenset.__and__") (by kernel_rfl) rfl (by decide +kernel) (by kernel_rfl)
def FreshI (b:Bool) (m:Nat) (a:Addr) (h:Heap):Prop:=∃ o ep t,h.get? a=some o∧o.ExactSet∧o.data=.set #[] ep t∧TOk b t∧t.place=#[]∧(∃ k,t.mask + 1=2 ^ k)∧m≤t.mask
theorem FreshI.fits {t:SetTable} {b:Bool} (h:TOk b t) (e:t.place=#[]):t.fits (#[]:Array (Int×Value)).size=true:=by
  unfold SetTable.fits SetTable.fill
  rw [e,h.dum]
  simp
theorem FreshI.set {b:Bool} {m:Nat} {a:Addr} {h:Heap} (x:FreshI b m a h):SetI b a [] h:=by
  obtain ⟨o,ep,t,ho,hx,hd,ht,hp,_⟩:=x
  exact ⟨o,#[],ep,t,ho,hx,hd,(fun e z=>by simp at z),.nil,by decide,FreshI.fits ht hp,ht⟩
section
variable {prog:Program} {w:World} {A:Around} {E:Value→Shared→Prop} {s:Shared} {b:Bool} {a r o:Addr} {l l1 l2:List Int} {m:Nat}
end
end L2
namespace L2
open PySem PySem.Spec PyProof.Rows
section
variable {prog:Program} {w:World} {A:Around} {E:Value→Shared→Prop} {s:Shared} {bt:Bool} {a r o:Addr} {l l1 l2:List Int} {m:Nat}
theorem newSetI {Q:Value→Shared→Prop} (hb:w.params.followText "set-order" = bt)
    (k:∀ ob,FreshI (!bt) 7 s.heap.objs.size (s.heap.push ob)→Q (.ref s.heap.objs.size) { s with heap:=s.heap.push ob }):wpAny (model prog w) A (newSet (.type "set")) Q E s:=by
  unfold newSet setsByText
  refine wpAny_bind (wpAny_bind (wpAny_askSetting (wpAny_pure ?_)))
  rw [show (model prog w).w.params.followText "set-order" = bt from hb]
  dsimp only
  simp only [newObj]
  exact wpAny_bind (wpAny_alloc (wpAny_pure (k _ ⟨_,0,_,Heap.get?_push_size _ rfl,⟨rfl,rfl,rfl⟩,rfl,TOk.fresh,rfl,⟨3,rfl⟩,Nat.le_refl _⟩)))
theorem quietI {sets:List Addr} {Q:Bool→Shared→Prop} (h:∀ a∈sets,∃ b l,SetI b a l s.heap) (k:Q true s):wpAny (model prog w) A (setsQuiet sets) Q E s:=by
  unfold setsQuiet
  refine wpAny_bind (wpAny_forIn_list _ (fun rest r s'=>r.1=none∧s'=s∧∀ a∈rest,∃ b l,SetI b a l s.heap) _ ?_ ?_ _ _ ⟨rfl,rfl,h⟩)
  · rintro x rest ⟨r1,r2⟩ s' ⟨e1,rfl,hr⟩
    obtain ⟨b,l,ob,es,ep,t,ho,hex,hd,hE,hp,hz,hf,ht⟩:=hr x (.head _)
    refine wpAny_bind (wpAny_setEntries_of ho hd hf ?_)
    refine wpAny_bind (wpAny_forIn_array' _ (fun rest r s''=>r.1=none∧s''=s'∧∀ e∈rest,IsE e) _ ?_ ?_ _ _ ⟨rfl,rfl,hE⟩)
    · rintro e rest2 ⟨q1,q2⟩ s'' ⟨e2,rfl,h2⟩
      obtain ⟨k',t',rfl⟩:=h2 e (.head _)
      exact wpAny_pure ⟨rfl,rfl,fun y hy=>h2 y (.tail _ hy)⟩
    · rintro ⟨q1,q2⟩ s'' ⟨e2,rfl,_⟩
      have e2:q1=none:=e2
      subst e2
      exact wpAny_pure ⟨rfl,rfl,fun y hy=>hr y (.tail _ hy)⟩
  · rintro ⟨r1,r2⟩ s' ⟨e1,rfl,_⟩
    have e1:r1=none:=e1
    subst e1
    exact wpAny_pure k
end
end L2
namespace L2
open PySem PySem.Spec PyProof.Rows
section
variable {prog:Program} {w:World} {A:Around} {E:Value→Shared→Prop} {s:Shared} {bt:Bool} {a r o p q:Addr} {l l1 l2:List Int} {m:Nat}
theorem anySetI {h:Heap} {Q:Bool→Shared→Prop} {b:Bool} (hS:SetI b a l s.heap) (k:Q true s):wpAny (model prog w) A (Builtin.Frozenset.isAnySet (.ref a)) Q E s:=by
  obtain ⟨ob,_,_,_,ho,hx,_⟩:=hS
  unfold Builtin.Frozenset.isAnySet
  refine wpAny_bind (wpAny_isInstance (b:=true) ⟨ob,ho,hx.1⟩ sub_set_self (wpAny_pure k))
end
end L2
namespace L2
open PySem PySem.Spec PyProof.Rows
section
variable {X:Cx} {K:PySem.W.Frag} {b:Bool}
theorem dd_nd (ns:List Int):(dd ns).Nodup:=by
  suffices z:∀ n,(dd (ns.take n)).Nodup by simpa using z ns.length
  intro n
  induction n with
  | zero=>exact List.nodup_nil
  | succ n ih =>
    by_cases hn:n < ns.length
    · have e:ns.take (n + 1)=ns.take n ++ [ns[n]]:=by rw [List.take_succ,List.getElem?_eq_getElem hn]; rfl
      rw [e,dd_snoc]
      unfold step_dedup
      split
      · exact ih
      · rename_i h
        rw [List.nodup_append]
        refine ⟨ih,by simp,fun x hx y hy=>?_⟩
        rw [List.mem_singleton.mp hy]
        rintro rfl
        exact h (List.any_eq_true.mpr ⟨_,hx,by simp⟩)
    · have e1:ns.take (n + 1)=ns.take n:=by rw [List.take_of_length_le (by omega),List.take_of_length_le (by omega)]
      rw [e1]
      exact ih
end
end L2
namespace PD
open PySem L2
section
variable {K:PySem.W.Frag} {S S':Sx} {κ κ' b:Bool} {Γ Γ' Γ'':Ctx} {P:Post}
end
end PD
namespace PD
open PySem L2
section
variable {K:PySem.W.Frag} {S S':Sx} {κ κ':Bool} {Γ Γ' Γ'':Ctx} {P:Post} {E:XK} {C:Addr}
theorem ex_clrO {i:Nat} {ds:List PyData} (h:GetC Γ i (.ow κ ds)) (es:SetC Γ i (some (.ow κ [])) Γ') (k:P.nx Γ'):ExS K S (tDrop (tBM0 K "list" rClear (tVar i))) Γ P:=fun H0 F0 H F σ B e b _ D I=>by
  have h:=h.eq
  obtain ⟨v0,q1,a,vs,rfl,w,q5⟩:=e.has i _ h
  refine ⟨_,q1,.inl ⟨rfl,_,SqL.of w.h⟩,a,vs,rfl,rfl,w.h,?_⟩
  have:=e.put (vs:=[]) (y:=.ow κ []) h q1 (show Owns H (.ref a) (.ow κ ds) a from rfl) ⟨a,_,rfl,⟨upd_same,w.f,w.n,w.s⟩,.nil⟩ fun _ z=>z
  rw [es.eq] at this
  exact I.nx _ _ _ F k b this
end
end PD
namespace PD
open PySem L2
section
variable {K:PySem.W.Frag} {S S':Sx} {κ κ':Bool} {Γ Γ' Γ'':Ctx} {P:Post}
theorem cutT {α:Type} (g:α→PyData) (xs:List α) (k:Nat):cutD (xs.map g) none (some (k:Int))=(xs.take k).map g:=by
  unfold cutD
  rw [HT.sIx_nat]
  show ((xs.map g).drop 0).take (min k (xs.map g).length - 0)=_
  rw [List.drop_zero,Nat.sub_zero,List.length_map,← List.map_take]
  congr 1
  rcases Nat.le_total k xs.length with h | h
  · rw [Nat.min_eq_left h]
  · rw [Nat.min_eq_right h,List.take_of_length_le (Nat.le_refl _),List.take_of_length_le h]
theorem cutH {α:Type} (g:α→PyData) (xs:List α) (k:Nat):cutD (xs.map g) (some (k:Int)) none=(xs.drop k).map g:=by
  unfold cutD
  rw [HT.sIx_nat]
  show ((xs.map g).drop (min k (xs.map g).length)).take ((xs.map g).length - min k (xs.map g).length)=_
  rw [List.take_of_length_le (by rw [List.length_drop]; exact Nat.le_refl _),List.length_map,← List.map_drop]
  congr 1
  rcases Nat.le_total k xs.length with h | h
  · rw [Nat.min_eq_left h]
  · rw [Nat.min_eq_right h,List.drop_of_length_le (Nat.le_refl _),List.drop_of_length_le h]
end
end PD
namespace PD
open PySem L2
section
variable {K:PySem.W.Frag} {S S':Sx} {κ κ':Bool} {Γ Γ' Γ'':Ctx} {P:Post}
theorem exclO {i:Nat} {u:TS} {ds:List PyData} (h:GetC Γ i (.ow κ ds)) (es:SetC Γ i (some (.ow κ [])) Γ') (k:ExT K S S' u Γ' P):ExT K S S' (tSeq (tDrop (tBM0 K "list" rClear (tVar i))) u) Γ P:=ex_seq (·=Γ') (ex_clrO h es rfl) fun _ z=>z ▸ k
end
end PD
namespace L2
open PySem PySem.Spec PyProof.Rows
section
variable {prog:Program} {w:World} {A:Around} {E:Value→Shared→Prop} {s:Shared} {b bt:Bool} {a r o p q:Addr} {l l1 l2:List Int}
theorem findI {k:Int} {tk:Tok} {Q:Option Nat→Shared→Prop} (hS:SetI b a l s.heap) (h:∀ x:Option Nat,(x.isSome=true↔k∈l)→Q x s):wpAny (model prog w) A (setFind a (.int k tk) (hashInt k)) Q E s:=by
  obtain ⟨ob,es,ep,t,ho,hex,hd,hE,hp,hz,hf,ht⟩:=hS
  have hel:ElemsOf (intKind prog w) es.toList:=IsE.elems hE
  have hm:k∈l↔∃ e∈es.toList,(intKind prog w).is k e.2=true:=by
    rw [← hp.mem_iff,List.mem_map]
    exact ⟨fun ⟨e,x,y⟩=>⟨e,x,((hE e x).is k).mpr y⟩,fun ⟨e,x,y⟩=>⟨e,x,((hE e x).is k).mp y⟩⟩
  unfold setFind setFindIn
  refine wpAny_bind (wpAny_setState_of ho hd hf ?_)
  dsimp only
  rw [byScan_of (knd:=intKind prog w) (x:=.int k tk) rfl hz hel]
  simp only [↓reduceIte]
  refine wpAny_bind (wpAny_rule ?_)
  refine wpAny_bind (wpAny_setScan_of (knd:=intKind prog w) (k:=k) (intKind_is _ _ k tk) ho hd hf hel ?_)
  cases hr:List.findIdx? (fun e=>(intKind prog w).is k e.2) es.toList with
  | none =>
    dsimp only
    refine wpAny_pure (h none ⟨fun z=>(by cases z),fun z=>?_⟩)
    obtain ⟨e,he,hpe⟩:=hm.mp z
    have q:=List.findIdx?_eq_none_iff.mp hr e he
    rw [hpe] at q; cases q
  | some j =>
    dsimp only
    obtain ⟨hj,hpj,_⟩:=List.findIdx?_eq_some_iff_getElem.mp hr
    exact wpAny_pure (h (some (0 + j)) ⟨fun _=>hm.mpr ⟨es.toList[j],List.getElem_mem hj,hpj⟩,fun _=>rfl⟩)
theorem walkA {also:List Addr} {Q:Array (Int×Value)→Shared→Prop} (hb:w.params.followText "set-order" = bt) (hR:SetI (!bt) r l1 s.heap) (hO:SetI (!bt) o l2 s.heap) (hA:∀ x∈also,∃ c l,SetI c x l s.heap)
    (k:∀ (ws:Array (Int×Value)) h',(∀ e∈ws.toList,IsE e)→(ws.toList.map kOf).Perm l2→Heap.SameBut r s.heap h'→SetI (!bt) r l1 h'→Q ws { s with heap:=h' }):wpAny (model prog w) A (setWalkUnseen o also (some r)) Q E s:=by
  obtain ⟨ob,es,ep,t,ho,hex,hd,hE,hp,hz,hf,ht⟩:=id hO
  have ks:∀ ws:Array (Int×Value),ws.toList.Perm es.toList→Q ws s:=fun ws pm=>k ws s.heap (fun e x=>hE e (pm.mem_iff.mp x)) ((pm.map kOf).trans hp) (Heap.SameBut.refl _ _) hR
  unfold setWalkUnseen
  refine wpAny_bind (wpAny_setState_of ho hd hf ?_)
  dsimp only
  unfold setsByText
  refine wpAny_bind (wpAny_bind (wpAny_askSetting (wpAny_pure ?_)))
  rw [show (model prog w).w.params.followText "set-order" = bt from hb]
  cases bt with
  | true =>
    simp only [Bool.true_or,↓reduceIte]
    unfold setWalk
    refine wpAny_bind (wpAny_setState_of ho hd hf ?_)
    dsimp only
    unfold setsByText
    refine wpAny_bind (wpAny_bind (wpAny_askSetting (wpAny_pure ?_)))
    rw [show (model prog w).w.params.followText "set-order" = true from hb]
    simp only [↓reduceIte]
    exact wpAny_bind (wpAny_askSetting (wpAny_pure (ks _ (pickOrder_perm _ _))))
  | false =>
    have led:t.led=true:=ht.led
    by_cases c:(false || (t.led && t.plain) || decide (es.size≤1))=true
    · rw [if_pos c]
      unfold setWalk
      refine wpAny_bind (wpAny_setState_of ho hd hf ?_)
      dsimp only
      unfold setsByText
      refine wpAny_bind (wpAny_bind (wpAny_askSetting (wpAny_pure ?_)))
      rw [show (model prog w).w.params.followText "set-order" = false from hb]
      simp only [Bool.false_eq_true,↓reduceIte]
      split
      · rename_i z
        have z:(!t.plain && decide (es.size > 1))=true:=z
        rw [led] at c
        simp at c z
        have y:¬ 1 < es.size:=by
          rcases c with c | c
          · rw [c] at z
            exact absurd z.1 (by decide)
          · omega
        exact absurd z.2 y
      · refine wpAny_bind (wpAny_of_eq (a:=()) ?_ ?_)
        · show (if (!t.led && decide (es.size > 1))=true then _ else _)=_
          rw [led]
          rfl
        · exact wpAny_pure (ks es (.refl _))
    · rw [if_neg c]
      refine wpAny_bind (quietI (fun x hx=>?_) ?_)
      · rcases List.mem_cons.mp hx with rfl | hx
        · exact ⟨_,_,hO⟩
        · exact hA x hx
      rw [if_neg (by decide)]
      refine wpAny_bind (wpAny_rule ?_)
      obtain ⟨ob1,es1,ep1,t1,ho1,hex1,hd1,hE1,hp1,hz1,hf1,ht1⟩:=id hR
      refine wpAny_bind (wpAny_setState_of ho1 hd1 hf1 ?_)
      dsimp only
      split
      · refine wpAny_bind (wpAny_storeSet_of ho1 hd1 ?_ (fits_of_scanBound hz1))
        refine wpAny_pure (k es _ hE hp (Heap.SameBut.update ..) ⟨_,es1,_,_,storeI ho1 hd1 _ _,hex1,rfl,hE1,hp1,hz1,hf1,⟨?_,ht1.rise,ht1.dum⟩⟩)
        show (t1.led && t.led)=_
        rw [ht1.led,led]
        rfl
      · exact wpAny_pure (ks es (.refl _))
theorem sizeI {Q:Nat→Shared→Prop} (hS:SetI b a l s.heap) (k:Q l.length s):wpAny (model prog w) A (Builtin.Frozenset.sizeOf a) Q E s:=by
  obtain ⟨ob,es,ep,t,ho,hex,hd,hE,hp,hz,hf,ht⟩:=hS
  have hn:es.size=l.length:=by have:=hp.length_eq; simpa using this
  unfold Builtin.Frozenset.sizeOf
  refine wpAny_bind (wpAny_setEntries_of ho hd hf (wpAny_pure ?_))
  rw [hn]
  exact k
theorem dd_step {l:List Int} {k:Int} (nd:l.Nodup):(step_dedup l k).Nodup∧(∀ x,x∈step_dedup l k↔x∈l∨x=k)∧(step_dedup l k).length≤l.length + 1:=by
  unfold step_dedup
  split
  · rename_i z
    obtain ⟨y,hy,ey⟩:=List.any_eq_true.mp z
    have ey:=eq_of_beq ey
    subst ey
    exact ⟨nd,fun x=>⟨.inl,fun z=>z.elim id fun z=>z ▸ hy⟩,by omega⟩
  · rename_i z
    refine ⟨?_,fun x=>by rw [List.mem_append,List.mem_singleton],by rw [List.length_append]; exact Nat.le_refl _⟩
    rw [List.nodup_append]
    refine ⟨nd,by simp,fun x hx y hy=>?_⟩
    rw [List.mem_singleton.mp hy]
    rintro rfl
    exact z (List.any_eq_true.mpr ⟨_,hx,by simp⟩)
theorem andI {Q:Value→Shared→Prop} (hb:w.params.followText "set-order" = bt) (hP:SetI (!bt) p l1 s.heap) (hR:SetI (!bt) q l2 s.heap) (hne:p≠q) (hl:l1.length + l2.length < 2000)
    (k:∀ h' l3,SetI (!bt) s.heap.objs.size l3 h'→(∀ c ob,s.heap.get? c=some ob→h'.get? c=some ob)→(∀ x,x∈l3↔x∈l1∧x∈l2)→l3.Nodup→l3.length≤l1.length + l2.length→Q (.ref s.heap.objs.size) { s with heap:=h' }) :
    wpAny (model prog w) A (binaryOp .BitAnd (.ref p) (.ref q)) Q E s:=by
  obtain ⟨op,_,_,_,hop,hxp,_⟩:=id hP
  obtain ⟨oq,_,_,_,hoq,hxq,_⟩:=id hR
  have hp:p < s.heap.objs.size:=Heap.lt_size hop
  have hq:q < s.heap.objs.size:=Heap.lt_size hoq
  have hT:s.TypeIs (.ref p) "set" := ⟨op,hop,hxp.1⟩
  refine wpAny_binaryOp_same hT ⟨oq,hoq,hxq.1⟩ F.fills_set_and F.slot_set_and (wpAny_call_entry F.slot_set_and hT set_entryAnd ?_ (F.args_set_and_2 _ _))
  unfold Builtin.«frozenset.__and__»
  show wpAny _ _ (do
    if !(← Builtin.Frozenset.isAnySet (.ref p) <&&> Builtin.Frozenset.isAnySet (.ref q)) then rule s!"frozenset.{"__and__"}.declined"; return ← ret .notImplemented
    ret (← Builtin.Frozenset.intersection s!"frozenset.{"__and__"}" p (.ref q))) _ _ _
  refine wpAny_bind (wpAny_bind (anySetI (h:=s.heap) hP ?_))
  show wpAny _ _ (Builtin.Frozenset.isAnySet (Value.ref q)) _ _ _
  refine anySetI (h:=s.heap) hR ?_
  simp only [Bool.not_true,Bool.false_eq_true,↓reduceIte]
  refine wpAny_bind ?_
  unfold Builtin.Frozenset.intersection
  rw [if_neg (by simpa using Ne.symm hne)]
  unfold Builtin.Frozenset.baseOf
  refine wpAny_bind (wpAny_bind (wpAny_isInstance (b:=true) ⟨op,hop,hxp.1⟩ sub_set_self (wpAny_pure ?_)))
  simp only [↓reduceIte]
  refine wpAny_bind (newSetI hb fun o1 f1=>?_)
  unfold Builtin.Frozenset.addrOf
  refine wpAny_bind (wpAny_pure ?_)
  have up:∀ c ob,s.heap.get? c=some ob→(s.heap.push o1).get? c=some ob:=fun c ob z=>Heap.get?_push_of_some _ z
  have hP1:SetI (!bt) p l1 (s.heap.push o1):=hP.at fun _ z=>up _ _ z
  have hR1:SetI (!bt) q l2 (s.heap.push o1):=hR.at fun _ z=>up _ _ z
  refine wpAny_bind (wpAny_holding ?_)
  refine wpAny_bind (anySetI (s:={ s with heap:=s.heap.push o1 }) (h:=s.heap) hR1 ?_)
  rw [if_pos rfl]
  refine wpAny_bind (wpAny_pure ?_)
  refine wpAny_bind (sizeI (s:={ s with heap:=s.heap.push o1 }) hR1 ?_)
  refine wpAny_bind (sizeI (s:={ s with heap:=s.heap.push o1 }) hP1 ?_)
  obtain ⟨⟨ak,wk⟩,ep,la,lw,hA,hW,na,nw,hiff,hlw⟩:∃ pr:Addr×Addr,(if l2.length > l1.length then (q,p) else (p,q))=pr∧∃ la lw,SetI (!bt) pr.1 la (s.heap.push o1)∧SetI (!bt) pr.2 lw (s.heap.push o1)∧s.heap.objs.size≠pr.1∧s.heap.objs.size≠pr.2∧(∀ x,x∈la∧x∈lw↔x∈l1∧x∈l2)∧lw.length≤l1.length + l2.length:=by
    by_cases c:l2.length > l1.length
    · exact ⟨_,if_pos c,l2,l1,hR1,hP1,Nat.ne_of_gt hq,Nat.ne_of_gt hp,fun x=>And.comm,by omega⟩
    · exact ⟨_,if_neg c,l1,l2,hP1,hR1,Nat.ne_of_gt hp,Nat.ne_of_gt hq,fun x=>Iff.rfl,by omega⟩
  rw [ep]
  dsimp only at hA hW na nw ⊢
  obtain ⟨ob2,es2,ep2,t2,ho2,hx2,hd2,hE2,hp2,hz2,hf2,ht2⟩:=id hW
  refine wpAny_bind (wpAny_setEpoch_of (s:={ s with heap:=s.heap.push o1 }) ho2 hd2 hf2 ?_)
  refine wpAny_bind (walkA (s:={ s with heap:=s.heap.push o1 }) hb f1.set hW (fun x hx=>?_) fun ws h2 wE wp u2 f2=>?_)
  · rcases List.mem_cons.mp hx with rfl | hx
    · exact ⟨_,_,hA⟩
    · rw [List.mem_singleton.mp hx]; exact ⟨_,_,f1.set⟩
  refine wpAny_bind (wpAny_forIn_array' _ (fun rest _ s'=>∃ l h',s'={ s with heap:=h' }∧Heap.SameBut s.heap.objs.size (s.heap.push o1) h'∧SetI (!bt) s.heap.objs.size l h'∧(∀ e∈rest,IsE e)∧(∀ x,(x∈l∨(x∈la∧x∈rest.map kOf))↔x∈la∧x∈lw)∧l.Nodup∧l.length + rest.length≤lw.length) _ ?_ ?_ _ _ ⟨[],h2,rfl,u2,f2,wE,fun x=>by rw [wp.mem_iff]; simp,List.nodup_nil,by have:=wp.length_eq; rw [List.length_map] at this; simpa using Nat.le_of_eq this⟩)
  · rintro e rest _ s' ⟨l,h',rfl,u,f,hE',hm,hnd,hlen⟩
    obtain ⟨kk,tk,rfl⟩:=hE' e (.head _)
    rw [List.length_cons] at hlen
    have hA':SetI (!bt) ak la h':=hA.at fun ob z=>by rw [u.2 ak (Ne.symm na)]; exact z
    have un:∀ (h3:Heap) (Q':Unit→Shared→Prop),Heap.SameBut s.heap.objs.size h' h3→Q' () { s with heap:=h3 }→wpAny (model prog w) A.in1 (Builtin.Frozenset.unchanged s!"frozenset.{"__and__"}" wk ep2) Q' E { s with heap:=h3 }:=fun h3 Q' u3 qq=>by
      unfold Builtin.Frozenset.unchanged
      refine wpAny_bind (wpAny_setEpoch_of (s:={ s with heap:=h3 }) ?_ hd2 hf2 ?_)
      · show h3.get? wk=some ob2
        rw [u3.2 wk (Ne.symm nw),u.2 wk (Ne.symm nw)]
        exact ho2
      · rw [if_neg (by simp)]
        exact wpAny_pure qq
    refine wpAny_bind (wpAny_holding (wpAny_bind (findI (s:={ s with heap:=h' }) hA' fun x hx=>?_)))
    by_cases c:x.isSome=true
    · rw [if_pos c]
      refine wpAny_bind (addI (s:={ s with heap:=h' }) f (by unfold scanBound; omega) fun rr h3 u3 f3=>wpAny_pure ?_)
      refine wpAny_bind (un h3 _ u3 (wpAny_pure ?_))
      obtain ⟨d1,d2,d3⟩:=dd_step (k:=kk) hnd
      refine ⟨_,h3,rfl,u.trans u3,f3,fun y hy=>hE' y (.tail _ hy),fun y=>?_,d1,by omega⟩
      rw [← hm y,d2 y,List.map_cons]
      show _↔_∨(_∧y∈kk :: _)
      rw [List.mem_cons]
      have ka:=hx.mp c
      constructor
      · rintro ((z | rfl) | z)
        · exact .inl z
        · exact .inr ⟨ka,.inl rfl⟩
        · exact .inr ⟨z.1,.inr z.2⟩
      · rintro (z | ⟨z1,z | z⟩)
        · exact .inl (.inl z)
        · exact .inl (.inr z)
        · exact .inr ⟨z1,z⟩
    · rw [if_neg c]
      refine wpAny_pure (wpAny_bind (un h' _ (Heap.SameBut.refl _ _) (wpAny_pure ?_)))
      refine ⟨l,h',rfl,u,f,fun y hy=>hE' y (.tail _ hy),fun y=>?_,hnd,by omega⟩
      rw [← hm y,List.map_cons]
      show _↔_∨(_∧y∈kk :: _)
      rw [List.mem_cons]
      have ka:kk∉la:=fun z=>c (hx.mpr z)
      constructor
      · rintro (z | z)
        · exact .inl z
        · exact .inr ⟨z.1,.inr z.2⟩
      · rintro (z | ⟨z1,rfl | z⟩)
        · exact .inl z
        · exact absurd z1 ka
        · exact .inr ⟨z1,z⟩
  · rintro _ s' ⟨l,h',rfl,u,f,_,hm,hnd,hlen⟩
    refine wpAny_pure (wpAny_pure ?_)
    exact wpAny_pure ⟨_,rfl,by simp,k h' l f (fun c ob z=>by rw [u.2 c (Nat.ne_of_lt (Heap.lt_size z))]; exact up c ob z) (fun x=>by rw [← hiff x,← hm x]; simp) hnd (by simp at hlen; omega)⟩
end
end L2
namespace L2
open PySem PySem.Spec PyProof.Rows
section
variable {X:Cx} {K:PySem.W.Frag} {b:Bool}
def rAndB (b:Bool):R2:=fun x y H Q=>∃ p q l1 l2,x=.ref p∧y=.ref q∧p≠q∧H p=some (SetB b p l1)∧H q=some (SetB b q l2)∧l1.length + l2.length < 2000 ∧
  ∀ c l3,H c=none→(∀ k,k∈l3↔k∈l1∧k∈l2)→l3.Nodup→l3.length≤l1.length + l2.length→Q (.ref c) (upd H c (SetB b c l3))
theorem op_andB (hc:X.calm=true) (hb:X.w.params.followText "set-order" = b):OpR X (binaryOp .BitAnd) (rAndB b):=by
  intro pins s σ H x y v u Q I rx ry h
  obtain ⟨p,q,l1,l2,rfl,rfl,hne,hp,hq,hz,k⟩:=h
  cases rx
  cases ry
  exact andI hb (I.hok p _ hp).1 (I.hok q _ hq).1 hne hz fun h' l3 f kk a1 a2 a3=>⟨.ref s.heap.objs.size,_,I.laid (t':=s.toks) kk (Nat.le_refl _) (setB_ok f),rfl,k _ l3 (I.hok.fresh (Nat.le_refl _)) a1 a2 a3⟩
end
end L2
namespace PD
open PySem L2
section
variable {K:PySem.W.Frag} {S S':Sx} {κ κ' b:Bool} {Γ Γ' Γ'':Ctx} {P:Post}
theorem ev_lenAnd {ta tc:TE} {ns ms:List Int} (h1:EvL K S false ta Γ (ns.map .int)) (h2:EvL K S false tc Γ (ms.map .int)) (hz:ns.length + ms.length < 2000) :
    EvE K S κ (tCB (rLenB b) (tCons (tOp (rAndB b) (tCB (rSetB K b) (tCons ta tNil)) (tCB (rSetB K b) (tCons tc tNil))) tNil)) Γ (.int ((dd ns).filter fun k=>decide (k∈ms)).length):=fun H0 F0 H F σ e Q q =>
  h1 H0 F0 H F σ e _ fun a vs H1 F1 g1 p1 k1=>by
    cases dpAll_of_ints (rpAll_dp k1)
    refine ⟨a,ns,rfl,p1,by omega,fun p hp=>?_⟩
    have g2:=g1.trans (.newO g1.le hp (SetB b p (dd ns)))
    refine h2 H0 F0 _ F1 σ (e.mono g2) _ fun c ws H3 F3 g3 p3 k3=>?_
    cases dpAll_of_ints (rpAll_dp k3)
    refine ⟨c,ms,rfl,p3,by omega,fun r hr=>?_⟩
    have g4:=(g2.trans g3).trans (.newO g3.le hr (SetB b r (dd ms)))
    have hpH:H3 p=some (SetB b p (dd ns)):=g3.h _ _ upd_same
    have hne:p≠r:=fun z=>by rw [z,hr] at hpH; cases hpH
    have d1:=dd_len ns
    have d2:=dd_len ms
    refine ⟨p,r,dd ns,dd ms,rfl,rfl,hne,by rw [upd_ne hne]; exact hpH,upd_same,by omega,fun t l3 ht m3 n3 z3=>?_⟩
    have g5:=g4.trans (.newO g4.le ht (SetB b t l3))
    have el:l3.length=((dd ns).filter fun k=>decide (k∈ms)).length:=by
      refine List.Perm.length_eq ?_
      rw [List.perm_ext_iff_of_nodup n3 ((dd_nd ns).sublist List.filter_sublist)]
      intro k
      rw [m3 k,List.mem_filter,dd_mem ms k,decide_eq_true_eq]
    refine ⟨t,l3,rfl,upd_same,?_⟩
    rw [el]
    exact q _ _ F3 g5 (.int _)
theorem meet_pos (ns ms:List Int):decide (((((dd ns).filter fun k=>decide (k∈ms)).length:Nat):Int) > 0)=ns.any fun k=>decide (k∈ms):=by
  rw [Bool.eq_iff_iff,decide_eq_true_eq,List.any_eq_true]
  constructor
  · intro h
    obtain ⟨k,hk⟩:=List.exists_mem_of_length_pos (l:=(dd ns).filter fun k=>decide (k∈ms)) (by omega)
    obtain ⟨h1,h2⟩:=List.mem_filter.mp hk
    exact ⟨k,(dd_mem ns k).mp h1,h2⟩
  · rintro ⟨k,h1,h2⟩
    have hk:k∈(dd ns).filter fun k=>decide (k∈ms):=List.mem_filter.mpr ⟨(dd_mem ns k).mpr h1,h2⟩
    have:=List.length_pos_of_mem hk
    omega
end
end PD
namespace L2
open PySem PySem.Spec PyProof.Rows
section
variable {X:Cx} {K:PySem.W.Frag}
theorem Vals.ofGet:∀ (xs:List V) (us:List Value),xs.length=us.length→(∀ (i:Nat) x u,xs[i]?=some x→us[i]?=some u→RelV x u)→Vals xs us
  | [],[],_,_=>.nil
  | [],_ :: _,h,_=>by cases h
  | _ :: _,[],h,_=>by cases h
  | x :: xs,u :: us,h,k=>.cons (k 0 x u rfl rfl) (Vals.ofGet xs us (Nat.succ.inj h) fun i y v h1 h2=>k (i + 1) y v h1 h2)
def rRngO:List V→Hp→VK→Prop:=fun xs H Q=>∃ n:Int,xs=[.int n]∧∀ l,H l=none→Q (.ref l) (upd H l (.rng 0 n))
theorem call_rngO:CallR X (.type "range") rRngO:=by
  intro pins s σ H xs us Q I r h
  obtain ⟨n,rfl,q⟩:=h
  obtain ⟨u,rfl,rx⟩:=vals1 r
  obtain ⟨t,rfl⟩:=rx
  exact call_range_1 ⟨.ref s.heap.objs.size,_,I.laid (t':=s.toks + 1 + 1) (fun b u e=>Heap.get?_push_of_some _ e) (Nat.le_refl _) (show ObjOk X.prog X.w _ _ _ (.rng 0 n) from ⟨_,_,_,Heap.get?_push_size _ rfl⟩),rfl,q _ (I.hok.fresh (Nat.le_refl _))⟩
def rListRng:List V→Hp→VK→Prop:=fun xs H Q=>∃ (p:Addr) (n:Nat),xs=[.ref p]∧H p=some (.rng 0 n)∧n≤1000000∧∀ l,H l=none→Q (.ref l) (upd H l (.lst ((List.range n).map fun i:Nat=>V.int (i:Int))))
theorem call_listRng (hc:X.calm=true):CallR X (.type "list") rListRng:=by
  intro pins s σ H xs us Q I r h
  obtain ⟨p,n,rfl,hp,hn,q⟩:=h
  obtain ⟨u,rfl,rx⟩:=vals1 r
  cases rx
  obtain ⟨t,u,v,ho⟩:∃ t u v,s.heap.get? p=some { cls:=.type "range", data:=.fields #[.int 0 t,.int n u,.int 1 v] }:=I.hok p _ hp
  have rs:Builtin.Range.rangeSize 0 n 1=(n:Int):=by
    unfold Builtin.Range.rangeSize
    simp
    omega
  refine call_list_range (n:=n) (I.ok.hd hc) ho ?_ ?_ (by omega) fun h' tk acc' c' hk hS hacc=>?_
  · exact small_one (by omega) (by omega) (by omega) (by omega)
  · exact rs
  · have hl:acc'.toList.length=n:=by rw [Array.length_toList]; exact hacc.1
    refine ⟨.ref s.heap.objs.size,_,I.laid (t':=tk) hk (Nat.le_refl _) (show ObjOk X.prog X.w _ h' _ (.lst ((List.range n).map fun i:Nat=>V.int (i:Int))) from ⟨by rw [List.length_map,List.length_range,sizeLine_eq]; omega,acc'.toList,c',Vals.ofGet _ _ (by rw [List.length_map,List.length_range,hl]) fun i x u h1 h2=>?_,hS⟩),rfl,q _ (I.hok.fresh (Nat.le_refl _))⟩
    have hi:i < n:=by
      have:=(List.getElem?_eq_some_iff.mp h2).1
      omega
    rw [List.getElem?_map,List.getElem?_range hi] at h1
    cases h1
    obtain ⟨t',rfl⟩:=hacc.2 i u (by rw [← Array.getElem?_toList]; exact h2)
    exact ⟨t',by rw [Int.mul_one,Int.zero_add]⟩
end
end L2
namespace PD
open PySem L2
section
variable {K:PySem.W.Frag} {S S':Sx} {κ κ':Bool} {Γ Γ' Γ'':Ctx} {P:Post}
theorem evo_listRng {ta:TE} {n:Nat} (h:EvE K S false ta Γ (.int (n:Int))) (hn:n≤1000000):EvO K S κ (tCB rListRng (tCons (tCB rRngO (tCons ta tNil)) tNil)) Γ ((List.range n).map fun i:Nat=>.int (i:Int)):=fun H0 F0 H F σ e Q q =>
  h H0 F0 H F σ e _ fun v H1 F1 g1 p1=>by
    cases rp_int p1
    refine ⟨n,rfl,fun p hp=>⟨p,n,rfl,upd_same,hn,fun l hl=>?_⟩⟩
    have g2:=g1.trans (.newO g1.le hp (.rng 0 n))
    have hr:RpAll K κ S H0 F1 ((List.range n).map fun i:Nat=>V.int (i:Int)) ((List.range n).map fun i:Nat=>.int (i:Int)):=by
      have:=rpAll_ints (K:=K) (κ:=κ) (S:=S) (H0:=H0) (F:=F1) ((List.range n).map fun i:Nat=>(i:Int))
      rw [List.map_map,List.map_map] at this
      exact this
    exact q l _ _ F1 (g2.trans (.newO g2.le hl _)) (g2.h.free hl) upd_same (g2.le.free hl) hr
end
end PD
namespace L2
open PySem PySem.Spec PyProof.Rows
section
variable {X:Cx} {K:PySem.W.Frag}
def rm (k:Int) (ns:List Int):List Int:=ns.take (ns.idxOf k) ++ ns.drop (ns.idxOf k + 1)
def rRemove:V→List V→Hp→VK→Prop:=fun x vs H Q=>∃ l,∃ ns:List Int,∃ k,x=.ref l∧vs=[.int k]∧H l=some (.lst (ns.map V.int))∧k∈ns∧Q .non (upd H l (.lst ((rm k ns).map V.int)))
theorem mt_remove:MtM X "list.remove" rRemove:=by
  intro pins s σ H x vs v us Q I rx rv h
  obtain ⟨l,ns,k,rfl,rfl,hH,hk,q⟩:=h
  cases rx
  obtain ⟨u,rfl,ru⟩:=rv.one
  obtain ⟨t,rfl⟩:=ru
  obtain ⟨z,its,n,r,hl,e⟩:=I.lstM hH
  have hi:=intsAre_of r
  have hj:ns.idxOf k < ns.length:=List.idxOf_lt_length_iff.mpr hk
  have hl':=r.length
  rw [List.length_map] at hl' z
  refine call_meets F.slot_list_remove ⟨_,e,rfl⟩ F.entry_list_remove (F.args_list_remove_2 _ _) (MeetsSeq.list_remove l its.toArray n (.int k t) (isInt k) (fun y hy=>eq_isInt k t hi y (by simpa using hy)) (ns.idxOf k) (by rw [List.size_toArray]; omega) ?_ (fun m hm lt=>?_) (by rw [List.size_toArray]; omega)) ⟨e,?_⟩
  · show isInt k its[ns.idxOf k]=true
    rw [isInt_at k hi (ns.idxOf k) (by omega) hj]
    simp
  · show isInt k its[m]=false
    rw [List.size_toArray] at hm
    rw [isInt_at k hi m hm (by omega)]
    exact ne_of_lt_idxOf lt (by omega)
  · refine ⟨.non,_,I.lset (its':=its.take (ns.idxOf k) ++ its.drop (ns.idxOf k + 1)) hH e ?_ (by unfold rm; rw [List.map_append,List.map_take,List.map_drop]; exact (r.take _).append (r.drop _)) ?_,rfl,q⟩
    · apply Array.toList_inj.mp
      rw [List.eraseIdxIfInBounds_toArray,List.eraseIdx_eq_take_drop_succ]
    · unfold rm
      rw [List.length_map,List.length_append,List.length_take,List.length_drop]
      omega
end
end L2
namespace PD
open PySem L2
section
variable {K:PySem.W.Frag} {S S':Sx} {κ κ':Bool} {Γ Γ' Γ'':Ctx} {P:Post}
theorem exrm {te:TE} {i:Nat} {ns:List Int} {k:Int} (h:GetC Γ i (.ow κ (ns.map .int))) (he:EvE K S false te Γ (.int k)) (hk:k∈ns) (es:SetC Γ i (some (.ow κ ((rm k ns).map .int))) Γ') (kk:P.nx Γ') :
    ExS K S (tDrop (tBM K "list" rRemove (tVar i) (tCons te tNil))) Γ P:=fun H0 F0 H F σ B e b _ D I=>by
  have h:=h.eq
  obtain ⟨v0,q1,a,vs,rfl,w,q5⟩:=e.has i _ h
  refine ⟨_,q1,.inl ⟨rfl,_,SqL.of w.h⟩,he H0 F0 H F σ e _ fun v1 H1 F1 g1 p1=>?_⟩
  cases rp_int p1
  cases dpAll_of_ints (rpAll_dp q5)
  refine ⟨a,ns,k,rfl,rfl,g1.h _ _ w.h,hk,?_⟩
  have:=(e.mono g1).put (vs:=(rm k ns).map V.int) (y:=.ow κ ((rm k ns).map .int)) h q1 (show Owns H1 (.ref a) (.ow κ (ns.map .int)) a from rfl) ⟨a,_,rfl,⟨upd_same,(w.mono g1).f,w.n,w.s⟩,rpAll_ints _⟩ fun _ z=>z
  rw [es.eq] at this
  exact I.nx _ _ _ F1 kk (b.trans g1.f) this
end
end PD
namespace L2
open PySem PySem.Spec PyProof.Rows PySem.W
section
variable {X:Cx} {k:Nat} {ps:List Str} {sp:Sp} {x:Str} {p cpos pos:Pos} {e:Expr} {es:List Expr} {ta:TA} {te:TE}
theorem FnOk.or {P:Program} {w:World} {K:PySem.W.Frag} {mg:Str→Option Value} {base:Heap} {CX:CXT} {f:Addr} {fd:FuncData} {sp':Sp} (F:FnOk P w K mg base CX k f fd ps sp) (G:FnOk P w K mg base CX k f fd ps sp') :
    FnOk P w K mg base CX k f fd ps fun vs H Q E=>sp vs H Q E∨sp' vs H Q E :=
  ⟨fun vs H Q E q=>q.elim (F.len vs H Q E) (G.len vs H Q E),fun A outer s H args us vs Q E hr he hb hv hs=>hs.elim (F.run A outer s H args us vs Q E hr he hb hv) (G.run A outer s H args us vs Q E hr he hb hv)⟩
end
section
variable {X:Cx} {k:Nat} {y n:Str} {np epos hpos tpos:Pos} {e:Expr} {te:XK→TE} {C D:Addr} {i:Nat} {b0:Stmt} {suite:List Stmt} {th:TS}
end
end L2
namespace L2
open PySem PySem.Spec PyProof.Rows PySem.W
section
variable {X:Cx} {k k2:Nat} {ps:List Str} {sp sp2:Sp} {x:Str} {p cpos pos:Pos} {e:Expr} {es:List Expr} {ta:TA}
def spO (sp sp2:Sp):Sp:=fun vs H Q E=>sp vs H Q E∨sp2 vs H Q E
end
end L2
namespace L2
open PySem PySem.Spec PyProof.Rows PySem.W
section
variable {X:Cx} {K:PySem.W.Frag}
end
end L2
namespace PD
open PySem L2
section
variable {K:PySem.W.Frag} {S S':Sx} {κ κ':Bool} {Γ Γ' Γ'':Ctx} {P:Post} {E:XK} {C:Addr}
end
end PD
namespace L2
open PySem PySem.Spec PyProof.Rows PySem.W
section
variable {P:Program} {w:World} {K:PySem.W.Frag} {mg:Str→Option Value} {base:Heap} {x:Str} {ys:List Str} {va:Str→V} {qual:Str} {scope:Scope} {f:Addr} {cd:Value} {cl:List (Str×Addr)} {A:Around} {outer:List Env} {s:Shared} {H:Hp}
end
end L2
namespace L2
open PySem PySem.Spec PyProof.Rows PySem.W
section
variable {X:Cx} {pins:List (Addr×Obj)} {σ:St} {H:Hp} {s:Shared}
end
end L2
namespace L2
open PySem PySem.Spec PyProof.Rows PySem.W
section
variable {X:Cx} {k:Nat} {ps:List Str} {sp:Sp} {g:Str} {p cpos lpos:Pos} {e:Expr} {te:TE} {params:Arguments} {body:Expr} {lsc:Scope} {q:Str} {c P:Addr} {clos:List (Str×Addr)} {caps:List (Str×Nat)}
end
end L2
namespace L2
open PySem PySem.Spec PyProof.Rows PySem.W
section
variable {X:Cx} {k:Nat} {ps:List Str} {sp:Sp} {x:Str} {p pos:Pos} {e:Expr} {es:List Expr} {t:TA}
end
end L2
namespace PD
open PySem L2 PySem.W
section
variable {P:Program} {w:World} {K:PySem.W.Frag} {mg:Str→Option Value} {base:Heap} {S S':Sx} {κ κ':Bool} {Γ Γ' Γ'':Ctx}
end
end PD
namespace L2
open PySem PySem.Spec PyProof.Rows PySem.W
section
variable {P:Program} {w:World} {K:PySem.W.Frag} {mg:Str→Option Value} {base:Heap}
end
end L2
namespace Cm
open PySem L2
end Cm
namespace L2
open PySem
theorem tabs_no {K:PySem.W.Frag} {h:Heap} (e:(tabsOf K).isEmpty=true):∀ p∈tabsOf K,h.get? p.1=some (PySem.W.tabObj #[]):=fun p hp=>by
  rw [List.isEmpty_iff.mp e] at hp
  cases hp
end L2
namespace L2
open PySem
end L2
namespace PD
open PySem L2
end PD
namespace PD
open PySem L2
section
variable {K:PySem.W.Frag} {S S':Sx} {κ κ':Bool} {Γ Γ' Γ'':Ctx} {P:Post} {E:XK}
def Rows (xs:List PyData):Prop:=∀ d∈xs,∃ ns:List Int,d=.list (ns.map .int)
theorem rows_drop {H0 F:Hp} {a:Addr} {us:List V} (ha:F a=some (.lst us)):∀ {vs:List V} {xs:List PyData},(∀ v∈vs,v∈us)→Rows xs→RpAll K true S H0 F vs xs→RpAll K true S H0 (drop (fun c=>c=a) F) vs xs
  | _,_,_,_,.nil=>.nil
  | v :: vs,d :: xs,hm,hr,.cons h k=>by
    refine .cons ?_ (rows_drop ha (fun v hv=>hm v (List.mem_cons_of_mem _ hv)) (fun d hd=>hr d (List.mem_cons_of_mem _ hd)) k)
    obtain ⟨ns,rfl⟩:=hr d List.mem_cons_self
    obtain ⟨b,ws,rfl,hl,hk⟩:=rp_lst h
    refine .lst ⟨drop_some.mpr ⟨hl.1,?_⟩,hl.2⟩ (imm_drop (fun d hd=>by obtain ⟨i,_,rfl⟩:=List.mem_map.mp hd; rfl) (rpAll_dp hk))
    rintro ⟨rfl,_⟩
    have e:=hl.1
    rw [ha] at e
    cases e
    have hb:=hm (.ref b) List.mem_cons_self
    cases dpAll_of_ints (rpAll_dp hk)
    obtain ⟨i,_,z⟩:=List.mem_map.mp hb
    cases z
theorem evog_rows {pre:List PyData→(PyData→Prop)→Prop} {t:TA} {ds:List PyData} {G:PyData→Prop} (h:EvA K S false t Γ ds) (hp:pre ds G) (hg:∀ d,G d→∃ xs,d=.list xs∧Rows xs):EvOG K S true (tCall (spW K true pre) [] E t) Γ (fun xs=>G (.list xs)):=fun H0 F0 H F σ e Q q =>
  h H0 F0 H F σ e _ fun vs H1 F1 g1 p1=>⟨F1,ds,_,g1.le,by rw [List.append_nil]; exact rpAll_dp p1,hp,fun d v H2 F2 hd g2 p2=>by
    obtain ⟨xs,rfl,him⟩:=hg d hd
    have p2:Rp K true S H0 F2 v (.list xs):=rp_map (κ:=true) (κ':=true) (S':=S) (H0':=H0) (fun a xs z=>⟨z.1,fun c=>by
      obtain ⟨u,hu⟩:=(e.mono g1).sd a c
      exact z.2 (by show H1 a≠none; rw [hu]; simp)⟩) (fun _ _ z=>z) p2
    obtain ⟨a,us,rfl,hl,hk⟩:=rp_lst p2
    have h1:H1 a=none:=Classical.byContradiction fun z=>by
      obtain ⟨_,_,z1,z2,_⟩:=rp_lst ‹Rp K true .fresh H1 F2 _ (.list xs)›
      cases z1
      exact z2.2 z
    have g:=g1.trans g2
    refine q xs a us H2 (drop (fun c=>c=a) F2) hd ⟨g.h,fun b o z=>drop_some.mpr ⟨g.f _ _ z,?_⟩,fun b o z=>g.le _ _ (drop_some.mp z).1,fun b o z n=>?_⟩ (g1.h.free h1) (g2.le _ _ hl.1) (drop_none hl.1 rfl) (rows_drop hl.1 (fun _ z=>z) him hk)
    · rintro ⟨rfl,_⟩
      have:=e.le _ _ z
      rw [g1.h.free h1] at this; cases this
    · cases q':drop (fun c=>c=a) F2 b with
      | none=>rfl
      | some o' =>
        have:=(drop_some.mp q').1
        rw [g.ap _ _ z n] at this; cases this⟩
end
end PD
namespace L2
open PySem PySem.Spec PyProof.Rows
section
variable {X:Cx} {K:PySem.W.Frag}
end
end L2
namespace PD
open PySem L2
section
variable {K:PySem.W.Frag} {S S':Sx} {κ κ':Bool} {Γ Γ' Γ'':Ctx} {P:Post}
end
end PD
namespace L2
open PySem PySem.Spec PyProof.Rows PySem.Calls
section
variable {κ:Type} [DecidableEq κ]
end
section
variable {P:Program} {w:World} {H:Hp} {h:Heap} {a:Addr}
end
section
variable {X:Cx} {pins:List (Addr×Obj)} {σ:St} {H:Hp} {s:Shared} {a:Addr} {y v:V} {u r:Value} {o:Option V} {A:Around} {E:Value→Shared→Prop}
end
section
variable {X:Cx} {pins:List (Addr×Obj)} {σ:St} {H:Hp} {s:Shared} {a:Addr} {kvs:List (Key×V)} {k:Key} {u:Value} {A:Around} {E:Value→Shared→Prop}
end
section
variable {X:Cx} {o i e value:Expr} {pos pos' tpos:Pos} {td ty tv:TE}
end
section
variable {X:Cx} {pos:Pos}
end
section
variable {X:Cx} {pins:List (Addr×Obj)} {σ:St} {H:Hp} {s:Shared} {a:Addr} {y d:V} {u r:Value} {o:Option V} {A:Around} {E:Value→Shared→Prop}
end
section
variable {X:Cx} {o e f:Expr} {apos cpos:Pos} {td ty tx:TE}
end
section
variable {X:Cx} {pins:List (Addr×Obj)} {σ:St} {H:Hp} {s:Shared} {a:Addr} {kvs:List (Key×V)} {A:Around} {E:Value→Shared→Prop}
end
section
variable {X:Cx} {pins:List (Addr×Obj)} {σ:St} {H:Hp} {s:Shared} {a:Addr} {y:V} {u:Value} {A:Around} {E:Value→Shared→Prop}
end
end L2
namespace L2
open PySem PySem.Spec PyProof.Rows
theorem vals_getD:∀ {ws:List V} {its:List Value} {i:Nat} {u:Value},Vals ws its→its[i]?=some u→∃ v,ws[i]?=some v∧RelV v u
  | _,_,_,_,.nil,h=>by cases h
  | _,_,0,_,.cons r _,h=>by cases h; exact ⟨_,rfl,r⟩
  | _,_,i + 1,_,.cons _ t,h=>vals_getD (i:=i) t (by simpa using h)
section
variable {X:Cx} {K:PySem.W.Frag}
end
end L2
namespace PD
open PySem L2
section
variable {K:PySem.W.Frag} {S S':Sx} {κ κ':Bool} {Γ Γ' Γ'':Ctx} {P:Post}
end
end PD
namespace PD
open PySem L2
section
variable {K:PySem.W.Frag} {S S':Sx} {κ κ':Bool} {Γ Γ' Γ'' Γ3:Ctx} {P:Post}
def EvC (K:PySem.W.Frag) (S:Sx) (t:TE) (Γ:Ctx) (d:PyData):Prop:=∀ (H0 F0 H F:Hp) (σ:St),DEnv K S H0 F0 H F σ Γ→∀ Q:VK,(∀ v H' F',Gr H F H' F'→Rp K true .fresh H F' v d→Q v H')→t σ H Q
theorem ec_call {pre:List PyData→PyData→Prop} {E:XK} {t:TA} {ds:List PyData} {d:PyData} (h:EvA K S false t Γ ds) (hp:pre ds d):EvC K S (tCall (spD K true pre) [] E t) Γ d:=fun H0 F0 H F σ e Q q =>
  h H0 F0 H F σ e _ fun vs H1 F1 g1 p1=>⟨F1,ds,d,g1.le,by rw [List.append_nil]; exact rpAll_dp p1,hp,fun v H2 F2 g2 p2=>q v H2 F2 (g1.trans g2) (rp_map (κ:=true) (κ':=true) (fun a xs z=>⟨z.1,fun c=>z.2 (by
    show H1 a≠none
    cases w:H a with
    | none=>exact absurd w c
    | some o=>rw [g1.h _ _ w]; simp)⟩) (fun _ _ z=>z) p2)⟩
theorem ec_thaw (i:Nat) {κ0:Bool} {t:TE} {ds0:List PyData} {d:PyData} {Γf:Ctx} (h:GetC Γ i (.ow κ0 ds0)) (es:SetC Γ i (some (.fz κ0 (.list ds0))) Γf) (k:EvC K S t Γf d):EvC K S t Γ d:=fun H0 F0 H F σ e Q q=>by
  obtain ⟨v0,q1,a,vs,rfl,w,q5⟩:=e.has i _ h.eq
  obtain ⟨s,e'⟩:=e.froz (y:=.fz κ0 (.list ds0)) h.eq q1 rfl w (.lst (LN.new w.s) (rpAll_mono (Same.new w.f _) q5)) fun _ z=>z.elim
  rw [es.eq] at e'
  have g:∀ H' F',Gr H (upd F a (.lst vs)) H' F'→Gr H F H' (drop (fun c=>c=a) F'):=fun H' F' g=>by
    refine ⟨g.h,fun c o z=>drop_some.mpr ⟨g.f _ _ (s _ _ z),?_⟩,fun c o z=>g.le _ _ (drop_some.mp z).1,fun c o z n=>?_⟩
    · rintro ⟨rfl,_⟩
      rw [w.f] at z; cases z
    · by_cases hc:c=a
      · subst hc
        exact drop_none (g.f _ _ upd_same) rfl
      · cases q':drop (fun c=>c=a) F' c with
        | none=>rfl
        | some o' =>
          have:=(drop_some.mp q').1
          rw [g.ap _ _ z (by rw [upd_ne hc]; exact n)] at this; cases this
  refine k H0 F0 H _ σ e' _ fun v H2 F2 g2 p2=>q v H2 _ (g H2 F2 g2) (rp_map (κ:=true) (κ':=true) (fun x xs z=>⟨drop_some.mpr ⟨z.1,fun c=>z.2 ?_⟩,z.2⟩) (fun x xs z=>?_) p2)
  · show H x≠none
    rw [c.1,w.h]
    simp
  · rcases z with (z | ⟨o,z⟩) | z
    · exact .inl (.inl (drop_some.mpr ⟨z,fun c=>nomatch c.2⟩))
    · exact .inl (.inr ⟨o,drop_some.mpr ⟨z,fun c=>nomatch c.2⟩⟩)
    · exact .inr z
theorem EvC.toE {t:TE} {d:PyData} (h:EvC K S t Γ d):EvE K S κ t Γ d:=fun H0 F0 H F σ e Q q=>h H0 F0 H F σ e Q fun v H' F' g p=>q v H' F' g (rp_weak (κ:=true) (fun _=>rfl) (rp_map (κ:=true) (κ':=true) (S':=S) (H0':=H0) (fun a xs z=>⟨z.1,fun c=>by
    obtain ⟨u,hu⟩:=e.sd a c
    exact z.2 (by show H a≠none; rw [hu]; simp)⟩) (fun _ _ z=>z) p))
end
end PD
namespace L2
open PySem PySem.Spec PyProof.Rows
def mxL (ns:List Int):Int:=ns.getD (argBest (fun i j=>decide (ns.getD i 0 > ns.getD j 0)) (ns.length - 1)) 0
def mnL (ns:List Int):Int:=ns.getD (argBest (fun i j=>decide (ns.getD i 0 < ns.getD j 0)) (ns.length - 1)) 0
theorem argBest_leN (bt:Nat→Nat→Bool):∀ k,argBest bt k≤k
  | 0=>Nat.le_refl _
  | k + 1=>by
    have:=argBest_leN bt k
    unfold argBest
    split <;> omega
theorem mnL_best (f:Nat→Int):∀ k i,i≤k→f (argBest (fun i j=>decide (f i < f j)) k)≤f i
  | 0,i,h=>by rw [show i=0 by omega]; exact Int.le_refl _
  | k + 1,i,h=>by
    have ih:=mnL_best f k
    unfold argBest
    by_cases c:f (k + 1) < f (argBest (fun i j=>decide (f i < f j)) k)
    · rw [if_pos (decide_eq_true c)]
      by_cases e:i=k + 1
      · rw [e]; exact Int.le_refl _
      · have:=ih i (by omega); omega
    · rw [if_neg (by simpa using c)]
      by_cases e:i=k + 1
      · rw [e]; omega
      · exact ih i (by omega)
theorem getD_memI {ns:List Int} {i:Nat} (h:i < ns.length):ns.getD i 0∈ns:=by
  rw [List.getD_eq_getElem?_getD,List.getElem?_eq_getElem h]
  exact List.getElem_mem _
theorem mxL_mem {ns:List Int} (h:ns≠[]):mxL ns∈ns:=by
  have l:=List.length_pos_iff.mpr h
  have:=argBest_leN (fun i j=>decide (ns.getD i 0 > ns.getD j 0)) (ns.length - 1)
  exact getD_memI (by omega)
theorem mnL_mem {ns:List Int} (h:ns≠[]):mnL ns∈ns:=by
  have l:=List.length_pos_iff.mpr h
  have:=argBest_leN (fun i j=>decide (ns.getD i 0 < ns.getD j 0)) (ns.length - 1)
  exact getD_memI (by omega)
theorem mnL_le {ns:List Int} {x:Int} (h:x∈ns):mnL ns≤x:=by
  obtain ⟨i,hi,rfl⟩:=List.mem_iff_getElem.mp h
  have:=mnL_best (fun i=>ns.getD i 0) (ns.length - 1) i (by omega)
  rw [List.getD_eq_getElem?_getD (l:=ns) (i:=i),List.getElem?_eq_getElem hi] at this
  exact this
section
variable {X:Cx} {K:PySem.W.Frag}
def rBestI (K:PySem.W.Frag) (f:List Int→Int):List V→Hp→VK→Prop:=fun xs H Q=>∃ p,∃ ns:List Int,xs=[.ref p]∧SqL K H p (ns.map V.int)∧ns≠[]∧Q (.int (f ns)) H
theorem call_maxI (hc:X.calm=true):CallR X (.builtin "max") (rBestI X.K mxL):=by
  intro pins s σ H xs us Q I r h
  obtain ⟨p,ns,rfl,hq,h0,q⟩:=h
  obtain ⟨u,rfl,rx⟩:=vals1 r
  cases rx
  obtain ⟨its,r',pl,hz⟩:=I.list hq
  have hl:=pl.isList
  have hi:=r'.length
  rw [List.length_map] at hi
  refine call_max_walk (wpAny_pyIter_list hl ?_)
  have hne:p≠s.heap.objs.size:=by
    obtain ⟨o,ho,_⟩:=hl
    exact Nat.ne_of_lt (Heap.lt_size ho)
  have val:∀ (i:Nat) (v:Value),its.toArray[i]?=some v→∃ t,v=.int (ns.getD i 0) t:=fun i v hv=>by
    obtain ⟨y,hy,ry⟩:=vals_getD (u:=v) r' (by simpa using hv)
    rw [List.getElem?_map] at hy
    cases e:ns[i]? with
    | none=>rw [e] at hy; cases hy
    | some n =>
      rw [e] at hy
      cases hy
      obtain ⟨t,rfl⟩:=ry
      exact ⟨t,by rw [List.getD_eq_getElem?_getD,e]; rfl⟩
  have l0:=List.length_pos_iff.mpr h0
  refine ⟨s.heap.objs.size,_,_,_,_,_,_,rfl,Walks.list (A:=X.A.in1) (I.ok.hd hc) _ p hne its.toArray,⟨⟨_,Heap.get?_push_size _ rfl,rfl,rfl⟩,hl.push _⟩,?_,?_,CmpOf.ints_gt (fun i=>ns.getD i 0) val,fun v h' tk hP hk=>?_⟩
  · intro b hb
    simp at hb
    rw [Heap.size_push]
    rcases hb with rfl | rfl
    · exact Nat.lt_succ_self _
    · obtain ⟨o,ho,_⟩:=hl
      exact Nat.lt_succ_of_lt (Heap.lt_size ho)
  · simp; omega
  · obtain ⟨t,rfl⟩:=val _ v hP
    refine ⟨.int _,H,I.kept fun b o eb=>hk b o (by simpa using Nat.ne_of_lt (Heap.lt_size eb)) (Heap.get?_push_of_some _ eb),⟨t,rfl⟩,?_⟩
    have e:its.toArray.size - 1=ns.length - 1:=by simp; omega
    rw [e]
    exact q
theorem call_minI (hc:X.calm=true):CallR X (.builtin "min") (rBestI X.K mnL):=by
  intro pins s σ H xs us Q I r h
  obtain ⟨p,ns,rfl,hq,h0,q⟩:=h
  obtain ⟨u,rfl,rx⟩:=vals1 r
  cases rx
  obtain ⟨its,r',pl,hz⟩:=I.list hq
  have hl:=pl.isList
  have hi:=r'.length
  rw [List.length_map] at hi
  refine call_min_walk (wpAny_pyIter_list hl ?_)
  have hne:p≠s.heap.objs.size:=by
    obtain ⟨o,ho,_⟩:=hl
    exact Nat.ne_of_lt (Heap.lt_size ho)
  have val:∀ (i:Nat) (v:Value),its.toArray[i]?=some v→∃ t,v=.int (ns.getD i 0) t:=fun i v hv=>by
    obtain ⟨y,hy,ry⟩:=vals_getD (u:=v) r' (by simpa using hv)
    rw [List.getElem?_map] at hy
    cases e:ns[i]? with
    | none=>rw [e] at hy; cases hy
    | some n =>
      rw [e] at hy
      cases hy
      obtain ⟨t,rfl⟩:=ry
      exact ⟨t,by rw [List.getD_eq_getElem?_getD,e]; rfl⟩
  have l0:=List.length_pos_iff.mpr h0
  refine ⟨s.heap.objs.size,_,_,_,_,_,_,rfl,Walks.list (A:=X.A.in1) (I.ok.hd hc) _ p hne its.toArray,⟨⟨_,Heap.get?_push_size _ rfl,rfl,rfl⟩,hl.push _⟩,?_,?_,CmpOf.ints_lt (fun i=>ns.getD i 0) val,fun v h' tk hP hk=>?_⟩
  · intro b hb
    simp at hb
    rw [Heap.size_push]
    rcases hb with rfl | rfl
    · exact Nat.lt_succ_self _
    · obtain ⟨o,ho,_⟩:=hl
      exact Nat.lt_succ_of_lt (Heap.lt_size ho)
  · simp; omega
  · obtain ⟨t,rfl⟩:=val _ v hP
    refine ⟨.int _,H,I.kept fun b o eb=>hk b o (by simpa using Nat.ne_of_lt (Heap.lt_size eb)) (Heap.get?_push_of_some _ eb),⟨t,rfl⟩,?_⟩
    have e:its.toArray.size - 1=ns.length - 1:=by simp; omega
    rw [e]
    exact q
theorem call_maxIK (hK:X.K=K) (hc:X.calm=true):CallR X (.builtin "max") (rBestI K mxL):=by subst hK; exact call_maxI hc
theorem call_minIK (hK:X.K=K) (hc:X.calm=true):CallR X (.builtin "min") (rBestI K mnL):=by subst hK; exact call_minI hc
end
end L2
namespace PD
open PySem L2
section
variable {K:PySem.W.Frag} {S S':Sx} {κ κ':Bool} {Γ Γ' Γ'':Ctx} {P:Post}
theorem ev_bestI {f:List Int→Int} {ta:TE} {ns:List Int} (h:EvL K S false ta Γ (ns.map .int)) (h0:ns≠[]):EvE K S κ (tCB (rBestI K f) (tCons ta tNil)) Γ (.int (f ns)):=fun H0 F0 H F σ e Q q =>
  h H0 F0 H F σ e _ fun a vs H1 F1 g1 p1 k1=>by
    cases dpAll_of_ints (rpAll_dp k1)
    exact ⟨a,ns,rfl,p1,h0,q _ H1 F1 g1 (.int _)⟩
end
end PD
namespace PD
open PySem L2
section
variable {K:PySem.W.Frag} {S S':Sx} {κ κ':Bool} {Γ Γ' Γ'':Ctx} {P:Post}
theorem evo_thaw (i:Nat) {κ0:Bool} {t:TE} {xs ds0:List PyData} {Γf:Ctx} (h:GetC Γ i (.ow κ0 ds0)) (es:SetC Γ i (some (.fz κ0 (.list ds0))) Γf) (k:EvO K S κ t Γf xs) (him:∀ d∈xs,imm d=true):EvO K S κ t Γ xs:=fun H0 F0 H F σ e Q q=>by
  obtain ⟨a,Ff,e',g⟩:=thaw e h es
  refine k H0 F0 H Ff σ e' Q fun b vs H' F' g' n p f q'=>q b vs H' _ (g H' F' g') n p ?_ (imm_drop him (rpAll_dp q'))
  cases z:drop (fun c=>c=a) F' b with
  | none=>rfl
  | some o=>rw [(drop_some.mp z).1] at f; cases f
end
end PD
namespace L2
open PySem PySem.Spec PyProof.Rows
section
variable {prog:Program} {w:World} {A:Around} {R:Result→Shared→Prop} {I:Addr} {fp wr:List Addr} {G:Array GenState→Array GenState→Prop} {n:Nat} {P:Nat→Value→Prop} {St:Nat→Shared→Prop}
end
section
variable {prog:Program} {w:World} {A:Around} {E:Value→Shared→Prop} {s:Shared}
end
section
variable {X:Cx} {K:PySem.W.Frag}
theorem ps_tryN {y n:Str} {np hpos tpos:Pos} {body suite:List Stmt} {b0:Stmt} {tb:TS} (hb:PSs X body tb) (hx0:∀ e s,¬ X.xe e s):PS X (.Try body [.ExceptHandler (some (.Name y np)) (some n) (b0 :: suite) hpos] [] [] tpos) tb:=by
  intro pins s σ H D' I h
  refine wpAny_Try_except ?_
  refine wpAny_mono (hb pins s σ H D' I h) (fun f s1 q=>?_) fun e' s' z=>absurd z (hx0 e' s')
  cases f with
  | next=>exact wpAny_execs_nil q
  | _=>exact q
end
end L2
namespace PD
open PySem L2
section
variable {K:PySem.W.Frag} {S S':Sx} {κ κ':Bool} {Γ Γ' Γ'':Ctx} {P:Post}
end
end PD
namespace L2
open PySem
theorem dict_mapF (o:Obj) (f:Array Value→Array Value):(o.mapFields f).dict=o.dict:=by
  obtain ⟨_,_,z,_⟩:=o
  cases z <;> rfl
def TrD (h B:Heap) (e:Addr) (cls fl:Value) (dx:Option Addr):Prop :=
  ∃ oe vs T oT ts,h.get? e=some oe∧(oe.cls=cls∧oe.dict=dx)∧oe.data=.fields vs∧vs[1]?=some (.ref T)∧B.get? T=none∧T≠e∧h.get? T=some oT∧oT.data=.fields ts∧ts[3]?=some fl
structure FlyD (B:Heap) (l:List Env) (e:Addr) (cls fl:Value) (dx:Option Addr) (h:Heap):Prop where
  st:B.StaysIn h
  no:B.get? e=none
  fr:h.FunFrames B l
  tr:TrD h B e cls fl dx
theorem FlyD.there {B h:Heap} {l:List Env} {e:Addr} {cls fl:Value} {dx:Option Addr} (x:FlyD B l e cls fl dx h):∃ ob vs,h.get? e=some ob∧ob.cls=cls∧ob.dict=dx∧ob.data=.fields vs :=
  let ⟨oe,vs,_,_,_,he,hc,hd,_⟩:=x.tr; ⟨oe,vs,he,hc.1,hc.2,hd⟩
theorem FlyD.less {B h:Heap} {n:Env} {l:List Env} {e:Addr} {cls fl:Value} {dx:Option Addr} (x:FlyD B (n :: l) e cls fl dx h):FlyD B l e cls fl dx h :=
  let ⟨a,b,⟨_,_,c⟩,d⟩:=x; ⟨a,b,c,d⟩
section
variable {M:Model} {A:Around} {E:Value→Shared→Prop} {s:Shared} {B:Heap} {env:Env} {out:List Env} {L e:Addr} {cls fl:Value} {dx:Option Addr} {Q:Unit→Shared→Prop}
theorem entryD {oe:Obj} {vs:Array Value} {hd:Value} {more:Bool} (fr:A.frames=some (env :: out)) (ff:s.heap.FunFrames B (env :: out)) (ef:env.frame=some L) (eo:s.heap.get? e=some oe) (st:B.StaysIn s.heap) (no:B.get? e=none)
    (dt:oe.data=.fields vs) (sz:1 < vs.size) (cl:oe.cls=cls∧oe.dict=dx) (k:∀ h',FlyD B (env :: out) e cls (rawInt L) dx h'→s.heap.UpToSlots h'→Q () { s with heap:=h' }) :
    wpAny M A (do let a ← frameOf env; let p ← entryPlaceOf L more; let b ← EntryCells.newEntry hd a .none (rawInt L) .none p; setField (.ref e) 1 b) Q E s:=by
  have ne:e∉(env :: out).filterMap (·.frame):=fun z=>by
    obtain ⟨_,o,q1,q2⟩:=ff.mem z
    rw [eo] at q1
    cases q1
    exact q2 vs dt
  refine wpAny_bind (wpAny_frameOf_fun fr ff ef fun h1 s1=>?_)
  refine wpAny_bind (wpAny_entryPlaceOf fun p hp=>?_)
  unfold EntryCells.newEntry newFields
  refine wpAny_bind (wpAny_newObj_type ?_ (hp.sizeOk5 _ _ _ _ _))
  generalize hT:({ cls:=.type "traceback", dict:=none,data:=.fields ([hd,.ref L,.none,rawInt L,.none] ++ (if p.isEmpty then List.replicate 6 Value.none else p)).toArray }:Obj)=oT
  have e1:h1.get? e=some oe:=(s1.2.1 e ne).trans eo
  have b1:B.StaysIn h1:=fun b o q=>(s1.2.1 b fun z=>by rw [(ff.mem z).1] at q; cases q).trans (st b o q)
  have e2:=Heap.get?_push_of_some oT e1
  refine wpAny_setField e2 dt sz (k _ ?_ ?_)
  all_goals
    have nT:h1.objs.size≠e:=Nat.ne_of_gt (Heap.lt_size e1)
    have d3:=Obj.data_mapFields dt (·.setIfInBounds 1 (Value.ref h1.objs.size))
    have e3:=Heap.get?_update_self (Obj.mapFields (·.setIfInBounds 1 (Value.ref h1.objs.size))) e2 (Obj.isFreed_of_fields d3)
    have dT:oT.data=.fields ([hd,.ref L,.none,rawInt L,.none] ++ (if p.isEmpty then List.replicate 6 Value.none else p)).toArray:=by rw [← hT]
    have t3:=(Heap.get?_update_other (h1.push oT) (Obj.mapFields (·.setIfInBounds 1 (Value.ref h1.objs.size))) (Ne.symm nT)).trans (Heap.get?_push_size h1 (Obj.isFreed_of_fields dT))
    have kp:∀ b o,b≠e→h1.get? b=some o→((h1.push oT).update e (Obj.mapFields (·.setIfInBounds 1 (Value.ref h1.objs.size)))).get? b=some o:=fun b o q z=>by
      rw [Heap.get?_update_other _ _ (Ne.symm q)]
      exact Heap.get?_push_of_some _ z
    have nr:∀ b o,s.heap.get? b=some o→(∀ vs,o.data≠.fields vs)→b≠e:=fun b o q z w=>by
      rw [w,eo] at q
      cases q
      exact z vs dt
  · refine ⟨fun b o q=>kp b o (fun z=>by rw [z,no] at q; cases q) (b1 b o q),no,ff.of_keeps fun b o q z=>?_,?_⟩
    · obtain ⟨sl,q2⟩:=s1.2.2 b o q
      exact ⟨_,kp b _ (nr b o q z) q2,rfl⟩
    · exact ⟨_,_,h1.objs.size,_,_,e3,⟨(Obj.cls_mapFields _ _).trans cl.1,(dict_mapF _ _).trans cl.2⟩,d3,by simp [sz],b1.fresh,nT,t3,dT,by first | (simp; done) | (rcases hp with rfl | ⟨_,_,_,_,_,_,_,rfl⟩ <;> simp)⟩
  · intro b o q z
    obtain ⟨sl,q2⟩:=s1.2.2 b o q
    exact ⟨sl,kp b _ (nr b o q z) q2⟩
theorem noteD0 {oe:Obj} {vs:Array Value} (fr:A.frames=some (env :: out)) (ff:s.heap.FunFrames B (env :: out)) (ef:env.frame=some L) (eo:s.heap.get? e=some oe) (st:B.StaysIn s.heap) (no:B.get? e=none)
    (dt:oe.data=.fields vs) (v1:vs[1]?=some .none) (cl:oe.cls=cls∧oe.dict=dx) (k:∀ h',FlyD B (env :: out) e cls (rawInt L) dx h'→s.heap.UpToSlots h'→Q () { s with heap:=h' }):wpAny M A (noteFrame (.ref e) env) Q E s:=by
  unfold noteFrame
  simp only [ef]
  refine wpAny_bind (wpAny_field eo dt v1 ?_)
  rw [if_neg (by decide)]
  exact entryD fr ff ef eo st no dt (Array.getElem?_eq_some_iff.mp v1).1 cl k
theorem recD {oT:Obj} {ts:Array Value} {u:Value} (x:B.StaysIn s.heap∧s.heap.FunFrames B out) (T:Addr) (hT:s.heap.get? T=some oT) (dT:oT.data=.fields ts) (nT:B.get? T=none) :
    let h':=s.heap.update T (Obj.mapFields (·.setIfInBounds 3 u)); (B.StaysIn h'∧h'.FunFrames B out)∧s.heap.UpToSlots h'∧∀ b,b≠T→h'.get? b=s.heap.get? b:=by
  have ot:∀ b,b≠T→(s.heap.update T (Obj.mapFields (·.setIfInBounds 3 u))).get? b=s.heap.get? b:=fun b z=>Heap.get?_update_other _ _ (Ne.symm z)
  have nr:∀ b o,s.heap.get? b=some o→(∀ vs,o.data≠.fields vs)→b≠T:=fun b o q z w=>by
    rw [w,hT] at q
    cases q
    exact z ts dT
  exact ⟨⟨fun b o q=>(ot b fun z=>by rw [z,nT] at q; cases q).trans (x.1 b o q),x.2.of_keeps fun b o q z=>⟨o,(ot b (nr b o q z)).trans q,rfl⟩⟩,fun b o q z=>⟨o.slots,(ot b (nr b o q z)).trans q⟩,ot⟩
theorem noteD1 (fr:A.frames=some (env :: out)) (ef:env.frame=some L) (x:FlyD B (env :: out) e cls .none dx s.heap) (k:∀ h',FlyD B (env :: out) e cls (rawInt L) dx h'→s.heap.UpToSlots h'→Q () { s with heap:=h' }) :
    wpAny M A (noteFrame (.ref e) env) Q E s:=by
  obtain ⟨st,no,ff,oe,vs,T,oT,ts,eo,cl,dt,v1,nT,neT,hT,dT,t3⟩:=x
  unfold noteFrame
  simp only [ef]
  refine wpAny_bind (wpAny_field eo dt v1 ?_)
  rw [if_pos (show (Value.ref T != Value.none)=true from by simp)]
  refine wpAny_bind (wpAny_field hT dT t3 ?_)
  rw [if_neg (show ¬ ((Value.none == rawInt L)=true) from by simp [rawInt])]
  refine wpAny_bind (wpAny_setField hT dT (Array.getElem?_eq_some_iff.mp t3).1 ?_)
  obtain ⟨⟨r1,r2⟩,r3,r4⟩:=recD (u:=.none) ⟨st,ff⟩ T hT dT nT
  exact entryD (s:={ s with heap:=_ }) fr r2 ef ((r4 e (Ne.symm neT)).trans eo) r1 no dt (Array.getElem?_eq_some_iff.mp v1).1 cl fun h' f u=>k h' f (r3.trans u)
theorem flightD (x:FlyD B out e cls fl dx s.heap) (k:∀ h',FlyD B out e cls .none dx h'→s.heap.UpToSlots h'→Q () { s with heap:=h' }):wpAny M A (setFlight (.ref e) none) Q E s:=by
  obtain ⟨st,no,ff,oe,vs,T,oT,ts,eo,cl,dt,v1,nT,neT,hT,dT,t3⟩:=x
  have s3:3 < ts.size:=(Array.getElem?_eq_some_iff.mp t3).1
  unfold setFlight
  refine wpAny_bind (wpAny_field eo dt v1 ?_)
  rw [if_pos (show (Value.ref T != Value.none)=true from by simp)]
  obtain ⟨⟨r1,r2⟩,r3,r4⟩:=recD (u:=(none:Option Addr).elim Value.none fun f=>rawInt f) ⟨st,ff⟩ T hT dT nT
  refine wpAny_setField hT dT s3 (k _ ⟨r1,no,r2,?_⟩ r3)
  exact ⟨oe,vs,T,_,_,(r4 e (Ne.symm neT)).trans eo,cl,dt,v1,nT,neT,Heap.get?_update_self _ hT (Obj.isFreed_of_fields (Obj.data_mapFields dT _)),Obj.data_mapFields dT _,by simp [s3]⟩
theorem leaveD0 {oe:Obj} {vs:Array Value} (fr:A.frames=some (env :: out)) (ff:s.heap.FunFrames B (env :: out)) (ef:env.frame=some L) (eo:s.heap.get? e=some oe) (st:B.StaysIn s.heap) (no:B.get? e=none)
    (dt:oe.data=.fields vs) (v1:vs[1]?=some .none) (cl:oe.cls=cls∧oe.dict=dx) (k:∀ h',FlyD B out e cls .none dx h'→s.heap.UpToSlots h'→Q () { s with heap:=h' }):wpAny M A (leaving env (.ref e)) Q E s:=by
  unfold leaving
  exact wpAny_bind (noteD0 fr ff ef eo st no dt v1 cl fun h1 f1 u1=>flightD (s:={ s with heap:=h1 }) f1 fun h2 f2 u2=>k h2 f2.less (u1.trans u2))
end
end L2
namespace L2
open PySem PySem.Spec PyProof.Rows PySem.W PySem.Builtin PySem.Builtin.ObjectAttr
def overV:List Value→Bool
  | .ref _ :: r=>overV r
  | l=>l == bmV
theorem refuse_V (self:Value) (l:List Value) (e:overV l=true):refuseLoop self "__setattr__" l=pure ():=by
  induction l with
  | nil=>exact absurd e (by decide)
  | cons v r ih =>
    cases v with
    | ref c=>rw [refuseLoop_ref]; exact ih e
    | _=>rw [beq_iff_eq.mp e]; exact PySem.F.store_ValueError.passes self
theorem overV_has (l:List Value) (e:overV l=true):l.contains (.type "object")=true∧l.isEmpty=false:=by
  induction l with
  | nil=>exact absurd e (by decide)
  | cons v r ih =>
    cases v with
    | ref c=>exact ⟨by rw [List.contains_cons,(ih e).1,Bool.or_true],rfl⟩
    | _=>exact ⟨by rw [beq_iff_eq.mp e]; decide +kernel,rfl⟩
structure ESet (K:Frag) (C:Addr) (f:Str):Prop where
  sa:findIn K (.ref C) "__setattr__" = some (some (.builtin "object.__setattr__"))
  ov:(clsIn K C).any (fun cd=>overV cd.mro)=true
  no:findIn K (.ref C) f=some none
  hd:hasDictIn K C=true
section
variable {prog:Program} {w:World} {A:Around} {E:Value→Shared→Prop} {s:Shared} {K:Frag} {x C:Addr} {ox:Obj} {f:Str} {v:Value}
theorem exc_set {Q:Unit→Shared→Prop} (X:K.In s.heap) (J:InstAt s.heap x ox C none) (F:ESet K C f) (hdn:ox.dict=none)
    (h:∀ h' tk,h'.get? x=some { ox with dict:=some s.heap.objs.size }→h'.Ns1 s.heap.objs.size (fun y=>if y=f then some v else none)→(∀ b o,b≠x→s.heap.get? b=some o→h'.get? b=some o)→Q () { s with heap:=h',toks:=tk }) :
    wpAny (model prog w) A (setAttr (.ref x) f v) Q E s:=by
  have SF:=PySem.F.store_object
  obtain ⟨cd,hc,ho⟩:=any_some F.ov
  obtain ⟨o1,o2⟩:=overV_has _ ho
  refine set_plain X J F.sa ?_
  obtain ⟨hh,g,d,t,os⟩:=s
  have sub:Looks (model prog w) hh (isInstance (.ref x) (.type "object")) true:=J.type.andThen (looks_mroIn X (by unfold mroIn; rw [hc,Option.bind_some,if_neg (by rw [o2]; decide),o1]))
  refine codeAny_call_builtin SF.slot.plain SF.entry (@check_slot (model prog w) _ _ ⟨hh,g,d,t + 1,os⟩ "object.__setattr__" "object" "__setattr__" (.ref x) [.str f t,v] [] _ SF.kind SF.split sub (SF.args (.ref x) (.str f t) v) ?_)
  have hm:Looks (model prog w) hh (mroOf (.ref C)) cd.mro:=(looks_clsIn X hc).andThen .now
  rw [osa_eq,refuse_eq]
  refine wpAny_bind (wpAny_bind (J.type.at (wpAny_bind (hm.at ?_))))
  rw [refuse_V _ _ ho]
  have L3:Looks (model prog w) hh (storeTaker? none) none:=.now
  refine wpAny_pure (wpAny_bind (J.type.at (wpAny_bind ((looks_findIn X F.no).at (wpAny_bind (L3.at ?_))))))
  obtain ⟨cd',hc',hd'⟩:=any_some F.hd
  obtain ⟨hx,hcl,hnc,_⟩:=J
  obtain ⟨oc,od,oda,osl⟩:=ox
  dsimp only at hcl hdn
  subst hcl hdn
  refine wpAny_bind (wpAny_pure (wpAny_bind (wpAny_bind (wpAny_loadPart hx (wpAny_bind (Looks.at (looks_clsIn X hc') ?_))))))
  rw [hd']
  have hx1:(hh.push { cls:=.type "dict", data:=.dict #[] }).get? x=some ⟨.ref C,none,oda,osl⟩:=Heap.get?_push_of_some _ hx
  have hxs:x≠hh.objs.size:=Nat.ne_of_lt (Heap.lt_size hx)
  rw [if_neg (by decide)]
  dsimp only
  rw [if_neg (by simp [typeHasDict])]
  have go:∀ (k:Sem (Option Addr)),k=(do
      let d ← alloc { cls:=Value.type "dict", data:=Data.dict #[] }
      update x fun o=>{ cls:=o.cls,dict:=some d,data:=o.data,slots:=o.slots }
      dictMade (.ref C) x d)→wpAny (model prog w) A.in1 k (fun a s'=>a=some hh.objs.size∧s'=(⟨(hh.push { cls:=.type "dict", data:=.dict #[] }).update x fun o=>{ cls:=o.cls,dict:=some hh.objs.size,data:=o.data,slots:=o.slots },g,d,t + 1,os⟩:Shared)) (fun _ _=>False) ⟨hh,g,d,t + 1,os⟩:=by
    rintro _ rfl
    exact wpAny_bind (wpAny_alloc' (wpAny_bind (wpAny_update' hx1 (wpAny_pure ⟨rfl,rfl⟩))))
  have fr:hh.objs.size≠x:=Ne.symm hxs
  have hgd:((hh.push { cls:=.type "dict", data:=.dict #[] }).update x fun o=>{ cls:=o.cls,dict:=some hh.objs.size,data:=o.data,slots:=o.slots }).get? hh.objs.size=some { cls:=.type "dict", data:=.dict #[] } :=
    (Heap.get?_update_ne _ _ _ _ fr).trans (Heap.get?_push_at rfl rfl)
  have hnd:((hh.push { cls:=.type "dict", data:=.dict #[] }).update x fun o=>{ cls:=o.cls,dict:=some hh.objs.size,data:=o.data,slots:=o.slots }).Ns hh.objs.size (fun _=>none) :=
    ⟨_,#[],_,hgd,rfl,fun e he=>absurd he (by simp),fun _=>rfl⟩
  have fz:({ cls:=.ref C,dict:=some hh.objs.size,data:=oda,slots:=osl }:Obj).isFreed=false:=by
    have hfr:=(Heap.get?_some_iff.mp hx).2
    cases oda <;> first | rfl | exact hfr
  refine wpAny_mono (go _ ?_) (fun a s' ⟨ea,es⟩=>?_) fun _ _ z=>z.elim
  · cases oda <;> first | rfl | exact absurd hnc Bool.false_ne_true
  subst ea es
  show wpAny _ _ (storeInDict hh.objs.size (.str f t) f v) _ _ _
  unfold storeInDict newKeyGuard
  refine wpAny_bind (wpAny_pure (wpAny_bind (wpAny_nsSet1 (Heap.Ns1.of_empty hnd) fun h' n' s'=>?_)))
  obtain ⟨oD,esD,epD,hoD,hdD,hcD⟩:=n'.count (Within.cons f v Within.nil)
  refine wpAny_bind (wpAny_lookBehind hoD (by rw [hdD]; exact pastItsLine_dict (Nat.le_trans hcD (by rw [List.length_cons,List.length_nil,sizeLine_eq]; omega))) ?_)
  refine wpAny_pure (h h' _ ?_ n' fun b ob hb e=>?_)
  · exact (s'.2 x hxs).trans (Heap.get?_update_self _ hx1 fz)
  · exact (s'.2 b (Nat.ne_of_lt (Heap.lt_size e))).trans ((Heap.get?_update_ne _ _ _ _ hb).trans (Heap.get?_push_of_some _ e))
theorem exc_get {od:Obj} {expr:Bool} {Q:Value→Shared→Prop} (X:K.In s.heap) (J:InstAt s.heap x ox C (some od)) (e:EIs K C) (F:ESet K C f) (hl:lookIn f od=some (some v)) (hh:handedIn v=true) (h:Q v { s with toks:=s.toks + 1 }) :
    wpAny (model prog w) A (getAttr (.ref x) f expr) Q E s:=by
  have hf:findObj K C (some od) f=some (.value v):=findObj_own F.hd F.no rfl hl
  obtain ⟨H,g,d,t,os⟩:=s
  have L0:Looks (model prog w) H (typeOf (.ref x)) (.ref C):=J.type
  have L1:=looks_findIn (M:=model prog w) X e.g1
  have L2:=looks_findIn (M:=model prog w) X e.g2
  have L6:Looks (model prog w) H (isInstance (.ref x) (.type "BaseException")) true:=L0.andThen (looks_subIn X e.g7)
  have L7:=looks_find (M:=model prog w) X J hf
  unfold getAttr getAttrBy
  refine wpAny_bind (wpAny_mkText (wpAny_holding (wpAny_bind (L0.at (wpAny_bind (L1.at ?_))))))
  dsimp only
  rw [if_neg (by
    have z:(Value.builtin "BaseException.__getattribute__" == Value.builtin "object.__getattribute__")=false:=by decide +kernel
    rw [z,Bool.and_false]
    decide)]
  unfold getAttrByItsOwn hookBefore
  rw [if_pos (show onTheHeap (Value.ref C)=true from rfl)]
  refine wpAny_bind (L2.at (wpAny_bind (wpAny_attempt (wpAny_holding ?_))))
  unfold callGetattribute boundAndCalled
  rw [show (expr && onTheHeap (Value.builtin "BaseException.__getattribute__"))=false from Bool.and_false _,if_neg (by decide)]
  refine wpAny_bind (wpAny_of_eq (PySem.F.attr_ValueError.ga.bind (.ref x)) ?_)
  refine wpAny_call (codeAny_call_builtin PySem.F.attr_ValueError.ga.plain PySem.F.entry_bexc_ga (bexc_check L6 ?_))
  unfold Builtin.«object.__getattribute__»
  refine wpAny_bind (wpAny_pure (wpAny_bind (wpAny_pure (wpAny_bind (L0.at (wpAny_bind (L7.at ?_)))))))
  refine wpAny_pure ?_
  exact handed_on hh h
end
end L2
namespace L2
open PySem PySem.Spec PyProof.Rows PySem.W
section
variable {prog:Program} {w:World} {A:Around} {E:Value→Shared→Prop} {h:Heap} {g:Array GenState} {d:Drawn} {t:Nat} {os:OsState}
variable {nm q:Str} {C N:Addr} {bs bm bmB:List Value} {hdct:Bool} {sn:List Str} {sub:List Value} {ab:Bool} {col:Option Bool} {dd:Option Addr} {k0 k1 k2 k3 k5:Option Value} {B nid iid:String}
theorem tc_init (F:ExcBaseFacts B nid iid bmB) (T:OwnTail h bmB bm) {mN:Str→Option Value} {xs:List Value} {fI:Addr} {oI:Obj} {Q:Fin→Shared→Prop}
    (hC:h.get? C=some (excClassObj nm q C N bs bm hdct sn sub ab col dd k0 k1 k2 k3 k5 nid)) (hn:h.Ns N mN) (hi:mN "__init__" = some (.ref fI)) (fo:h.get? fI=some oI) (fc:oI.cls=.type "function") (hl:xs.length≤sizeLine)
    (hq:∀ h' e,Heap.MadeExcOf h h' e (.ref C) xs→wpAny (model prog w) A (call (.ref fI) (.ref e :: xs)) (fun r s'=>r=.none∧Q (.done (.ret (.ref e))) s') E ⟨h',g,d,t,os⟩) :
    wpAny (model prog w) A (Builtin.«type.__call__» ⟨.ref C :: xs,[]⟩) Q E ⟨h,g,d,t,os⟩:=by
  repeat (first | with_reducible refine wpAny_loadPart_at hC ?_ | with_reducible refine wpAny_madeBy_exc hC ?_ | wp_step)
  refine codeAny_call_builtin_code (Code.quiet_builtin _ F.quiet) (wpAny_check_new_subT F T hC ?_)
  refine codeAny_exc_new_subT F T hC ?_ hl
  show wpAny _ _ _ _ _ _
  generalize o1:({ cls:=.type "tuple", data:=.seq xs.toArray }:Obj)=tO
  generalize o2:({ cls:=.ref C,data:=.fields #[.ref h.objs.size,.none,.none,.none,.bool false,.none] }:Obj)=eO
  have kp:∀ b o,h.get? b=some o→((h.push tO).push eO).get? b=some o:=fun b o z=>Heap.get?_push_of_some _ (Heap.get?_push_of_some _ z)
  have ge:((h.push tO).push eO).get? (h.objs.size + 1)=some eO:=by
    have z:=Heap.get?_push_size (h.push tO) (o:=eO) (by rw [← o2]; rfl)
    rwa [Heap.size_push] at z
  have gt:((h.push tO).push eO).get? h.objs.size=some tO:=Heap.get?_push_of_some _ (Heap.get?_push_size h (by rw [← o1]; rfl))
  have ec:eO.cls=.ref C:=by rw [← o2]
  have cc:(Value.ref C :: bm).contains (.ref C)=true:=by simp
  unfold isInstance
  repeat (first | (with_reducible refine wpAny_loadPart_at ge ?_; rw [ec]) | (with_reducible refine wpAny_isSubtype_exc (kp _ _ hC) ?_; rw [cc]) | wp_step)
  show wpAny _ _ (typeLookup (.ref C) _) _ _ _
  refine wpAny_typeLookup_tail (kp _ _ hC) (hn.keeps kp) (T.keeps kp) F.mroIs F.init.lookup ?_
  rw [hi]
  refine wpAny_holding (wpAny_bind ?_)
  unfold bindSpecial
  refine wpAny_bind (wpAny_typeOf (T := "function") ⟨_,kp _ _ fo,fc⟩ ?_)
  rw [if_pos (by decide)]
  have mk:Heap.MadeExcOf h ((h.push tO).push eO) (h.objs.size + 1) (.ref C) xs:=⟨kp,Heap.get?_none_of_le (Nat.le_succ _),h.objs.size,by rw [ge,← o2],Heap.get?_none_of_le (Nat.le_refl _),by rw [gt,← o1]⟩
  refine wpAny_pure (wpAny_bind (wpAny_mono (hq _ _ mk) (fun r s' ⟨r1,r2⟩=>?_) fun _ _ z=>z))
  subst r1
  wp_walk
  exact r2
theorem call_init (F:ExcBaseFacts B nid iid bmB) (T:OwnTail h bmB bm) {mN:Str→Option Value} {xs:List Value} {fI:Addr} {oI:Obj} {Q:Value→Shared→Prop}
    (hC:h.get? C=some (excClassObj nm q C N bs bm hdct sn sub ab col dd k0 k1 k2 k3 k5 nid)) (hn:h.Ns N mN) (hi:mN "__init__" = some (.ref fI)) (fo:h.get? fI=some oI) (fc:oI.cls=.type "function") (hl:xs.length≤sizeLine)
    (hq:∀ h' e,Heap.MadeExcOf h h' e (.ref C) xs→wpAny (model prog w) (A.under (.builtin "type.__call__" ⟨.ref C :: xs,[]⟩)) (call (.ref fI) (.ref e :: xs)) (fun r s'=>r=.none∧Q (.ref e) s') E ⟨h',g,d,t,os⟩) :
    wpAny (model prog w) A (call (.ref C) xs) Q E ⟨h,g,d,t,os⟩:=by
  have z1:=tc_lookup
  have z2:=tc_bind (.ref C)
  have z3:(⟨h,g,d,t,os⟩:Shared).TypeIs (.ref C) "type" := ⟨_,hC,rfl⟩
  refine wpAny_call (codeAny_of_tree ?_)
  show wpAny _ _ (callAny (.ref C) _) _ _ _
  repeat (any_goals (first | assumption | with_reducible refine wpAny_loadPart_at hC ?_ | wp_step))
  refine ⟨rfl,codeAny_call_builtin_at (Code.quiet_builtin _ (by decide +kernel)) entry_typeCall (wpAny_check_type_call_sub hC ?_)⟩
  exact tc_init F T hC hn hi fo fc hl fun h' e hm=>hq h' e hm
end
section
variable {M:Model} {A:Around} {E:Value→Shared→Prop} {env:Env} {K:Frag} {C:Addr}
theorem raise_D {s:Shared} {x:Sem Value} {Q:Flow→Shared→Prop} (hb:subIn K (.ref C) (.type "BaseException")=some true) (ht:typeIn K (.ref C)=some (.type "type")) (hh:A.handled=none)
    (h:wpAny M A x (fun v s₁=>∃ e o vs,v=.ref e∧K.In s₁.heap∧s₁.heap.get? e=some o∧o.cls=.ref C∧o.data=.fields vs∧vs[1]?=some .none∧E (.ref e) s₁) E s):wpAny M A (raiseStmt env (some x) none) Q E s:=by
  unfold raiseStmt
  refine wpAny_bind (wpAny_mono h (fun v s₁ h₁=>?_) fun _ _ x=>x)
  obtain ⟨e,o,vs,rfl,X,he,hc,hd,h1,hE⟩:=h₁
  obtain ⟨hp,g,d,tk,os⟩:=s₁
  have L0:Looks M hp (typeOf (.ref e)) (.ref C):=hc ▸ (Looks.ld he).andThen .now
  have L1:Looks M hp (isSubtype (.ref C) (.type "BaseException")) true:=looks_subIn X hb
  have L2:Looks M hp (typeOf (.ref C)) (.type "type"):=looks_typeIn X ht
  have L3:Looks M hp (isInstance (.ref e) (.type "BaseException")) true:=L0.andThen L1
  obtain ⟨oc,od,oda,osl⟩:=o
  dsimp only at hc hd
  subst hc hd
  have L4:Looks M hp (isType (.ref e)) false:=by
    intro A' Q' E' s' k z
    unfold isType loadHead
    exact wpAny_bind (wpAny_loadPart (k _ _ he) (wpAny_pure z))
  have L5:Looks M hp (isExcClass (.ref e)) false:=L4.andThen .now
  have L6:Looks M hp (raisedInstance (.ref e)) (.ref e):=L0.andThen (L2.andThen .now)
  have L7:Looks M hp (setFlight (.ref e) none) ():=by
    intro A' Q' E' s' k z
    unfold setFlight
    refine wpAny_bind (wpAny_field (k _ _ he) rfl h1 ?_)
    rw [if_neg (by decide)]
    exact wpAny_pure z
  refine wpAny_bind (wpAny_pure (wpAny_bind (wpAny_holding ?_)))
  unfold excFromValue
  refine wpAny_bind (L5.at ?_)
  rw [if_neg (by decide)]
  refine wpAny_bind (L3.at ?_)
  rw [if_pos rfl]
  refine wpAny_pure ?_
  refine wpAny_bind (L4.at ?_)
  rw [if_neg (by decide)]
  refine wpAny_bind (L6.at (wpAny_bind (L7.at ?_)))
  exact wpAny_raiseNew_none hh hE
end
end L2
namespace L2
open PySem PySem.Spec PyProof.Rows PySem.W
section
variable {prog:Program} {w:World} {A:Around} {E:Value→Shared→Prop} {h:Heap} {g:Array GenState} {d:Drawn} {t:Nat} {os:OsState}
variable {nm q:Str} {C N e:Addr} {bs bm:List Value} {hdct:Bool} {sn:List Str} {sub:List Value} {ab:Bool} {col:Option Bool} {dd:Option Addr} {k0 k1 k2 k3 k5:Option Value} {nid:String} {o:Obj} {vs:Array Value} {u:Value}
theorem base_init {Q:Value→Shared→Prop} (T:OwnTail h bmV bm) (hC:h.get? C=some (excClassObj nm q C N bs bm hdct sn sub ab col dd k0 k1 k2 k3 k5 "ValueError.__new__")) (he:h.get? e=some o) (hc:o.cls=.ref C) (hd:o.data=.fields vs) {t0:Addr} (hv:vs[0]?=some (.ref t0))
    (k:∀ h' z,h'.get? e=some (o.mapFields (·.setIfInBounds 0 (.ref z)))→(∀ b p,b≠e→h.get? b=some p→h'.get? b=some p)→Q .none ⟨h',g,d,t,os⟩) :
    wpAny (model prog w) A (call (.builtin "ValueError.__init__") [.ref e,u]) Q E ⟨h,g,d,t,os⟩:=by
  have F:=PySem.F.excBase_ValueError
  refine wpAny_call (codeAny_call_builtin F.init.plain F.initEntry (wpAny_check_init_subT F T hC he hc ?_))
  have e1:=Heap.get?_push_of_some { cls:=.type "tuple", data:=.seq #[u] } he
  have fz:(o.mapFields (·.setIfInBounds 0 (.ref h.objs.size))).isFreed=false:=Obj.isFreed_of_fields (Obj.data_mapFields hd _)
  unfold Builtin.«BaseException.__init__»
  wp_walk
  rw [hd]
  refine wpAny_pure ?_
  rw [hv]
  refine wpAny_pure (wpAny_bind (wpAny_setField e1 hd (Array.getElem?_eq_some_iff.mp hv).1 ?_))
  wp_walk
  refine k _ h.objs.size (Heap.get?_update_self _ e1 fz) fun b p hb z=>?_
  rw [Heap.get?_update_other _ _ (Ne.symm hb)]
  exact Heap.get?_push_of_some _ z
end
end L2
namespace L2
open PySem PySem.Spec PyProof.Rows PySem.W
def excR (C a:Addr):Heap→Prop:=fun h=>∃ o vs t0,h.get? a=some o∧o.cls=.ref C∧o.dict=none∧o.data=.fields vs∧vs[0]?=some (.ref t0)∧vs[1]?=some .none
def excX (C a dx:Addr):Heap→Prop:=fun h=>∃ o vs,h.get? a=some o∧o.cls=.ref C∧o.dict=some dx∧o.data=.fields vs∧vs[1]?=some .none
def excD (C a dx:Addr):Heap→Prop:=fun h=>∃ o vs,h.get? a=some o∧o.cls=.ref C∧o.dict=some dx∧o.data=.fields vs
theorem ns_of {K:Frag} {h:Heap} {N:Addr} {mg:Str→Option Value} {n:Str} {v:Value} (X:K.In h) (G:h.Ns N mg) (e:nsIn K N n=some (some v)):mg n=some v:=by
  obtain ⟨ob,xs,xp,ho,hd,_,hf⟩:=G
  unfold nsIn at e
  split at e
  · rename_i c d es' n' sl q
    have z:=X _ _ q
    rw [ho] at z
    cases z
    cases hd
    split at e
    · rename_i en he
      rw [← hf]
      unfold nsFind findBy
      rw [← Array.find?_toList,he]
      exact Option.some.inj e
    · split at e <;> cases e
  · cases e
def excInI (K:Frag) (C fI:Addr):Bool:=match K.lookup C with
  | some ⟨.type "type", _,.cls cd,sl⟩=>(match cd.mro,sl.toList with
    | .ref C' :: bm,[_,_,_,_,some (.builtin n),_]=>C' == C && n == "ValueError.__new__" && !cd.hasDel && tailIn K bmV bm && nsOkIn K cd.ns && nsIn K cd.ns "__init__" == some (some (.ref fI))
    | _,_=>false)
  | _=>false
theorem excInI_own {K:Frag} {C fI:Addr} {h:Heap} (X:K.In h) (q:excInI K C fI=true):∃ bm N nm q bs hdct sn sub ab col dd k0 k1 k2 k3 k5 mN,h.get? C=some (excClassObj nm q C N bs bm hdct sn sub ab col dd k0 k1 k2 k3 k5 "ValueError.__new__")∧h.Ns N mN∧mN "__init__" = some (.ref fI)∧OwnTail h bmV bm:=by
  unfold excInI at q
  split at q
  case h_2=>cases q
  case h_1 dd cd sl hlk =>
    split at q
    case h_2=>cases q
    case h_1 C' bm k0 k1 k2 k3 n k5 hm hs =>
      simp only [Bool.not_eq_true',beq_iff_eq,Bool.and_eq_true] at q
      obtain ⟨⟨⟨⟨⟨z1,z2⟩,z3⟩,z4⟩,z5⟩,z6⟩:=q
      subst z1
      subst z2
      cases cd
      dsimp only at hm z3 z5 z6
      subst hm
      subst z3
      have esl:sl=#[k0,k1,k2,k3,some (.builtin "ValueError.__new__"),k5]:=Array.ext' hs
      subst esl
      have NS:h.Ns _ _:=.of_isNs (isNs_of_in X z5)
      exact ⟨_,_,_,_,_,_,_,_,_,_,_,_,_,_,_,_,_,X _ _ hlk,NS,ns_of X NS z6,tail_of_in X z4⟩
structure RCl (K:Frag) (C fI:Addr):Prop where
  q:excInI K C fI=true
  e:EIs K C
  s:ESet K C "ring"
  t:typeIn K (.ref C)=some (.type "type")
structure BIn (K:Frag) (B:Addr):Prop where
  r:readsIn K B (.type "type")=true
  f:findCls K (.ref B) (.type "type") "__init__" = some (.val (.builtin "ValueError.__init__"))
  g:specialIn K (.ref B) "__getattribute__" = some (some (.builtin "type.__getattribute__"))
section
variable {X:Cx} {pins:List (Addr×Obj)} {σ:St} {H:Hp} {s:Shared}
theorem Inv.trackO {a:Addr} {o:HO} {ob:Obj} (I:Inv X pins σ H s) (ho:s.heap.get? a=some ob) (hn:H a=none) (new:ObjOk X.prog X.w (upd H a o) s.heap a o)
    (nw:X.s₀.heap.get? a=none) (hL:a≠X.env.locals) (hc:∀ x c,X.env.cells.lookup x=some c→c≠a) (hp:∀ q∈X.pn ++ pins,q.1≠a):Inv X pins σ (upd H a o) s:=by
  have ne:∀ b u,X.s₀.heap.get? b=some u→b≠a:=fun b u e z=>by rw [z,nw] at e; cases e
  refine ⟨I.ok,I.os,I.bare,⟨I.base.keep,I.base.slot,fun b u e n hx=>?_,I.base.there,fun b xs e=>?_,fun b u v e=>?_,fun b ps e=>?_⟩,I.loc,I.cell,?_,fun x c e=>?_,fun q hq=>?_,fun b u e=>?_,I.len⟩
  · rw [upd_ne (ne b u e)]
    exact I.base.free b u e n hx
  · have:=I.base.tups b xs e
    rw [upd_ne (ne_of_none this hn)]
    exact this
  · have:=I.base.frzs b u v e
    rw [upd_ne (ne_of_none this hn)]
    exact this
  · obtain ⟨m,e1⟩:=I.base.tbls b ps e
    exact ⟨m,by rw [upd_ne (ne_of_none e1 hn)]; exact e1⟩
  · rw [upd_ne (Ne.symm hL)]
    exact I.free
  · rw [upd_ne (hc x c e)]
    exact I.freeC x c e
  · obtain ⟨e1,e2,e3,e4,e5⟩:=I.pin q hq
    exact ⟨e1,by rw [upd_ne (hp q hq)]; exact e2,e3,e4,e5⟩
  · by_cases z:b=a
    · subst z
      rw [upd_same] at e
      cases e
      exact new
    · rw [upd_ne z] at e
      exact (I.hok b u e).stay (fun _ _ _ q=>q) (fun c q=>by rw [upd_ne (ne_of_none q hn)]; exact q) fun c xs q=>by rw [upd_ne (ne_of_none q hn)]; exact q
theorem Inv.beyond {a:Addr} (I:Inv X pins σ H s) (hx:X.ex=[]) (hn:s.heap.get? a=none):X.s₀.heap.get? a=none∧a≠X.env.locals∧(∀ x c,X.env.cells.lookup x=some c→c≠a)∧∀ q∈X.pn ++ pins,q.1≠a:=by
  refine ⟨?_,fun z=>?_,fun x c e z=>?_,fun q hq z=>?_⟩
  · cases z:X.s₀.heap.get? a with
    | none=>rfl
    | some u =>
      obtain ⟨o',z1⟩:=I.base.there a u z (by rw [hx]; intro z; cases z)
      rw [hn] at z1; cases z1
  · obtain ⟨m,⟨o,_,_,ho,_⟩,_⟩:=id I.loc
    rw [← z,hn] at ho; cases ho
  · obtain ⟨v,o,ho,_⟩:=I.cell x c e
    rw [z,hn] at ho; cases ho
  · have ho:=(I.pin q hq).1
    rw [z,hn] at ho; cases ho
end
section
variable {X:Cx} {C fI B:Addr} {y:Str} {e:Expr} {es:List Expr} {ta:TA} {np apos cpos epos:Pos}
def tBase (C:Addr) (ta:TA):TS:=fun D σ H=>ta σ H fun vs H1=>∃ a x,vs=[.ref a,.str x]∧H1 a=some (.ext (excR C a))∧D.nx σ H1
theorem ps_base {pl:Sem Bool} (O:RCl X.K C fI) (hB:BIn X.K B) (hy:X.mg y=some (.ref B)) (hgy:Gl X y) (ha:PA X (e :: es) ta) (hdy:(y == ("__debug__" : Str))=false:=by decide)
    (ht:eval (.Call (.Attribute (.Name y np) "__init__" apos) (e :: es) [] cpos) X.env=(do
      let ov ← eval (.Name y np) X.env
      standAt apos.atName
      let (f,first) ← holding [ov] (getMethod ov "__init__" pl)
      callWith cpos f first (backTo cpos (starEach (e :: es) X.env)) (backToKw cpos (keywordEach [] X.env))):=by rfl)
    (hs:swapsWith (.Call (.Attribute (.Name y np) "__init__" apos) (e :: es) [] cpos) none epos.line X.env=pure false:=by rfl) (he:starEach (e :: es) X.env=(false,eval e X.env) :: starEach es X.env:=by rfl) (hpl:(backTo cpos (starEach es X.env)).any (·.1)=false:=by rfl) :
    PS X (.Expr (.Call (.Attribute (.Name y np) "__init__" apos) (e :: es) [] cpos) epos) (tBase C ta):=by
  intro pins s σ H D I h
  refine wpAny_Expr_any ?_ I.quiet hs
  refine methodCall_KW (ld_glob I hgy hy (method_cls I.kIn hB.g (cls_value I.kIn hB.r hB.f rfl ?_)) hdy) ht
  refine PyProof.Rows.callWith_builtin1 (thn (ha cpos pins _ σ H _ (I.tok _) h) fun us s1 ⟨vs,H1,I1,r,q⟩=>?_) he hpl
  obtain ⟨a,x,rfl,ea,k⟩:=q
  obtain ⟨u,v,rfl,ru,rv⟩:=r.two
  cases (show u=Value.ref a from ru)
  obtain ⟨o,vs,t0,e1,c1,d1,f1,v0,v1⟩:=(I1.hok a _ ea).1
  obtain ⟨bm,N,nm,qn,bs,u1,u2,u3,u4,u5,u6,k0,k1,k2,k3,k5,mN,hC,_,_,T⟩:=excInI_own I1.kIn O.q
  obtain ⟨hp,g,d,t,os⟩:=s1
  refine base_init T hC e1 c1 f1 v0 fun h' z g1 g2=>?_
  have sz:1 < vs.size:=(Array.getElem?_eq_some_iff.mp v1).1
  have ex:excR C a h':=⟨_,_,z,g1,(Obj.cls_mapFields _ _).trans c1,(dict_mapF _ _).trans d1,Obj.data_mapFields f1 _,by rw [Array.getElem?_setIfInBounds,if_pos rfl,if_pos (by omega)],by rw [Array.getElem?_setIfInBounds_ne (by decide)]; exact v1⟩
  have I2:=I1.write (x:=a) (e:=a) (o:=.ext (excR C a)) (t':=t) (h':=h') (by rw [ea]; trivial) (.inl rfl) g2 ⟨_,g1⟩ ⟨ex,⟨_,g1⟩,fun h1 h2 ⟨o,vs,t0,q1,q2⟩ kk=>⟨o,vs,t0,kk o q1,q2⟩⟩
  have eH:upd H1 a (.ext (excR C a))=H1:=by
    funext b
    by_cases hb:b=a
    · subst hb; rw [upd_same,ea]
    · rw [upd_ne hb]
  rw [eH] at I2
  exact ⟨σ,H1,I2,k⟩
def tPutX (C:Addr) (f:Str) (ta tv:TE):TS:=fun D σ H=>tv σ H fun y H1=>ta σ H1 fun x H2=>∃ a,x=.ref a∧H2 a=some (.ext (excR C a))∧∀ dx,H2 dx=none→D.nx σ (upd (upd H2 a (.ext (excX C a dx))) dx (.xd [(f,y)]))
theorem ps_putX {o value:Expr} {f:Str} {pos pos':Pos} {ta tv:TE} (F:ESet X.K C f) (hx:X.ex=[]) (ha:PE X o ta) (hv:PE X value tv) (hs:swapsWith value (some (.Attribute o f pos')) pos.line X.env=pure false:=by rfl) :
    PS X (.Assign [.Attribute o f pos'] value pos) (tPutX C f ta tv):=by
  intro pins s σ H D I h
  refine plainObj_wpAny_Assign_Attribute (thn (hv pins s σ H _ I h) fun u s1 ⟨y,H1,I1,ry,q⟩=>thn (ha pins s1 σ H1 _ I1 q) fun ov s2 ⟨x,H2,I2,rx,a,ex,ea,q2⟩=>?_) hs
  subst ex
  cases (show ov=Value.ref a from rx)
  obtain ⟨ob,vs,t0,e1,c1,d1,f1,v0,v1⟩:=(I2.hok a _ ea).1
  have J:InstAt s2.heap a ob C none:=⟨e1,c1,by unfold notCls; rw [f1],by rw [d1]; trivial⟩
  refine exc_set I2.kIn J F d1 fun h' tk g1 g2 g3=>?_
  have fr:s2.heap.get? s2.heap.objs.size=none:=Heap.get?_none_of_le (Nat.le_refl _)
  have Hn:H2 s2.heap.objs.size=none:=I2.hok.fresh (Nat.le_refl _)
  have nea:s2.heap.objs.size≠a:=fun z=>by rw [z,ea] at Hn; cases Hn
  obtain ⟨b1,b2,b3,b4⟩:=I2.beyond hx fr
  have ex:excX C a s2.heap.objs.size h':=⟨_,vs,g1,c1,rfl,f1,v1⟩
  have I3:=I2.write (x:=a) (e:=a) (o:=.ext (excX C a s2.heap.objs.size)) (t':=tk) (h':=h') (by rw [ea]; trivial) (.inl rfl) g3 ⟨_,g1⟩ ⟨ex,⟨_,g1⟩,fun h1 h2 ⟨o,vs,q1,q2⟩ kk=>⟨o,vs,kk o q1,q2⟩⟩
  obtain ⟨od,es,ep,o1,_⟩:=id g2
  have I4:=I3.trackO (a:=s2.heap.objs.size) (o:=.xd [(f,y)]) (ob:=od) o1 (by rw [upd_ne nea]; exact Hn) ⟨_,g2,fun z=>?_⟩ b1 b2 b3 b4
  · exact ⟨σ,_,I4,q2 _ Hn⟩
  · by_cases hz:z=f
    · subst hz
      rw [if_pos rfl,List.lookup_cons_self]
      exact ry
    · have:(z == f)=false:=beq_eq_false_iff_ne.mpr hz
      rw [if_neg hz,List.lookup_cons,this]
      trivial
end
end L2
namespace L2
open PySem PySem.Spec PyProof.Rows PySem.W
def untr (H:Hp) (a:Addr):Hp:=fun b=>if b=a then none else H b
theorem untr_ne {H:Hp} {a b:Addr} (h:b≠a):untr H a b=H b:=if_neg h
theorem untr_at {H:Hp} {a:Addr}:untr H a a=none:=if_pos rfl
theorem untr_some {H:Hp} {a b:Addr} {o:HO} (h:untr H a b=some o):b≠a∧H b=some o:=by
  unfold untr at h
  split at h
  · cases h
  · exact ⟨by assumption,h⟩
section
variable {P:Program} {w:World} {H:Hp} {h:Heap} {a:Addr} {φ:Heap→Prop}
theorem HOk.cut (x:HOk P w H h) (e:H a=some (.ext φ)):HOk P w (untr H a) h:=fun b o q=>by
  obtain ⟨hb,q⟩:=untr_some q
  exact (x b o q).stay (fun _ _ _ z=>z) (fun c z=>by rw [untr_ne (ne_of z e (fun y=>nomatch y))]; exact z) (fun c xs z=>by rw [untr_ne (ne_of z e (fun y=>nomatch y))]; exact z) fun c ob u z _=>by rw [untr_ne (ne_of z e (fun y=>nomatch y))]; exact z
end
structure FlownD (P:Program) (w:World) (outer:List Env) (H:Hp) (s:Shared) (C a dx:Addr) (H':Hp) (B:Heap) (s':Shared):Prop where
  os:s'.os=s.os
  bare:AllBare s'.gens
  fl:FlyD B outer a (.ref C) .none (some dx) s'.heap
  old:∀ b o,s.heap.get? b=some o→H b=none→b∉frs outer→B.get? b=some o
  slot:∀ b o,s.heap.get? b=some o→H b=none→b∈frs outer→∃ sl,s'.heap.get? b=some { o with slots:=sl }
  free:∀ b o,s.heap.get? b=some o→H b=none→H' b=none
  there:∀ b o,s.heap.get? b=some o→b∉frs outer→∃ o',B.get? b=some o'
  tups:∀ b xs,H b=some (.tup xs)→H' b=some (.tup xs)
  frzs:∀ b o u,H b=some (.frz o u)→H' b=some (.frz o u)
  tbls:∀ b ps,H b=some (.tbl ps)→∃ more,H' b=some (.tbl (ps ++ more))
  trk:∀ b o,H' b=some o→∃ ob,B.get? b=some ob
  hok:HOk P w H' s'.heap
section
variable {P:Program} {w:World} {outer:List Env} {H H':Hp} {s s':Shared} {C a dx:Addr} {B:Heap}
theorem FlownD.next {h5:Heap} {s5:Shared} (F:FlownD P w outer H s C a dx H' B s') (e5:s5.heap=h5) (os:s5.os=s'.os) (gs:s5.gens=s'.gens) (x:FlyD B outer a (.ref C) .none (some dx) h5) (u:s'.heap.UpToSlots h5):FlownD P w outer H s C a dx H' B s5:=by
  subst e5
  refine ⟨os.trans F.os,by rw [gs]; exact F.bare,x,F.old,fun b o e n hb=>?_,F.free,F.there,F.tups,F.frzs,F.tbls,F.trk,F.hok.keptT fun b o v hb e=>?_⟩
  · obtain ⟨sl,e1⟩:=F.slot b o e n hb
    obtain ⟨_,o',e2,nf⟩:=F.fl.fr.mem hb
    rw [e1] at e2
    cases e2
    obtain ⟨sl',e3⟩:=u b _ e1 nf
    exact ⟨sl',e3⟩
  · obtain ⟨ob,e1⟩:=F.trk b o hb
    have e2:=F.fl.st b ob e1
    rw [e] at e2
    cases e2
    exact x.st b v e1
theorem FlownD.un (F:FlownD P w outer H s C a dx H' B s'):Un (frs outer) [] H H' s.heap s'.heap where
  keep:=fun b o e n hb _=>F.fl.st b o (F.old b o e n hb)
  slot:=fun b o e n hb _=>F.slot b o e n hb
  free:=fun b o e n _=>F.free b o e n
  there:=fun b o e _=>by
    by_cases hb:b∈frs outer
    · obtain ⟨_,o',e2,_⟩:=F.fl.fr.mem hb
      exact ⟨o',e2⟩
    · obtain ⟨o',e1⟩:=F.there b o e hb
      exact ⟨o',F.fl.st b o' e1⟩
  tups:=F.tups
  frzs:=F.frzs
  tbls:=F.tbls
end
def CXd (P:Program) (w:World):CXT:=fun outer H s E e s'=>∃ a C dx H' B,e=.ref a∧FlownD P w outer H s C a dx H' B s'∧E (.ref C) (some dx) H'
def RaiseD (X:Cx) (E:XK):Prop:=∀ (C dx:Addr) (pins:List (Addr×Obj)) (σ:St) (H:Hp) (s:Shared) (a:Addr),Inv X pins σ H s→H a=some (.ext (excX C a dx))→X.s₀.heap.get? a=none→E (.ref C) (some dx) (untr H a)→X.xe (.ref a) s
theorem raiseD_of {P:Program} {w:World} {K:Frag} {mg:Str→Option Value} {base:Heap} {N:List Str} {qual:Str} {scope:Scope} {f:Addr} {cd:Value} {A:Around} {outer:List Env} {s:Shared} {H:Hp} {E:XK} :
    RaiseD (cxOf (CXd P w) P w K mg base N qual scope f cd A outer s H E) E:=by
  intro C dx pins σ H1 s1 a I ea nw hE
  let env:=envOfC qual scope s.heap.objs.size f cd
  have hst:(cxOf (CXd P w) P w K mg base N qual scope f cd A outer s H E).stack=env :: outer:=rfl
  have FF:=I.stack
  rw [hst] at FF
  have free:=I.stkFree
  rw [hst] at free
  have hin:∀ e∈env :: outer,∀ b,e.frame=some b→b∈a :: frs (env :: outer):=fun e he b hb=>List.mem_cons_of_mem _ (List.mem_filterMap.mpr ⟨e,he,hb⟩)
  have keepB:∀ b o,s1.heap.get? b=some o→b≠a→b∉frs (env :: outer)→(hideAll s1.heap (a :: frs (env :: outer))).get? b=some o:=fun b o e na n=>hideAll_get _ e fun z=>(List.mem_cons.mp z).elim na n
  have FB:=funFrames_hide (as:=a :: frs (env :: outer)) FF hin
  have frsC:frs (env :: outer)=s.heap.objs.size :: frs outer:=rfl
  have neL:∀ b o,s.heap.get? b=some o→b≠s.heap.objs.size:=fun b o e=>Nat.ne_of_lt (Heap.lt_size e)
  have neA:∀ b o,s.heap.get? b=some o→b≠a:=fun b o e z=>by rw [z] at e; exact absurd (e.symm.trans (show s.heap.get? a=none from nw)) (fun y=>nomatch y)
  have out:∀ b o,s.heap.get? b=some o→b∉frs outer→b∉frs (env :: outer):=fun b o e hb z=>by
    rw [frsC] at z
    rcases List.mem_cons.mp z with z | z
    · exact neL b o e z
    · exact hb z
  obtain ⟨oa,vs,e1,c1,d1,f1,v1⟩:=(I.hok a _ ea).1
  have tk:∀ b o,untr H1 a b=some o→∃ ob,(hideAll s1.heap (a :: frs (env :: outer))).get? b=some ob:=fun b o e=>by
    obtain ⟨hb,e⟩:=untr_some e
    obtain ⟨ob,q⟩:=(I.hok b o e).get
    refine ⟨ob,keepB b ob q hb fun z=>?_⟩
    have:=free b z
    rw [e] at this; cases this
  refine leaveD0 (B:=hideAll s1.heap (a :: frs (env :: outer))) I.ok.frames FB rfl e1 (fun b o q=>of_hideAll _ q) (hideAll_none _ List.mem_cons_self) f1 v1 ⟨c1,d1⟩ fun h2 x1 x4=>⟨a,C,dx,untr H1 a,_,rfl,⟨I.os,I.bare,x1,fun b o e n hb=>?_,fun b o e n hb=>?_,fun b o e n=>?_,fun b o e hb=>?_,fun b xs e=>?_,fun b o u e=>?_,fun b ps e=>?_,tk,?_⟩,hE⟩
  · exact keepB b o (I.base.keep b o e n hb (by intro z; cases z)) (neA b o e) (out b o e hb)
  · obtain ⟨sl,e1⟩:=I.base.slot b o e n hb (by intro z; cases z)
    have hb':b∈frs (env :: outer):=by rw [frsC]; exact List.mem_cons_of_mem _ hb
    obtain ⟨_,o',e2,nf⟩:=FF.mem hb'
    rw [e1] at e2
    cases e2
    obtain ⟨sl',e3⟩:=x4 b _ e1 nf
    exact ⟨sl',e3⟩
  · rw [untr_ne (neA b o e)]
    exact I.base.free b o e n (by intro z; cases z)
  · obtain ⟨o',e1⟩:=I.base.there b o e (by intro z; cases z)
    exact ⟨o',keepB b o' e1 (neA b o e) (out b o e hb)⟩
  · have z:=I.base.tups b xs e
    rw [untr_ne (ne_of z ea (fun y=>nomatch y))]
    exact z
  · have z:=I.base.frzs b o u e
    rw [untr_ne (ne_of z ea (fun y=>nomatch y))]
    exact z
  · obtain ⟨m,z⟩:=I.base.tbls b ps e
    exact ⟨m,by rw [untr_ne (ne_of z ea (fun y=>nomatch y))]; exact z⟩
  · refine (I.hok.cut ea).keptT fun b o u e q=>?_
    obtain ⟨ob,z⟩:=tk b o e
    have z2:=of_hideAll _ z
    rw [q] at z2
    cases z2
    exact x1.st b u z
end L2
namespace L2
open PySem PySem.Spec PyProof.Rows PySem.W
def Few (ns:List Int):Prop:=ns.length≤63∧∀ n∈ns,0≤n∧n < 64
theorem few_show {ns:List Int} (h:Few ns):(PyData.list (ns.map PyData.int)).showable=true∧(PyData.list (ns.map PyData.int)).hasDict=false∧(PyData.list (ns.map PyData.int)).leavesShort 8=true∧(PyData.list (ns.map PyData.int)).bulk=ns.length∧(PyData.list (ns.map PyData.int)).depth≤1:=by
  obtain ⟨_,h⟩:=h
  have e1:∀ n:Nat,n < 64→(decide ((n:Int).natAbs.log2 < 1920) && decide ((PyData.shown (.int (n:Int))).length≤8))=true:=by decide +kernel
  have e2:∀ n:Int,0≤n∧n < 64→(PyData.int n).showable=true∧(PyData.int n).leavesShort 8=true:=fun n hn=>by
    obtain ⟨m,rfl⟩:∃ m:Nat,n=m:=⟨n.toNat,by omega⟩
    have z:=e1 m (by omega)
    rw [Bool.and_eq_true] at z
    exact ⟨by simpa [PyData.showable] using z.1,by simpa [PyData.leavesShort] using z.2⟩
  have a1:∀ l:List Int,(∀ n∈l,0≤n∧n < 64)→PyData.showableAll (l.map PyData.int)=true∧PyData.hasDictAll (l.map PyData.int)=false∧PyData.leavesShortAll 8 (l.map PyData.int)=true∧PyData.bulkAll (l.map PyData.int)=l.length∧PyData.depthAll (l.map PyData.int)=0:=by
    intro l
    induction l with
    | nil=>intro _; exact ⟨rfl,rfl,rfl,rfl,rfl⟩
    | cons n l ih =>
      intro hl
      obtain ⟨i1,i2,i3,i4,i5⟩:=ih fun x hx=>hl x (List.mem_cons_of_mem _ hx)
      obtain ⟨s1,s2⟩:=e2 n (hl n List.mem_cons_self)
      refine ⟨?_,?_,?_,?_,?_⟩
      · simp only [List.map_cons,PyData.showableAll,s1,i1,Bool.and_self]
      · simp only [List.map_cons,PyData.hasDictAll,PyData.hasDict,i2,Bool.or_self]
      · simp only [List.map_cons,PyData.leavesShortAll,s2,i3,Bool.and_self]
      · simp only [List.map_cons,PyData.bulkAll,PyData.bulk,i4,List.length_cons]; omega
      · simp only [List.map_cons,PyData.depthAll,PyData.depth,i5,Nat.max_self]
  obtain ⟨i1,i2,i3,i4,i5⟩:=a1 ns h
  exact ⟨by simpa only [PyData.showable] using i1,by simpa only [PyData.hasDict] using i2,by simpa only [PyData.leavesShort] using i3,by simpa only [PyData.bulk] using i4,by simp only [PyData.depth,i5]; omega⟩
theorem few_reads {h:Heap}:∀ {ns:List Int} {its:List Value},Vals (ns.map V.int) its→ReadsAll h its (ns.map PyData.int) []
  | [],_,r=>by cases r; exact .nil
  | n :: ns,_,r=>by
    cases r with
    | cons r1 r2 =>
      obtain ⟨t,rfl⟩:=r1
      exact .cons (as:=[]) (bs:=[]) (.int n t) (few_reads r2)
theorem len_app (a b:Str):(a ++ b).length=a.length + b.length:=by
  show (a.cps ++ b.cps).size=_
  exact Array.size_append
section
variable {X:Cx} {e:Expr} {te:TE} {c:Str} {kk:Nat} {p1 p2 pos:Pos} {k:Nat}
def tFs (K:Frag) (te:TE):TE:=fun σ H Q=>te σ H fun x H1=>∃ a ns,x=.ref a∧SqL K H1 a (ns.map .int)∧Few ns∧∀ y,Q (.str y) H1
theorem pe_fstr (hr:Room k X.A) (he:PE X e te) (hc:c.length≤1000):PE X (.JoinedStr [.Constant (.str c) kk p1,.FormattedValue e 114 none p2] pos) (tFs X.K te):=by
  intro pins s σ H Q I h
  refine wpAny_JoinedStr ?_
  refine Calls.Constant_str ⟨c,_,rfl,?_,?_⟩
  · rw [len_app]
    show 0 + c.length≤sizeLine
    rw [sizeLine_eq]
    omega
  refine wpAny_FormattedValue_repr (thn (he pins _ σ H _ (I.tok _) h) fun u s1 ⟨x,H1,I1,r,a,ns,ex,hq,fw,q⟩=>?_)
  subst ex
  cases (show u=Value.ref a from r)
  obtain ⟨its,rv,⟨o,n,e1,c1,_,d1⟩,_⟩:=I1.list hq
  obtain ⟨w1,w2,w3,w4,w5⟩:=few_show fw
  have rd:Reads s1.heap (.ref a) (.list (ns.map .int)) [a]:=.list e1 c1 d1 (few_reads rv)
  have un:=hr.units
  have sz:(PyData.list (ns.map PyData.int)).shown.length≤sizeLine:=PyData.shown_fits_bulk (B:=8) (by decide) (by decide) w3 (by rw [w4]; have:=fw.1; omega)
  refine pyReprObj_of_reads rd w1 (fun z=>by rw [w2] at z; cases z) hr.gd (by omega) (fun _ _ z=>z) (fun h' u' tk kp=>?_) sz
  have sh:=PyData.shown_le_bulk 8 (by decide) _ w3
  rw [w4] at sh
  have ln:(Str.empty ++ c ++ (PyData.list (ns.map PyData.int)).shown).length≤sizeLine:=by
    rw [len_app,len_app]
    show 0 + c.length + _≤sizeLine
    have:=fw.1
    rw [sizeLine_eq]
    omega
  have fin:∀ t t',∃ y t2,Value.str (PyData.list (ns.map PyData.int)).shown t=Value.str y t2∧(Str.empty ++ c ++ y).length≤sizeLine∧Joins (model X.prog X.w) X.A X.xe (evalEach [] X.env) (Str.empty ++ c ++ y)
      (fun out s₁=>out.length≤sizeLine∧EP X pins σ Q (Value.str out s₁.toks) { s₁ with toks:=s₁.toks + 1 }) { s1 with heap:=h',toks:=t' }:=fun t t' =>
    ⟨_,t,rfl,ln,ln,.str _,H1,I1.kept kp,⟨_,rfl⟩,q _⟩
  exact wpAny_formatField_str (fin _ _) (fin _ _) sz
end
end L2
namespace L2
open PySem PySem.Spec PyProof.Rows PySem.W
def spRi (K:Frag) (C:Addr):Sp:=fun vs H Q _=>∃ a r ns,vs=[.ref a,.ref r]∧H a=some (.ext (excR C a))∧SqL K H r (ns.map .int)∧Few ns ∧
  ∀ L dx,H L=none→H dx=none→L≠dx→Q .non (upd (upd (upd H L (.lst (ns.map .int))) a (.ext (excX C a dx))) dx (.xd [("ring", .ref L)]))
theorem spRi_len {K:Frag} {C:Addr} {vs:List V} {H:Hp} {Q:VK} {E:XK} (h:spRi K C vs H Q E):vs.length=2:=by
  obtain ⟨_,_,_,rfl,_⟩:=h
  rfl
theorem ri_read {K:Frag} {C:Addr} {vs:List V} {H:Hp} {Q:VK} {E:XK} (h:spRi K C vs H Q E) :
    tSeq (tBase C (tCons (tVar 0) (tCons (tFs K (tVar 1)) tNil))) (tSeq (tPutX C "ring" (tVar 0) (tCB (fun xs H Q=>∃ p ys,xs=[.ref p]∧(SqL K H p ys∨SqT K H p ys)∧∀ l,H l=none→Q (.ref l) (upd H l (.lst ys))) (tCons (tVar 1) tNil))) tNext)
      { nx:=fun _ H'=>Q .non H',rt:=Q } (start (["self", "ring"]:List Str) vs) H:=by
  obtain ⟨a,r,ns,rfl,ea,hq,fw,k⟩:=h
  refine ⟨.ref a,rfl,.ref r,rfl,r,ns,rfl,hq,fw,fun y=>⟨a,y,rfl,ea,?_⟩⟩
  refine ⟨.ref r,rfl,r,_,rfl,.inl hq,fun L hL=>⟨.ref a,rfl,a,rfl,?_,fun dx hd=>?_⟩⟩
  · rw [upd_ne (ne_of_none ea hL)]; exact ea
  · have nd:dx≠L:=fun z=>by rw [z,upd_same] at hd; cases hd
    exact k L dx hL (by rw [upd_ne nd] at hd; exact hd) (Ne.symm nd)
section
variable {X:Cx} {E:XK} {x:Str} {C fI:Addr} {fd:FuncData} {k:Nat} {e0:Expr} {es:List Expr} {ta:TA} {np cpos pos:Pos}
def tRaiseI (K:Frag) (C:Addr) (E:XK) (ta:TA):TS:=fun _ σ H=>ta σ H fun vs H1=>∃ r ns,vs=[.ref r]∧SqL K H1 r (ns.map .int)∧Few ns ∧
  ∀ L dx,H1 L=none→H1 dx=none→L≠dx→E (.ref C) (some dx) (upd (upd H1 L (.lst (ns.map .int))) dx (.xd [("ring", .ref L)]))
theorem ps_raiseI (hX:RaiseD X E) (O:RCl X.K C fI) (kp:keepIn X.K (.ref C)=true) (F:FnOk X.prog X.w X.K X.mg X.base CX0 k fI fd ["self", "ring"] (spRi X.K C)) (hb:Binds X.K fd ["self", "ring"] []) (hf:∃ oI,X.K.lookup fI=some oI∧oI.cls=.type "function")
    (hr:Room (k + 1) X.A) (hx:X.ex=[]) (hy:X.mg x=some (.ref C)) (hc:X.calm=true) (hg:Gl X x) (ha:PA X (e0 :: es) ta) (hdb:(x == ("__debug__" : Str))=false:=by decide)
    (he:starEach (e0 :: es) X.env=(false,eval e0 X.env) :: starEach es X.env:=by rfl) (hpl:(backTo cpos (starEach es X.env)).any (·.1)=false:=by rfl) :
    PS X (.Raise (some (.Call (.Name x np) (e0 :: es) [] cpos)) none pos) (tRaiseI X.K C E ta):=by
  intro pins s σ H D I h
  rw [arm_exec_Raise]
  simp only [evalOpt,Option.map]
  refine wpAny_bind (wpAny_standAt (raise_D O.e.g7 O.t (I.ok.hd hc) ?_))
  refine wpAny_bind (wpAny_mono ?_ (fun v s1 z=>wpAny_bind (wpAny_standAt (wpAny_pure z))) fun _ _ z=>z)
  refine wpAny_Call_Name_kw (ld_glob I hg hy ?_ hdb)
  refine callWith_K (h₀:=X.base) I.ok.mod.kin kp (thn (ha cpos pins s σ H _ I h) fun us s1 ⟨vs,H1,I1,r,q⟩=>⟨I1.kIn,?_⟩) he hpl
  obtain ⟨rr,ns,rfl,hq,fw,kk⟩:=q
  obtain ⟨bm,N,nm,qn,bs,u1,u2,u3,u4,u5,u6,k0,k1,k2,k3,k5,mN,hC,hN,hi,T⟩:=excInI_own I1.kIn O.q
  obtain ⟨oI,lk,fc⟩:=hf
  have lu:us.length=1:=r.length.symm
  have fo:=I1.kIn _ _ lk
  obtain ⟨hp,g,d,t,os⟩:=s1
  refine call_init PySem.F.excBase_ValueError T hC hN hi fo fc (by rw [List.nil_append,lu,sizeLine_eq]; decide) fun h' e hm=>?_
  obtain ⟨t0,o1,_,_⟩:=hm.there
  obtain ⟨b1,b2,b3,b4⟩:=I1.beyond hx hm.new
  have He:H1 e=none:=by
    cases z:H1 e with
    | none=>rfl
    | some o =>
      obtain ⟨ob,z'⟩:=(I1.hok e o z).get
      rw [hm.new] at z'; cases z'
  have I2:Inv X pins σ H1 ⟨h',g,d,t,os⟩:=I1.kept (t':=t) hm.keeps
  have I3:=I2.track (a:=e) (φ:=excR C e) o1 He ⟨_,_,t0,o1,rfl,rfl,rfl,rfl,rfl⟩ (fun h1 h2 ⟨o,vs,t0,q1,q2⟩ kk=>⟨o,vs,t0,kk o q1,q2⟩) b1 b2 b3 b4
  have hq':SqL X.K (upd H1 e (.ext (excR C e))) rr (ns.map .int):=by
    rcases hq with z | z
    · refine .inl ?_
      rcases z with z | ⟨o,z⟩
      · exact .inl (by rw [upd_ne (ne_of_none z He)]; exact z)
      · exact .inr ⟨o,by rw [upd_ne (ne_of_none z He)]; exact z⟩
    · exact .inr z
  have bt:=hb ⟨h',g,d,t,os⟩ (Value.ref e :: us) I3.kIn (by rw [List.append_nil,List.length_cons,lu]; rfl)
  rw [List.append_nil] at bt
  refine wpAny_call (codeAny_mono (F.run _ X.stack _ _ ⟨Value.ref e :: us,[]⟩ (Value.ref e :: us) [.ref e,.ref rr] (fun v H2=>v=.non∧∃ L dx,H1 L=none∧H1 dx=none∧L≠dx∧L≠e∧dx≠e∧H2=upd (upd (upd (upd H1 e (.ext (excR C e))) L (.lst (ns.map .int))) e (.ext (excX C e dx))) dx (.xd [("ring", .ref L)])) E0
    (hr.make C us []) (I3.env0.make C us []) bt (.cons rfl r) ⟨e,rr,ns,rfl,upd_same,hq',fw,fun L dx z1 z2 z3=>?_⟩) fun rs s' hz=>?_)
  · have n1:L≠e:=fun z=>by rw [z,upd_same] at z1; cases z1
    have n2:dx≠e:=fun z=>by rw [z,upd_same] at z2; cases z2
    rw [upd_ne n1] at z1
    rw [upd_ne n2] at z2
    exact ⟨rfl,L,dx,z1,z2,z3,n1,n2,rfl⟩
  cases rs with
  | error e'=>exact False.elim hz
  | ok fl =>
    cases fl with
    | next=>exact False.elim hz
    | brk=>exact False.elim hz
    | cont=>exact False.elim hz
    | ret u =>
      obtain ⟨v,H2,I4,rv,ev,L,dx,z1,z2,z3,n1,n2,eH⟩:=I3.after hz
      subst ev
      have ea:H2 e=some (.ext (excX C e dx)):=by rw [eH,upd_ne (Ne.symm n2),upd_same]
      obtain ⟨o,vs,q1,q2,q3,q4,q5⟩:=(I4.hok e _ ea).1
      refine ⟨rv,e,o,vs,rfl,I4.kIn,q1,q2,q4,q5,hX C dx pins σ H2 s' e I4 ea b1 ?_⟩
      have eC:untr H2 e=upd (upd H1 L (.lst (ns.map .int))) dx (.xd [("ring", .ref L)]):=by
        funext b
        by_cases hb:b=e
        · rw [hb,untr_at,upd_ne (Ne.symm n2),upd_ne (Ne.symm n1),He]
        · rw [untr_ne hb,eH]
          by_cases h2:b=dx
          · rw [h2,upd_same,upd_same]
          · rw [upd_ne h2,upd_ne h2,upd_ne hb]
            by_cases h3:b=L
            · rw [h3,upd_same,upd_same]
            · rw [upd_ne h3,upd_ne h3,upd_ne hb]
      rw [eC]
      exact kk L dx z1 z2 z3
end
end L2
namespace L2
open PySem PySem.Spec PyProof.Rows PySem.W
def ZXd (X:Cx) (pins:List (Addr×Obj)) (σ:St) (E:XK):Value→Shared→Prop:=fun e' s'=>∃ H1 s1,Inv X pins σ H1 s1∧CXd X.prog X.w X.stack H1 s1 E e' s'
def PXd (X:Cx) (e:Expr) (te:XK→TE):Prop:=∀ (pins:List (Addr×Obj)) (s:Shared) (σ:St) (H:Hp) (Q:VK) (E:XK),Inv X pins σ H s→te E σ H Q→wpAny (model X.prog X.w) X.A (eval e X.env) (EP X pins σ Q) (ZXd X pins σ E) s
def eHd (C:Addr) (i:Nat) (th:TS) (D:Ends) (σ:St):XK:=fun c o H2=>c=.ref C∧∃ dx,o=some dx ∧
  ∀ a,H2 a=none→th { nx:=fun σ3 H3=>D.nx (σ3.set i none) H3,rt:=D.rt,bk:=fun σ3 H3=>D.bk (σ3.set i none) H3,ct:=fun σ3 H3=>D.ct (σ3.set i none) H3 } (σ.set i (some (.ref a))) (upd H2 a (.ext (excD C a dx)))
section
variable {X:Cx} {k:Nat} {y n:Str} {np epos hpos tpos:Pos} {e tg:Expr} {te:XK→TE} {g:TG} {C D:Addr} {i:Nat} {b0:Stmt} {bs suite:List Stmt} {th:TS}
theorem try_anyD {pins:List (Addr×Obj)} {s:Shared} {σ:St} {H:Hp} {D':Ends} (I:Inv X pins σ H s) (hb:wpAny (model X.prog X.w) X.A (execs bs X.env) (SP X pins D') (ZXd X pins σ (eHd C i th D' σ)) s) (hst:X.stack=X.env :: X.outer) (hfr:X.env.frame=some X.env.locals) (hex:X.ex=[])
    (hy:X.mg y=some (.ref D)) (hgy:Gl X y) (m1:mroIn X.K C (.ref D)=some true) (m2:mroIn X.K D (.type "BaseException")=some true) (m3:typeIn X.K (.ref D)=some (.type "type"))
    (hN:X.N.Nodup) (hi:X.N[i]?=some n) (hloc:X.env.scope.names.lookup n=some .local) (hth:∀ a,PSs (X.inH a) (b0 :: suite) th) (hdy:(y == ("__debug__" : Str))=false:=by decide) :
    wpAny (model X.prog X.w) X.A (exec (.Try bs [.ExceptHandler (some (.Name y np)) (some n) (b0 :: suite) hpos] [] [] tpos) X.env) (SP X pins D') X.xe s:=by
  refine wpAny_Try_except ?_
  refine wpAny_mono hb (fun fl s1 z=>?_) fun e' s' z=>?_
  · cases fl with
    | next=>exact wpAny_execs_nil z
    | brk=>exact z
    | cont=>exact z
    | ret u=>exact z
  obtain ⟨H1,s1,I1,a,C',dx,H2,B,rfl,FL,hc,dx',ed,hh⟩:=z
  cases hc
  cases ed
  have FL':=FL.fl
  rw [hst] at FL'
  refine noteD1 (hst ▸ I.ok.frames) hfr FL' fun h4 held u4=>?_
  refine flightD (s:={ s' with heap:=h4 }) held fun h5 fl5 u5=>?_
  rw [← hst] at fl5
  have FL5:=FL.next (s5:={ s' with heap:=h5 }) rfl rfl rfl fl5 (u4.trans u5)
  have I5:Inv X pins σ H2 { s' with heap:=h5 }:=I1.call' FL5.os FL5.un FL5.hok FL5.bare (ch:=[]) (fun _ z=>nomatch z)
  refine wpAny_handleBy_cons (codeAny_handlers_test (ld_glob (X:=X.inH a) (I5.inH a) hgy hy ?_ hdy)) (by intro z; cases z)
  obtain ⟨o5,_,e5,c5,_⟩:=fl5.there
  refine matches_sub I5.kIn e5 c5 m1 m2 m3 (codeAny_handlers_suite_as ?_)
  refine flightD (s:={ s' with heap:=h5 }) fl5 fun h6 fl6 u6=>?_
  have FL6:=FL5.next (s5:={ s' with heap:=h6 }) rfl rfl rfl fl6 u6
  have I6:Inv X pins σ H2 { s' with heap:=h6 }:=I1.call' FL6.os FL6.un FL6.hok FL6.bare (ch:=[]) (fun _ z=>nomatch z)
  obtain ⟨o6,ws,e6,c6,d6,wd⟩:=fl6.there
  have nB:B.get? a=none:=fl6.no
  have nH:H2 a=none:=by
    cases z:H2 a with
    | none=>rfl
    | some u =>
      obtain ⟨ob,z'⟩:=FL6.trk a u z
      rw [nB] at z'; cases z'
  have we:=e6
  have new1:s1.heap.get? a=none:=by
    cases z:s1.heap.get? a with
    | none=>rfl
    | some u =>
      by_cases hb:a∈frs X.stack
      · obtain ⟨_,o',z1,z2⟩:=fl6.fr.mem hb
        rw [we] at z1
        cases z1
        exact absurd wd (z2 ws)
      · obtain ⟨o',z1⟩:=FL6.there a u z hb
        rw [nB] at z1; cases z1
  have new0:X.s₀.heap.get? a=none:=by
    cases z:X.s₀.heap.get? a with
    | none=>rfl
    | some u =>
      obtain ⟨o',z1⟩:=I1.base.there a u z (by rw [hex]; intro z; cases z)
      rw [new1] at z1; cases z1
  have neL:a≠X.env.locals:=fun z=>by
    obtain ⟨m,⟨o,_,_,ho,_⟩,_⟩:=id I1.loc
    rw [← z,new1] at ho; cases ho
  have neC:∀ x c,X.env.cells.lookup x=some c→c≠a:=fun x c ec z=>by
    obtain ⟨v,o,ho,_⟩:=I1.cell x c ec
    rw [z,new1] at ho; cases ho
  have neP:∀ q∈X.pn ++ pins,q.1≠a:=fun q hq z=>by
    have ho:=(I1.pin q hq).1
    rw [z,new1] at ho; cases ho
  have I6t:=I6.track (φ:=excD C a dx) e6 nH ⟨o6,ws,e6,c6,d6,wd⟩ (fun h1 h2 ⟨o,ws,z1,z2⟩ k=>⟨o,ws,k o z1,z2⟩) new0 neL neC neP
  refine store_ok (X:=X.inH a) (v:=.ref a) (I6t.inH a) hN hi (.inl hloc) rfl (fun s7 I7=>?_) (.inr hloc)
  refine wpAny_mono (hth a pins s7 _ _ _ I7 (hh a nH)) (fun fl s8 q=>?_) fun _ _ z=>z.elim
  have hcls:(X.env.scope.kind == .class || (X.env.scope.kind == .module && X.env.locals != X.env.globals))=false:=by rw [I.ok.kind]; rfl
  have fin:∀ σ3 H3,Inv X pins σ3 H3 s8→(∀ s9,Inv X pins (σ3.set i none) H3 s9→SP X pins D' fl s9)→wpAny (model X.prog X.w) X.A (do bindName X.env n Value.none; unbindBehindTheSuite X.env n hpos) (fun _ s₃=>SP X pins D' fl s₃) X.xe s8:=fun σ3 H3 I8 k=>by
    obtain ⟨m,hm,hl⟩:=id I8.loc
    exact goesK hloc hm hcls fun h' v n1 s1=>k _ (I8.gone hi hN hm hl n1 s1)
  cases fl with
  | next=>obtain ⟨σ3,H3,I8,z⟩:=q; exact fin σ3 H3 (I8.outH I6.ok) fun s9 I9=>⟨_,_,I9,z⟩
  | brk=>obtain ⟨σ3,H3,I8,z⟩:=q; exact fin σ3 H3 (I8.outH I6.ok) fun s9 I9=>⟨_,_,I9,z⟩
  | cont=>obtain ⟨σ3,H3,I8,z⟩:=q; exact fin σ3 H3 (I8.outH I6.ok) fun s9 I9=>⟨_,_,I9,z⟩
  | ret u=>obtain ⟨v,σ3,H3,I8,rv,z⟩:=q; exact fin σ3 H3 (I8.outH I6.ok) fun s9 I9=>⟨v,_,_,I9,rv,z⟩
def tTryD (te:XK→TE) (g:TG) (C:Addr) (i:Nat) (th:TS):TS:=fun D σ H=>te (eHd C i th D σ) σ H fun v H'=>g v σ H' D.nx
theorem ps_tryD (he:PXd X e te) (hg:PG X tg g) (hst:X.stack=X.env :: X.outer) (hfr:X.env.frame=some X.env.locals) (hex:X.ex=[]) (hx0:∀ e s,¬ X.xe e s)
    (hy:X.mg y=some (.ref D)) (hgy:Gl X y) (m1:mroIn X.K C (.ref D)=some true) (m2:mroIn X.K D (.type "BaseException")=some true) (m3:typeIn X.K (.ref D)=some (.type "type"))
    (hN:X.N.Nodup) (hi:X.N[i]?=some n) (hloc:X.env.scope.names.lookup n=some .local) (hth:∀ a,PSs (X.inH a) (b0 :: suite) th)
    (hdy:(y == ("__debug__" : Str))=false:=by decide) (hs:swapsWithSole [tg] e epos.line X.env=pure false:=by rfl) (hw:swappedStores [tg] e X.env=pure none:=by rfl)
    (h1:(assignEach [tg] X.env).map (·.2)=[assign tg X.env]:=by rfl) :
    PS X (.Try [.Assign [tg] e epos] [.ExceptHandler (some (.Name y np)) (some n) (b0 :: suite) hpos] [] [] tpos) (tTryD te g C i th):=by
  intro pins s σ H D' I h
  refine try_anyD I ?_ hst hfr hex hy hgy m1 m2 m3 hN hi hloc hth hdy
  refine wpAny_execs_cons (wpAny_Assign_stores (wpAny_mono (he pins s σ H _ _ I h) (fun v s1 ⟨x,H1,I1,r1,q1⟩=>?_) fun _ _ z=>z) hs hw)
  rw [h1]
  refine wpAny_mono (hg pins s1 σ H1 x v _ I1 r1 q1) (fun _ s2 q=>?_) fun e' s' z=>absurd z (hx0 e' s')
  exact wpAny_execs_nil q
theorem pxd_call {ps:List Str} {sp:Sp} {x:Str} {p cpos:Pos} {es:List Expr} {ta:TA} (Fn:Callee X.prog X.w X.K X.mg X.base (CXd X.prog X.w) x ps k sp) (hr:Room k X.A) (hg:Gl X x) (ha:PA X (e :: es) ta) (hx0:∀ e s,¬ X.xe e s)
    (hdb:(x == ("__debug__" : Str))=false:=by decide) (he:starEach (e :: es) X.env=(false,eval e X.env) :: starEach es X.env:=by rfl) (hpl:(backTo cpos (starEach es X.env)).any (·.1)=false:=by rfl) :
    PXd X (.Call (.Name x p) (e :: es) [] cpos) fun E=>tCall sp [] E ta:=by
  intro pins s σ H Q E I h
  obtain ⟨f,fd,F,hm,hk,hb⟩:=Fn.ex
  refine wpAny_Call_Name_kw (ld_glob I hg hm ?_ hdb)
  refine callWith_K (h₀:=X.base) I.ok.mod.kin hk ?_ he hpl
  refine wpAny_mono (ha cpos pins s σ H _ I h) (fun us s1 q=>?_) fun e' s' z=>absurd z (hx0 e' s')
  obtain ⟨vs,H1,I1,r,q⟩:=q
  refine ⟨I1.kIn,?_⟩
  rw [List.append_nil] at q
  have hl:us.length=ps.length:=by rw [← r.length]; exact F.len _ _ _ _ q
  have bt:=hb s1 us I1.kIn (by rw [List.append_nil]; exact hl)
  rw [List.append_nil] at bt
  refine wpAny_call (codeAny_mono (F.run X.A X.stack s1 H1 ⟨us,[]⟩ us vs _ _ hr I1.env0 bt r q) fun rs s' hq=>?_)
  cases rs with
  | ok fl =>
    cases fl with
    | ret u=>exact I1.after hq
    | next=>exact False.elim hq
    | brk=>exact False.elim hq
    | cont=>exact False.elim hq
  | error e'=>exact ⟨H1,s1,I1,hq⟩
def tAtX (K:Frag) (f:Str) (te:TE):TE:=fun σ H Q=>te σ H fun x H1=>∃ a C dx v,x=.ref a∧EIs K C∧ESet K C f∧H1 a=some (.ext (excD C a dx))∧H1 dx=some (.xd [(f,v)])∧(∃ b,v=.ref b)∧Q v H1
theorem pe_atX {te:TE} {f:Str} {pos:Pos} (he:PE X e te) (hb:attributeBase e f X.env (eval e X.env)=eval e X.env:=by rfl):PE X (.Attribute e f pos) (tAtX X.K f te):=by
  intro pins s σ H Q I h
  refine attr_of hb (thn (he pins s σ H _ I h) fun u s1 ⟨x,H1,I1,rx,a,C,dx,v,ex,ei,es,ea,ed,⟨b,eb⟩,q⟩=>?_)
  subst ex eb
  cases (show u=Value.ref a from rx)
  obtain ⟨o,vs,o1,o2,o3,o4⟩:=(I1.hok a _ ea).1
  obtain ⟨mA,n1,n2⟩:=I1.hok dx _ ed
  obtain ⟨od,l1,l2⟩:=lookIn_ns n1
  have J:InstAt s1.heap a o C (some od):=⟨o1,o2,by unfold notCls; rw [o4],by rw [o3]; exact l1⟩
  have z:=n2 f
  rw [List.lookup_cons_self] at z
  have mv:mA f=some (.ref b):=by
    cases hm:mA f with
    | none=>rw [hm] at z; exact z.elim
    | some u'=>rw [hm] at z; exact congrArg some z
  exact exc_get I1.kIn J ei es (by rw [l2,mv]) rfl ⟨.ref b,H1,I1.tok _,rfl,q⟩
def rIsiXd (K:Frag):List V→Hp→VK→Prop:=fun xs H Q=>∃ a C dx c cv b,xs=[.ref a,c]∧H a=some (.ext (excD C a dx))∧EIs K C∧clsV c=some cv∧kitOne K (.ref C) cv=some b∧Q (.bl b) H
theorem call_isiXd:CallR X (.builtin "isinstance") (rIsiXd X.K):=by
  intro pins s σ H xs us Q I r h
  obtain ⟨a,C,dx,c,cv,b,rfl,ha,e,hc,hk,q⟩:=h
  obtain ⟨u,v,rfl,ru,rv⟩:=r.two
  cases (show u=Value.ref a from ru)
  have ev:v=cv:=by
    cases c with
    | ref c=>cases hc; exact rv
    | ty t=>cases hc; exact rv
    | _=>cases hc
  subst ev
  obtain ⟨o,vs,o1,o2,_⟩:=(I.hok a _ ha).1
  exact kia_one (kitx_exc e) I.kIn ⟨o,o1,o2⟩ hk (fun z=>nomatch z) fun tk=>⟨.bl b,H,I.tok tk,rfl,q⟩
end
end L2
namespace L2
open PySem PySem.Spec PyProof.Rows
section
variable {P:Program} {w:World} {K:PySem.W.Frag} {mg:Str→Option Value} {base:Heap}
theorem Fun.okXd {x qual:Str} {st:Stmt} {f:Addr} {fd:FuncData} {N ps:List Str} {k:Nat} {sp:Sp} (F:Fun K x qual st f fd) (S:FnScope N ps (defScope st)) (len:∀ vs H Q E,sp vs H Q E→vs.length=ps.length)
    (hb:∀ (cdv:Value) (A:Around) (outer:List Env) (s:Shared) (H:Hp) (vs:List V) (Q:VK) (E:XK),Room k (A.deeper (envOfC qual (defScope st) s.heap.objs.size f cdv))→sp vs H Q E →
      ∃ t,PSs (cxOf (CXd P w) P w K mg base N qual (defScope st) f cdv A outer s H E) (defBody st) t∧t { nx:=fun _ H'=>Q .non H',rt:=Q } (start N vs) H):FnOk P w K mg base (CXd P w) (k + 1) f fd ps sp:=by
  obtain ⟨oc,od,kV,doc,pm,an,cdv,ct,osl,rfl,lk,hcd⟩:=F.ex
  exact fn_of lk hcd S len fun A outer s H vs Q E hr hsp=>hb cdv A outer s H vs Q E hr hsp
theorem calleeXd {x:Str} {st:Stmt} {f:Addr} {fd:FuncData} {ps:List Str} {k:Nat} {sp:Sp} (F:Fun K x x st f fd) (hm:mg x=some (.ref f)) (hb:Binds K fd ps []) (G:FnOk P w K mg base (CXd P w) k f fd ps sp):Callee P w K mg base (CXd P w) x ps k sp:=⟨f,fd,G,hm,F.kp,hb⟩
end
end L2
namespace PD
open PySem L2
section
variable {K:PySem.W.Frag} {S S':Sx} {κ κ':Bool} {Γ Γ' Γ'':Ctx} {P:Post} {E:XK} {C:Addr} {ns:List Int}
def rgP (K:PySem.W.Frag) (C:Addr) (ns:List Int):Hp→V→Prop:=fun F v=>∃ a dx L,v=.ref a∧F a=some (.ext (excD C a dx))∧F dx=some (.xd [("ring", .ref L)])∧Dp K F (.ref L) (.list (ns.map .int))
theorem rgP.mono {F F':Hp} {v:V} (h:rgP K C ns F v) (s:Same F F'):rgP K C ns F' v:=by
  obtain ⟨a,dx,L,rfl,e1,e2,e3⟩:=h
  exact ⟨a,dx,L,rfl,s _ _ e1,s _ _ e2,dp_same s e3⟩
def RgD (K:PySem.W.Frag) (ns:List Int) (F:Hp) (dx:Addr):Prop:=∃ L,F dx=some (.xd [("ring", .ref L)])∧Dp K F (.ref L) (.list (ns.map .int))
def spRg (K:PySem.W.Frag) (pre:List PyData→List Int→Prop) (C:Addr):Sp:=fun vs H _ E=>∃ F ds ns,Same F H∧DpAll K F vs ds∧pre ds ns∧∀ H' F' dx,Gr H F H' F'→RgD K ns F' dx→E (.ref C) (some dx) H'
theorem spRg_len {pre:List PyData→List Int→Prop} {n:Nat} (h:∀ ds ns,pre ds ns→ds.length=n) {vs:List V} {H:Hp} {Q:VK} (s:spRg K pre C vs H Q E):vs.length=n:=by
  obtain ⟨F,ds,ns,_,k,p,_⟩:=s
  rw [DpAll.length k]
  exact h ds ns p
def ExR (K:PySem.W.Frag) (E:XK) (C:Addr) (ns:List Int) (t:TS) (Γ:Ctx):Prop:=∀ (H0 F0 H F:Hp) (σ:St),DEnv K .fresh H0 F0 H F σ Γ→(∀ H1 F1 dx,Gr H0 F0 H1 F1→RgD K ns F1 dx→E (.ref C) (some dx) H1)→∀ D:Ends,t D σ H
theorem exr_raise {ta:TA} (h:EvA K .fresh false ta Γ [.list (ns.map .int)]) (fw:Few ns):ExR K E C ns (tRaiseI K C E ta) Γ:=fun H0 F0 H F σ e k _ =>
  h H0 F0 H F σ e _ fun vs H1 F1 g p=>by
    cases p with
    | cons p0 p1 =>
      cases p1
      obtain ⟨r,xs,rfl,l1,l2⟩:=rp_lst p0
      cases dpAll_of_ints (rpAll_dp l2)
      refine ⟨r,ns,rfl,g.le.seq l1.sq,fw,fun L dx z1 z2 z3=>?_⟩
      have z2':upd H1 L (.lst (ns.map .int)) dx=none:=by rw [upd_ne (Ne.symm z3)]; exact z2
      have g1:=Gr.new g.le z1 (.lst (ns.map V.int))
      have g2:=Gr.new g1.le z2' (.xd [("ring", .ref L)])
      refine k _ _ dx (e.gr.trans (g.trans (g1.trans g2))) ⟨L,upd_same,.lst (SqL.of ?_) (dpAll_ints ns)⟩
      rw [upd_ne z3,upd_same]
theorem exr_seq {t u:TS} (N:Ctx→Prop) (h1:ExS K .fresh t Γ { nx:=N,rt:=fun _=>False }) (h2:∀ Γ',N Γ'→ExR K E C ns u Γ'):ExR K E C ns (tSeq t u) Γ:=fun H0 F0 H F σ e k D =>
  h1 H0 F0 H F σ F e (.refl _) (.inl rfl) _ ⟨fun Γ' σ' H' F' n _ e'=>h2 Γ' n H0 F0 H' F' σ' e' k D,fun _ _ _ _ z=>z.elim,fun _ _ _ _ z=>z.elim,fun _ _ _ _ z=>z.elim⟩
theorem exr_first {t u:TS} (h:ExR K E C ns t Γ):ExR K E C ns (tSeq t u) Γ:=fun H0 F0 H F σ e k _=>h H0 F0 H F σ e k _
theorem exr_if {c:TT} {t u:TS} {b:Bool} (hc:EvT K .fresh c Γ b) (hb:b=true) (h:ExR K E C ns t Γ):ExR K E C ns (tIfS c t u) Γ:=fun H0 F0 H F σ e k _ =>
  hc H0 F0 H F σ e _ fun H1 F1 g=>by
    subst hb
    exact iteT (h H0 F0 H1 F1 σ (e.mono g) k _)
theorem exr_while {c:TT} {tb:TS} (Iv:Nat→Ctx→Prop) (m0:Nat) (h0:Iv m0 Γ)
    (hs:∀ m Γ',Iv m Γ'→∃ b,EvT K .fresh c Γ' b∧b=true∧(ExS K .fresh tb Γ' { nx:=fun Γ''=>∃ m',m' < m∧Iv m' Γ'',rt:=fun _=>False,ct:=fun Γ''=>∃ m',m' < m∧Iv m' Γ'' }∨ExR K E C ns tb Γ')):ExR K E C ns (tWhile c tb) Γ:=fun H0 F0 H F σ e k D=>by
  refine ⟨fun m σ2 H2=>∃ Γ2 F2,Iv m Γ2∧DEnv K .fresh H0 F0 H2 F2 σ2 Γ2,⟨m0,Γ,F,h0,e⟩,?_⟩
  rintro m σ2 H2 ⟨Γ2,F2,v2,e2⟩
  obtain ⟨b,hc,hb,h1⟩:=hs m Γ2 v2
  refine hc H0 F0 H2 F2 σ2 e2 _ fun H3 F3 g3=>?_
  subst hb
  refine iteT ?_
  rcases h1 with h1 | h1
  · exact ⟨fun σ5 H5=>∃ m',m' < m∧∃ Γ5 F5,Iv m' Γ5∧DEnv K .fresh H0 F0 H5 F5 σ5 Γ5,fun _ _ z=>z,h1 H0 F0 H3 F3 σ2 F3 (e2.mono g3) (.refl _) (.inl rfl) _ ⟨fun Γ5 σ5 H5 F5 ⟨m',l,n⟩ _ e5=>⟨m',l,Γ5,F5,n,e5⟩,fun _ _ _ _ z=>z.elim,fun _ _ _ _ z=>z.elim,fun Γ5 σ5 H5 F5 ⟨m',l,n⟩ _ e5=>⟨m',l,Γ5,F5,n,e5⟩⟩⟩
  · exact ⟨fun _ _=>False,fun _ _ z=>z.elim,h1 H0 F0 H3 F3 σ2 (e2.mono g3) k _⟩
theorem run_r {t:TS} {N:List Str} {n:Nat} {H F:Hp} {vs:List V} {ds:List PyData} {D:Ends} (le:Same F H) (k:DpAll K F vs ds) (q:∀ H' F' dx,Gr H F H' F'→RgD K ns F' dx→E (.ref C) (some dx) H') (hn:N.length=n) (hΓ:StartC n ds Γ) (h:ExR K E C ns t Γ):t D (L2.start N vs) H:=by
  have e:=denv_start (N:=N) le k
  rw [hn,hΓ.eq] at e
  exact h H F H F _ e q D
theorem ex_tryD {pre:List PyData→List Int→Prop} {ta:TA} {ds:List PyData} {i j:Nat} {th:TS} (h:EvA K S false ta Γ ds) (hp:pre ds ns) (es:SetC Γ i (some (.xp (rgP K C ns))) Γ')
    (k:ExS K S th Γ' { nx:=fun Γ2=>P.nx (Γ2.set i none),rt:=P.rt,bk:=fun Γ2=>P.bk (Γ2.set i none),ct:=fun Γ2=>P.ct (Γ2.set i none),kr:=P.kr }):ExS K S (tTryD (fun E=>tCall (spRg K pre C) [] E ta) (gName j) C i th) Γ P:=fun H0 F0 H F σ B e bb _ D I =>
  h H0 F0 H F σ e _ fun vs H1 F1 g1 p1=>⟨F1,ds,ns,g1.le,by rw [List.append_nil]; exact rpAll_dp p1,hp,fun H2 F2 dx g2 ⟨L,z1,z2⟩=>⟨rfl,dx,rfl,fun a na=>by
    have g3:Gr H2 F2 (upd H2 a (.ext (excD C a dx))) (upd F2 a (.ext (excD C a dx))):=.new g2.le na _
    have g:=(g1.trans g2).trans g3
    have e3:=(e.mono g).set (i:=i) (v:=.ref a) (x:=.xp (rgP K C ns)) ⟨_,.refl _,a,dx,L,rfl,upd_same,g3.f _ _ z1,dp_same g3.f z2⟩ fun _ z=>z.elim
    rw [es.eq] at e3
    exact k H0 F0 _ _ _ B e3 (bb.trans g.f) (.inl rfl) _ ⟨fun Γ2 σ2 H4 F4 n b e4=>I.nx _ _ H4 F4 n b e4.lose,I.rt,fun Γ2 σ2 H4 F4 n b e4=>I.bk _ _ H4 F4 n b e4.lose,fun Γ2 σ2 H4 F4 n b e4=>I.ct _ _ H4 F4 n b e4.lose⟩⟩⟩
def TwR (K:PySem.W.Frag) (C:Addr) (ns:List Int) (F:Hp) (v:V):Prop:=∃ p u,v=.ref p∧F p=some (.tup [.non,u])∧rgP K C ns F u
def spAR (K:PySem.W.Frag) (pre:List PyData→List Int→Prop) (C:Addr):Sp:=fun vs H Q _=>∃ F ds ns,Same F H∧DpAll K F vs ds∧pre ds ns∧∀ v H' F',Gr H F H' F'→TwR K C ns F' v→Q v H'
theorem spAR_len {pre:List PyData→List Int→Prop} {n:Nat} (h:∀ ds ns,pre ds ns→ds.length=n) {vs:List V} {H:Hp} {Q:VK} (s:spAR K pre C vs H Q E):vs.length=n:=by
  obtain ⟨F,ds,ns,_,k,p,_⟩:=s
  rw [DpAll.length k]
  exact h ds ns p
def ExU (K:PySem.W.Frag) (C:Addr) (ns:List Int) (t:TS) (Γ:Ctx):Prop:=∀ (H0 F0 H F:Hp) (σ:St) (D:Ends),DEnv K .fresh H0 F0 H F σ Γ→(∀ v H' F',Gr H0 F0 H' F'→TwR K C ns F' v→D.rt v H')→t D σ H
theorem exu_seq {t u:TS} (N:Ctx→Prop) (h1:ExS K .fresh t Γ { nx:=N,rt:=fun _=>False }) (h2:∀ Γ',N Γ'→ExU K C ns u Γ'):ExU K C ns (tSeq t u) Γ:=fun H0 F0 H F σ D e k =>
  h1 H0 F0 H F σ F e (.refl _) (.inl rfl) _ ⟨fun Γ' σ' H' F' n _ e'=>h2 Γ' n H0 F0 H' F' σ' D e' k,fun _ _ _ _ z=>z.elim,fun _ _ _ _ z=>z.elim,fun _ _ _ _ z=>z.elim⟩
theorem exu_ret {i j:Nat} {κ:Bool} (h1:GetC Γ i (.fz κ .none)) (h2:GetC Γ j (.xp (rgP K C ns))):ExU K C ns (tRet (tTup (tCons (tVar i) (tCons (tVar j) tNil)))) Γ:=fun H0 F0 H F σ D e k=>by
  obtain ⟨v,q1,q2⟩:=e.has i _ h1.eq
  obtain ⟨u,q3,F1,s1,q4⟩:=e.has j _ h2.eq
  cases q2
  refine ⟨_,q1,u,q3,by show 2≤sizeLine; rw [sizeLine_eq]; decide,fun p hp=>?_⟩
  have g:=Gr.new e.le hp (.tup [.non,u])
  exact k _ _ _ (e.gr.trans g) ⟨p,u,rfl,upd_same,q4.mono (s1.trans g.f)⟩
theorem run_u {t:TS} {N:List Str} {n:Nat} {H F:Hp} {vs:List V} {ds:List PyData} {Q:VK} (le:Same F H) (k:DpAll K F vs ds) (q:∀ v H' F',Gr H F H' F'→TwR K C ns F' v→Q v H') (hn:N.length=n) (hΓ:StartC n ds Γ) (h:ExU K C ns t Γ):t { nx:=fun _ H'=>Q .non H',rt:=Q } (L2.start N vs) H:=by
  have e:=denv_start (N:=N) le k
  rw [hn,hΓ.eq] at e
  exact h H F H F _ _ e q
theorem ex_twR {sp:Sp} {pre:List PyData→List Int→Prop} {ta:TA} {ds:List PyData} {i j:Nat} {u:TS} {Γ1 Γ2:Ctx} (ha:EvA K S false ta Γ ds) (hp:pre ds ns) (s1:SetC Γ i (some (.fz true .none)) Γ1) (s2:SetC Γ1 j (some (.xp (rgP K C ns))) Γ2) (k:ExT K S S' u Γ2 P) :
    ExT K S S' (tSeq (tAsg (tCall (spO sp (spAR K pre C)) [] E ta) (gTup K 2 (gCons (gName i) (gCons (gName j) gNil)))) u) Γ P:=fun H0 F0 H F σ B e bb vv D I =>
  ha H0 F0 H F σ e _ fun vs H1 F1 g1 p1=>.inr ⟨F1,ds,ns,g1.le,by rw [List.append_nil]; exact rpAll_dp p1,hp,fun v H2 F2 g2 ⟨p,x,ev,z1,z2⟩=>by
    subst ev
    have g:=g1.trans g2
    refine ⟨p,_,rfl,SqT.of (g2.le _ _ z1),rfl,_,_,rfl,_,_,rfl,rfl,?_⟩
    have e1:=(e.mono g).setF (i:=i) (κ:=true) (v:=.non) (d:=.none) .non
    rw [s1.eq] at e1
    have e2:=e1.set (i:=j) (v:=x) (x:=.xp (rgP K C ns)) ⟨F2,.refl _,z2⟩ fun _ z=>z.elim
    rw [s2.eq] at e2
    exact k H0 F0 H2 F2 _ B e2 (bb.trans g.f) vv D I⟩
theorem ex_twN {te:TE} {i j:Nat} {u:TS} {Γ1 Γ2:Ctx} (h:EvC K S te Γ (.tuple [.list (ns.map .int),.none])) (s1:SetC Γ i (some (.ow true (ns.map .int))) Γ1) (s2:SetC Γ1 j (some (.fz true .none)) Γ2) (k:ExT K S S' u Γ2 P) :
    ExT K S S' (tSeq (tAsg te (gTup K 2 (gCons (gName i) (gCons (gName j) gNil)))) u) Γ P:=fun H0 F0 H F σ B e bb vv D I =>
  h H0 F0 H F σ e _ fun v H2 F2 g2 p2=>by
    obtain ⟨p,xs,rfl,t1,t2⟩:=rp_tup p2
    cases t2 with
    | cons r1 t2 =>
      cases t2 with
      | cons r2 t3 =>
        cases t3
        cases r2
        obtain ⟨a,us,rfl,hl,hk⟩:=rp_lst r1
        cases dpAll_of_ints (rpAll_dp hk)
        have h1:H a=none:=Classical.byContradiction fun z=>hl.2 z
        have g:Gr H F H2 (drop (fun c=>c=a) F2):=⟨g2.h,fun b o z=>drop_some.mpr ⟨g2.f _ _ z,by
          rintro ⟨rfl,_⟩
          have:=e.le _ _ z
          rw [h1] at this; cases this⟩,fun b o z=>g2.le _ _ (drop_some.mp z).1,fun b o z n=>by
          cases q':drop (fun c=>c=a) F2 b with
          | none=>rfl
          | some o' =>
            have:=(drop_some.mp q').1
            rw [g2.ap _ _ z n] at this; cases this⟩
        refine ⟨p,_,rfl,Same.seqT g2.le t1,rfl,_,_,rfl,_,_,rfl,rfl,?_⟩
        have own:OwnAt S H0 H2 (drop (fun c=>c=a) F2) a (ns.map V.int):=⟨g2.le _ _ hl.1,drop_none hl.1 rfl,e.gr.h.free h1,e.out h1⟩
        have e1:=(e.mono g).set (i:=i) (v:=.ref a) (x:=.ow true (ns.map .int)) ⟨a,_,rfl,own,rpAll_ints ns⟩ fun c oc j y w hj z hw o=>by
          cases (show V.ref a=.ref c from oc)
          obtain ⟨v,q1,q2⟩:=e.has j y z
          rw [hw] at q1
          cases q1
          obtain ⟨us,w1⟩:=q2.owns (o.back q2 fun _ _ z=>g.h _ _ z.h)
          have:=w1.h
          rw [h1] at this; cases this
        rw [s1.eq] at e1
        have e2:=e1.setF (i:=j) (κ:=true) (v:=.non) (d:=.none) .non
        rw [s2.eq] at e2
        exact k H0 F0 H2 _ _ B e2 (bb.trans g.f) vv D I
theorem ec_callO {pre:List PyData→PyData→Prop} {sp2:Sp} {t:TA} {ds:List PyData} {d:PyData} (h:EvA K S false t Γ ds) (hp:pre ds d):EvC K S (tCall (spO (spD K true pre) sp2) [] E t) Γ d:=fun H0 F0 H F σ e Q q =>
  h H0 F0 H F σ e _ fun vs H1 F1 g1 p1=>.inl ⟨F1,ds,d,g1.le,by rw [List.append_nil]; exact rpAll_dp p1,hp,fun v H2 F2 g2 p2=>q v H2 F2 (g1.trans g2) (rp_map (κ:=true) (κ':=true) (fun a xs z=>⟨z.1,fun c=>z.2 (by
    show H1 a≠none
    cases w:H a with
    | none=>exact absurd w c
    | some o=>rw [g1.h _ _ w]; simp)⟩) (fun _ _ z=>z) p2)⟩
def spKr (K:PySem.W.Frag) (pre:PyData→List Int→PyData→Prop) (C:Addr):Sp:=fun vs H Q _=>∃ F v0 d0 u ns d,vs=[v0,u]∧Same F H∧Dp K F v0 d0∧rgP K C ns F u∧pre d0 ns d∧∀ v H' F',Gr H F H' F'→Rp K false .fresh H F' v d→Q v H'
theorem spKr_len {pre:PyData→List Int→PyData→Prop} {vs:List V} {H:Hp} {Q:VK} (s:spKr K pre C vs H Q E):vs.length=2:=by
  obtain ⟨F,v0,d0,u,ns,d,rfl,_⟩:=s
  rfl
theorem run_kr {t:TS} {N:List Str} {n:Nat} {H F:Hp} {v0 u:V} {d0 d:PyData} {Q:VK} {Γ Γ':Ctx} (le:Same F H) (k:Dp K F v0 d0) (ku:rgP K C ns F u) (q:∀ v H' F',Gr H F H' F'→Rp K false .fresh H F' v d→Q v H') (hn:N.length=n) (h2:2≤n) (hΓ:StartC n [d0] Γ) (hs:SetC Γ 1 (some (.xp (rgP K C ns))) Γ')
    (h:ExS K .fresh t Γ' { nx:=fun _=>d=.none,rt:=fun x=>x=d,kr:=false }):t { nx:=fun _ H'=>Q .non H',rt:=Q } (L2.start N [v0,u]) H:=by
  have e0:=denv_start (N:=N) le (DpAll.cons k .nil)
  rw [hn,hΓ.eq] at e0
  have e1:=e0.set (i:=1) (v:=u) (x:=.xp (rgP K C ns)) ⟨F,.refl _,ku⟩ fun _ z=>z.elim
  rw [hs.eq] at e1
  have es:(L2.start N [v0]).set 1 (some u)=L2.start N [v0,u]:=by
    unfold L2.start
    obtain ⟨m,hm⟩:∃ m,N.length - 1=m + 1:=⟨N.length - 2,by omega⟩
    have hm':N.length - 2=m:=by omega
    show ([some v0] ++ List.replicate (N.length - 1) none).set 1 (some u)=[some v0,some u] ++ List.replicate (N.length - 2) none
    rw [hm,hm',List.replicate_succ]
    rfl
  rw [es] at e1
  exact h H F H F _ F e1 (.refl _) (.inl rfl) _ ⟨fun Γ' σ' H' F' n _ e'=>q _ _ _ e'.gr (n ▸ .non),fun x v H' F' r g p=>q v H' F' g (r ▸ p),fun _ _ _ _ z=>z.elim,fun _ _ _ _ z=>z.elim⟩
theorem ev_callKr {pre:PyData→List Int→PyData→Prop} {t0:TE} {j:Nat} {d0 d:PyData} (h:EvE K S false t0 Γ d0) (hj:GetC Γ j (.xp (rgP K C ns))) (hp:pre d0 ns d) (hi:imm d=true):EvE K S κ (tCall (spKr K pre C) [] E (tCons t0 (tCons (tVar j) tNil))) Γ d:=fun H0 F0 H F σ e Q q =>
  h H0 F0 H F σ e _ fun v0 H1 F1 g1 p1=>by
    obtain ⟨u,q3,F2,s1,q4⟩:=(e.mono g1).has j _ hj.eq
    exact ⟨u,q3,F1,v0,d0,u,ns,d,rfl,g1.le,rp_dp p1,q4.mono s1,hp,fun v H3 F3 g3 p3=>q v H3 F3 (g1.trans g3) (dp_imm hi (rp_dp p3))⟩
theorem ev_isxP {i:Nat} {c:V} {cv:Value} {b:Bool} (h:GetC Γ i (.xp (rgP K C ns))) (he:EIs K C) (hc:clsV c=some cv) (hk:PySem.W.kitOne K (.ref C) cv=some b):EvE K S κ (tCB (rIsiXd K) (tCons (tVar i) (tCons (tC c) tNil))) Γ (.bool b):=fun H0 F0 H F σ e Q q=>by
  obtain ⟨u,q1,F1,s1,a,dx,L,rfl,z1,z2,z3⟩:=e.has i _ h.eq
  exact ⟨_,q1,a,C,dx,c,cv,b,rfl,e.le _ _ (s1 _ _ z1),he,hc,hk,q _ H F (.refl e.le) (.bl b)⟩
theorem ev_ringP {i:Nat} (h:GetC Γ i (.xp (rgP K C ns))) (he:EIs K C) (hs:ESet K C "ring"):EvE K S false (tAtX K "ring" (tVar i)) Γ (.list (ns.map .int)):=fun H0 F0 H F σ e Q q=>by
  obtain ⟨u,q1,F1,s1,a,dx,L,rfl,z1,z2,z3⟩:=e.has i _ h.eq
  exact ⟨_,q1,a,C,dx,.ref L,rfl,he,hs,e.le _ _ (s1 _ _ z1),e.le _ _ (s1 _ _ z2),⟨L,rfl⟩,q _ H F (.refl e.le) (dp_rp (dp_same s1 z3))⟩
theorem exxp1 {i j:Nat} {ψ:Hp→V→Prop} (h:GetC Γ j (.xp ψ)) (es:SetC Γ i (some (.xp ψ)) Γ') (k:P.nx Γ'):ExS K S (tAsg (tVar j) (gName i)) Γ P:=fun H0 F0 H F σ B e b _ D I=>by
  obtain ⟨v,q1,F1,s1,hf⟩:=e.has j _ h.eq
  have e1:=e.set (i:=i) (v:=v) (x:=.xp ψ) ⟨F1,s1,hf⟩ fun _ z=>z.elim
  rw [es.eq] at e1
  exact ⟨v,q1,I.nx _ _ H F k b e1⟩
theorem ev_noneP {i:Nat} (h:GetC Γ i (.xp (rgP K C ns))):EvE K S κ (tOp (fun x y H Q=>y=.non∧Q (.bl (decide (x=.non))) H) (tVar i) (tC .non)) Γ (.bool false):=fun H0 F0 H F σ e Q q=>by
  obtain ⟨u,q1,F1,s1,a,dx,L,rfl,_⟩:=e.has i _ h.eq
  exact ⟨_,q1,rfl,q _ H F (.refl e.le) (.bl false)⟩
theorem rows_dropR {H0 F:Hp} {a c:Addr} {us:List V} (ha:F a=some (.lst us)) (hc:V.ref c∈us):∀ {vs:List V} {xs:List PyData},Rows xs→RpAll K true S H0 F vs xs→RpAll K true S H0 (drop (fun c=>c=a) F) vs xs
  | _,_,_,.nil=>.nil
  | v :: vs,d :: xs,hr,.cons h k=>by
    refine .cons ?_ (rows_dropR ha hc (fun d hd=>hr d (List.mem_cons_of_mem _ hd)) k)
    obtain ⟨ns,rfl⟩:=hr d List.mem_cons_self
    obtain ⟨b,ws,rfl,hl,hk⟩:=rp_lst h
    refine .lst ⟨drop_some.mpr ⟨hl.1,?_⟩,hl.2⟩ (imm_drop (fun d hd=>by obtain ⟨i,_,rfl⟩:=List.mem_map.mp hd; rfl) (rpAll_dp hk))
    rintro ⟨rfl,_⟩
    have e:=hl.1
    rw [ha] at e
    cases e
    cases dpAll_of_ints (rpAll_dp hk)
    obtain ⟨i,_,z⟩:=List.mem_map.mp hc
    cases z
theorem evo_thawR (i:Nat) {κ0:Bool} {t:TE} {xs ds0:List PyData} {Γf:Ctx} (h:GetC Γ i (.ow κ0 ds0)) (es:SetC Γ i (some (.fz κ0 (.list ds0))) Γf) (k:EvO K S true t Γf xs) (hx:Rows xs) (h0:Rows ds0) (hne:ds0=[]→xs=[]):EvO K S true t Γ xs:=fun H0 F0 H F σ e Q q=>by
  obtain ⟨v,q1,a,vs0,rfl,w,q5⟩:=e.has i _ h.eq
  obtain ⟨s,e'⟩:=e.froz (y:=.fz κ0 (.list ds0)) h.eq q1 rfl w (.lst (LN.new w.s) (rpAll_mono (Same.new w.f _) q5)) fun _ z=>z.elim
  rw [es.eq] at e'
  have g:∀ H' F',Gr H (upd F a (.lst vs0)) H' F'→Gr H F H' (drop (fun c=>c=a) F'):=fun H' F' g=>by
    refine ⟨g.h,fun c o z=>drop_some.mpr ⟨g.f _ _ (s _ _ z),?_⟩,fun c o z=>g.le _ _ (drop_some.mp z).1,fun c o z n=>?_⟩
    · rintro ⟨rfl,_⟩
      rw [w.f] at z; cases z
    · by_cases hc:c=a
      · subst hc
        exact drop_none (g.f _ _ upd_same) rfl
      · cases q':drop (fun c=>c=a) F' c with
        | none=>rfl
        | some o' =>
          have:=(drop_some.mp q').1
          rw [g.ap _ _ z (by rw [upd_ne hc]; exact n)] at this; cases this
  refine k H0 F0 H _ σ e' Q fun b vs H' F' g' n p f q'=>q b vs H' _ (g H' F' g') n p ?_ ?_
  · cases z:drop (fun c=>c=a) F' b with
    | none=>rfl
    | some o=>rw [(drop_some.mp z).1] at f; cases f
  · cases q5 with
    | nil =>
      rw [hne rfl] at q' ⊢
      cases q'
      exact .nil
    | cons r1 r2 =>
      obtain ⟨ns,rfl⟩:=h0 _ List.mem_cons_self
      obtain ⟨c,_,rfl,_⟩:=rp_lst r1
      exact rows_dropR (g'.f _ _ upd_same) List.mem_cons_self hx q'
end
end PD
open PySem L2 PD
local macro_rules | `(tactic| walk_at "comp_ok")=>`(tactic| (refine CompOk.of (by with_unfolding_all rfl) (by decide +kernel) rfl (by decide +kernel) ?_ (by with_unfolding_all rfl) rfl (by with_unfolding_all rfl); (repeat (with_unfolding_all refine List.forall_mem_cons.mpr ⟨by with_unfolding_all rfl,?_⟩)); exact List.forall_mem_nil _))
local macro_rules | `(tactic| walk_at "comp_okC")=>`(tactic| (refine CompOkC.of (by with_unfolding_all rfl) (fun _ _=>by with_unfolding_all rfl) (by decide +kernel) rfl rfl rfl (by decide +kernel) ?_ (by with_unfolding_all rfl) rfl (by with_unfolding_all rfl); (repeat (with_unfolding_all refine List.forall_mem_cons.mpr ⟨by with_unfolding_all rfl,?_⟩)); exact List.forall_mem_nil _))
local macro_rules | `(tactic| walk_at "comp_lam")=>`(tactic| exact CompOk.lam (by assumption) (by decide +kernel) rfl (by decide +kernel) (by decide +kernel) rfl (by with_unfolding_all rfl))
local macro_rules | `(tactic| walk_at "gc")=>`(tactic| ((repeat ((with_reducible apply GetC.succ))) ; (with_reducible exact GetC.zero)))
local macro_rules | `(tactic| walk_at "sc")=>`(tactic| ((repeat ((with_reducible apply SetC.succ))) ; (with_reducible exact SetC.zero)))
local macro_rules | `(tactic| walk_at "st")=>`(tactic| ((repeat (first | (with_reducible apply StartC.got) | ((with_reducible apply StartC.no)))) ; (with_reducible exact StartC.z)))
local macro_rules | `(tactic| walk_at "cc")=>`(tactic| ((repeat (first | (with_reducible apply CaptC.no) | ((with_reducible apply CaptC.got) ; focus walk_at "gc"))); (with_reducible exact CaptC.nil)))
local macro_rules | `(tactic| walk_at "mk")=>`(tactic| ((repeat (first | ((with_reducible apply MarkC.got); focus (first | exact MkD.fz | exact MkD.ow | exact MkD.im rfl | exact MkD.ox)) | (with_reducible apply MarkC.no))); (with_reducible exact MarkC.nil)))
local macro_rules | `(tactic| walk_at "sp")=>`(tactic| ((repeat (first | ((with_reducible apply SpC.got); focus (first | exact SpD.fz | exact SpD.ow | exact SpD.im rfl | exact SpD.ox | exact SpD.tn)) | (with_reducible apply SpC.no))); (with_reducible exact SpC.nil)))
local macro_rules | `(tactic| walk_at "sd")=>`(tactic| first | ((with_reducible apply asm) ; assumption) | decide | omega | skip)
local macro_rules | `(tactic| walk_at "ln")=>`(tactic| (simp only [List.length_cons,List.length_nil]; decide))
local macro_rules | `(tactic| walk_at "ev")=>`(tactic| first
  | (with_reducible exact ev_int)
  | (with_reducible exact ev_non)
  | (with_reducible exact ev_bl)
  | (with_reducible exact ev_str)
  | (with_reducible exact et_yes)
  | (with_reducible exact ea_nil)
  | (with_reducible exact ep_none)
  | ((with_reducible apply asm) ; (with_reducible assumption))
  | ((with_reducible apply evv) ; walk_at "gc"; decide)
  | ((with_reducible apply evi) ; walk_at "gc"; rfl)
  | ((with_reducible apply evtn) ; walk_at "gc"; done)
  | ((with_reducible apply evw) ; walk_at "gc"; decide)
  | ((with_reducible apply ev_add) <;> walk_at "ev")
  | ((with_reducible apply ev_sub) <;> walk_at "ev")
  | ((with_reducible apply ev_lt) <;> walk_at "ev")
  | ((with_reducible apply ev_le) <;> walk_at "ev")
  | ((with_reducible apply ev_gt) <;> walk_at "ev")
  | ((with_reducible apply ev_ge) <;> walk_at "ev")
  | ((with_reducible apply ev_mul) <;> walk_at "ev")
  | ((with_reducible apply ev_fdiv) <;> walk_at "ev")
  | ((with_reducible apply ev_fdivB) <;> walk_at "ev")
  | ((with_reducible apply ev_mod) <;> walk_at "ev")
  | ((with_reducible apply ev_pow) <;> walk_at "ev")
  | ((with_reducible apply ev_neg) <;> walk_at "ev")
  | ((with_reducible refine' ev_isN (EvE.toD (κ:=false) ?_)) <;> walk_at "ev")
  | ((with_reducible refine' ev_notN (EvE.toD (κ:=false) ?_)) <;> walk_at "ev")
  | ((with_reducible apply ev_ixL) <;> walk_at "ev")
  | ((with_reducible apply ev_ixT) <;> walk_at "ev")
  | ((with_reducible apply ev_eqI) <;> walk_at "ev" <;> done)
  | ((with_reducible apply ev_neI) <;> walk_at "ev" <;> done)
  | ((with_reducible apply ev_eqB) <;> walk_at "ev" <;> done)
  | ((with_reducible apply ev_neB) <;> walk_at "ev" <;> done)
  | ((with_reducible apply ev_eqS) <;> walk_at "ev" <;> done)
  | ((with_reducible apply ev_neS) <;> walk_at "ev" <;> done)
  | ((with_reducible apply ev_and) <;> (try (with_reducible intro _)) <;> walk_at "ev")
  | ((with_reducible apply ev_or) <;> (try (with_reducible intro _)) <;> walk_at "ev")
  | ((with_reducible apply ev_not) <;> walk_at "ev")
  | ((with_reducible apply et_test) <;> walk_at "ev")
  | ((with_reducible apply et_B) <;> walk_at "ev")
  | ((with_reducible apply et_and) <;> (try (with_reducible intro _)) <;> walk_at "ev")
  | ((with_reducible apply et_or) <;> (try (with_reducible intro _)) <;> walk_at "ev")
  | ((with_reducible apply et_not) <;> walk_at "ev")
  | ((with_reducible apply ea_cons) <;> walk_at "ev")
  | ((with_reducible apply ev_tup) <;> walk_at "ev")
  | ((with_reducible apply EvO.toE) ; ((with_reducible apply evo_lst)) <;> walk_at "ev")
  | ((with_reducible apply evo_lst) <;> walk_at "ev")
  | ((with_reducible apply ev_len) <;> walk_at "ev" <;> done)
  | ((with_reducible apply ev_lenT) <;> walk_at "ev")
  | ((with_reducible apply EvO.toE) ; ((with_reducible apply evo_list)) <;> walk_at "ev")
  | ((with_reducible apply evo_list) <;> walk_at "ev")
  | ((with_reducible apply ev_abs) <;> walk_at "ev")
  | ((with_reducible apply ep_some) <;> walk_at "ev")
  | ((with_reducible apply EvO.toE) ; ((with_reducible apply evo_slice)) <;> walk_at "ev")
  | ((with_reducible apply evo_slice) <;> walk_at "ev")
  | ((with_reducible apply EvO.toE) ; ((with_reducible apply evo_cat)) <;> walk_at "ev")
  | ((with_reducible apply evo_cat) <;> walk_at "ev")
  | ((with_reducible apply EvO.toE) ; ((with_reducible apply evo_rep)) <;> walk_at "ev")
  | ((with_reducible apply evo_rep) <;> walk_at "ev")
  | ((with_reducible apply EvO.toE) ; ((with_reducible apply evo_listRev)) <;> walk_at "ev")
  | ((with_reducible apply evo_listRev) <;> walk_at "ev")
  | ((with_reducible refine' ev_isi (EvE.toD (κ:=false) ?_) ?_) <;> walk_at "ev")
  | ((with_reducible apply ev_callF) <;> walk_at "ev")
  | ((with_reducible apply ev_callN) <;> walk_at "ev")
  | ((with_reducible apply evl_ints) ; walk_at "ev"; done)
  | ((with_reducible apply evl_opts) ; walk_at "ev"; done)
  | ((with_reducible apply EvE.toL) ; walk_at "ev"; done)
  | ((with_reducible apply EvO.toL) ; walk_at "ev"; done)
  | (with_reducible apply isE)
  | (with_reducible apply isL)
  | (with_reducible apply isT)
  | (with_reducible apply isA)
  | (with_reducible apply isO)
  | (with_reducible apply isD)
  | (with_reducible apply isI)
  | (with_reducible exact atI0)
  | (with_reducible exact atI1)
  | ((with_reducible apply asm) ; (with_reducible assumption))
  | ((with_reducible apply kit_of) ; with_unfolding_all rfl)
  | (simp only [List.length_cons,List.length_nil]; decide)
  | decide
  | omega
  | skip)
local macro_rules | `(tactic| walk_at "go")=>`(tactic| repeat (first
  | ((with_reducible apply exo (te:=tLst tNil) true) ; (focus (walk_at "ev"; done)); (focus walk_at "sc"))
  | ((with_reducible apply exs true) ; (focus (walk_at "ev"; done)); (focus walk_at "sc"))
  | ((with_reducible apply exs false) ; (focus (walk_at "ev"; done)); (focus walk_at "sc"))
  | ((with_reducible apply exa) ; (focus walk_at "gc"); (focus (walk_at "ev"; done)); (focus walk_at "sc"); (focus (walk_at "sd"; done)))
  | (with_reducible apply exn)))
local macro_rules | `(tactic| walk_at "run")=>`(tactic| (apply run_def; assumption; assumption; assumption; assumption; focus walk_at "st"))
local macro_rules | `(tactic| walk_at "ot")=>`(tactic| first | exact oneT_of (Nat.le_refl 1) | exact oneT_of (Nat.zero_le 1))
local macro_rules | `(tactic| walk_at "sv")=>`(tactic| ((repeat (first | (with_reducible apply StartV.got) | ((with_reducible apply StartV.no)))) ; (with_reducible exact StartV.z)))
local macro_rules | `(tactic| walk_at "runv")=>`(tactic| (apply run_defV; assumption; assumption; assumption; assumption; focus walk_at "sv"))
namespace K11
open PySem L2 PD Cm
def top (i:Nat):Stmt:=PySem.Challenge.pw_causebook_k11_order.main.body.getD i (.Pass ⟨0,0,0,0⟩)
def meth (i:Nat):Stmt:=match top i with | .ClassDef _ _ _ b _ _ _ _ _ _ _=>b.getD 0 (.Pass ⟨0,0,0,0⟩) | z=>z
structure Bs (mg:Str→Option Value):Prop where
  len:mg "len" = none
  set:mg "set" = none
  list:mg "list" = none
  range:mg "range" = none
  reversed:mg "reversed" = none
  min:mg "min" = none
  sorted:mg "sorted" = none
  isinstance:mg "isinstance" = none
  all:mg "all" = none
  int:mg "int" = none
  bool:mg "bool" = none
  ValueError:mg "ValueError" = none
  max:mg "max" = none
structure Cs (K:PySem.W.Frag) (mg:Str→Option Value) (C_BookError C_NoBook C_Ring:Addr) (f_Ring:Addr) (g_Ring:FuncData):Prop where
  n_BookError:mg "BookError" = some (.ref C_BookError)
  n_NoBook:mg "NoBook" = some (.ref C_NoBook)
  n_Ring:mg "Ring" = some (.ref C_Ring)
  i_Ring:EIs K C_Ring
  m_Ring_BookError:PySem.W.mroIn K C_Ring (.ref C_BookError)=some true
  b_BookError:PySem.W.mroIn K C_BookError (.type "BaseException")=some true
  t_BookError:PySem.W.typeIn K (.ref C_BookError)=some (.type "type")
  k_Ring_Ring:PySem.W.kitOne K (.ref C_Ring) (.ref C_Ring)=some true
  k_Ring_ValueError:PySem.W.kitOne K (.ref C_Ring) (.type "ValueError")=some true
  k_Ring_NoBook:PySem.W.kitOne K (.ref C_Ring) (.ref C_NoBook)=some false
  r_Ring:RCl K C_Ring f_Ring
  p_Ring:PySem.W.keepIn K (.ref C_Ring)=true
  u_BookError:BIn K C_BookError
  F_Ring:Fun K "__init__" "Ring.__init__" (meth 3) f_Ring g_Ring
  d_Ring:Binds K g_Ring ["self", "ring"] []
  o_Ring:∃ oI,K.lookup f_Ring=some oI∧oI.cls=.type "function"
section
variable {P:Program} {w:World} {K:PySem.W.Frag} {mg:Str→Option Value} {base:Heap} {f:Addr} {fd:FuncData} {C_BookError C_NoBook C_Ring:Addr} {f_Ring:Addr} {g_Ring:FuncData}
seal PE PA PS PSs PT PG PI

theorem line_big:200000 < sizeLine:=by decide
abbrev nl (ks:List Nat):PyData:=.list (ks.map fun k:Nat=>.int (k:Int))
abbrev nls (cs:List (List Nat)):PyData:=.list (cs.map nl)
def zl (ks:List Nat):List Int:=ks.map fun k:Nat=>(k:Int)
theorem nl_zl (ks:List Nat):nl ks=il (zl ks):=by
  unfold zl
  show PyData.list _=.list _
  rw [List.map_map]
  rfl
theorem zl_back (ks:List Nat):(srt (zl ks))=zl ((srt (zl ks)).map Int.toNat):=by
  unfold zl
  rw [List.map_map]
  refine ((List.map_congr_left fun x hx=>?_).trans (List.map_id _)).symm
  obtain ⟨k,_,rfl⟩:=List.mem_map.mp ((srt_perm _).mem_iff.mp hx)
  rfl
def srtN (cs:List Nat):List Nat:=(srt (zl cs)).map Int.toNat
theorem srtN_perm (cs:List Nat):(srtN cs).Perm cs:=by
  have pr:(zl (srtN cs)).Perm (zl cs):=by
    unfold srtN
    rw [← zl_back]
    exact srt_perm _
  have:=pr.map Int.toNat
  unfold zl at this
  rw [List.map_map,List.map_map] at this
  have e:(Int.toNat∘fun k:Nat=>(k:Int))=id:=by funext k; rfl
  rw [e,List.map_id,List.map_id] at this
  exact this
theorem srtN_rise {cs:List Nat} (h:cs.Nodup):(srtN cs).Pairwise (· < ·):=by
  have h1:(srtN cs).Nodup:=(srtN_perm cs).nodup_iff.mpr h
  have h2:(srtN cs).Pairwise (·≤·):=by
    have:=srt_sorted (zl cs)
    unfold srtN
    rw [List.pairwise_map]
    refine this.imp fun {a b} hab=>?_
    omega
  rw [List.nodup_iff_pairwise_ne] at h1
  exact (h1.and h2).imp fun {a b} z=>by omega
theorem cut_map {α:Type} (g:α→PyData) (xs:List α) (k:Nat):cutD (xs.map g) none (some (k:Int))=(xs.take k).map g:=by
  unfold cutD
  rw [HT.sIx_nat]
  show ((xs.map g).drop 0).take (min k (xs.map g).length - 0)=_
  rw [List.drop_zero,Nat.sub_zero,List.length_map,← List.map_take]
  congr 1
  rcases Nat.le_total k xs.length with h | h
  · rw [Nat.min_eq_left h]
  · rw [Nat.min_eq_right h,List.take_of_length_le (Nat.le_refl _),List.take_of_length_le h]
theorem getD_some {α:Type} {l:List α} {k:Nat} {d:α} (h:k < l.length):l[k]?=some (l.getD k d):=by
  rw [List.getD_eq_getElem?_getD,List.getElem?_eq_getElem h]
  rfl
def unN:PyData→List Nat
  | .list ds=>ds.map fun d=>match d with | .int i=>i.toNat | _=>0
  | _=>[]
theorem unN_nl (cs:List Nat):unN (nl cs)=cs:=by
  show (cs.map fun k:Nat=>PyData.int (k:Int)).map _=cs
  rw [List.map_map]
  exact List.map_id' _
def kD (ks:List Nat):List PyData:=ks.map fun k:Nat=>.int (k:Int)
theorem kD_len (ks:List Nat):(kD ks).length=ks.length:=List.length_map ..
theorem srt_zl (ks:List Nat):(srt (zl ks)).map PyData.int=kD (srtN ks):=by
  have:=zl_back ks
  have e:(srt (zl ks)).map PyData.int=(zl (srtN ks)).map PyData.int:=congrArg (List.map PyData.int) this
  rw [e]
  show (List.map _ (srtN ks)).map PyData.int=_
  rw [List.map_map]
  rfl
theorem at_ints {ns:List Int} {k:Nat} (h:k < ns.length):atI (ns.map PyData.int) (k:Int)=some (.int (ns.getD k 0)):=by
  rw [List.getD_eq_getElem?_getD,List.getElem?_eq_getElem h]
  exact atI_map (List.getElem?_eq_getElem h)
theorem dd_id {ns:List Int} (h:ns.Nodup):dd ns=ns:=by
  suffices z:∀ n,dd (ns.take n)=ns.take n by simpa using z ns.length
  intro n
  induction n with
  | zero=>rfl
  | succ n ih =>
    by_cases hn:n < ns.length
    · have e:ns.take (n + 1)=ns.take n ++ [ns[n]]:=by rw [List.take_succ,List.getElem?_eq_getElem hn]; rfl
      rw [e,dd_snoc,ih]
      unfold PyProof.Rows.step_dedup
      refine if_neg fun z=>?_
      obtain ⟨x,hx,ex⟩:=List.any_eq_true.mp z
      have ex:=eq_of_beq ex
      subst ex
      have hh:=h.sublist (List.take_sublist (n + 1) ns)
      rw [e,List.nodup_append] at hh
      exact hh.2.2 _ hx _ (List.mem_singleton.mpr rfl) rfl
    · have e1:ns.take (n + 1)=ns.take n:=by rw [List.take_of_length_le (by omega),List.take_of_length_le (by omega)]
      rw [e1]
      exact ih
theorem shaped_nls (cs:List (List Nat)):SeqAt.shaped (nls cs)=true:=shaped_of (lay_map (g:=nl) (fun k=>lay_map (g:=fun k:Nat=>PyData.int (k:Int)) (fun _=>rfl) k) cs) (by
  have:=depth_map (g:=nl) (n:=1) (fun k=>by
    have:=depth_map (g:=fun k:Nat=>PyData.int (k:Int)) (n:=0) (fun _=>Nat.le_refl _) k
    show PyData.depthAll _ + 1≤1
    omega) cs
  show PyData.depthAll _ + 1≤50
  omega)
theorem rm_mem {k:Int} {ns:List Int} {x:Int} (h:x∈rm k ns):x∈ns:=by
  rcases List.mem_append.mp h with h | h
  · exact List.mem_of_mem_take h
  · exact List.mem_of_mem_drop h
theorem rm_len {k:Int} {ns:List Int} (h:k∈ns):(rm k ns).length + 1=ns.length:=by
  have:=List.idxOf_lt_length_iff.mpr h
  unfold rm
  rw [List.length_append,List.length_take,List.length_drop]
  omega
theorem rm_perm {k:Int} {ns:List Int} (h:k∈ns):ns.Perm (k :: rm k ns):=by
  have hl:=List.idxOf_lt_length_iff.mpr h
  have e:ns=ns.take (ns.idxOf k) ++ k :: ns.drop (ns.idxOf k + 1):=by
    have z:=List.take_append_drop (ns.idxOf k) ns
    rw [List.drop_eq_getElem_cons hl,List.getElem_idxOf hl] at z
    exact z.symm
  unfold rm
  exact (List.Perm.of_eq e).trans List.perm_middle
theorem rm_sub {k:Int} {ns:List Int}:(rm k ns).Sublist ns:=by
  have z:=List.take_append_drop (ns.idxOf k) ns
  have s:(ns.drop (ns.idxOf k + 1)).Sublist (ns.drop (ns.idxOf k)):=by
    rw [← List.drop_drop]
    exact List.drop_sublist _ _
  have:=List.Sublist.append (List.Sublist.refl (ns.take (ns.idxOf k))) s
  rw [z] at this
  exact this
def rdP (cs:List (List Nat)) (ns:List Int) (x:Int):Bool:=!((zl (cs.getD x.toNat [])).any fun c=>decide (c∈ns))
theorem rdP_no {cs:List (List Nat)} {ns:List Int} {x:Int} (h:rdP cs ns x=false):∃ c,c∈zl (cs.getD x.toNat [])∧c∈ns:=by
  unfold rdP at h
  rw [Bool.not_eq_false',List.any_eq_true] at h
  obtain ⟨c,h1,h2⟩:=h
  exact ⟨c,h1,of_decide_eq_true h2⟩
theorem rdP_yes {cs:List (List Nat)} {ns:List Int} {x:Int} (h:rdP cs ns x=true):∀ c∈zl (cs.getD x.toNat []),c∉ns:=fun c hc hn=>by
  unfold rdP at h
  rw [Bool.not_eq_true',List.any_eq_false] at h
  exact h c hc (decide_eq_true hn)
def grd (cs:List (List Nat)):Nat→List Int→Option (List Int)
  | 0,_=>some []
  | m + 1,L=>match L.filter (rdP cs L) with
    | []=>none
    | x :: _=>(grd cs m (rm x L)).map (x :: ·)
def stF (cs:List (List Nat)):Nat→List Int→List Int
  | 0,L=>L
  | m + 1,L=>match L.filter (rdP cs L) with
    | []=>L
    | x :: _=>stF cs m (rm x L)
theorem grd_cons {cs:List (List Nat)} {m:Nat} {L r:List Int} {x:Int} (h:L.filter (rdP cs L)=x :: r):grd cs (m + 1) L=(grd cs m (rm x L)).map (x :: ·):=by
  conv=>lhs; unfold grd
  rw [h]
theorem grd_nil {cs:List (List Nat)} {m:Nat} {L:List Int} (h:L.filter (rdP cs L)=[]):grd cs (m + 1) L=none:=by
  unfold grd
  rw [h]
theorem stF_cons {cs:List (List Nat)} {m:Nat} {L r:List Int} {x:Int} (h:L.filter (rdP cs L)=x :: r):stF cs (m + 1) L=stF cs m (rm x L):=by
  conv=>lhs; unfold stF
  rw [h]
theorem stF_nil {cs:List (List Nat)} {m:Nat} {L:List Int} (h:L.filter (rdP cs L)=[]):stF cs (m + 1) L=L:=by
  conv=>lhs; unfold stF
  rw [h]
theorem first_least {p:Int→Bool} {L r:List Int} {x:Int} (hs:L.Pairwise (· < ·)) (h:L.filter p=x :: r):x∈L∧p x=true∧∀ k∈L,k < x→p k=false:=by
  have hx:x∈L.filter p:=by rw [h]; exact List.mem_cons_self
  refine ⟨(List.mem_filter.mp hx).1,(List.mem_filter.mp hx).2,fun k hk hlt=>?_⟩
  cases c:p k with
  | false=>rfl
  | true =>
    have hm:k∈L.filter p:=List.mem_filter.mpr ⟨hk,c⟩
    have hp:=hs.filter p
    rw [h] at hm hp
    rcases List.mem_cons.mp hm with rfl | z
    · omega
    · have:=(List.pairwise_cons.mp hp).1 k z
      omega
def OG (cs:List (List Nat)) (L f:List Int):Prop:=f.Perm L∧∀ a y b,f=a ++ y :: b→(∀ c∈zl (cs.getD y.toNat []),c∈L→c∈a)∧∀ k∈b,k < y→∃ c,c∈zl (cs.getD k.toNat [])∧c∈L∧c∉a
theorem nd_lt {L:List Int} (hs:L.Pairwise (· < ·)):L.Nodup:=hs.imp fun h e=>by rw [e] at h; exact absurd h (Int.lt_irrefl _)
theorem grd_good {cs:List (List Nat)}:∀ (m:Nat) {L f:List Int},L.length=m→L.Pairwise (· < ·)→grd cs m L=some f→OG cs L f
  | 0,L,f,hl,hs,h=>by
    obtain rfl:f=[]:=(Option.some.inj h).symm
    obtain rfl:L=[]:=List.length_eq_zero_iff.mp hl
    exact ⟨.nil,fun a y b e=>by cases a <;> cases e⟩
  | m + 1,L,f,hl,hs,h=>by
    cases e:L.filter (rdP cs L) with
    | nil=>rw [grd_nil e] at h; cases h
    | cons x r =>
      rw [grd_cons e] at h
      obtain ⟨f',h1,rfl⟩:=Option.map_eq_some_iff.mp h
      obtain ⟨xm,xr,xl⟩:=first_least hs e
      have rl:=rm_len xm
      have rp:=rm_perm xm
      obtain ⟨pm,ih⟩:=grd_good m (L:=rm x L) (by omega) (hs.sublist rm_sub) h1
      have nd:=nd_lt hs
      have nx:x∉rm x L:=(List.nodup_cons.mp (rp.nodup_iff.mp nd)).1
      refine ⟨((List.perm_cons x).mpr pm).trans rp.symm,fun a y b ef=>?_⟩
      cases a with
      | nil =>
        cases ef
        refine ⟨fun c hc hcL=>absurd hcL (rdP_yes xr c hc),fun k hk hlt=>?_⟩
        have kL:k∈L:=rm_mem (pm.mem_iff.mp hk)
        obtain ⟨c,c1,c2⟩:=rdP_no (xl k kL hlt)
        exact ⟨c,c1,c2,fun z=>by cases z⟩
      | cons x' a =>
        cases ef
        obtain ⟨i1,i2⟩:=ih a y b rfl
        refine ⟨fun c hc hcL=>?_,fun k hk hlt=>?_⟩
        · rcases List.mem_cons.mp (rp.mem_iff.mp hcL) with z | z
          · rw [z]; exact List.mem_cons_self
          · exact List.mem_cons_of_mem _ (i1 c hc z)
        · obtain ⟨c,c1,c2,c3⟩:=i2 k hk hlt
          refine ⟨c,c1,rm_mem c2,fun z=>?_⟩
          rcases List.mem_cons.mp z with z | z
          · rw [z] at c2; exact nx c2
          · exact c3 z
structure Stk (cs:List (List Nat)) (L S:List Int):Prop where
  ne:S≠[]
  sb:S.Sublist L
  h:∀ k∈S,∃ c,c∈zl (cs.getD k.toNat [])∧c∈S
theorem grd_stuck {cs:List (List Nat)}:∀ (m:Nat) {L:List Int},L.length=m→grd cs m L=none→Stk cs L (stF cs m L)
  | 0,L,hl,h=>by cases h
  | m + 1,L,hl,h=>by
    cases e:L.filter (rdP cs L) with
    | nil =>
      rw [stF_nil e]
      refine ⟨fun z=>(by rw [z] at hl; cases hl),List.Sublist.refl _,fun k hk=>rdP_no ?_⟩
      cases c:rdP cs L k with
      | false=>rfl
      | true =>
        have:k∈L.filter (rdP cs L):=List.mem_filter.mpr ⟨hk,c⟩
        rw [e] at this; cases this
    | cons x r =>
      rw [grd_cons e] at h
      have xm:x∈L:=(List.mem_filter.mp (by rw [e]; exact List.mem_cons_self)).1
      have rl:=rm_len xm
      obtain ⟨h1,h2,h3⟩:=grd_stuck m (L:=rm x L) (by omega) (Option.map_eq_none_iff.mp h)
      rw [stF_cons e]
      exact ⟨h1,h2.trans rm_sub,h3⟩
def wtF (cs:List (List Nat)) (S:List Int) (k:Int):List Int:=(zl (cs.getD k.toNat [])).filter fun c=>decide (c∈S)
def lstD (tr:List Int):Int:=tr.getD (tr.length - 1) 0
def trF (cs:List (List Nat)) (S:List Int):Nat→List Int→List Int
  | 0,tr=>tr
  | m + 1,tr=>if (wtF cs S (lstD tr)).getD 0 0∈tr then tr.drop (tr.idxOf ((wtF cs S (lstD tr)).getD 0 0)) else trF cs S m (tr ++ [(wtF cs S (lstD tr)).getD 0 0])
def lsF (r:List Int):List Int:=r.drop (r.idxOf (mnL r)) ++ r.take (r.idxOf (mnL r))
def ringF (cs:List (List Nat)) (S:List Int):List Int:=lsF (trF cs S 14 [S.getD 0 0]).reverse
def Ch (cs:List (List Nat)):List Int→Prop
  | a :: b :: l=>a∈zl (cs.getD b.toNat [])∧Ch cs (b :: l)
  | _=>True
theorem Ch.tail {cs:List (List Nat)} {a:Int} {l:List Int} (h:Ch cs (a :: l)):Ch cs l:=by
  cases l with
  | nil=>trivial
  | cons b l=>exact h.2
theorem Ch.app {cs:List (List Nat)}:∀ {u v:List Int},Ch cs u→Ch cs v→(∀ x y,u.getLast?=some x→v.head?=some y→x∈zl (cs.getD y.toNat []))→Ch cs (u ++ v)
  | [],_,_,hv,_=>hv
  | [a],v,_,hv,hc=>by
    cases v with
    | nil=>trivial
    | cons b v=>exact ⟨hc a b rfl rfl,hv⟩
  | a :: b :: u,v,hu,hv,hc=>⟨hu.1,Ch.app (u:=b :: u) hu.2 hv fun x y hx hy=>hc x y (by rw [List.getLast?_cons_cons]; exact hx) hy⟩
theorem Ch.left {cs:List (List Nat)}:∀ {u v:List Int},Ch cs (u ++ v)→Ch cs u
  | [],_,_=>trivial
  | [a],_,_=>trivial
  | a :: b :: u,v,h=>⟨h.1,Ch.left (u:=b :: u) h.2⟩
theorem Ch.right {cs:List (List Nat)}:∀ {u v:List Int},Ch cs (u ++ v)→Ch cs v
  | [],_,h=>h
  | a :: u,v,h=>Ch.right (u:=u) (Ch.tail h)
theorem Ch.mid {cs:List (List Nat)}:∀ {u v:List Int} {x y:Int},Ch cs (u ++ v)→u.getLast?=some x→v.head?=some y→x∈zl (cs.getD y.toNat [])
  | [],_,_,_,_,hx,_=>by cases hx
  | [a],v,x,y,h,hx,hy=>by
    cases hx
    cases v with
    | nil=>cases hy
    | cons b v=>cases hy; exact h.1
  | a :: b :: u,v,x,y,h,hx,hy=>Ch.mid (u:=b :: u) h.2 (by rw [List.getLast?_cons_cons] at hx; exact hx) hy
structure Cy (cs:List (List Nat)) (S r:List Int):Prop where
  ne:r≠[]
  nd:r.Nodup
  sb:∀ x∈r,x∈S
  ch:Ch cs r
  cl:∀ x y,r.getLast?=some x→r.head?=some y→x∈zl (cs.getD y.toNat [])
theorem last_app {u:List Int} (hu:u≠[]) (w:List Int):(w ++ u).getLast?=u.getLast?:=by
  rw [List.getLast?_append]
  cases h:u.getLast? with
  | none=>exact absurd (List.getLast?_eq_none_iff.mp h) hu
  | some _=>rfl
theorem head_app {u:List Int} (hu:u≠[]) (w:List Int):(u ++ w).head?=u.head?:=by
  cases u with
  | nil=>exact absurd rfl hu
  | cons _ _=>rfl
theorem Cy.turn {cs:List (List Nat)} {S u v:List Int} (h:Cy cs S (u ++ v)):Cy cs S (v ++ u):=by
  by_cases hu:u=[]
  · subst hu; simpa using h
  by_cases hv:v=[]
  · subst hv; simpa using h
  have lu:∀ w:List Int,(w ++ u).getLast?=u.getLast?:=last_app hu
  have lv:∀ w:List Int,(w ++ v).getLast?=v.getLast?:=last_app hv
  have hdu:∀ w:List Int,(u ++ w).head?=u.head?:=head_app hu
  have hdv:∀ w:List Int,(v ++ w).head?=v.head?:=head_app hv
  refine ⟨fun z=>hu (List.append_eq_nil_iff.mp z).2,(List.perm_append_comm.nodup_iff).mp h.nd,fun x hx=>h.sb x (List.mem_append.mpr (List.mem_append.mp hx).symm),Ch.app (Ch.right h.ch) (Ch.left h.ch) fun x y hx hy=>?_,fun x y hx hy=>?_⟩
  · exact h.cl x y (by rw [lv]; exact hx) (by rw [hdu]; exact hy)
  · rw [lu] at hx
    rw [hdv] at hy
    exact Ch.mid h.ch hx hy
theorem nd_len:∀ {l S:List Int},l.Nodup→(∀ x∈l,x∈S)→l.length≤S.length
  | [],_,_,_=>Nat.zero_le _
  | x :: l,S,nd,sb=>by
    obtain ⟨n1,n2⟩:=List.nodup_cons.mp nd
    have xm:=sb x List.mem_cons_self
    have:=rm_len xm
    have ih:=nd_len (l:=l) (S:=rm x S) n2 fun y hy=>by
      rcases List.mem_cons.mp ((rm_perm xm).mem_iff.mp (sb y (List.mem_cons_of_mem _ hy))) with z | z
      · rw [z] at hy; exact absurd hy n1
      · exact z
    rw [List.length_cons]
    omega
theorem lst_get {tr:List Int} (h:tr≠[]):tr.getLast?=some (lstD tr):=by
  have:=List.length_pos_iff.mpr h
  unfold lstD
  rw [List.getLast?_eq_getElem?,List.getD_eq_getElem?_getD,List.getElem?_eq_getElem (by omega)]
  rfl
theorem trF_cy {cs:List (List Nat)} {L S:List Int} (st:Stk cs L S) (hS:S.length≤12):∀ (m:Nat) {tr:List Int},tr≠[]→tr.Nodup→(∀ x∈tr,x∈S)→Ch cs tr.reverse→13≤tr.length + m→Cy cs S (trF cs S m tr).reverse
  | 0,tr,ne,nd,sb,_,hl=>by
    have:=nd_len nd sb
    omega
  | m + 1,tr,ne,nd,sb,ch,hl=>by
    have lm:=lst_get ne
    have l2:lstD tr∈tr:=List.mem_of_getLast? lm
    have wn:wtF cs S (lstD tr)≠[]:=fun z=>by
      obtain ⟨c,c1,c2⟩:=st.h _ (sb _ l2)
      have:c∈wtF cs S (lstD tr):=List.mem_filter.mpr ⟨c1,decide_eq_true c2⟩
      rw [z] at this; cases this
    have xm:(wtF cs S (lstD tr)).getD 0 0∈wtF cs S (lstD tr):=getD_memI (List.length_pos_iff.mpr wn)
    generalize hx:(wtF cs S (lstD tr)).getD 0 0=x at xm
    have x1:x∈zl (cs.getD (lstD tr).toNat []):=(List.mem_filter.mp xm).1
    have x2:x∈S:=of_decide_eq_true (List.mem_filter.mp xm).2
    have hr:tr.reverse.head?=some (lstD tr):=by rw [List.head?_reverse]; exact lm
    unfold trF
    rw [hx]
    by_cases h:x∈tr
    · rw [if_pos h]
      have il:=List.idxOf_lt_length_iff.mpr h
      have dn:tr.drop (tr.idxOf x)≠[]:=fun z=>by have:=congrArg List.length z; rw [List.length_drop] at this; simp at this; omega
      have sp:=List.take_append_drop (tr.idxOf x) tr
      have hd:(tr.drop (tr.idxOf x)).head?=some x:=by rw [List.head?_drop,List.getElem?_eq_getElem il,List.getElem_idxOf il]
      refine ⟨fun z=>dn (List.reverse_eq_nil_iff.mp z),((List.reverse_perm _).nodup_iff).mpr (nd.sublist (List.drop_sublist _ _)),fun y hy=>sb y (List.mem_of_mem_drop (List.mem_reverse.mp hy)),?_,fun a b ha hb=>?_⟩
      · rw [← sp,List.reverse_append] at ch
        exact Ch.left ch
      · rw [List.getLast?_reverse,hd] at ha
        cases ha
        rw [List.head?_reverse] at hb
        have e:tr.getLast?=(tr.drop (tr.idxOf x)).getLast?:=by
          conv=>lhs; rw [← sp]
          exact last_app dn _
        rw [← e,lm] at hb
        cases hb
        exact x1
    · rw [if_neg h]
      refine trF_cy st hS m (by simp) ?_ ?_ ?_ (by rw [List.length_append]; show 13≤tr.length + 1 + m; omega)
      · rw [List.nodup_append]
        exact ⟨nd,by simp,fun a ha b hb=>by rw [List.mem_singleton.mp hb]; exact fun z=>h (z ▸ ha)⟩
      · intro y hy
        rcases List.mem_append.mp hy with hy | hy
        · exact sb y hy
        · rw [List.mem_singleton.mp hy]; exact x2
      · rw [List.reverse_append]
        refine Ch.app (u:=[x]) trivial ch fun a b ha hb=>?_
        cases ha
        rw [hr] at hb
        cases hb
        exact x1
structure RingOk (cs:List (List Nat)) (S r:List Int):Prop extends Cy cs S r where
  hd:r.head?=some (mnL r)
theorem lsF_ok {cs:List (List Nat)} {S r:List Int} (h:Cy cs S r):RingOk cs S (lsF r):=by
  have mm:=mnL_mem h.ne
  have il:=List.idxOf_lt_length_iff.mpr mm
  have sp:=List.take_append_drop (r.idxOf (mnL r)) r
  have c:Cy cs S (lsF r):=by
    rw [← sp] at h
    exact h.turn
  have hd:(lsF r).head?=some (mnL r):=by
    unfold lsF
    rw [head_app (fun z=>by have:=congrArg List.length z; rw [List.length_drop] at this; simp at this; omega),List.head?_drop,List.getElem?_eq_getElem il,List.getElem_idxOf il]
  have pm:(lsF r).Perm r:=by
    unfold lsF
    refine List.perm_append_comm.trans (List.Perm.of_eq sp)
  have e:mnL (lsF r)=mnL r:=Int.le_antisymm (mnL_le (pm.mem_iff.mpr mm)) (mnL_le (pm.mem_iff.mp (mnL_mem c.ne)))
  exact ⟨c,by rw [hd,e]⟩
theorem ring_ok {cs:List (List Nat)} {L S:List Int} (st:Stk cs L S) (hS:S.length≤12):RingOk cs S (ringF cs S):=by
  have l:=List.length_pos_iff.mpr st.ne
  exact lsF_ok (trF_cy st hS 14 (by simp) (by simp) (fun x hx=>by rw [List.mem_singleton.mp hx]; exact getD_memI l) trivial (by simp))
theorem Ch.at {cs:List (List Nat)}:∀ {r:List Int} {i:Nat},Ch cs r→i + 1 < r.length→r.getD i 0∈zl (cs.getD (r.getD (i + 1) 0).toNat [])
  | a :: b :: l,0,h,_=>h.1
  | a :: b :: l,i + 1,h,hi=>Ch.at (r:=b :: l) (i:=i) h.2 (by simpa using hi)
  | [a],i,_,hi=>by simp at hi
  | [],i,_,hi=>by simp at hi
def nonE (cs:List (List Nat)):Nat:=cs.countP fun r=>!r.isEmpty
theorem nonE_set:∀ {cs:List (List Nat)} {k:Nat},cs.getD k []≠[]→nonE (cs.set k []) + 1=nonE cs
  | [],k,h=>absurd rfl h
  | r :: cs,0,h=>by
    cases r with
    | nil=>exact absurd rfl h
    | cons a r=>simp [nonE]
  | r :: cs,k + 1,h=>by
    have ih:=nonE_set (cs:=cs) (k:=k) (by simpa using h)
    unfold nonE at ih ⊢
    rw [List.set_cons_succ,List.countP_cons,List.countP_cons]
    omega
theorem ok_ring_init (Z:Cs K mg C_BookError C_NoBook C_Ring f_Ring g_Ring) (B:Bs mg):FnOk P w K mg base CX0 1 f_Ring g_Ring ["self", "ring"] (spRi K C_Ring):=by
  refine Z.F_Ring.ok (N:=["self", "ring"]) ⟨rfl,rfl,rfl,by decide +kernel,rfl,by decide +kernel,by decide +kernel⟩ (fun vs H Q E h=>spRi_len h) (fun cdv A outer s H vs Q E hr h=>?_)
  refine ⟨_,pss_cons (ps_base Z.r_Ring Z.u_BookError Z.n_BookError rfl (pa_cons (pv 0) (pa_cons (pe_fstr hr (pv 1) (by decide)) pa_nil))) (pss_cons (ps_putX Z.r_Ring.s rfl (pv 0) (pe_callTy call_list_of rfl B.list (by decide +kernel) (pa_cons (pv 1) pa_nil))) pss_nil),?_⟩
  exact ri_read h
def pre_meet (ds:List PyData) (d:PyData):Prop:=∃ a b:List Int,ds=[il a,il b]∧a.length + b.length < 2000∧d=.bool (a.any fun k=>decide (k∈b))
theorem len_meet (ds:List PyData) (d:PyData) (h:pre_meet ds d):ds.length=2:=by obtain ⟨a,b,rfl,_⟩:=h; rfl
theorem sc_meet:FnScope ["some", "others"] ["some", "others"] (defScope (top 5)):=⟨rfl,rfl,rfl,by decide +kernel,rfl,by decide +kernel,by decide +kernel⟩
theorem ok_meet (F:Fun K "meet" "meet" (top 5) f fd) (B:Bs mg) (Z:Cs K mg C_BookError C_NoBook C_Ring f_Ring g_Ring)  : FnOk P w K mg base CX0 1 f fd ["some", "others"] (spD K true pre_meet):=by
  have sc:=sc_meet
  refine F.ok sc (fun vs H Q E h=>spD_len len_meet h) (fun cdv A outer s H vs Q E hr h=>?_)
  obtain ⟨Fh,ds,d,le,dp,p,q⟩:=h
  refine ⟨_,(pss_one (ps_ret (pe_cmpR op_gt (pe_callB (call_lenB (b:=w.params.followText "set-order")) rfl B.len (by decide +kernel) (pa_cons (pe_op (op_andB rfl rfl) (pe_callTy (call_setB (K:=K) rfl rfl rfl) rfl B.set (by decide +kernel) (pa_cons (pv 0) pa_nil)) (pe_callTy (call_setB (K:=K) rfl rfl rfl) rfl B.set (by decide +kernel) (pa_cons (pv 1) pa_nil))) pa_nil)) pe_int (nomark _)))),?_⟩
  have hN:(["some", "others"]:List Str).length=2:=rfl
  obtain ⟨a,b,rfl,hl,rfl⟩:=p
  walk_at "run"
  refine ex_ret true (EvE.eq (ev_gt (ev_lenAnd (ns:=a) (ms:=b) (EvE.toL (κ:=false) (by walk_at "ev")) (EvE.toL (κ:=false) (by walk_at "ev")) hl) (by walk_at "ev")) ?_) rfl (.inl ⟨rfl,rfl⟩)
  rw [meet_pos]
structure ShR (n:Nat) (cs:List (List Nat)):Prop where
  l:cs.length=n
  e:∀ r∈cs,(∀ x∈r,x < n)∧r.length≤5∧r.Pairwise (· < ·)
theorem ShR.at {n:Nat} {cs:List (List Nat)} (h:ShR n cs) {k:Nat} (hk:k < n):cs[k]?=some (cs.getD k [])∧(∀ x∈cs.getD k [],x < n)∧(cs.getD k []).length≤5∧(cs.getD k []).Pairwise (· < ·):=by
  have z:cs[k]?=some (cs.getD k []):=getD_some (by rw [h.l]; exact hk)
  exact ⟨z,h.e _ (List.mem_of_getElem? z)⟩
theorem ShR.ix {n:Nat} {cs:List (List Nat)} (h:ShR n cs) {k:Int} (hk:0≤k∧k < n):atI (cs.map nl) k=some (il (zl (cs.getD k.toNat []))):=by
  have g:=(h.at (k:=k.toNat) (by omega)).1
  have z:=atI_map (g:=nl) g
  rw [Int.toNat_of_nonneg hk.1,nl_zl] at z
  exact z
def pre_from_the_least (ds:List PyData) (d:PyData):Prop:=∃ r:List Int,ds=[il r]∧r≠[]∧r.length≤100∧d=il (lsF r)
theorem len_from_the_least (ds:List PyData) (d:PyData) (h:pre_from_the_least ds d):ds.length=1:=by obtain ⟨a,rfl,_⟩:=h; rfl
theorem sc_from_the_least:FnScope ["ring", "place"] ["ring"] (defScope (top 8)):=⟨rfl,rfl,rfl,by decide +kernel,rfl,by decide +kernel,by decide +kernel⟩
theorem ok_from_the_least (F:Fun K "from_the_least" "from_the_least" (top 8) f fd) (B:Bs mg) (Z:Cs K mg C_BookError C_NoBook C_Ring f_Ring g_Ring)  : FnOk P w K mg base CX0 1 f fd ["ring"] (spD K true pre_from_the_least):=by
  have sc:=sc_from_the_least
  refine F.ok sc (fun vs H Q E h=>spD_len len_from_the_least h) (fun cdv A outer s H vs Q E hr h=>?_)
  obtain ⟨Fh,ds,d,le,dp,p,q⟩:=h
  refine ⟨_,(pss_cons (ps_set (i:=1) sc.nd rfl (Or.inl rfl) (pe_bmK (K:=K) rfl PySem.F.plainAttrs_list PySem.F.slot_list_index PySem.F.type_list_index (mt_indexK (K:=K) rfl) (pv 0) (pa_cons (pe_callB (call_minIK (K:=K) rfl rfl) rfl B.min (by decide +kernel) (pa_cons (pv 0) pa_nil)) pa_nil)))
      (pss_one (ps_ret (pe_op (op_catSK (K:=K) rfl) (pe_slice (sl_listK (K:=K) rfl) (pv 0) (po_some (pv 1)) po_none) (pe_slice (sl_listK (K:=K) rfl) (pv 0) po_none (po_some (pv 1))))))),?_⟩
  have hN:(["ring", "place"]:List Str).length=2:=rfl
  obtain ⟨r,rfl,ne,hl,rfl⟩:=p
  have big:=line_big
  have mm:=mnL_mem ne
  walk_at "run"
  refine exs true (d:=.int (r.idxOf (mnL r):Nat)) (ev_index (EvE.toL (κ:=false) (by walk_at "ev")) (ev_bestI (ns:=r) (EvE.toL (κ:=false) (by walk_at "ev")) ne) mm) (by walk_at "sc") ?_
  have l:∀ {Γ:PD.Ctx} {i:Nat},GetC Γ i (.fz false (il r))→EvL K .fresh true (tVar i) Γ (r.map .int):=fun h=>EvL.imm (κ:=false) (EvE.toL (evv h (by decide))) (imm_ints r)
  refine ex_ret true (EvO.toE (EvO.eq (evo_cat (EvO.toL (evo_slice (l (by walk_at "gc")) (ep_some (by walk_at "ev")) ep_none)) (EvO.toL (evo_slice (l (by walk_at "gc")) ep_none (ep_some (by walk_at "ev")))) ?_) ?_)) rfl (.inl ⟨rfl,rfl⟩)
  · rw [cutH PyData.int,cutT PyData.int,List.length_map,List.length_map,List.length_drop,List.length_take]
    omega
  · rw [cutH PyData.int,cutT PyData.int,← List.map_append]
    rfl
structure StS (n:Nat) (cs:List (List Nat)) (S:List Int):Prop where
  ok:ShR n cs
  n12:n≤12
  st:∃ L,Stk cs L S
  r:∀ x∈S,0≤x∧x < n
  nd:S.Nodup
  l:S.length≤12
def pre_ring_among (ds:List PyData) (d:PyData):Prop:=∃ (n:Nat) (cs:List (List Nat)) (S:List Int),ds=[nls cs,il S]∧StS n cs S∧d=il (ringF cs S)
theorem len_ring_among (ds:List PyData) (d:PyData) (h:pre_ring_among ds d):ds.length=2:=by obtain ⟨a,b,c,rfl,_⟩:=h; rfl
theorem sc_ring_among:FnScope ["causes", "left", "trail", "waited_for", "round_trip"] ["causes", "left"] (defScope (top 7)):=⟨rfl,rfl,rfl,by decide +kernel,rfl,by decide +kernel,by decide +kernel⟩
theorem ok_ring_among (F:Fun K "ring_among" "ring_among" (top 7) f fd) (B:Bs mg) (Z:Cs K mg C_BookError C_NoBook C_Ring f_Ring g_Ring) (c_from_the_least:Callee P w K mg base CX0 "from_the_least" ["ring"] 1 (spD K true pre_from_the_least)):FnOk P w K mg base CX0 2 f fd ["causes", "left"] (spD K true pre_ring_among):=by
  have sc:=sc_ring_among
  refine F.ok sc (fun vs H Q E h=>spD_len len_ring_among h) (fun cdv A outer s H vs Q E hr h=>?_)
  obtain ⟨Fh,ds,d,le,dp,p,q⟩:=h
  refine ⟨_,(pss_cons (ps_set (i:=2) sc.nd rfl (Or.inl rfl) (pe_lst (pa_cons (pe_ix (ix_listK (K:=K) rfl) (pv 1) pe_int (fun _ _=>rfl)) pa_nil)))
      (pss_one (ps_while PassesOwn.never (pt_val pe_bl) (pss_cons (ps_setComp (i:=3) rfl sc.nd rfl rfl (N:=["c", "left"]) (js:=[none,some 1]) (by walk_at "comp_ok") (pi_listK (K:=K) rfl (pe_ix (ix_listK (K:=K) rfl) (pv 0) (pe_ix (ix_listK (K:=K) rfl) (pv 2) (pe_un un_neg pe_int) (fun _ _=>rfl)) (fun _ _=>rfl))) (fun _ _ _ _=>(pg_name (i:=0) (show List.Nodup (["c", "left"]:List PySem.Str) by decide +kernel) rfl (Or.inl rfl))) (fun _ _ _ _=>(pif_one (pt_cmpR (op_in_seqK (K:=K) rfl) (pv 0) (pv 1) (rfl)))) (fun _ _ _ _=>(pv 0)))
      (pss_cons (ps_if (pt_cmpR (op_in_seqK (K:=K) rfl) (pe_ix (ix_listK (K:=K) rfl) (pv 3) pe_int (fun _ _=>rfl)) (pv 2) (rfl)) (pss_cons (ps_set (i:=4) sc.nd rfl (Or.inl rfl) (pe_slice (sl_listK (K:=K) rfl) (pv 2) (po_some (pe_bmK (K:=K) rfl PySem.F.plainAttrs_list PySem.F.slot_list_index PySem.F.type_list_index (mt_indexK (K:=K) rfl) (pv 2) (pa_cons (pe_ix (ix_listK (K:=K) rfl) (pv 3) pe_int (fun _ _=>rfl)) pa_nil))) po_none))
      (pss_one (ps_ret (pe_fn c_from_the_least (hr.mono (by decide)) rfl pass0 (pa_cons (pe_listRevK (K:=K) rfl rfl rfl B.list rfl B.reversed (pa_cons (pv 4) pa_nil)) pa_nil))))) pss_nil)
      (pss_one (ps_expr (pe_bmK (K:=K) rfl PySem.F.plainAttrs_list PySem.F.slot_list_append PySem.F.type_list_append mt_append (pv 2) (pa_cons (pe_ix (ix_listK (K:=K) rfl) (pv 3) pe_int (fun _ _=>rfl)) pa_nil))))))))),?_⟩
  have hN:(["causes", "left", "trail", "waited_for", "round_trip"]:List Str).length=5:=rfl
  obtain ⟨n,cs,S,rfl,ss,rfl⟩:=p
  have big:=line_big
  obtain ⟨L,st⟩:=ss.st
  have n12:=ss.n12
  have sl:=ss.l
  have s0:=List.length_pos_iff.mpr st.ne
  walk_at "run"
  refine exo true (evo_lst (ds:=[.int (S.getD 0 0)]) (by walk_at "ev"; exact at_ints (ns:=S) (k:=0) s0) (by show 1≤sizeLine; omega)) (by walk_at "sc") ?_
  refine ex_while (fun m Γ=>∃ (tr:List Int) (b3 b4:Option DV),Γ=[some (.fz false (nls cs)),some (.fz false (il S)),some (.ow true (tr.map .int)),b3,b4]∧tr≠[]∧tr.Nodup∧(∀ x∈tr,x∈S)∧13≤tr.length + m∧trF cs S m tr=trF cs S 14 [S.getD 0 0]) 14 ⟨[S.getD 0 0],none,none,rfl,by simp,by simp,fun x hx=>by rw [List.mem_singleton.mp hx]; exact getD_memI s0,by simp,rfl⟩ ?_
  rintro m Γ' ⟨tr,b3,b4,rfl,ne,nd,sb,hl,et⟩
  have tl:=nd_len nd sb
  obtain ⟨m,rfl⟩:∃ k,m=k + 1:=⟨m - 1,by omega⟩
  refine ⟨true,by walk_at "ev", fun _=>?_,fun z=>by cases z⟩
  have lm:=lst_get ne
  have l2:lstD tr∈tr:=List.mem_of_getLast? lm
  have lr:=ss.r _ (sb _ l2)
  have al:atI (tr.map PyData.int) (-1)=some (.int (lstD tr)):=by
    obtain ⟨a,ea⟩:∃ a,tr=a ++ [lstD tr]:=by
      obtain ⟨a,ea⟩:=List.getLast?_eq_some_iff.mp lm
      exact ⟨a,ea⟩
    conv=>lhs; rw [ea,List.map_append]
    exact atI_last _ _
  have rowl:=(ss.ok.at (k:=(lstD tr).toNat) (by omega)).2.2.1
  have wl:(zl (cs.getD (lstD tr).toNat [])).length≤5:=by unfold zl; rw [List.length_map]; exact rowl
  have wn:wtF cs S (lstD tr)≠[]:=fun z=>by
    obtain ⟨c,c1,c2⟩:=st.h _ (sb _ l2)
    have:c∈wtF cs S (lstD tr):=List.mem_filter.mpr ⟨c1,decide_eq_true c2⟩
    rw [z] at this; cases this
  have w0:=List.length_pos_iff.mpr wn
  refine exs true (d:=il (wtF cs S (lstD tr))) (EvO.toE (evo_eachIf (κ:=true) (is:=[0]) (xs:=zl (cs.getD (lstD tr).toNat [])) false PyData.int PyData.int (fun c=>decide (c∈S)) (fun x _ y _ h=>by cases h; exact ⟨rfl,rfl⟩) (ei_list (ev_ixL (ds:=cs.map nl) (EvE.toL (κ:=false) (by walk_at "ev")) (ev_ixL (ds:=tr.map .int) (by walk_at "ev") (by walk_at "ev") al) (ss.ok.ix lr))) (by walk_at "cc") rfl (by decide) (by omega) ?_)) (by walk_at "sc") ?_
  · intro c hc
    exact egn (by walk_at "sc") ⟨et_test (ev_inI (neg:=false) (by walk_at "ev") (EvE.toL (κ:=false) (by walk_at "ev"))),fun _=>by walk_at "ev"⟩
  have xm:(wtF cs S (lstD tr)).getD 0 0∈wtF cs S (lstD tr):=getD_memI w0
  have a0:atI ((wtF cs S (lstD tr)).map PyData.int) 0=some (.int ((wtF cs S (lstD tr)).getD 0 0)):=at_ints (ns:=wtF cs S (lstD tr)) (k:=0) w0
  have ex:trF cs S (m + 1) tr=if (wtF cs S (lstD tr)).getD 0 0∈tr then tr.drop (tr.idxOf ((wtF cs S (lstD tr)).getD 0 0)) else trF cs S m (tr ++ [(wtF cs S (lstD tr)).getD 0 0]):=rfl
  generalize hx:(wtF cs S (lstD tr)).getD 0 0=x at xm a0 ex
  have x2:x∈S:=of_decide_eq_true (List.mem_filter.mp xm).2
  refine exif2 (b:=decide (x∈tr)) (et_test (ev_inI (neg:=false) (ev_ixL (by walk_at "ev") (by walk_at "ev") a0) (by walk_at "ev"))) (fun c=>?_) (fun c=>?_)
  · have c:=of_decide_eq_true c
    rw [if_pos c] at ex
    have il':=List.idxOf_lt_length_iff.mpr c
    refine exs true (d:=il (tr.drop (tr.idxOf x))) (EvO.toE (EvO.eq (evo_slice (by walk_at "ev") (ep_some (ev_index (by walk_at "ev") (ev_ixL (by walk_at "ev") (by walk_at "ev") a0) c)) ep_none) (cutH PyData.int tr _))) (by walk_at "sc") ?_
    refine exrs true (ev_callF (ds:=[il (tr.drop (tr.idxOf x)).reverse]) (ea_cons (EvO.toE (EvO.eq (evo_listRev (EvE.toL (κ:=false) (by walk_at "ev"))) (by rw [← List.map_reverse]))) ea_nil) ⟨_,rfl,fun z=>?_,by rw [List.length_reverse,List.length_drop]; omega,?_⟩) rfl (.inl ⟨rfl,rfl⟩)
    · have:=congrArg List.length z
      rw [List.length_reverse,List.length_drop] at this
      simp at this
      omega
    · show il (ringF cs S)=_
      unfold ringF
      rw [← et,ex]
  · have c:=of_decide_eq_false c
    rw [if_neg c] at ex
    refine exn ?_
    refine exa1 (d:=.int x) (by walk_at "gc") (ev_ixL (by walk_at "ev") (by walk_at "ev") a0) (by walk_at "sc") (by rw [List.length_map]; omega) ?_
    refine ⟨m,by omega,tr ++ [x],_,_,by rw [List.map_append]; rfl,by simp,?_,fun y hy=>?_,by rw [List.length_append]; show 13≤tr.length + 1 + m; omega,by rw [← et,ex]⟩
    · rw [List.nodup_append]
      exact ⟨nd,by simp,fun a ha b hb=>by rw [List.mem_singleton.mp hb]; exact fun z=>c (z ▸ ha)⟩
    · rcases List.mem_append.mp hy with hy | hy
      · exact sb y hy
      · rw [List.mem_singleton.mp hy]; exact x2
def rgI (n:Nat):List Int:=zl (List.range n)
theorem rgI_len {n:Nat}:(rgI n).length=n:=by unfold rgI zl; rw [List.length_map,List.length_range]
theorem rgI_mem {n:Nat} {x:Int}:x∈rgI n↔0≤x∧x < n:=by
  unfold rgI zl
  rw [List.mem_map]
  constructor
  · rintro ⟨i,hi,rfl⟩
    have:=List.mem_range.mp hi
    omega
  · rintro ⟨h1,h2⟩
    exact ⟨x.toNat,List.mem_range.mpr (by omega),by omega⟩
theorem rgI_up {n:Nat}:(rgI n).Pairwise (· < ·):=by
  unfold rgI zl
  rw [List.pairwise_map]
  exact List.pairwise_lt_range.imp fun h=>by omega
def OrdS (n:Nat) (cs:List (List Nat)):Prop:=ShR n cs∧n≤12
def pre_order_of (ds:List PyData) (d:PyData):Prop:=∃ (n:Nat) (cs:List (List Nat)) (f:List Int),ds=[nls cs]∧OrdS n cs∧grd cs n (rgI n)=some f∧d=il f
theorem len_order_of (ds:List PyData) (d:PyData) (h:pre_order_of ds d):ds.length=1:=by obtain ⟨a,b,c,rfl,_⟩:=h; rfl
theorem ev_ready {n:Nat} {cs:List (List Nat)} {ns:List Int} {fd:List PyData} {b3:Option DV} (ok:ShR n cs) (n12:n≤12) (hl:ns.length≤12) (hn:∀ x∈ns,0≤x∧x < n) :
    EvE K .fresh true (tComp [none,some 2,some 0] (iList K (tVar 2)) (gName 0) (tNot (tB (tCall (spD K true pre_meet) [] E0 (tCons (tOp (rIxL K) (tVar 2) (tVar 0)) (tCons (tVar 1) tNil))))) (tVar 0)) [some (.fz false (nls cs)),some (.ow true fd),some (.ow true (ns.map .int)),b3] (il (ns.filter (rdP cs ns))):=by
  have big:=line_big
  refine EvO.toE (evo_thaw 2 (by walk_at "gc") (by walk_at "sc") (evo_eachIf (κ:=true) (is:=[0]) (xs:=ns) false PyData.int PyData.int (rdP cs ns) (fun x _ y _ h=>by cases h; exact ⟨rfl,rfl⟩) (ei_list (by walk_at "ev")) (by walk_at "cc") rfl (by decide) (by omega) ?_) (imm_ints _))
  intro k hk
  have kn:=hn k hk
  have rk:=(ok.at (k:=k.toNat) (by omega)).2.2.1
  refine egn (by walk_at "sc") ⟨et_not (et_B (ev_callF (ds:=[il (zl (cs.getD k.toNat [])),il ns]) (d:=.bool ((zl (cs.getD k.toNat [])).any fun c=>decide (c∈ns))) (ea_cons (ev_ixL (EvE.toL (κ:=false) (by walk_at "ev")) (by walk_at "ev") (ok.ix kn)) (by walk_at "ev")) ⟨_,_,rfl,by unfold zl; rw [List.length_map]; omega,rfl⟩)),fun _=>by walk_at "ev"⟩
theorem sc_order_of:FnScope ["causes", "found", "left", "ready"] ["causes"] (defScope (top 6)):=⟨rfl,rfl,rfl,by decide +kernel,rfl,by decide +kernel,by decide +kernel⟩
theorem ok_order_of (F:Fun K "order_of" "order_of" (top 6) f fd) (B:Bs mg) (Z:Cs K mg C_BookError C_NoBook C_Ring f_Ring g_Ring) (c_meet:Callee P w K mg base CX0 "meet" ["some", "others"] 1 (spD K true pre_meet)):FnOk P w K mg base CX0 3 f fd ["causes"] (spD K true pre_order_of):=by
  have sc:=sc_order_of
  refine F.ok sc (fun vs H Q E h=>spD_len len_order_of h) (fun cdv A outer s H vs Q E hr h=>?_)
  obtain ⟨Fh,ds,d,le,dp,p,q⟩:=h
  refine ⟨_,(pss_cons (ps_set (i:=1) sc.nd rfl (Or.inl rfl) (pe_lst pa_nil))
      (pss_cons (ps_set (i:=2) sc.nd rfl (Or.inr rfl) (pe_callTy (call_listRng rfl) rfl B.list (by decide +kernel) (pa_cons (pe_callTy call_rngO rfl B.range (by decide +kernel) (pa_cons (pe_callB (call_len_seqK (K:=K) rfl) rfl B.len (by decide +kernel) (pa_cons (pv 0) pa_nil)) pa_nil)) pa_nil)))
      (pss_cons (ps_while PassesOwn.never (pt_cmpR op_gt (pe_callB (call_len_seqK (K:=K) rfl) rfl B.len (by decide +kernel) (pa_cons (pv 2) pa_nil)) pe_int (nomark _)) (pss_cons (ps_setComp (i:=3) rfl sc.nd rfl rfl (N:=["k", "left", "causes"]) (js:=[none,some 2,some 0]) (by walk_at "comp_ok") (pi_listK (K:=K) rfl (pv 2)) (fun _ _ _ _=>(pg_name (i:=0) (show List.Nodup (["k", "left", "causes"]:List PySem.Str) by decide +kernel) rfl (Or.inl rfl))) (fun _ _ _ _=>(pif_one (pt_not (pt_val (pe_fn c_meet (hr.mono (by decide)) rfl pass0 (pa_cons (pe_ix (ix_listK (K:=K) rfl) (pv 2) (pv 0) (fun _ _=>rfl)) (pa_cons (pv 1) pa_nil))))))) (fun _ _ _ _=>(pv 0)))
      (pss_cons (ps_if (pt_cmpR op_eq (pe_callB (call_len_seqK (K:=K) rfl) rfl B.len (by decide +kernel) (pa_cons (pv 3) pa_nil)) pe_int (nomark _)) (pss_one ps_never) pss_nil)
      (pss_cons (ps_expr (pe_bmK (K:=K) rfl PySem.F.plainAttrs_list PySem.F.slot_list_append PySem.F.type_list_append mt_append (pv 1) (pa_cons (pe_ix (ix_listK (K:=K) rfl) (pv 3) pe_int (fun _ _=>rfl)) pa_nil)))
      (pss_one (ps_expr (pe_bmK (K:=K) rfl PySem.F.plainAttrs_list PySem.F.slot_list_remove PySem.F.type_list_remove mt_remove (pv 2) (pa_cons (pe_ix (ix_listK (K:=K) rfl) (pv 3) pe_int (fun _ _=>rfl)) pa_nil))))))))
      (pss_one (ps_ret (pv 1)))))),?_⟩
  have hN:(["causes", "found", "left", "ready"]:List Str).length=4:=rfl
  obtain ⟨n,cs,f,rfl,⟨ok,n12⟩,hg,rfl⟩:=p
  have big:=line_big
  have cl:=ok.l
  walk_at "run"
  refine exo true (ds:=[]) (evo_lst (ds:=[]) ea_nil (by decide)) (by walk_at "sc") ?_
  refine exo true (evo_listRng (n:=n) (EvE.eq (ev_len (ds:=cs.map nl) (by walk_at "ev")) (by rw [List.length_map,cl])) (by omega)) (by walk_at "sc") ?_
  refine ex_seq (fun Γ=>∃ (b2 b3:Option DV),Γ=[some (.fz false (nls cs)),some (.ow true (f.map .int)),b2,b3]) (ex_while (fun m Γ=>∃ (fd ns rs:List Int) (b3:Option DV),Γ=[some (.fz false (nls cs)),some (.ow true (fd.map .int)),some (.ow true (ns.map .int)),b3]∧ns.length=m∧fd.length + ns.length=n∧(∀ x∈ns,0≤x∧x < n)∧grd cs m ns=some rs∧fd ++ rs=f) n ⟨[],rgI n,f,none,by unfold rgI zl; rw [List.map_map]; rfl,rgI_len,by rw [rgI_len]; exact Nat.zero_add n,fun x hx=>rgI_mem.mp hx,hg,rfl⟩ ?_) ?_
  · rintro m Γ' ⟨fd,ns,rs,b3,rfl,hl,fl,hn,hg,hf⟩
    refine ⟨decide ((0:Int) < ((ns.map PyData.int).length:Nat)),et_test (ev_gt (ev_len (ds:=ns.map PyData.int) (by walk_at "ev")) (by walk_at "ev")),fun c=>?_,fun c=>?_⟩
    · have c:=of_decide_eq_true c
      rw [List.length_map] at c
      obtain ⟨m,rfl⟩:∃ k,m=k + 1:=⟨m - 1,by omega⟩
      refine exs true (ev_ready ok n12 (by omega) hn) (by walk_at "sc") ?_
      cases er:ns.filter (rdP cs ns) with
      | nil=>rw [grd_nil er] at hg; cases hg
      | cons x r =>
        rw [grd_cons er] at hg
        obtain ⟨rs',hg',rfl⟩:=Option.map_eq_some_iff.mp hg
        have xm:x∈ns:=(List.mem_filter.mp (by rw [er]; exact List.mem_cons_self)).1
        refine exifF (b:=decide ((((x :: r).map PyData.int).length:Int)=0)) (et_test (ev_eqI (ev_len (ds:=(x :: r).map PyData.int) (by walk_at "ev")) (by walk_at "ev"))) (decide_eq_false (by rw [List.length_map,List.length_cons]; omega)) ?_
        have a0:atI ((x :: r).map PyData.int) 0=some (.int x):=atI0
        refine exa (d:=.int x) (by walk_at "gc") (ev_ixL (by walk_at "ev") (by walk_at "ev") a0) (by walk_at "sc") (by rw [List.length_map]; omega) ?_
        refine exrm (ns:=ns) (k:=x) (by walk_at "gc") (ev_ixL (by walk_at "ev") (by walk_at "ev") a0) xm (by walk_at "sc") ?_
        have rl:=rm_len xm
        refine ⟨m,by omega,fd ++ [x],rm x ns,rs',_,by rw [List.map_append]; rfl,by omega,by rw [List.length_append]; show fd.length + 1 + _=n; omega,fun y hy=>hn y (rm_mem hy),hg',by rw [List.append_assoc]; exact hf⟩
    · have c:=of_decide_eq_false c
      rw [List.length_map] at c
      obtain rfl:m=0:=by omega
      obtain rfl:rs=[]:=(Option.some.inj hg).symm
      rw [List.append_nil] at hf
      exact ⟨_,_,by rw [hf]⟩
  · rintro Γ' ⟨b2,b3,rfl⟩
    refine exfz 1 (by walk_at "gc") (by walk_at "sc") ?_
    exact ex_ret true (by walk_at "ev") rfl (.inl ⟨rfl,rfl⟩)
def ringO (n:Nat) (cs:List (List Nat)):List Int:=ringF cs (stF cs n (rgI n))
def prx_order_of (ds:List PyData) (rs:List Int):Prop:=∃ (n:Nat) (cs:List (List Nat)),ds=[nls cs]∧OrdS n cs∧grd cs n (rgI n)=none∧rs=ringO n cs
theorem lenx_order_of (ds:List PyData) (rs:List Int) (h:prx_order_of ds rs):ds.length=1:=by obtain ⟨a,b,rfl,_⟩:=h; rfl
theorem ring_few {n:Nat} {cs:List (List Nat)} {S:List Int} (ss:StS n cs S):Few (ringF cs S):=by
  obtain ⟨L,st⟩:=ss.st
  have k:=ring_ok st ss.l
  have l:=nd_len k.nd k.sb
  have:=ss.l
  have:=ss.n12
  exact ⟨by omega,fun x hx=>by have:=ss.r x (k.sb x hx); omega⟩
theorem okx_order_of (F:Fun K "order_of" "order_of" (top 6) f fd) (B:Bs mg) (Z:Cs K mg C_BookError C_NoBook C_Ring f_Ring g_Ring) (c_meet:Callee P w K mg base CX0 "meet" ["some", "others"] 1 (spD K true pre_meet)) (c_ring_among:Callee P w K mg base CX0 "ring_among" ["causes", "left"] 2 (spD K true pre_ring_among)):FnOk P w K mg base (CXd P w) 3 f fd ["causes"] (spRg K prx_order_of C_Ring):=by
  have sc:=sc_order_of
  refine F.okXd sc (fun vs H Q E h=>spRg_len lenx_order_of h) (fun cdv A outer s H vs Q E hr h=>?_)
  obtain ⟨Fh,ds,rs,le,dp,p,q⟩:=h
  refine ⟨_,(pss_cons (ps_set (i:=1) sc.nd rfl (Or.inl rfl) (pe_lst pa_nil))
      (pss_cons (ps_set (i:=2) sc.nd rfl (Or.inr rfl) (pe_callTy (call_listRng rfl) rfl B.list (by decide +kernel) (pa_cons (pe_callTy call_rngO rfl B.range (by decide +kernel) (pa_cons (pe_callB (call_len_seqK (K:=K) rfl) rfl B.len (by decide +kernel) (pa_cons (pv 0) pa_nil)) pa_nil)) pa_nil)))
      (pss_cons (ps_while PassesOwn.leaving (pt_cmpR op_gt (pe_callB (call_len_seqK (K:=K) rfl) rfl B.len (by decide +kernel) (pa_cons (pv 2) pa_nil)) pe_int (nomark _)) (pss_cons (ps_setComp (i:=3) rfl sc.nd rfl rfl (N:=["k", "left", "causes"]) (js:=[none,some 2,some 0]) (by walk_at "comp_ok") (pi_listK (K:=K) rfl (pv 2)) (fun _ _ _ _=>(pg_name (i:=0) (show List.Nodup (["k", "left", "causes"]:List PySem.Str) by decide +kernel) rfl (Or.inl rfl))) (fun _ _ _ _=>(pif_one (pt_not (pt_val (pe_fn c_meet (hr.mono (by decide)) rfl pass0 (pa_cons (pe_ix (ix_listK (K:=K) rfl) (pv 2) (pv 0) (fun _ _=>rfl)) (pa_cons (pv 1) pa_nil))))))) (fun _ _ _ _=>(pv 0)))
      (pss_cons (ps_if (pt_cmpR op_eq (pe_callB (call_len_seqK (K:=K) rfl) rfl B.len (by decide +kernel) (pa_cons (pv 3) pa_nil)) pe_int (nomark _)) (pss_one (ps_raiseI raiseD_of Z.r_Ring Z.p_Ring (ok_ring_init Z B) Z.d_Ring Z.o_Ring (hr.mono (by decide)) rfl Z.n_Ring rfl rfl (pa_cons (pe_fn c_ring_among (hr.mono (by decide)) rfl pass0 (pa_cons (pv 0) (pa_cons (pv 2) pa_nil))) pa_nil))) pss_nil)
      (pss_cons (ps_expr (pe_bmK (K:=K) rfl PySem.F.plainAttrs_list PySem.F.slot_list_append PySem.F.type_list_append mt_append (pv 1) (pa_cons (pe_ix (ix_listK (K:=K) rfl) (pv 3) pe_int (fun _ _=>rfl)) pa_nil)))
      (pss_one (ps_expr (pe_bmK (K:=K) rfl PySem.F.plainAttrs_list PySem.F.slot_list_remove PySem.F.type_list_remove mt_remove (pv 2) (pa_cons (pe_ix (ix_listK (K:=K) rfl) (pv 3) pe_int (fun _ _=>rfl)) pa_nil))))))))
      (pss_cons (ps_ret (pv 1))
      pss_nil)))),?_⟩
  have hN:(["causes", "found", "left", "ready"]:List Str).length=4:=rfl
  obtain ⟨n,cs,rfl,⟨ok,n12⟩,hg,rfl⟩:=p
  have big:=line_big
  have cl:=ok.l
  refine run_r le dp q hN (by walk_at "st") ?_
  refine exr_seq (·=[some (.fz false (nls cs)),some (.ow true ([]:List PyData)),none,none]) (exo1 true (ds:=[]) (evo_lst (ds:=[]) ea_nil (by decide)) (by walk_at "sc") rfl) ?_
  rintro _ rfl
  refine exr_seq (·=[some (.fz false (nls cs)),some (.ow true ([]:List PyData)),some (.ow true ((rgI n).map .int)),none]) (exo1 true (evo_listRng (n:=n) (EvE.eq (ev_len (ds:=cs.map nl) (by walk_at "ev")) (by rw [List.length_map,cl])) (by omega)) (by walk_at "sc") (by unfold rgI zl; rw [List.map_map]; rfl)) ?_
  rintro _ rfl
  refine exr_first (exr_while (fun m Γ=>∃ (fd ns:List Int) (b3:Option DV),Γ=[some (.fz false (nls cs)),some (.ow true (fd.map .int)),some (.ow true (ns.map .int)),b3]∧ns.length=m∧fd.length + ns.length=n∧(∀ x∈ns,0≤x∧x < n)∧ns.Nodup∧grd cs m ns=none∧stF cs m ns=stF cs n (rgI n)) n ⟨[],rgI n,none,rfl,rgI_len,by rw [rgI_len]; exact Nat.zero_add n,fun x hx=>rgI_mem.mp hx,nd_lt rgI_up,hg,rfl⟩ ?_)
  rintro m Γ' ⟨fd,ns,b3,rfl,hl,fl,hn,hd,hg,hs⟩
  obtain ⟨m,rfl⟩:∃ k,m=k + 1:=by
    cases m with
    | zero=>cases hg
    | succ k=>exact ⟨k,rfl⟩
  refine ⟨decide ((0:Int) < ((ns.map PyData.int).length:Nat)),et_test (ev_gt (ev_len (ds:=ns.map PyData.int) (by walk_at "ev")) (by walk_at "ev")),decide_eq_true (by rw [List.length_map]; omega),?_⟩
  have rdy:=ev_ready (K:=K) (fd:=fd.map .int) (b3:=b3) ok n12 (by omega) hn
  cases er:ns.filter (rdP cs ns) with
  | nil =>
    rw [stF_nil er] at hs
    rw [er] at rdy
    have st:=grd_stuck (m + 1) hl hg
    rw [stF_nil er] at st
    have ss:StS n cs ns:=⟨ok,n12,⟨ns,st⟩,hn,hd,by omega⟩
    have e:ringO n cs=ringF cs ns:=by unfold ringO; rw [← hs]
    refine .inr (exr_seq (·=[some (.fz false (nls cs)),some (.ow true (fd.map .int)),some (.ow true (ns.map .int)),some (.fz true (il []))]) (exs1 true rdy (by walk_at "sc") rfl) ?_)
    rintro _ rfl
    refine exr_first (exr_if (b:=decide (((([]:List Int).map PyData.int).length:Int)=0)) (et_test (ev_eqI (ev_len (ds:=([]:List Int).map PyData.int) (by walk_at "ev")) (by walk_at "ev"))) rfl ?_)
    rw [e]
    refine exr_raise (ea_cons (EvC.toE (ec_thaw 2 (by walk_at "gc") (by walk_at "sc") (ec_call (ds:=[nls cs,il ns]) (by walk_at "ev") ⟨n,cs,ns,rfl,ss,rfl⟩))) ea_nil) (ring_few ss)
  | cons x r =>
    rw [grd_cons er] at hg
    rw [stF_cons er] at hs
    rw [er] at rdy
    have xm:x∈ns:=(List.mem_filter.mp (by rw [er]; exact List.mem_cons_self)).1
    refine .inl ?_
    refine exs true rdy (by walk_at "sc") ?_
    refine exifF (b:=decide ((((x :: r).map PyData.int).length:Int)=0)) (et_test (ev_eqI (ev_len (ds:=(x :: r).map PyData.int) (by walk_at "ev")) (by walk_at "ev"))) (decide_eq_false (by rw [List.length_map,List.length_cons]; omega)) ?_
    have a0:atI ((x :: r).map PyData.int) 0=some (.int x):=atI0
    refine exa (d:=.int x) (by walk_at "gc") (ev_ixL (by walk_at "ev") (by walk_at "ev") a0) (by walk_at "sc") (by rw [List.length_map]; omega) ?_
    refine exrm (ns:=ns) (k:=x) (by walk_at "gc") (ev_ixL (by walk_at "ev") (by walk_at "ev") a0) xm (by walk_at "sc") ?_
    have rl:=rm_len xm
    refine ⟨m,by omega,fd ++ [x],rm x ns,_,by rw [List.map_append]; rfl,by omega,by rw [List.length_append]; show fd.length + 1 + _=n; omega,fun y hy=>hn y (rm_mem hy),hd.sublist rm_sub,Option.map_eq_none_iff.mp hg,hs⟩
def pre_law_cell_at (ds:List PyData) (d:PyData):Prop:=∃ (ns:List Int) (k:Nat),ds=[il ns,.int k]∧d=.int (ns.getD k 0)
theorem len_law_cell_at (ds:List PyData) (d:PyData) (h:pre_law_cell_at ds d):ds.length=2:=by obtain ⟨a,b,rfl,_⟩:=h; rfl
theorem sc_law_cell_at:FnScope ["_law_script", "_law_k"] ["_law_script", "_law_k"] (defScope (top 10)):=⟨rfl,rfl,rfl,by decide +kernel,rfl,by decide +kernel,by decide +kernel⟩
theorem ok_law_cell_at (F:Fun K "_law_cell_at" "_law_cell_at" (top 10) f fd) (B:Bs mg) (Z:Cs K mg C_BookError C_NoBook C_Ring f_Ring g_Ring)  : FnOk P w K mg base CX0 1 f fd ["_law_script", "_law_k"] (spD K true pre_law_cell_at):=by
  have sc:=sc_law_cell_at
  refine F.ok sc (fun vs H Q E h=>spD_len len_law_cell_at h) (fun cdv A outer s H vs Q E hr h=>?_)
  obtain ⟨Fh,ds,d,le,dp,p,q⟩:=h
  refine ⟨_,(pss_cons (ps_if (pt_cmpR op_lt (pv 1) (pe_callB (call_len_seqK (K:=K) rfl) rfl B.len (by decide +kernel) (pa_cons (pv 0) pa_nil)) (nomark _)) (pss_one (ps_ret (pe_ix (ix_listK (K:=K) rfl) (pv 0) (pv 1) (fun _ _=>rfl)))) pss_nil)
      (pss_one (ps_ret pe_int))),?_⟩
  have hN:(["_law_script", "_law_k"]:List Str).length=2:=rfl
  obtain ⟨ns,k,rfl,rfl⟩:=p
  walk_at "run"
  refine exif2 (b:=decide ((k:Int) < ns.length)) (EvT.eq (by walk_at "ev") (by rw [List.length_map])) (fun h=>?_) (fun h=>?_)
  · have h':(k:Int) < ns.length:=by simpa using h
    exact exrs true (ev_ixL (by walk_at "ev") (by walk_at "ev") (at_ints (by omega))) rfl (.inl ⟨rfl,rfl⟩)
  · have h':¬ (k:Int) < ns.length:=by simpa using h
    refine exn ?_
    refine ex_ret true (by walk_at "ev") ?_ (.inl ⟨rfl,rfl⟩)
    rw [List.getD_eq_getElem?_getD,List.getElem?_eq_none (by omega)]
    rfl
structure OrdN (n:Nat) (ord:List Nat):Prop where
  l:ord.length=n
  e:∀ x∈ord,x < n
  nd:ord.Nodup
theorem OrdN.at {n:Nat} {ord:List Nat} (h:OrdN n ord) {k:Nat} (hk:k < n):atI (ord.map fun k:Nat=>PyData.int (k:Int)) (k:Int)=some (.int (ord.getD k 0:Nat))∧ord.getD k 0 < n:=by
  have z:ord[k]?=some (ord.getD k 0):=getD_some (by rw [h.l]; exact hk)
  exact ⟨atI_map z,h.e _ (List.mem_of_getElem? z)⟩
theorem OrdN.ne {n:Nat} {ord:List Nat} (h:OrdN n ord) {i j:Nat} (hi:i < n) (hj:j < n) (hij:i≠j):ord.getD i 0≠ord.getD j 0:=by
  have z1:ord[i]?=some (ord.getD i 0):=getD_some (by rw [h.l]; exact hi)
  have z2:ord[j]?=some (ord.getD j 0):=getD_some (by rw [h.l]; exact hj)
  intro e
  rw [← e] at z2
  obtain ⟨a1,b1⟩:=List.getElem?_eq_some_iff.mp z1
  obtain ⟨a2,b2⟩:=List.getElem?_eq_some_iff.mp z2
  exact hij ((List.getElem_inj h.nd).mp (b1.trans b2.symm))
theorem OrdN.fresh {n:Nat} {ord:List Nat} (h:OrdN n ord) {j:Nat} (hj:j < n):ord.getD j 0∉ord.take j:=fun z=>by
  obtain ⟨m,hm,e⟩:=List.mem_iff_getElem.mp z
  rw [List.length_take] at hm
  rw [List.getElem_take] at e
  refine h.ne (i:=m) (by omega) hj (by omega) ?_
  rw [← e,List.getD_eq_getElem?_getD,List.getElem?_eq_getElem (by omega)]
  rfl
def addAt (kin:List (List Nat)) (o x:Nat):List (List Nat):=kin.set o (kin.getD o [] ++ [x])
theorem addAt_D (kin:List (List Nat)) {o x:Nat}:(kin.map kD).set o (kD (kin.getD o []) ++ [.int (x:Int)])=(addAt kin o x).map kD:=by
  unfold addAt
  rw [List.map_set]
  congr 1
  unfold kD
  rw [List.map_append]
  rfl
theorem addAt_ne (kin:List (List Nat)) {o x p:Nat} (h:p≠o):(addAt kin o x).getD p []=kin.getD p []:=by
  unfold addAt
  rw [List.getD_eq_getElem?_getD,List.getD_eq_getElem?_getD (i:=p),List.getElem?_set_ne (Ne.symm h)]
theorem addAt_eq (kin:List (List Nat)) {o x:Nat} (h:o < kin.length):(addAt kin o x).getD o []=kin.getD o [] ++ [x]:=by
  unfold addAt
  rw [List.getD_eq_getElem?_getD,List.getElem?_set_self h]
  rfl
structure CN (n:Nat) (css:List (List Nat)):Prop where
  l:css.length=n
  e:∀ r∈css,(∀ x∈r,x < n)∧r.length≤5∧r.Nodup
theorem CN.at {n:Nat} {css:List (List Nat)} (h:CN n css) {o:Nat} (ho:o < n):(css.map kD)[o]?=some (kD (css.getD o []))∧ixN (css.map kD).length (o:Int)=some o∧(css.getD o []).length≤5∧(css.getD o []).Nodup∧∀ x∈css.getD o [],x < n:=by
  have z:css[o]?=some (css.getD o []):=getD_some (by rw [h.l]; exact ho)
  have g:=h.e _ (List.mem_of_getElem? z)
  exact ⟨by rw [List.getElem?_map,z]; rfl,ixN_nat (by rw [List.length_map,h.l]; exact ho),g.2.1,g.2.2,g.1⟩
theorem CN.add {n:Nat} {css:List (List Nat)} (h:CN n css) {o x:Nat} (ho:o < n) (hx:x < n) (hl:(css.getD o []).length < 5) (hn:x∉css.getD o []):CN n (addAt css o x):=by
  have g:=h.at ho
  unfold addAt
  refine ⟨by rw [List.length_set]; exact h.l,fun r hr=>?_⟩
  rcases List.mem_or_eq_of_mem_set hr with hr | hr
  · exact h.e r hr
  · rw [hr]
    refine ⟨fun y hy=>?_,by rw [List.length_append]; exact hl,?_⟩
    · rcases List.mem_append.mp hy with hy | hy
      · exact g.2.2.2.2 y hy
      · rw [List.mem_singleton.mp hy]; exact hx
    · rw [List.nodup_append]
      refine ⟨g.2.2.2.1,by simp,fun a ha b hb=>?_⟩
      rw [List.mem_singleton.mp hb]
      rintro rfl
      exact hn ha
theorem CN.sort {n:Nat} {css:List (List Nat)} (h:CN n css):ShR n (css.map srtN):=by
  refine ⟨by rw [List.length_map]; exact h.l,fun r hr=>?_⟩
  obtain ⟨q,hq,rfl⟩:=List.mem_map.mp hr
  have:=h.e q hq
  exact ⟨fun x hx=>this.1 x ((srtN_perm q).mem_iff.mp hx),by rw [(srtN_perm q).length_eq]; exact this.2.1,srtN_rise this.2.2⟩
theorem CN.nil (n:Nat):CN n (List.replicate n []):=⟨List.length_replicate ..,fun r hr=>by
  have:r=[]:=List.eq_of_mem_replicate hr
  subst this
  exact ⟨(fun c hc=>by cases hc),Nat.zero_le _,List.nodup_nil⟩⟩
theorem rep_D (n:Nat):List.replicate n ([]:List PyData)=(List.replicate n ([]:List Nat)).map kD:=by
  rw [List.map_replicate]
  rfl
theorem getD_rep (n o:Nat):(List.replicate n ([]:List Nat)).getD o []=[]:=by
  rw [List.getD_eq_getElem?_getD,List.getElem?_replicate]
  split <;> rfl
def pre_law_shape (ds:List PyData) (G:PyData→Prop):Prop:=∃ (ns:List Int) (f n:Nat),ds=[il ns,.int f,.int n]∧n≤12∧G=fun d=>∃ cs,ShR n cs∧d=nls cs
theorem len_law_shape (ds:List PyData) (G:PyData→Prop) (h:pre_law_shape ds G):ds.length=3:=by obtain ⟨a,b,c,rfl,_⟩:=h; rfl
theorem sc_law_shape:FnScope ["_law_script", "_law_first", "_law_many", "_law_order", "_law_k", "_law_causes_here", "_law_at", "_law_number", "_law_dense", "_law_c"] ["_law_script", "_law_first", "_law_many"] (defScope (top 11)):=⟨rfl,rfl,rfl,by decide +kernel,rfl,by decide +kernel,by decide +kernel⟩
theorem ok_law_shape (F:Fun K "_law_shape" "_law_shape" (top 11) f fd) (B:Bs mg) (Z:Cs K mg C_BookError C_NoBook C_Ring f_Ring g_Ring) (c_law_cell_at:Callee P w K mg base CX0 "_law_cell_at" ["_law_script", "_law_k"] 1 (spD K true pre_law_cell_at)):FnOk P w K mg base CX0 2 f fd ["_law_script", "_law_first", "_law_many"] (spW K true pre_law_shape):=by
  have sc:=sc_law_shape
  refine F.ok sc (fun vs H Q E h=>spW_len len_law_shape h) (fun cdv A outer s H vs Q E hr h=>?_)
  obtain ⟨Fh,ds,G,le,dp,p,q⟩:=h
  refine ⟨_,(pss_cons (ps_set (i:=3) sc.nd rfl (Or.inl rfl) (pe_lst pa_nil))
      (pss_cons (ps_for PassesOwn.never rfl (pi_range1 rfl B.range (pa_cons (pv 2) pa_nil)) (pg_name (i:=4) sc.nd rfl (Or.inl rfl)) (pss_one (ps_expr (pe_bmK (K:=K) rfl PySem.F.plainAttrs_list PySem.F.slot_list_insert PySem.F.type_list_insert mt_insert (pv 3) (pa_cons (pe_op op_mod (pe_fn c_law_cell_at (hr.mono (by decide)) rfl pass0 (pa_cons (pv 0) (pa_cons (pe_op op_add (pv 1) (pv 4)) pa_nil))) (pe_op op_add (pv 4) pe_int)) (pa_cons (pv 4) pa_nil))))))
      (pss_cons (ps_setComp (i:=5) rfl sc.nd rfl rfl (N:=["_law_k"]) (js:=[none]) (by walk_at "comp_ok") (pi_range1 rfl B.range (pa_cons (pv 2) pa_nil)) (fun _ _ _ _=>(pg_name (i:=0) (show List.Nodup (["_law_k"]:List PySem.Str) by decide +kernel) rfl (Or.inl rfl))) (fun _ _ _ _=>pif_nil) (fun _ _ _ _=>(pe_lst pa_nil)))
      (pss_cons (ps_for PassesOwn.never rfl (pi_range1 rfl B.range (pa_cons (pv 2) pa_nil)) (pg_name (i:=6) sc.nd rfl (Or.inl rfl)) (pss_cons (ps_set (i:=7) sc.nd rfl (Or.inl rfl) (pe_op op_mod (pe_op op_add (pe_op op_mulB (pe_fn c_law_cell_at (hr.mono (by decide)) rfl pass0 (pa_cons (pv 0) (pa_cons (pe_op op_add (pv 1) (pe_ix (ix_listK (K:=K) rfl) (pv 3) (pv 6) (fun _ _=>rfl))) pa_nil))) pe_int) (pe_op op_mulB pe_int (pe_op op_add (pv 6) pe_int))) pe_int))
      (pss_cons (ps_set (i:=8) sc.nd rfl (Or.inl rfl) (pe_op op_add pe_int (pe_op op_mod (pv 7) pe_int)))
      (pss_one (ps_for PassesOwn.never rfl (pi_listK (K:=K) rfl (pe_slice (sl_listK (K:=K) rfl) (pv 3) po_none (po_some (pv 6)))) (pg_name (i:=9) sc.nd rfl (Or.inl rfl)) (pss_cons (ps_set (i:=7) sc.nd rfl (Or.inl rfl) (pe_op op_mod (pe_op op_add (pe_op op_mulB (pv 7) pe_int) pe_int) pe_int))
      (pss_one (ps_if (PW.pt (pw_and (pt_cmpR op_lt (pe_op op_mod (pe_op op_fdiv (pv 7) pe_int) pe_int) (pv 8) (nomark _)) (pw_and1 (pt_cmpR op_lt (pe_callB (call_len_seqK (K:=K) rfl) rfl B.len (by decide +kernel) (pa_cons (pe_ix (ix_listK (K:=K) rfl) (pv 5) (pe_ix (ix_listK (K:=K) rfl) (pv 3) (pv 6) (fun _ _=>rfl)) (fun _ _=>rfl)) pa_nil)) pe_int (nomark _))))) (pss_one (ps_expr (pe_bmK (K:=K) rfl PySem.F.plainAttrs_list PySem.F.slot_list_append PySem.F.type_list_append mt_append (pe_ix (ix_listK (K:=K) rfl) (pv 5) (pe_ix (ix_listK (K:=K) rfl) (pv 3) (pv 6) (fun _ _=>rfl)) (fun _ _=>rfl)) (pa_cons (pv 9) pa_nil)))) pss_nil))))))))
      (pss_one (ps_ret (pe_comp rfl (N:=["_law_row"]) (js:=[none]) (by walk_at "comp_ok") (pi_listK (K:=K) rfl (pv 5)) (fun _ _ _ _=>(pg_name (i:=0) (show List.Nodup (["_law_row"]:List PySem.Str) by decide +kernel) rfl (Or.inl rfl))) (fun _ _ _ _=>pif_nil) (fun _ _ _ _=>(pe_callB (call_sortedK (K:=K) rfl) rfl B.sorted (by decide +kernel) (pa_cons (pv 0) pa_nil)))))))))),?_⟩
  have hN:(["_law_script", "_law_first", "_law_many", "_law_order", "_law_k", "_law_causes_here", "_law_at", "_law_number", "_law_dense", "_law_c"]:List Str).length=10:=rfl
  obtain ⟨ns,f,n,rfl,hn,rfl⟩:=p
  have big:=line_big
  refine run_defW le dp q hN (by walk_at "st") ?_
  refine exo true (evo_lst (ds:=[]) ea_nil (by decide)) (by walk_at "sc") ?_
  refine exfor (ds:=(List.range n).map fun i:Nat=>.int (i:Int)) true (fun i Γ=>∃ (ord:List Nat) (x:Option DV),OrdN i ord∧Γ=[some (.fz false (il ns)),some (.fz false (.int f)),some (.fz false (.int n)),some (.ow true (ord.map fun k:Nat=>.int (k:Int))),x,none,none,none,none,none]) (ei_rng1 (n:=(n:Int)) (by walk_at "ev") (by omega) (by omega)) ⟨[],none,⟨rfl,(fun x hx=>by cases hx),List.nodup_nil⟩,rfl⟩ ?_ ?_
  · rintro i d Γ' hd ⟨ord,x,ok,rfl⟩
    obtain ⟨hi,rfl⟩:=range_get hd
    have ol:=ok.l
    refine ⟨_,egn (by walk_at "sc") ?_⟩
    generalize hv:ns.getD (f + i) 0 % ((i:Int) + 1)=v
    have v0:0≤v:=by rw [← hv]; exact Int.emod_nonneg _ (by omega)
    have v1:v < (i:Int) + 1:=by rw [← hv]; exact Int.emod_lt_of_pos _ (by omega)
    refine exin (m:=v) (d:=.int i) (by walk_at "gc") (EvE.eq (ev_mod (j:=(i:Int) + 1) (ev_callF (by walk_at "ev") ⟨ns,f + i,by rw [Int.natCast_add],rfl⟩) (by walk_at "ev") (by omega)) (congrArg PyData.int hv)) (by walk_at "ev") v0 (by rw [List.length_map]; omega) (by rw [List.length_map]; omega) (by walk_at "sc") ?_
    have hni:i∉ord:=fun z=>by have:=ok.e i z; omega
    have pm:(ord.take v.toNat ++ i :: ord.drop v.toNat).Perm (i :: ord):=by
      refine List.perm_middle.trans ?_
      rw [List.take_append_drop]
    refine ⟨ord.take v.toNat ++ i :: ord.drop v.toNat,some (.fz true (.int i)),⟨by rw [pm.length_eq,List.length_cons,ol],fun y hy=>?_,pm.nodup_iff.mpr (List.nodup_cons.mpr ⟨hni,ok.nd⟩)⟩,?_⟩
    · rcases List.mem_cons.mp (pm.mem_iff.mp hy) with h | h
      · omega
      · have:=ok.e y h; omega
    · rw [List.map_append,List.map_cons,List.map_take,List.map_drop]
  rintro Γ' ⟨ord,x,ook,rfl⟩
  rw [range_len] at ook
  refine exfz 3 (by walk_at "gc") (by walk_at "sc") ?_
  rw [show PyData.list (ord.map fun k:Nat=>.int (k:Int))=nl ord from rfl]
  refine exo2 (ds:=(List.range n).map fun i:Nat=>.int (i:Int)) (κ':=true) (ei_rng1 (n:=(n:Int)) (by walk_at "ev") (by omega) (by omega)) (by rw [range_len]; omega) (by walk_at "sc") ?_
  rw [range_len,rep_D]
  refine exfor (ds:=(List.range n).map fun i:Nat=>.int (i:Int)) true (fun i Γ=>∃ (css:List (List Nat)) (x1 x2 x3 x4:Option DV),CN n css∧(∀ m,i≤m→m < n→css.getD (ord.getD m 0) []=[])∧Γ=[some (.fz false (il ns)),some (.fz false (.int f)),some (.fz false (.int n)),some (.fz true (nl ord)),x,some (.o2 none (css.map kD)),x1,x2,x3,x4]) (ei_rng1 (n:=(n:Int)) (by walk_at "ev") (by omega) (by omega)) ⟨_,none,none,none,none,.nil n,fun m _ _=>getD_rep n _,rfl⟩ ?_ ?_
  · rintro i d Γ' hd ⟨css,x1,x2,x3,x4,co,cz,rfl⟩
    obtain ⟨hi,rfl⟩:=range_get hd
    refine ⟨_,egn (by walk_at "sc") ?_⟩
    have O:=ook.at hi
    have oE:∀ {κ:Bool} {Γ0:PD.Ctx},GetC Γ0 3 (.fz true (nl ord))→GetC Γ0 6 (.fz true (.int i))→EvE K .fresh κ (tOp (rIxL K) (tVar 3) (tVar 6)) Γ0 (.int (ord.getD i 0:Nat)):=fun g1 g2=>EvE.imm (κ:=false) (ev_ixL (EvE.toL (evv g1 (by decide))) (evv g2 (by decide)) O.1) rfl
    have m2:IntMulOk (ns.getD (f + ord.getD i 0) 0) 48271:=small_mul (by decide) (by decide)
    have m3:IntMulOk 15485863 ((i:Int) + 1):=small_mul (by omega) (by omega)
    generalize hnum:(ns.getD (f + ord.getD i 0) 0 * 48271 + 15485863 * ((i:Int) + 1)) % 2147483647=num
    refine exs true (d:=.int num) (EvE.eq (ev_mod (ev_add (ev_mul (ev_callF (ea_cons (by walk_at "ev") (ea_cons (ev_add (by walk_at "ev") (oE (by walk_at "gc") (by walk_at "gc"))) ea_nil)) ⟨ns,f + ord.getD i 0,by rw [Int.natCast_add],rfl⟩) (by walk_at "ev") m2) (ev_mul (by walk_at "ev") (by walk_at "ev") m3)) (by walk_at "ev") (by decide)) (congrArg PyData.int hnum)) (by walk_at "sc") ?_
    generalize hden:1 + num % 4=den
    refine exs true (d:=.int den) (EvE.eq (by walk_at "ev") (congrArg PyData.int hden)) (by walk_at "sc") ?_
    have ecut:cutD (ord.map fun k:Nat=>PyData.int (k:Int)) none (some (i:Int))=(ord.take i).map fun k:Nat=>PyData.int (k:Int):=cut_map _ ord i
    clear hnum hden m2
    refine ex_for (ds:=(ord.take i).map fun k:Nat=>.int (k:Int)) true (fun j Γ=>∃ (css:List (List Nat)) (num:Int) (x4:Option DV),CN n css∧(∀ m,i < m→m < n→css.getD (ord.getD m 0) []=[])∧(∀ x∈css.getD (ord.getD i 0) [],x∈ord.take j)∧Γ=[some (.fz false (il ns)),some (.fz false (.int f)),some (.fz false (.int n)),some (.fz true (nl ord)),x,some (.o2 none (css.map kD)),some (.fz true (.int i)),some (.fz true (.int num)),some (.fz true (.int den)),x4]) (ei_list (EvO.toE (EvO.eq (evo_slice (EvE.toL (by walk_at "ev")) (by walk_at "ev") (by walk_at "ev")) ecut))) ⟨css,num,x4,co,fun m h1 h2=>cz m (by omega) h2,by rw [cz i (Nat.le_refl _) hi]; exact fun x h=>(nomatch h),rfl⟩ ?_ ?_
    · clear co cz css num x4
      rintro j d Γ' hd ⟨css,num,x4,co,cz,cs,rfl⟩
      obtain ⟨c,hc,rfl⟩:=get_map hd
      have hji:j < i:=by have:=(List.getElem?_eq_some_iff.mp hc).1; rw [List.length_take] at this; omega
      have ec:c=ord.getD j 0:=by
        rw [List.getElem?_take_of_lt hji] at hc
        rw [List.getD_eq_getElem?_getD,hc]
        rfl
      have hcn:c < n:=by rw [ec]; exact (ook.at (show j < n by omega)).2
      have C:=co.at O.2
      refine ⟨_,egn (by walk_at "sc") ?_⟩
      have m4:IntMulOk num 48271:=small_mul (by decide) (by decide)
      generalize hnum:(num * 48271 + 11) % 2147483647=num'
      refine exs true (d:=.int num') (EvE.eq (by walk_at "ev") (congrArg PyData.int hnum)) (by walk_at "sc") ?_
      have d64:CDiv num' 64:=⟨by decide,by decide⟩
      have ll:PyData.int (((kD (css.getD (ord.getD i 0) [])).length:Nat):Int)=.int ((css.getD (ord.getD i 0) []).length:Int):=by rw [kD_len]
      have fr:c∉css.getD (ord.getD i 0) []:=fun z=>ook.fresh (show j < n by omega) (ec ▸ cs c z)
      have st:ord.take (j + 1)=ord.take j ++ [c]:=by
        rw [List.getElem?_take_of_lt hji] at hc
        exact take_succ hc
      refine ex_if (b:=decide (num' / 64 % 5 < den) && decide (((css.getD (ord.getD i 0) []).length:Int) < 5)) (et_and (by walk_at "ev") fun _=>et_test (ev_lt (EvE.eq (ev_len (EvL.weak (evl_o2 (by walk_at "gc") (oE (by walk_at "gc") (by walk_at "gc")) C.2.1 C.1) fun h=>nomatch h)) ll) (by walk_at "ev"))) (fun h=>?_) (fun h=>?_)
      · have h':(css.getD (ord.getD i 0) []).length < 5:=by
          have:num' / 64 % 5 < den∧((css.getD (ord.getD i 0) []).length:Int) < 5:=by simpa using h
          omega
        refine ex_o2app (d:=.int c) (by walk_at "gc") (oE (by walk_at "gc") (by walk_at "gc")) C.2.1 C.1 (by walk_at "ev") (by rw [kD_len]; omega) (by walk_at "sc") ?_
        refine ⟨addAt css (ord.getD i 0) c,num',_,co.add O.2 hcn h' fr,fun m h1 h2=>?_,fun x hx=>?_,by rw [addAt_D]⟩
        · rw [addAt_ne _ (ook.ne h2 hi (by omega))]
          exact cz m h1 h2
        · rw [addAt_eq _ (by rw [co.l]; exact O.2)] at hx
          rw [st]
          rcases List.mem_append.mp hx with hx | hx
          · exact List.mem_append_left _ (cs x hx)
          · exact List.mem_append_right _ hx
      · exact ex_next ⟨css,num',_,co,cz,fun x hx=>by rw [st]; exact List.mem_append_left _ (cs x hx),rfl⟩
    · rintro Γ' ⟨css,num,x4,co,cz,cs,rfl⟩
      exact ⟨css,_,_,_,_,co,fun m h1 h2=>cz m (by omega) h2,rfl⟩
  · rintro Γ' ⟨css,x1,x2,x3,x4,co,cz,rfl⟩
    have e5:(css.map kD).map PyData.list=css.map nl:=by rw [List.map_map]; rfl
    refine exfz2 5 (by walk_at "gc") (by walk_at "sc") ?_
    rw [e5]
    refine ex_ret true (EvO.toE (evo_each (κ:=true) (is:=[0]) (xs:=css) true nl (fun r=>nl (srtN r)) (fun x _ y _ h=>by rw [show x=y from by rw [← unN_nl x,h,unN_nl]]) (ei_list (by walk_at "ev")) (by walk_at "cc") rfl (by decide) (by rw [co.l]; omega) ?_)) ⟨css.map srtN,co.sort,by rw [nls,List.map_map]; rfl⟩ (.inl ⟨rfl,rfl⟩)
    intro r hr
    have k5:=(co.e r hr).2.1
    exact egn (by walk_at "sc") (EvE.eq (EvO.toE (evo_sorted (ns:=zl r) (EvE.toL (EvE.eq (κ:=false) (by walk_at "ev") (nl_zl r))) (by unfold zl; rw [List.length_map]; omega))) (congrArg PyData.list (srt_zl _)))
theorem rows_nls (cs:List (List Nat)):Rows (cs.map nl):=fun d hd=>by
  obtain ⟨r,_,rfl⟩:=List.mem_map.mp hd
  exact ⟨zl r,nl_zl r⟩
theorem ShR.set {n:Nat} {cs:List (List Nat)} (h:ShR n cs) (k:Nat) {r:List Nat} (hr:∀ x∈r,x < n) (rl:r.length≤5) (rs:r.Pairwise (· < ·)):ShR n (cs.set k r):=⟨by rw [List.length_set]; exact h.l,fun q hq=>by
  rcases List.mem_or_eq_of_mem_set hq with hq | hq
  · exact h.e q hq
  · rw [hq]
    exact ⟨hr,rl,rs⟩⟩
def pre_law_causes (ds:List PyData) (G:PyData→Prop):Prop:=∃ ns:List Int,ds=[il ns]∧G=fun d=>∃ n cs,ShR n cs∧n≤12∧d=nls cs
theorem len_law_causes (ds:List PyData) (G:PyData→Prop) (h:pre_law_causes ds G):ds.length=1:=by obtain ⟨a,rfl,_⟩:=h; rfl
theorem sc_law_causes:FnScope ["_law_script", "_law_many", "_law_causes_here", "_law_j", "_law_number", "_law_k", "_law_c"] ["_law_script"] (defScope (top 12)):=⟨rfl,rfl,rfl,by decide +kernel,rfl,by decide +kernel,by decide +kernel⟩
theorem ok_law_causes (F:Fun K "_law_causes" "_law_causes" (top 12) f fd) (B:Bs mg) (Z:Cs K mg C_BookError C_NoBook C_Ring f_Ring g_Ring) (c_law_cell_at:Callee P w K mg base CX0 "_law_cell_at" ["_law_script", "_law_k"] 1 (spD K true pre_law_cell_at)) (c_law_shape:Callee P w K mg base CX0 "_law_shape" ["_law_script", "_law_first", "_law_many"] 2 (spW K true pre_law_shape)):FnOk P w K mg base CX0 3 f fd ["_law_script"] (spW K true pre_law_causes):=by
  have sc:=sc_law_causes
  refine F.ok sc (fun vs H Q E h=>spW_len len_law_causes h) (fun cdv A outer s H vs Q E hr h=>?_)
  obtain ⟨Fh,ds,G,le,dp,p,q⟩:=h
  refine ⟨_,(pss_cons (ps_set (i:=1) sc.nd rfl (Or.inl rfl) (pe_op op_mod (pe_fn c_law_cell_at (hr.mono (by decide)) rfl pass0 (pa_cons (pv 0) (pa_cons pe_int pa_nil))) pe_int))
      (pss_cons (ps_set (i:=2) sc.nd rfl (Or.inl rfl) (pe_fn c_law_shape (hr.mono (by decide)) rfl pass0 (pa_cons (pv 0) (pa_cons pe_int (pa_cons (pv 1) pa_nil)))))
      (pss_cons (ps_if (PW.pt (pw_or (pt_cmpR op_eq (pv 1) pe_int (nomark _)) (pw_or1 (pt_cmpR op_eq (pe_op op_mod (pe_op op_fdiv (pe_fn c_law_cell_at (hr.mono (by decide)) rfl pass0 (pa_cons (pv 0) (pa_cons pe_int pa_nil))) pe_int) pe_int) pe_int (nomark _))))) (pss_one (ps_ret (pv 2))) pss_nil)
      (pss_cons (ps_for PassesOwn.never rfl (pi_range1 rfl B.range (pa_cons (pe_op op_add pe_int (pe_op op_mod (pe_op op_fdiv (pe_fn c_law_cell_at (hr.mono (by decide)) rfl pass0 (pa_cons (pv 0) (pa_cons pe_int pa_nil))) pe_int) pe_int)) pa_nil)) (pg_name (i:=3) sc.nd rfl (Or.inl rfl)) (pss_cons (ps_set (i:=4) sc.nd rfl (Or.inl rfl) (pe_op op_mod (pe_op op_mulB (pe_fn c_law_cell_at (hr.mono (by decide)) rfl pass0 (pa_cons (pv 0) (pa_cons (pe_op op_add (pe_op op_add (pv 1) pe_int) (pv 3)) pa_nil))) pe_int) pe_int))
      (pss_cons (ps_set (i:=5) sc.nd rfl (Or.inl rfl) (pe_op op_mod (pv 4) (pv 1)))
      (pss_cons (ps_set (i:=6) sc.nd rfl (Or.inl rfl) (pe_op op_mod (pe_op op_fdiv (pv 4) (pv 1)) (pv 1)))
      (pss_one (ps_if (PW.pt (pw_and (pt_cmpR (op_notIn_seqK (K:=K) rfl) (pv 6) (pe_ix (ix_listK (K:=K) rfl) (pv 2) (pv 5) (fun _ _=>rfl)) (rfl)) (pw_and1 (pt_cmpR op_lt (pe_callB (call_len_seqK (K:=K) rfl) rfl B.len (by decide +kernel) (pa_cons (pe_ix (ix_listK (K:=K) rfl) (pv 2) (pv 5) (fun _ _=>rfl)) pa_nil)) pe_int (nomark _))))) (pss_one (ps_asg (pe_callB (call_sortedK (K:=K) rfl) rfl B.sorted (by decide +kernel) (pa_cons (pe_op (op_catSK (K:=K) rfl) (pe_ix (ix_listK (K:=K) rfl) (pv 2) (pv 5) (fun _ _=>rfl)) (pe_lst (pa_cons (pv 6) pa_nil))) pa_nil)) (pg_sub (pv 2) (pv 5) set_list))) pss_nil))))))
      (pss_one (ps_ret (pv 2))))))),?_⟩
  have hN:(["_law_script", "_law_many", "_law_causes_here", "_law_j", "_law_number", "_law_k", "_law_c"]:List Str).length=7:=rfl
  obtain ⟨ns,rfl,rfl⟩:=p
  have big:=line_big
  refine run_defW le dp q hN (by walk_at "st") ?_
  have c0:∀ {Γ:PD.Ctx},GetC Γ 0 (.fz false (il ns))→EvE K .fresh false (tCall (spD K true pre_law_cell_at) [] E0 (tCons (tVar 0) (tCons (tC (.int 0)) tNil))) Γ (.int (ns.getD 0 0)):=fun h=>ev_callF (ea_cons (evv h (by decide)) (by walk_at "ev")) (show pre_law_cell_at [il ns,.int 0] _ from ⟨ns,0,rfl,rfl⟩)
  obtain ⟨n,hn⟩:∃ n:Nat,ns.getD 0 0 % 13=(n:Int):=⟨(ns.getD 0 0 % 13).toNat,by have:=Int.emod_nonneg (ns.getD 0 0) (show (13:Int)≠0 by decide); omega⟩
  have n12:n≤12:=by have:=Int.emod_lt_of_pos (ns.getD 0 0) (show (0:Int) < 13 by decide); omega
  refine exs true (d:=.int n) (EvE.eq (ev_mod (c0 (by walk_at "gc")) (by walk_at "ev") (by decide)) (congrArg PyData.int hn)) (by walk_at "sc") ?_
  refine exog true (evog_rows (by walk_at "ev") (show pre_law_shape [il ns,.int 1,.int n] _ from ⟨ns,1,n,rfl,n12,rfl⟩) (fun d ⟨cs,_,e⟩=>⟨cs.map nl,e,rows_nls cs⟩)) (fun d=>by walk_at "sc") ?_
  rintro d ⟨cs,ok,e⟩
  cases e
  refine exif2 (b:=decide ((n:Int)=0) || decide (ns.getD 0 0 / 13 % 3=0)) (et_or (et_test (ev_eqI (by walk_at "ev") (by walk_at "ev"))) fun _=>et_test (ev_eqI (ev_mod (ev_fdiv (c0 (by walk_at "gc")) (by walk_at "ev") ⟨by decide,by decide⟩) (by walk_at "ev") (by decide)) (by walk_at "ev"))) (fun _=>?_) (fun h=>?_)
  · exact ex_seq (fun _=>False) (exro (κ:=true) (by walk_at "gc") ⟨n,cs,ok,n12,rfl⟩ (.inl ⟨rfl,rfl⟩)) fun _ z=>z.elim
  have n0:0 < n:=by
    rcases Nat.eq_zero_or_pos n with z | z
    · rw [z] at h; cases h
    · exact z
  refine exn ?_
  have m6:=Int.emod_nonneg (ns.getD 0 0 / 39) (show (6:Int)≠0 by decide)
  have m7:=Int.emod_lt_of_pos (ns.getD 0 0 / 39) (show (0:Int) < 6 by decide)
  generalize hj:1 + ns.getD 0 0 / 39 % 6=j
  refine exfor (ds:=(List.range j.toNat).map fun i:Nat=>.int (i:Int)) true (fun i Γ=>∃ (cs:List (List Nat)) (x1 x2 x3 x4:Option DV),ShR n cs∧Γ=[some (.fz false (il ns)),some (.fz true (.int n)),some (.ow true (cs.map nl)),x1,x2,x3,x4]) (ei_rng1 (n:=j) (ea_cons (EvE.eq (ev_add (by walk_at "ev") (ev_mod (ev_fdiv (c0 (by walk_at "gc")) (by walk_at "ev") ⟨by decide,by decide⟩) (by walk_at "ev") (by decide))) (congrArg PyData.int hj)) ea_nil) (by omega) (by omega)) ⟨cs,none,none,none,none,ok,rfl⟩ ?_ ?_
  · clear ok cs
    rintro i d Γ' hd ⟨cs,x1,x2,x3,x4,ok,rfl⟩
    obtain ⟨hi,rfl⟩:=range_get hd
    refine ⟨_,egn (by walk_at "sc") ?_⟩
    have m1:IntMulOk (ns.getD (n + 1 + i) 0) 48271:=small_mul (by decide) (by decide)
    generalize hu:ns.getD (n + 1 + i) 0 * 48271 % 2147483647=u
    refine exs true (d:=.int u) (EvE.eq (ev_mod (ev_mul (ev_callF (by walk_at "ev") (show pre_law_cell_at [il ns,.int ((n:Int) + 1 + i)] _ from ⟨ns,n + 1 + i,congrArg (fun z=>[il ns,PyData.int z]) (by omega),rfl⟩)) (by walk_at "ev") m1) (by walk_at "ev") (by decide)) (congrArg PyData.int hu)) (by walk_at "sc") ?_
    obtain ⟨k,hk⟩:∃ k:Nat,u % (n:Int)=(k:Int):=⟨(u % (n:Int)).toNat,by have:=Int.emod_nonneg u (show (n:Int)≠0 by omega); omega⟩
    have kn:k < n:=by have:=Int.emod_lt_of_pos u (show (0:Int) < n by omega); omega
    refine exs true (d:=.int k) (EvE.eq (ev_mod (by walk_at "ev") (by walk_at "ev") (by omega)) (congrArg PyData.int hk)) (by walk_at "sc") ?_
    obtain ⟨c,hc⟩:∃ c:Nat,u / (n:Int) % (n:Int)=(c:Int):=⟨(u / (n:Int) % (n:Int)).toNat,by have:=Int.emod_nonneg (u / (n:Int)) (show (n:Int)≠0 by omega); omega⟩
    have cn:c < n:=by have:=Int.emod_lt_of_pos (u / (n:Int)) (show (0:Int) < n by omega); omega
    refine exs true (d:=.int c) (EvE.eq (ev_mod (ev_fdiv (by walk_at "ev") (by walk_at "ev") ⟨by omega,by omega⟩) (by walk_at "ev") (by omega)) (congrArg PyData.int hc)) (by walk_at "sc") ?_
    obtain ⟨a1,a2,a3,a4⟩:=ok.at kn
    have ak:atI (cs.map nl) (k:Int)=some (il (zl (cs.getD k []))):=by
      have z:=ok.ix (k:=(k:Int)) (by omega)
      rwa [Int.toNat_natCast] at z
    have zlen:(zl (cs.getD k [])).length≤5:=by unfold zl; rw [List.length_map]; exact a3
    have er:∀ {Γ:PD.Ctx} {κ:Bool},GetC Γ 2 (.ow true (cs.map nl))→GetC Γ 5 (.fz true (.int (k:Int)))→EvL K .fresh κ (tOp (rIxL K) (tVar 2) (tVar 5)) Γ ((zl (cs.getD k [])).map .int):=fun h1 h2=>EvL.imm (κ:=true) (EvE.toL (ev_ixL (evw h1 (by decide)) (evv h2 (by decide)) ak)) (imm_ints _)
    refine ex_if (b:=(!decide ((c:Int)∈zl (cs.getD k []))) && decide ((((zl (cs.getD k [])).map PyData.int).length:Int) < 5)) (et_and (et_test (ev_inI (neg:=true) (by walk_at "ev") (er (by walk_at "gc") (by walk_at "gc")))) fun _=>et_test (ev_lt (ev_len (er (κ:=false) (by walk_at "gc") (by walk_at "gc"))) (by walk_at "ev"))) (fun h=>?_) (fun _=>ex_next ⟨cs,_,_,_,_,ok,rfl⟩)
    obtain ⟨h1,h2⟩:=(Bool.and_eq_true _ _).mp h
    have h1:(c:Int)∉zl (cs.getD k []):=by simpa using h1
    have h2:=of_decide_eq_true h2
    rw [List.length_map] at h2
    have l5:(cs.getD k []).length < 5:=by unfold zl at h2; rw [List.length_map] at h2; omega
    have nm:c∉cs.getD k []:=fun z=>h1 (List.mem_map.mpr ⟨c,z,rfl⟩)
    have nd:(cs.getD k [] ++ [c]).Nodup:=by
      rw [List.nodup_append]
      exact ⟨a4.imp fun h=>by omega,by simp,fun a ha b hb=>by rw [List.mem_singleton.mp hb]; exact fun z=>nm (z ▸ ha)⟩
    have ez:(zl (cs.getD k [])).map PyData.int ++ [.int (c:Int)]=(zl (cs.getD k [] ++ [c])).map PyData.int:=by
      unfold zl
      rw [List.map_append,List.map_append]
      rfl
    refine exi1 (d:=nl (srtN (cs.getD k [] ++ [c]))) (m:=(k:Int)) (j:=k) (by walk_at "gc") (EvE.eq (EvO.toE (evo_sorted (ns:=zl (cs.getD k [] ++ [c])) (EvO.toL (EvO.eq (evo_cat (κ:=false) (er (by walk_at "gc") (by walk_at "gc")) (EvO.toL (evo_lst (ds:=[.int (c:Int)]) (by walk_at "ev") (by show 1≤sizeLine; omega))) (by rw [List.length_map]; show _ + 1≤sizeLine; omega)) ez)) (by unfold zl; rw [List.length_map,List.length_append]; show _ + 1 < 64; omega))) (congrArg PyData.list (srt_zl _))) (by walk_at "ev") (ixN_nat (by rw [List.length_map,ok.l]; exact kn)) (by walk_at "sc") ?_
    exact ⟨cs.set k (srtN (cs.getD k [] ++ [c])),_,_,_,_,ok.set _ (fun x hx=>by
      rcases List.mem_append.mp ((srtN_perm _).mem_iff.mp hx) with z | z
      · exact a2 x z
      · rw [List.mem_singleton.mp z]; exact cn) (by rw [(srtN_perm _).length_eq,List.length_append]; show _ + 1≤5; omega) (srtN_rise nd),by rw [List.map_set]⟩
  · rintro Γ' ⟨cs,x1,x2,x3,x4,ok,rfl⟩
    exact exro (κ:=true) (by walk_at "gc") ⟨n,cs,ok,n12,rfl⟩ (.inl ⟨rfl,rfl⟩)
theorem shaped_il (ks:List Int):SeqAt.shaped (il ks)=true:=shaped_of (lay_map (g:=PyData.int) (fun _=>rfl) ks) (by
  have:=depth_map (g:=PyData.int) (n:=0) (fun _=>Nat.le_refl _) ks
  show PyData.depthAll _ + 1≤50
  omega)
def pre_law_numbers (ds:List PyData) (d:PyData):Prop:=∃ r:List Int,ds=[il r]∧r.length≤1000∧d=.bool true
theorem len_law_numbers (ds:List PyData) (d:PyData) (h:pre_law_numbers ds d):ds.length=1:=by obtain ⟨a,rfl,_⟩:=h; rfl
theorem sc_law_numbers:FnScope ["_law_found"] ["_law_found"] (defScope (top 13)):=⟨rfl,rfl,rfl,by decide +kernel,rfl,by decide +kernel,by decide +kernel⟩
theorem ok_law_numbers (F:Fun K "_law_numbers" "_law_numbers" (top 13) f fd) (B:Bs mg) (Z:Cs K mg C_BookError C_NoBook C_Ring f_Ring g_Ring)  : FnOk P w K mg base CX0 1 f fd ["_law_found"] (spD K true pre_law_numbers):=by
  have sc:=sc_law_numbers
  refine F.ok sc (fun vs H Q E h=>spD_len len_law_numbers h) (fun cdv A outer s H vs Q E hr h=>?_)
  obtain ⟨Fh,ds,d,le,dp,p,q⟩:=h
  refine ⟨_,(pss_cons (ps_if (pt_not (pt_val (pe_callB (call_isiDK (K:=K) rfl) rfl B.isinstance (by decide +kernel) (pa_cons (pv 0) (pa_cons (pe_bltn (v:=.ty "list") rfl B.list (by decide +kernel) rfl) pa_nil))))) (pss_one (ps_ret pe_bl)) pss_nil)
      (pss_one (ps_ret (pe_callB (call_allK (K:=K) rfl rfl) rfl B.all (by decide +kernel) (pa_cons (pe_comp rfl (N:=["_law_k"]) (js:=[none]) (by walk_at "comp_ok") (pi_listK (K:=K) rfl (pv 0)) (fun _ _ _ _=>(pg_name (i:=0) (show List.Nodup (["_law_k"]:List PySem.Str) by decide +kernel) rfl (Or.inl rfl))) (fun _ _ _ _=>pif_nil) (fun _ _ _ _=>(pe_and (pe_callB (call_isiDK (K:=K) rfl) rfl B.isinstance (by decide +kernel) (pa_cons (pv 0) (pa_cons (pe_bltn (v:=.ty "int") rfl B.int (by decide +kernel) rfl) pa_nil))) (pe_one (pe_not (pe_callB (call_isiDK (K:=K) rfl) rfl B.isinstance (by decide +kernel) (pa_cons (pv 0) (pa_cons (pe_bltn (v:=.ty "bool") rfl B.bool (by decide +kernel) rfl) pa_nil)))))))) pa_nil))))),?_⟩
  have hN:(["_law_found"]:List Str).length=1:=rfl
  obtain ⟨r,rfl,hl,rfl⟩:=p
  have big:=line_big
  walk_at "run"
  refine exifF (b:=!true) (by walk_at "ev") rfl ?_
  refine ex_ret true (EvE.eq (ev_all (bs:=r.map fun _=>true) (EvO.toL (EvO.eq (evo_each (κ:=false) (is:=[0]) (xs:=r) false PyData.int (fun _=>.bool (true && !false)) (fun x _ y _ h=>rfl) (ei_list (by walk_at "ev")) (by walk_at "cc") rfl (by decide) (by omega) ?_) (by rw [List.map_map]; rfl)))) (by simp)) rfl (.inl ⟨rfl,rfl⟩)
  intro k hk
  exact egn (by walk_at "sc") (by walk_at "ev")
def pre_law_asked (ds:List PyData) (d:PyData):Prop:=∃ (n:Nat) (cs:List (List Nat)) (f:List Int),ds=[nls cs]∧OrdS n cs∧grd cs n (rgI n)=some f∧d=.tuple [il f,.none]
theorem len_law_asked (ds:List PyData) (d:PyData) (h:pre_law_asked ds d):ds.length=1:=by obtain ⟨a,b,c,rfl,_⟩:=h; rfl
def prr_law_asked (ds:List PyData) (rs:List Int):Prop:=∃ (n:Nat) (cs:List (List Nat)),ds=[nls cs]∧OrdS n cs∧grd cs n (rgI n)=none∧rs=ringO n cs
theorem lenr_law_asked (ds:List PyData) (rs:List Int) (h:prr_law_asked ds rs):ds.length=1:=by obtain ⟨a,b,rfl,_⟩:=h; rfl
theorem sc_law_asked:FnScope ["_law_causes_here", "_law_kept", "_law_order", "e"] ["_law_causes_here"] (defScope (top 14)):=⟨rfl,rfl,rfl,by decide +kernel,rfl,by decide +kernel,by decide +kernel⟩
theorem ok_law_asked (F:Fun K "_law_asked" "_law_asked" (top 14) f fd) (B:Bs mg) (Z:Cs K mg C_BookError C_NoBook C_Ring f_Ring g_Ring) (c_order_of:Callee P w K mg base CX0 "order_of" ["causes"] 3 (spD K true pre_order_of)) (x_order_of:Callee P w K mg base (CXd P w) "order_of" ["causes"] 3 (spRg K prx_order_of C_Ring)):FnOk P w K mg base CX0 4 f fd ["_law_causes_here"] (spO (spD K true pre_law_asked) (spAR K prr_law_asked C_Ring)):=by
  have sc:=sc_law_asked
  refine FnOk.or (F.ok sc (fun vs H Q E h=>spD_len len_law_asked h) (fun cdv A outer s H vs Q E hr h=>?_)) (F.ok sc (fun vs H Q E h=>spAR_len lenr_law_asked h) (fun cdv A outer s H vs Q E hr h=>?_))
  · obtain ⟨Fh,ds,d,le,dp,p,q⟩:=h
    refine ⟨_,(pss_cons (ps_set (i:=1) sc.nd rfl (Or.inl rfl) pe_non)
      (pss_cons (ps_set (i:=2) sc.nd rfl (Or.inl rfl) pe_non)
      (pss_cons (ps_tryN (pss_one (ps_set (i:=2) sc.nd rfl (Or.inl rfl) (pe_fn c_order_of (hr.mono (by decide)) rfl pass0 (pa_cons (pv 0) pa_nil)))) (fun _ _ z=>z))
      (pss_one (ps_ret (pe_tup (pa_cons (pv 2) (pa_cons (pv 1) pa_nil)))))))),?_⟩
    have hN:(["_law_causes_here", "_law_kept", "_law_order", "e"]:List Str).length=4:=rfl
    obtain ⟨n,cs,f,rfl,ok,hg,rfl⟩:=p
    walk_at "run"
    refine exs true (d:=.none) (by walk_at "ev") (by walk_at "sc") ?_
    refine exs true (d:=.none) (by walk_at "ev") (by walk_at "sc") ?_
    refine exs true (ev_callF (by walk_at "ev") ⟨n,cs,f,rfl,ok,hg,rfl⟩) (by walk_at "sc") ?_
    exact ex_ret true (by walk_at "ev") rfl (.inl ⟨rfl,rfl⟩)
  · obtain ⟨Fh,ds,rs,le,dp,p,q⟩:=h
    refine ⟨_,(pss_cons (ps_set (i:=1) sc.nd rfl (Or.inl rfl) pe_non)
      (pss_cons (ps_set (i:=2) sc.nd rfl (Or.inl rfl) pe_non)
      (pss_cons (ps_tryD (i:=3) (pxd_call x_order_of (hr.mono (by decide)) rfl (pa_cons (pv 0) pa_nil) (fun _ _ z=>z)) (pg_name (i:=2) sc.nd rfl (Or.inl rfl)) rfl rfl rfl (fun _ _ z=>z) Z.n_BookError rfl Z.m_Ring_BookError Z.b_BookError Z.t_BookError sc.nd rfl rfl (fun _=>(pss_one (ps_set (i:=1) sc.nd rfl (Or.inl rfl) (pv 3)))))
      (pss_one (ps_ret (pe_tup (pa_cons (pv 2) (pa_cons (pv 1) pa_nil)))))))),?_⟩
    have hN:(["_law_causes_here", "_law_kept", "_law_order", "e"]:List Str).length=4:=rfl
    obtain ⟨n,cs,rfl,ok,hg,rfl⟩:=p
    refine run_u le dp q hN (by walk_at "st") ?_
    refine exu_seq (·=[some (.fz false (nls cs)),some (.fz true .none),none,none]) (exs1 true (by walk_at "ev") (by walk_at "sc") rfl) ?_
    rintro _ rfl
    refine exu_seq (·=[some (.fz false (nls cs)),some (.fz true .none),some (.fz true .none),none]) (exs1 true (by walk_at "ev") (by walk_at "sc") rfl) ?_
    rintro _ rfl
    refine exu_seq (·=[some (.fz false (nls cs)),some (.xp (rgP K C_Ring (ringO n cs))),some (.fz true .none),none]) (ex_tryD (ds:=[nls cs]) (by walk_at "ev") ⟨n,cs,rfl,ok,hg,rfl⟩ (by walk_at "sc") (exxp1 (by walk_at "gc") (by walk_at "sc") rfl)) ?_
    rintro _ rfl
    exact exu_ret (by walk_at "gc") (by walk_at "gc")
def pre_law_order_good (ds:List PyData) (d:PyData):Prop:=∃ (n:Nat) (cs:List (List Nat)) (f:List Int),ds=[nls cs,il f]∧OrdS n cs∧OG cs (rgI n) f∧d=.bool true
theorem len_law_order_good (ds:List PyData) (d:PyData) (h:pre_law_order_good ds d):ds.length=2:=by obtain ⟨a,b,c,rfl,_⟩:=h; rfl
theorem all_in (a row:List Int):((row.map fun c=>decide (c∈a)).all fun b=>b)=decide (∀ c∈row,c∈a):=by
  rw [Bool.eq_iff_iff,List.all_eq_true,decide_eq_true_iff]
  constructor
  · intro h c hc
    exact of_decide_eq_true (h _ (List.mem_map.mpr ⟨c,hc,rfl⟩))
  · intro h b hb
    obtain ⟨c,hc,rfl⟩:=List.mem_map.mp hb
    exact decide_eq_true (h c hc)
theorem sc_law_order_good:FnScope ["_law_causes_here", "_law_found", "_law_at", "_law_ahead", "_law_k"] ["_law_causes_here", "_law_found"] (defScope (top 15)):=⟨rfl,rfl,rfl,by decide +kernel,rfl,by decide +kernel,by decide +kernel⟩
theorem ok_law_order_good (F:Fun K "_law_order_good" "_law_order_good" (top 15) f fd) (B:Bs mg) (Z:Cs K mg C_BookError C_NoBook C_Ring f_Ring g_Ring) (c_law_numbers:Callee P w K mg base CX0 "_law_numbers" ["_law_found"] 1 (spD K true pre_law_numbers)):FnOk P w K mg base CX0 2 f fd ["_law_causes_here", "_law_found"] (spD K true pre_law_order_good):=by
  have sc:=sc_law_order_good
  refine F.ok sc (fun vs H Q E h=>spD_len len_law_order_good h) (fun cdv A outer s H vs Q E hr h=>?_)
  obtain ⟨Fh,ds,d,le,dp,p,q⟩:=h
  refine ⟨_,(pss_cons (ps_if (PW.pt (pw_or (pt_not (pt_val (pe_fn c_law_numbers (hr.mono (by decide)) rfl pass0 (pa_cons (pv 1) pa_nil)))) (pw_or1 (pt_cmpR (op_neSK (K:=K) rfl hr.units) (pe_callB (call_sortedK (K:=K) rfl) rfl B.sorted (by decide +kernel) (pa_cons (pv 1) pa_nil)) (pe_callTy (call_listRng rfl) rfl B.list (by decide +kernel) (pa_cons (pe_callTy call_rngO rfl B.range (by decide +kernel) (pa_cons (pe_callB (call_len_seqK (K:=K) rfl) rfl B.len (by decide +kernel) (pa_cons (pv 0) pa_nil)) pa_nil)) pa_nil)) (nomark _))))) (pss_one (ps_ret pe_bl)) pss_nil)
      (pss_cons (ps_for PassesOwn.never rfl (pi_range1 rfl B.range (pa_cons (pe_callB (call_len_seqK (K:=K) rfl) rfl B.len (by decide +kernel) (pa_cons (pv 1) pa_nil)) pa_nil)) (pg_name (i:=2) sc.nd rfl (Or.inl rfl)) (pss_cons (ps_set (i:=3) sc.nd rfl (Or.inr rfl) (pe_slice (sl_listK (K:=K) rfl) (pv 1) po_none (po_some (pv 2))))
      (pss_cons (ps_if (pt_not (pt_val (pe_callB (call_allK (K:=K) rfl rfl) rfl B.all (by decide +kernel) (pa_cons (pe_comp rfl (N:=["_law_c", "_law_ahead"]) (js:=[none,some 3]) (by walk_at "comp_ok") (pi_listK (K:=K) rfl (pe_ix (ix_listK (K:=K) rfl) (pv 0) (pe_ix (ix_listK (K:=K) rfl) (pv 1) (pv 2) (fun _ _=>rfl)) (fun _ _=>rfl))) (fun _ _ _ _=>(pg_name (i:=0) (show List.Nodup (["_law_c", "_law_ahead"]:List PySem.Str) by decide +kernel) rfl (Or.inl rfl))) (fun _ _ _ _=>pif_nil) (fun _ _ _ _=>(pe_cmpR (op_in_seqK (K:=K) rfl) (pv 0) (pv 1) (rfl)))) pa_nil)))) (pss_one (ps_ret pe_bl)) pss_nil)
      (pss_one (ps_for PassesOwn.never rfl (pi_listK (K:=K) rfl (pe_slice (sl_listK (K:=K) rfl) (pv 1) (po_some (pv 2)) po_none)) (pg_name (i:=4) sc.nd rfl (Or.inl rfl)) (pss_one (ps_if (PW.pt (pw_and (pt_cmpR op_lt (pv 4) (pe_ix (ix_listK (K:=K) rfl) (pv 1) (pv 2) (fun _ _=>rfl)) (nomark _)) (pw_and1 (pt_val (pe_callB (call_allK (K:=K) rfl rfl) rfl B.all (by decide +kernel) (pa_cons (pe_comp rfl (N:=["_law_c", "_law_ahead"]) (js:=[none,some 3]) (by walk_at "comp_ok") (pi_listK (K:=K) rfl (pe_ix (ix_listK (K:=K) rfl) (pv 0) (pv 4) (fun _ _=>rfl))) (fun _ _ _ _=>(pg_name (i:=0) (show List.Nodup (["_law_c", "_law_ahead"]:List PySem.Str) by decide +kernel) rfl (Or.inl rfl))) (fun _ _ _ _=>pif_nil) (fun _ _ _ _=>(pe_cmpR (op_in_seqK (K:=K) rfl) (pv 0) (pv 1) (rfl)))) pa_nil)))))) (pss_one (ps_ret pe_bl)) pss_nil)))))))
      (pss_one (ps_ret pe_bl)))),?_⟩
  have hN:(["_law_causes_here", "_law_found", "_law_at", "_law_ahead", "_law_k"]:List Str).length=5:=rfl
  obtain ⟨n,cs,f,rfl,⟨ok,n12⟩,⟨pm,og⟩,rfl⟩:=p
  have big:=line_big
  have cl:=ok.l
  have fl:f.length=n:=by rw [pm.length_eq,rgI_len]
  have fr:∀ x∈f,0≤x∧x < n:=fun x hx=>rgI_mem.mp (pm.mem_iff.mp hx)
  have fs:srt f=rgI n:=(srt_eq pm.symm (rgI_up.imp fun h=>by omega)).symm
  walk_at "run"
  refine exifF (b:=!true || false) (et_or (et_not (et_B (ev_callF (ds:=[il f]) (by walk_at "ev") ⟨f,rfl,by omega,rfl⟩))) fun _=>et_test (ev_neSm (d:=il (rgI n)) (EvE.toD (κ:=false) (EvO.toE (EvO.eq (evo_sorted (ns:=f) (EvE.toL (κ:=false) (by walk_at "ev")) (by omega)) (by rw [fs])))) (EvE.toD (κ:=false) (EvO.toE (EvO.eq (evo_listRng (n:=n) (EvE.eq (ev_len (ds:=cs.map nl) (by walk_at "ev")) (by rw [List.length_map,cl])) (by omega)) (by unfold rgI zl; rw [List.map_map]; rfl)))) (shaped_il _))) rfl ?_
  refine exfor (ds:=(List.range n).map fun i:Nat=>.int (i:Int)) true (fun i Γ=>∃ (x2 x3 x4:Option DV),Γ=[some (.fz false (nls cs)),some (.fz false (il f)),x2,x3,x4]) (ei_rng1 (n:=(n:Int)) (ea_cons (EvE.eq (ev_len (ds:=f.map .int) (by walk_at "ev")) (by rw [List.length_map,fl])) ea_nil) (by omega) (by omega)) ⟨none,none,none,rfl⟩ ?_ ?_
  · rintro i d Γ' hd ⟨x2,x3,x4,rfl⟩
    obtain ⟨hi,rfl⟩:=range_get hd
    refine ⟨_,egn (by walk_at "sc") ?_⟩
    have hif:i < f.length:=by omega
    have ai:atI (f.map PyData.int) (i:Int)=some (.int (f.getD i 0)):=at_ints hif
    have ef:f=f.take i ++ f.getD i 0 :: f.drop (i + 1):=by
      have z:=List.take_append_drop i f
      rw [List.drop_eq_getElem_cons hif] at z
      rw [List.getD_eq_getElem?_getD,List.getElem?_eq_getElem hif]
      exact z.symm
    obtain ⟨o1,o2⟩:=og _ _ _ ef
    have ym:f.getD i 0∈f:=getD_memI hif
    have yr:=fr _ ym
    generalize hy:f.getD i 0=y at ai ef o1 o2 ym yr
    refine exs true (d:=il (f.take i)) (EvO.toE (EvO.eq (evo_slice (EvL.imm (κ:=false) (EvE.toL (by walk_at "ev")) (imm_ints f)) ep_none (ep_some (by walk_at "ev"))) (cutT PyData.int f i))) (by walk_at "sc") ?_
    have cin:∀ {k:Int},0≤k∧k < n→∀ c∈zl (cs.getD k.toNat []),c∈rgI n:=fun {k} hk c hc=>by
      obtain ⟨c',hc',rfl⟩:=List.mem_map.mp hc
      have:=(ok.at (k:=k.toNat) (by omega)).2.1 c' hc'
      exact rgI_mem.mpr (by omega)
    have al:∀ {Γ:PD.Ctx} {t:TE} {k:Int},0≤k∧k < n→EvE K .fresh false t Γ (il (zl (cs.getD k.toNat [])))→CaptC [none,some 3] Γ [none,some (.fz true (il (f.take i)))] →
        EvE K .fresh false (tCB (rAll K) (tCons (tComp [none,some 3] (iList K t) (gName 0) tYes (tOp (rIn K false) (tVar 0) (tVar 1))) tNil)) Γ (.bool (decide (∀ c∈zl (cs.getD k.toNat []),c∈f.take i))):=fun {Γ t k} hk ht hc=>by
      have rl:=(ok.at (k:=k.toNat) (by omega)).2.2.1
      refine EvE.eq (ev_all (bs:=(zl (cs.getD k.toNat [])).map fun c=>decide (c∈f.take i)) (EvO.toL (EvO.eq (evo_each (κ:=false) (is:=[0]) (xs:=zl (cs.getD k.toNat [])) false PyData.int (fun c=>.bool (decide (c∈f.take i))) (fun x _ y _ h=>by cases h; rfl) (ei_list ht) hc rfl (by decide) (by unfold zl; rw [List.length_map]; omega) ?_) (by rw [List.map_map]; rfl)))) (by rw [all_in])
      intro c hc
      exact egn (by walk_at "sc") (ev_inI (neg:=false) (by walk_at "ev") (EvE.toL (κ:=false) (by walk_at "ev")))
    refine exifF (b:=!decide (∀ c∈zl (cs.getD y.toNat []),c∈f.take i)) (et_not (et_B (al yr (ev_ixL (EvE.toL (κ:=false) (by walk_at "ev")) (ev_ixL (EvE.toL (κ:=false) (by walk_at "ev")) (by walk_at "ev") ai) (ok.ix yr)) (by walk_at "cc")))) (by rw [decide_eq_true fun c hc=>o1 c hc (cin yr c hc)]; rfl) ?_
    have dl:(f.drop i).length≤f.length:=by rw [List.length_drop]; omega
    have ed:f.drop i=y :: f.drop (i + 1):=by rw [List.drop_eq_getElem_cons hif,← hy,List.getD_eq_getElem?_getD,List.getElem?_eq_getElem hif]; rfl
    refine ex_for (ds:=(f.drop i).map .int) true (fun j Γ=>∃ (x2 x3 x4:Option DV),Γ=[some (.fz false (nls cs)),some (.fz false (il f)),some (.fz true (.int (i:Int))),some (.fz true (il (f.take i))),x4]) (ei_list (EvO.toE (EvO.eq (evo_slice (EvL.imm (κ:=false) (EvE.toL (by walk_at "ev")) (imm_ints f)) (ep_some (by walk_at "ev")) ep_none) (cutH PyData.int f i)))) ⟨none,none,x4,rfl⟩ ?_ ?_
    · rintro j d Γ' hd ⟨_,_,x4,rfl⟩
      obtain ⟨k,hk,rfl⟩:=get_map hd
      have km:k∈f.drop i:=List.mem_of_getElem? hk
      have kr:=fr k (List.mem_of_mem_drop km)
      refine ⟨_,egn (by walk_at "sc") ?_⟩
      refine ex_if (b:=decide (k < y) && decide (∀ c∈zl (cs.getD k.toNat []),c∈f.take i)) (et_and (et_test (ev_lt (by walk_at "ev") (ev_ixL (EvE.toL (κ:=false) (by walk_at "ev")) (by walk_at "ev") ai))) fun _=>et_B (al kr (ev_ixL (EvE.toL (κ:=false) (by walk_at "ev")) (by walk_at "ev") (ok.ix kr)) (by walk_at "cc"))) (fun h=>?_) (fun _=>ex_next ⟨none,none,_,rfl⟩)
      obtain ⟨h1,h2⟩:=(Bool.and_eq_true _ _).mp h
      have h1:=of_decide_eq_true h1
      have h2:=of_decide_eq_true h2
      rw [ed] at km
      rcases List.mem_cons.mp km with z | z
      · omega
      · obtain ⟨c,c1,_,c3⟩:=o2 k z h1
        exact absurd (h2 c c1) c3
    · rintro Γ' ⟨_,_,x4,rfl⟩
      exact ⟨_,_,_,rfl⟩
  · rintro Γ' ⟨x2,x3,x4,rfl⟩
    exact ex_ret true (by walk_at "ev") rfl (.inl ⟨rfl,rfl⟩)
def pre_law_ring_good (d0:PyData) (ns:List Int) (d:PyData):Prop:=∃ (n:Nat) (cs:List (List Nat)) (S:List Int),d0=nls cs∧StS n cs S∧RingOk cs S ns∧d=.bool true
theorem RingOk.back {n:Nat} {cs:List (List Nat)} {S r:List Int} (h:RingOk cs S r) {i:Nat} (hi:i < r.length):∃ x,atI (r.map PyData.int) ((i:Int) - 1)=some (.int x)∧x∈zl (cs.getD (r.getD i 0).toNat []):=by
  cases i with
  | zero =>
    have lm:=lst_get h.ne
    refine ⟨lstD r,?_,?_⟩
    · obtain ⟨a,ea⟩:=List.getLast?_eq_some_iff.mp lm
      conv=>lhs; rw [ea,List.map_append]
      exact atI_last _ _
    · refine h.cl _ _ lm ?_
      cases r with
      | nil=>exact absurd rfl h.ne
      | cons a r=>rfl
  | succ i =>
    refine ⟨r.getD i 0,?_,Ch.at h.ch hi⟩
    have z:=at_ints (ns:=r) (k:=i) (by omega)
    rw [show ((i + 1:Nat):Int) - 1=(i:Int) by omega]
    exact z
theorem sc_law_ring_good:FnScope ["_law_causes_here", "_law_kept", "_law_ring"] ["_law_causes_here", "_law_kept"] (defScope (top 16)):=⟨rfl,rfl,rfl,by decide +kernel,rfl,by decide +kernel,by decide +kernel⟩
theorem ok_law_ring_good (F:Fun K "_law_ring_good" "_law_ring_good" (top 16) f fd) (B:Bs mg) (Z:Cs K mg C_BookError C_NoBook C_Ring f_Ring g_Ring) (c_law_numbers:Callee P w K mg base CX0 "_law_numbers" ["_law_found"] 1 (spD K true pre_law_numbers)):FnOk P w K mg base CX0 2 f fd ["_law_causes_here", "_law_kept"] (spKr K pre_law_ring_good C_Ring):=by
  have sc:=sc_law_ring_good
  refine F.ok sc (fun vs H Q E h=>spKr_len h) (fun cdv A outer s H vs Q E hr h=>?_)
  obtain ⟨Fh,v0,d0,u,ns,d,rfl,le,dp,ku,p,q⟩:=h
  refine ⟨_,(pss_cons (ps_if (PW.pt (pw_or (pt_not (pt_val (pe_callB call_isiXd rfl B.isinstance (by decide +kernel) (pa_cons (pv 1) (pa_cons (pe_glob (v:=.ref C_Ring) rfl Z.n_Ring rfl) pa_nil))))) (pw_or (pt_not (pt_val (pe_callB call_isiXd rfl B.isinstance (by decide +kernel) (pa_cons (pv 1) (pa_cons (pe_bltn (v:=.ty "ValueError") rfl B.ValueError (by decide +kernel) rfl) pa_nil))))) (pw_or1 (pt_val (pe_callB call_isiXd rfl B.isinstance (by decide +kernel) (pa_cons (pv 1) (pa_cons (pe_glob (v:=.ref C_NoBook) rfl Z.n_NoBook rfl) pa_nil)))))))) (pss_one (ps_ret pe_bl)) pss_nil)
      (pss_cons (ps_set (i:=2) sc.nd rfl (Or.inr rfl) (pe_atX (pv 1)))
      (pss_cons (ps_if (PW.pt (pw_or (pt_not (pt_val (pe_fn c_law_numbers (hr.mono (by decide)) rfl pass0 (pa_cons (pv 2) pa_nil)))) (pw_or (pt_cmpR (op_eqDK (K:=K) rfl hr.units) (pv 2) (pe_lst pa_nil) (nomark _)) (pw_or1 (pt_cmpR op_ne (pe_callB call_lenI rfl B.len (by decide +kernel) (pa_cons (pe_callTy (call_setIK (K:=K) rfl rfl) rfl B.set (by decide +kernel) (pa_cons (pv 2) pa_nil)) pa_nil)) (pe_callB (call_len_seqK (K:=K) rfl) rfl B.len (by decide +kernel) (pa_cons (pv 2) pa_nil)) (nomark _)))))) (pss_one (ps_ret pe_bl)) pss_nil)
      (pss_cons (ps_if (PW.pt (pw_or (pt_cmpR op_lt (pe_callB (call_minIK (K:=K) rfl rfl) rfl B.min (by decide +kernel) (pa_cons (pv 2) pa_nil)) pe_int (nomark _)) (pw_or (pt_cmpR op_ge (pe_callB (call_maxIK (K:=K) rfl rfl) rfl B.max (by decide +kernel) (pa_cons (pv 2) pa_nil)) (pe_callB (call_len_seqK (K:=K) rfl) rfl B.len (by decide +kernel) (pa_cons (pv 0) pa_nil)) (nomark _)) (pw_or1 (pt_cmpR op_ne (pe_ix (ix_listK (K:=K) rfl) (pv 2) pe_int (fun _ _=>rfl)) (pe_callB (call_minIK (K:=K) rfl rfl) rfl B.min (by decide +kernel) (pa_cons (pv 2) pa_nil)) (nomark _)))))) (pss_one (ps_ret pe_bl)) pss_nil)
      (pss_one (ps_ret (pe_callB (call_allK (K:=K) rfl rfl) rfl B.all (by decide +kernel) (pa_cons (pe_comp rfl (N:=["_law_at", "_law_ring", "_law_causes_here"]) (js:=[none,some 2,some 0]) (by walk_at "comp_ok") (pi_range1 rfl B.range (pa_cons (pe_callB (call_len_seqK (K:=K) rfl) rfl B.len (by decide +kernel) (pa_cons (pv 2) pa_nil)) pa_nil)) (fun _ _ _ _=>(pg_name (i:=0) (show List.Nodup (["_law_at", "_law_ring", "_law_causes_here"]:List PySem.Str) by decide +kernel) rfl (Or.inl rfl))) (fun _ _ _ _=>pif_nil) (fun _ _ _ _=>(pe_cmpR (op_in_seqK (K:=K) rfl) (pe_ix (ix_listK (K:=K) rfl) (pv 1) (pe_op op_sub (pv 0) pe_int) (fun _ _=>rfl)) (pe_ix (ix_listK (K:=K) rfl) (pv 2) (pe_ix (ix_listK (K:=K) rfl) (pv 1) (pv 0) (fun _ _=>rfl)) (fun _ _=>rfl)) (rfl)))) pa_nil)))))))),?_⟩
  have hN:(["_law_causes_here", "_law_kept", "_law_ring"]:List Str).length=3:=rfl
  obtain ⟨n,cs,S,rfl,ss,rk,rfl⟩:=p
  have big:=line_big
  have ok:=ss.ok
  have n12:=ss.n12
  have cl:=ok.l
  have sl:=ss.l
  have nl':=nd_len rk.nd rk.sb
  have l0:=List.length_pos_iff.mpr rk.ne
  have mm:=ss.r _ (rk.sb _ (mnL_mem rk.ne))
  have mx:=ss.r _ (rk.sb _ (mxL_mem rk.ne))
  refine run_kr le dp ku q hN (by decide) (by walk_at "st") (by walk_at "sc") ?_
  refine exifF (b:=!true || (!true || false)) (et_or (et_not (et_B (ev_isxP (by walk_at "gc") Z.r_Ring.e rfl Z.k_Ring_Ring))) fun _=>et_or (et_not (et_B (ev_isxP (by walk_at "gc") Z.r_Ring.e rfl Z.k_Ring_ValueError))) fun _=>et_B (ev_isxP (by walk_at "gc") Z.r_Ring.e rfl Z.k_Ring_NoBook)) rfl ?_
  refine exs false (d:=il ns) (ev_ringP (by walk_at "gc") Z.r_Ring.e Z.r_Ring.s) (by walk_at "sc") ?_
  refine exifF (b:=!true || (PyData.eqv (il ns) (il []) || !decide (((dd ns).length:Int)=((ns.map PyData.int).length:Nat)))) (et_or (et_not (et_B (ev_callF (ds:=[il ns]) (by walk_at "ev") ⟨ns,rfl,by omega,rfl⟩))) fun _=>et_or (et_test (ev_eqD (neg:=false) (EvE.toD (κ:=false) (by walk_at "ev")) (EvE.toD (κ:=false) (EvO.toE (evo_lst (ds:=[]) ea_nil (by decide)))) (shaped_il _) (shaped_il []))) fun _=>et_test (ev_neI (ev_lenSet (ns:=ns) (EvE.toL (κ:=false) (by walk_at "ev")) (by omega)) (ev_len (ds:=ns.map .int) (EvE.toL (κ:=false) (by walk_at "ev"))))) ?_ ?_
  · rw [dd_id rk.nd,List.length_map,decide_eq_true rfl]
    cases ns with
    | nil=>exact absurd rfl rk.ne
    | cons a l=>rfl
  have a0:atI (ns.map PyData.int) 0=some (.int (ns.getD 0 0)):=at_ints (ns:=ns) (k:=0) l0
  have e0:ns.getD 0 0=mnL ns:=by
    have z:=rk.hd
    cases ns with
    | nil=>exact absurd rfl rk.ne
    | cons a l=>exact Option.some.inj z
  refine exifF (b:=decide (mnL ns < 0) || (decide (((cs.map nl).length:Int)≤mxL ns) || !decide (ns.getD 0 0=mnL ns))) (et_or (et_test (ev_lt (ev_bestI (ns:=ns) (EvE.toL (κ:=false) (by walk_at "ev")) rk.ne) (by walk_at "ev"))) fun _=>et_or (et_test (ev_ge (ev_bestI (ns:=ns) (EvE.toL (κ:=false) (by walk_at "ev")) rk.ne) (ev_len (ds:=cs.map nl) (EvE.toL (κ:=false) (by walk_at "ev"))))) fun _=>et_test (ev_neI (ev_ixL (EvE.toL (κ:=false) (by walk_at "ev")) (by walk_at "ev") a0) (ev_bestI (ns:=ns) (EvE.toL (κ:=false) (by walk_at "ev")) rk.ne))) ?_ ?_
  · rw [decide_eq_false (by omega),decide_eq_false (by rw [List.length_map,cl]; omega),decide_eq_true e0]
    rfl
  refine ex_ret false (EvE.eq (ev_all (bs:=(List.range ns.length).map fun _=>true) (EvO.toL (EvO.eq (evo_each (κ:=false) (is:=[0]) (xs:=List.range ns.length) true (fun i:Nat=>.int (i:Int)) (fun _=>.bool true) (fun _ _ _ _ _=>rfl) (ei_rng1 (n:=(ns.length:Int)) (ea_cons (EvE.eq (ev_len (ds:=ns.map .int) (EvE.toL (κ:=false) (by walk_at "ev"))) (by rw [List.length_map])) ea_nil) (by omega) (by omega)) (by walk_at "cc") rfl (by decide) (by rw [List.length_range]; omega) ?_) (by rw [List.map_map]; rfl)))) (by simp)) rfl (.inl ⟨rfl,rfl⟩)
  intro i hi
  have hi:=List.mem_range.mp hi
  obtain ⟨x,x1,x2⟩:=rk.back (n:=n) hi
  have ai:atI (ns.map PyData.int) (i:Int)=some (.int (ns.getD i 0)):=at_ints hi
  have ir:=ss.r _ (rk.sb _ (getD_memI hi))
  refine egn (by walk_at "sc") (EvE.eq (ev_inI (neg:=false) (i:=x) (ns:=zl (cs.getD (ns.getD i 0).toNat [])) (ev_ixL (EvE.toL (κ:=false) (by walk_at "ev")) (by walk_at "ev") x1) (EvE.toL (κ:=false) (ev_ixL (EvE.toL (κ:=false) (by walk_at "ev")) (ev_ixL (EvE.toL (κ:=false) (by walk_at "ev")) (by walk_at "ev") ai) (ok.ix ir)))) ?_)
  rw [if_neg (by decide),decide_eq_true x2]
theorem shaped_t1 (f:List Int):SeqAt.shaped (.tuple [il f,.none])=true:=by
  refine shaped_of ?_ ?_
  · show (PyData.canLay0 (il f) && (PyData.canLay0 .none && true))=true
    have h:=lay_map (g:=PyData.int) (fun _=>rfl) f
    rw [show PyData.canLay0 (il f)=true from h]
    rfl
  · have h:=depth_map (g:=PyData.int) (n:=0) (fun _=>Nat.le_refl _) f
    show PyData.depthAll [il f,.none] + 1≤50
    have e:PyData.depthAll [il f,.none]=max (PyData.depthAll (f.map PyData.int) + 1) (max 0 0):=rfl
    rw [e]
    omega
theorem sc_law:FnScope ["_law_script", "_law_causes_here", "_law_turn", "_law_handed", "_law_order", "_law_kept", "_law_due"] ["_law_script"] (defScope (top 17)):=⟨rfl,rfl,rfl,by decide +kernel,rfl,by decide +kernel,by decide +kernel⟩
theorem ok_law (F:Fun K "law" "law" (top 17) f fd) (B:Bs mg) (Z:Cs K mg C_BookError C_NoBook C_Ring f_Ring g_Ring) (c_law_causes:Callee P w K mg base CX0 "_law_causes" ["_law_script"] 3 (spW K true pre_law_causes)) (c_law_asked:Callee P w K mg base CX0 "_law_asked" ["_law_causes_here"] 4 (spO (spD K true pre_law_asked) (spAR K prr_law_asked C_Ring))) (c_law_order_good:Callee P w K mg base CX0 "_law_order_good" ["_law_causes_here", "_law_found"] 2 (spD K true pre_law_order_good)) (c_law_ring_good:Callee P w K mg base CX0 "_law_ring_good" ["_law_causes_here", "_law_kept"] 2 (spKr K pre_law_ring_good C_Ring)):FnOk P w K mg base CX0 5 f fd ["_law_script"] (spLaw K):=by
  have sc:=sc_law
  refine F.ok sc (fun vs H Q E h=>?_) (fun cdv A outer s H vs Q E hr h=>?_)
  · obtain ⟨a,ns,rfl,_⟩:=h
    rfl
  obtain ⟨a,ns,rfl,hS,h63,k⟩:=h
  have le:Same H H:=Same.refl H
  have dp:DpAll K H [V.ref a] [PyData.list (ns.map .int)]:=.cons (.lst hS (dpAll_ints ns)) .nil
  have q:∀ v H' F',Gr H H H' F'→Rp K false .fresh H F' v (.bool true)→Q v H':=fun v H' F' _ z=>by cases z; exact k H'
  refine ⟨_,(pss_cons (ps_set (i:=1) sc.nd rfl (Or.inl rfl) (pe_fn c_law_causes (hr.mono (by decide)) rfl pass0 (pa_cons (pv 0) pa_nil)))
      (pss_cons (ps_for PassesOwn.never rfl (pi_range1 rfl B.range (pa_cons (pe_op op_add (pe_callB (call_len_seqK (K:=K) rfl) rfl B.len (by decide +kernel) (pa_cons (pv 1) pa_nil)) pe_int) pa_nil)) (pg_name (i:=2) sc.nd rfl (Or.inl rfl)) (pss_cons (ps_setComp (i:=3) rfl sc.nd rfl rfl (N:=["_law_row"]) (js:=[none]) (by walk_at "comp_ok") (pi_listK (K:=K) rfl (pv 1)) (fun _ _ _ _=>(pg_name (i:=0) (show List.Nodup (["_law_row"]:List PySem.Str) by decide +kernel) rfl (Or.inl rfl))) (fun _ _ _ _=>pif_nil) (fun _ _ _ _=>(pe_callTy (call_list_ofK (K:=K) rfl) rfl B.list (by decide +kernel) (pa_cons (pv 0) pa_nil))))
      (pss_cons (ps_asg (pe_fn c_law_asked (hr.mono (by decide)) rfl pass0 (pa_cons (pv 3) pa_nil)) (pg_tupK (K:=K) (n:=2) rfl rfl (pgs_cons (pg_name (i:=4) sc.nd rfl (Or.inl rfl)) (pgs_cons (pg_name (i:=5) sc.nd rfl (Or.inl rfl)) pgs_nil))))
      (pss_cons (ps_if (pt_cmpR (op_neSK (K:=K) rfl hr.units) (pv 3) (pv 1) (nomark _)) (pss_one (ps_ret pe_bl)) pss_nil)
      (pss_cons (ps_if (pt_cmpR op_isN (pv 5) pe_non (nomark _)) (pss_cons (ps_if (pt_not (pt_val (pe_fn c_law_order_good (hr.mono (by decide)) rfl pass0 (pa_cons (pv 1) (pa_cons (pv 4) pa_nil))))) (pss_one (ps_ret pe_bl)) pss_nil)
      (pss_cons (ps_set (i:=6) sc.nd rfl (Or.inl rfl) (pe_callTy (call_list_ofK (K:=K) rfl) rfl B.list (by decide +kernel) (pa_cons (pv 4) pa_nil)))
      (pss_cons (ps_expr (pe_bm0K (K:=K) rfl PySem.F.plainAttrs_list PySem.F.slot_list_clear PySem.F.type_list_clear mt_clear (pv 3)))
      (pss_cons (ps_expr (pe_bmK (K:=K) rfl PySem.F.plainAttrs_list PySem.F.slot_list_append PySem.F.type_list_append mt_append (pv 4) (pa_cons pe_int pa_nil)))
      (pss_one (ps_ret (pe_cmpR (op_eqSK (K:=K) rfl hr.units) (pe_fn c_law_asked (hr.mono (by decide)) rfl pass0 (pa_cons (pv 1) pa_nil)) (pe_tup (pa_cons (pv 6) (pa_cons pe_non pa_nil))) (nomark _)))))))) pss_nil)
      (pss_cons (ps_if (pt_not (pt_val (pe_fn c_law_ring_good (hr.mono (by decide)) rfl pass0 (pa_cons (pv 1) (pa_cons (pv 5) pa_nil))))) (pss_one (ps_ret pe_bl)) pss_nil)
      (pss_one (ps_asg (pe_lst pa_nil) (pg_sub (pv 1) (pe_ix (ix_listK (K:=K) rfl) (pe_atX (pv 5)) pe_int (fun _ _=>rfl)) set_list)))))))))
      (pss_one (ps_ret pe_bl)))),?_⟩
  have hN:(["_law_script", "_law_causes_here", "_law_turn", "_law_handed", "_law_order", "_law_kept", "_law_due"]:List Str).length=7:=rfl
  have big:=line_big
  walk_at "run"
  refine exog true (evog_rows (by walk_at "ev") ⟨ns,rfl,rfl⟩ (fun d ⟨n,cs,_,_,e⟩=>⟨cs.map nl,e,rows_nls cs⟩)) (fun d=>by walk_at "sc") ?_
  rintro d ⟨n,cs0,ok0,n12,e⟩
  cases e
  have cl0:=ok0.l
  have ne0:nonE cs0≤n:=by rw [← cl0]; exact List.countP_le_length
  refine exfor (ds:=(List.range (n + 1)).map fun i:Nat=>.int (i:Int)) true (fun i Γ=>∃ (cs:List (List Nat)) (x2 x3 x4 x5 x6:Option DV),ShR n cs∧nonE cs + i≤n∧Γ=[some (.fz false (il ns)),some (.ow true (cs.map nl)),x2,x3,x4,x5,x6]) (ei_rng1 (n:=((n + 1:Nat):Int)) (ea_cons (EvE.eq (ev_add (ev_len (ds:=cs0.map nl) (by walk_at "ev")) (by walk_at "ev")) (by rw [List.length_map,cl0]; rfl)) ea_nil) (by omega) (by omega)) ⟨cs0,none,none,none,none,none,ok0,by omega,rfl⟩ ?_ ?_
  · clear ne0 ok0 cl0
    rintro i d Γ' hd ⟨cs,x2,x3,x4,x5,x6,ok,hne,rfl⟩
    obtain ⟨hi,rfl⟩:=range_get hd
    have cl:=ok.l
    refine ⟨_,egn (by walk_at "sc") ?_⟩
    have cp:∀ {x2 x3 x4 x5 x6:Option DV},EvO K .fresh true (tComp [none] (iList K (tVar 1)) (gName 0) tYes (tCB (fun xs H Q=>∃ p ys,xs=[.ref p]∧(SqL K H p ys∨SqT K H p ys)∧∀ l,H l=none→Q (.ref l) (upd H l (.lst ys))) (tCons (tVar 0) tNil))) [some (.fz false (il ns)),some (.ow true (cs.map nl)),x2,x3,x4,x5,x6] (cs.map nl):=fun {x2 x3 x4 x5 x6}=>by
      refine evo_thawR 1 (by walk_at "gc") (by walk_at "sc") (evo_each (κ:=true) (is:=[0]) (xs:=cs) true nl nl (fun x _ y _ h=>h) (ei_list (by walk_at "ev")) (by walk_at "cc") rfl (by decide) (by omega) ?_) (rows_nls cs) (rows_nls cs) fun z=>z
      intro r hr
      refine egn (by walk_at "sc") ?_
      exact EvO.toE (evo_list (EvE.toL (by walk_at "ev")))
    cases hg:grd cs n (rgI n) with
    | some f =>
      have og:=grd_good n rgI_len rgI_up hg
      refine exo true cp (by walk_at "sc") ?_
      refine ex_twN (ns:=f) (ec_thaw 3 (by walk_at "gc") (by walk_at "sc") (ec_callO (ds:=[nls cs]) (by walk_at "ev") ⟨n,cs,f,rfl,⟨ok,n12⟩,hg,rfl⟩)) (by walk_at "sc") (by walk_at "sc") ?_
      refine exifF (b:=false) (et_thaw 3 (by walk_at "gc") (by walk_at "sc") (et_thaw 1 (by walk_at "gc") (by walk_at "sc") (et_test (ev_neSm (d:=nls cs) (EvE.toD (κ:=false) (by walk_at "ev")) (EvE.toD (κ:=false) (by walk_at "ev")) (shaped_nls _))))) rfl ?_
      have fl:f.length≤12:=by rw [og.1.length_eq,rgI_len]; exact n12
      refine exif2 (b:=true) (et_test (EvE.eq (ev_isN (EvE.toD (κ:=false) (by walk_at "ev"))) rfl)) (fun _=>?_) (fun z=>by cases z)
      refine ex_seq (fun _=>False) ?_ fun _ z=>z.elim
      refine exifF (b:=!true) (et_thaw 1 (by walk_at "gc") (by walk_at "sc") (et_thaw 4 (by walk_at "gc") (by walk_at "sc") (et_not (et_B (ev_callF (ds:=[nls cs,il f]) (by walk_at "ev") ⟨n,cs,f,rfl,⟨ok,n12⟩,og,rfl⟩))))) rfl ?_
      refine exs true (d:=il f) (EvO.toE (evo_list (by walk_at "ev"))) (by walk_at "sc") ?_
      refine exclO (by walk_at "gc") (by walk_at "sc") ?_
      refine exa (d:=.int 0) (by walk_at "gc") (by walk_at "ev") (by walk_at "sc") (by rw [List.length_map]; omega) ?_
      refine ex_ret false (ev_thaw 1 (by walk_at "gc") (by walk_at "sc") (ev_eqSm (d:=.tuple [il f,.none]) (EvE.toD (κ:=false) (EvC.toE (ec_callO (ds:=[nls cs]) (by walk_at "ev") ⟨n,cs,f,rfl,⟨ok,n12⟩,hg,rfl⟩))) (EvE.toD (κ:=false) (by walk_at "ev")) ?_) rfl) rfl (.inr rfl)
      exact shaped_t1 f
    | none =>
      have st:=grd_stuck n rgI_len hg
      have sl:=st.sb.length_le
      rw [rgI_len] at sl
      have ss:StS n cs (stF cs n (rgI n)):=⟨ok,n12,⟨_,st⟩,fun x hx=>rgI_mem.mp (st.sb.subset hx),(nd_lt rgI_up).sublist st.sb,by omega⟩
      have rk:RingOk cs (stF cs n (rgI n)) (ringO n cs):=ring_ok st ss.l
      have l0:=List.length_pos_iff.mpr rk.ne
      have a0:atI ((ringO n cs).map PyData.int) 0=some (.int ((ringO n cs).getD 0 0)):=at_ints (k:=0) l0
      have kr:=ss.r _ (rk.sb _ (getD_memI l0))
      have kn:cs.getD ((ringO n cs).getD 0 0).toNat []≠[]:=fun z=>by
        obtain ⟨x,_,hx⟩:=rk.back (n:=n) l0
        rw [z] at hx
        cases hx
      generalize hk:(ringO n cs).getD 0 0=k at a0 kr kn
      obtain ⟨k,rfl⟩:∃ m:Nat,k=(m:Int):=⟨k.toNat,by omega⟩
      rw [Int.toNat_natCast] at kn
      have ns1:=nonE_set kn
      refine exs true (d:=nls cs) (EvO.toE cp) (by walk_at "sc") ?_
      refine ex_twR (ns:=ringO n cs) (ds:=[nls cs]) (by walk_at "ev") ⟨n,cs,rfl,⟨ok,n12⟩,hg,rfl⟩ (by walk_at "sc") (by walk_at "sc") ?_
      refine exifF (b:=false) (et_thaw 1 (by walk_at "gc") (by walk_at "sc") (et_test (ev_neSm (d:=nls cs) (EvE.toD (κ:=false) (by walk_at "ev")) (EvE.toD (κ:=false) (by walk_at "ev")) (shaped_nls _)))) rfl ?_
      refine exifF (b:=false) (et_test (ev_noneP (by walk_at "gc"))) rfl ?_
      refine exifF (b:=!true) (et_thaw 1 (by walk_at "gc") (by walk_at "sc") (et_not (et_B (ev_callKr (by walk_at "ev") (by walk_at "gc") ⟨n,cs,_,rfl,ss,rk,rfl⟩ rfl)))) rfl ?_
      refine exi1 (d:=nl []) (m:=(k:Int)) (j:=k) (by walk_at "gc") (EvO.toE (evo_lst (ds:=[]) ea_nil (by decide))) (ev_ixL (EvE.toL (κ:=false) (ev_ringP (by walk_at "gc") Z.r_Ring.e Z.r_Ring.s)) (by walk_at "ev") a0) (ixN_nat (by rw [List.length_map,cl]; omega)) (by walk_at "sc") ?_
      exact ⟨cs.set k [],_,_,_,_,_,ok.set _ (fun _ z=>nomatch z) (Nat.zero_le _) .nil,by omega,by rw [List.map_set]⟩
  · rintro Γ' ⟨cs,x2,x3,x4,x5,x6,ok,hne,rfl⟩
    rw [range_len] at hne
    omega
end
theorem all_ok {l:PySem.W.OpenLaw} {w:World} {K:PySem.W.Frag} {h:Heap} {mg:Str→Option Value} {fa:Addr} (X:K.In h) (G:h.Ns mainGlobals mg) (hfa:mg "law" = some (.ref fa))
    (d5:∃ f fd,At K "meet" (top 5) f fd) (d8:∃ f fd,At K "from_the_least" (top 8) f fd) (d7:∃ f fd,At K "ring_among" (top 7) f fd) (d6:∃ f fd,At K "order_of" (top 6) f fd) (d10:∃ f fd,At K "_law_cell_at" (top 10) f fd) (d11:∃ f fd,At K "_law_shape" (top 11) f fd) (d12:∃ f fd,At K "_law_causes" (top 12) f fd) (d13:∃ f fd,At K "_law_numbers" (top 13) f fd) (d14:∃ f fd,At K "_law_asked" (top 14) f fd) (d15:∃ f fd,At K "_law_order_good" (top 15) f fd) (d16:∃ f fd,At K "_law_ring_good" (top 16) f fd)
    {f0:Addr} {oc:Value} {od an:Option Addr} {osl:Array (Option Value)} {kV doc pm cdv ct:Value} (a0:PySem.W.nsIn K mainGlobals "law" = some (some (.ref f0)))
    (l0:K.lookup f0=some ⟨oc,od,.func (PySem.W.fnOf "law" "law" (defArgs (top 17)) (defBody (top 17)) (defScope (top 17)) .none kV doc pm an cdv ct),osl⟩) (c0:PySem.W.codeIn K cdv "law" = true) (k0:PySem.W.keepIn K (.ref f0)=true)
    (z1:PySem.W.nsIn K mainGlobals "len" = some none) (z2:PySem.W.nsIn K mainGlobals "set" = some none) (z3:PySem.W.nsIn K mainGlobals "list" = some none) (z4:PySem.W.nsIn K mainGlobals "range" = some none) (z5:PySem.W.nsIn K mainGlobals "reversed" = some none) (z6:PySem.W.nsIn K mainGlobals "min" = some none) (z7:PySem.W.nsIn K mainGlobals "sorted" = some none) (z8:PySem.W.nsIn K mainGlobals "isinstance" = some none) (z9:PySem.W.nsIn K mainGlobals "all" = some none) (z10:PySem.W.nsIn K mainGlobals "int" = some none) (z11:PySem.W.nsIn K mainGlobals "bool" = some none) (z12:PySem.W.nsIn K mainGlobals "ValueError" = some none) (z13:PySem.W.nsIn K mainGlobals "max" = some none)
    {C_BookError C_NoBook C_Ring:Addr}  {f_Ring:Addr} {xd_Ring xa_Ring:Option Addr} {xk_Ring xo_Ring xp_Ring xc_Ring xt_Ring:Value} {xs_Ring:Array (Option Value)}(y_BookError:PySem.W.nsIn K mainGlobals "BookError" = some (some (.ref C_BookError))) (y_NoBook:PySem.W.nsIn K mainGlobals "NoBook" = some (some (.ref C_NoBook))) (y_Ring:PySem.W.nsIn K mainGlobals "Ring" = some (some (.ref C_Ring))) (g1_Ring:PySem.W.findIn K (.ref C_Ring) "__getattribute__" = some (some (.builtin "BaseException.__getattribute__"))) (g2_Ring:PySem.W.findIn K (.ref C_Ring) "__getattr__" = some none) (g3_Ring:PySem.W.findIn K (.ref C_Ring) "__class__" = some (some (.builtin "object.__class__"))) (g4_Ring:PySem.W.specialIn K (.builtin "object.__class__") "__get__" = some (some (.builtin "getset_descriptor.__get__"))) (g5_Ring:PySem.W.takesIn K (.builtin "object.__class__")=some true) (g6_Ring:PySem.W.mroIn K C_Ring (.type "object")=some true) (g7_Ring:PySem.W.subIn K (.ref C_Ring) (.type "BaseException")=some true) (fi_Ring:PySem.W.findIn K (.ref C_Ring) "__init__" = some (some (.ref f_Ring))) (lk_Ring:K.lookup f_Ring=some ⟨.type "function", xd_Ring,.func (PySem.W.fnOf "__init__" "Ring.__init__" (defArgs (meth 3)) (defBody (meth 3)) (defScope (meth 3)) .none xk_Ring xo_Ring xp_Ring xa_Ring xc_Ring xt_Ring),xs_Ring⟩) (cd_Ring:PySem.W.codeIn K xc_Ring "Ring.__init__" = true) (kf_Ring:PySem.W.keepIn K (.ref f_Ring)=true) (q_Ring:excInI K C_Ring f_Ring=true) (s1_Ring:PySem.W.findIn K (.ref C_Ring) "__setattr__" = some (some (.builtin "object.__setattr__"))) (s2_Ring:(PySem.W.clsIn K C_Ring).any (fun cd=>overV cd.mro)=true) (s3_Ring:PySem.W.findIn K (.ref C_Ring) "ring" = some none) (s4_Ring:PySem.W.hasDictIn K C_Ring=true) (ty_Ring:PySem.W.typeIn K (.ref C_Ring)=some (.type "type")) (kc_Ring:PySem.W.keepIn K (.ref C_Ring)=true) (u1_Ring:PySem.W.readsIn K C_BookError (.type "type")=true) (u2_Ring:PySem.W.findCls K (.ref C_BookError) (.type "type") "__init__" = some (.val (.builtin "ValueError.__init__"))) (u3_Ring:PySem.W.specialIn K (.ref C_BookError) "__getattribute__" = some (some (.builtin "type.__getattribute__"))) (m_Ring_BookError:PySem.W.mroIn K C_Ring (.ref C_BookError)=some true) (b_BookError:PySem.W.mroIn K C_BookError (.type "BaseException")=some true) (t_BookError:PySem.W.typeIn K (.ref C_BookError)=some (.type "type")) (k_Ring_Ring:PySem.W.kitOne K (.ref C_Ring) (.ref C_Ring)=some true) (k_Ring_ValueError:PySem.W.kitOne K (.ref C_Ring) (.type "ValueError")=some true) (k_Ring_NoBook:PySem.W.kitOne K (.ref C_Ring) (.ref C_NoBook)=some false) :
    ∃ fd:FuncData,(∀ (s:Shared) (v:Value),BindsTo s fd ⟨[v],[]⟩ [("_law_script", v)])∧∀ base:Heap,K.In base→base.Ns mainGlobals mg→FnOk l.prog w K mg base CX0 5 fa fd ["_law_script"] (spLaw K):=by
  have e:=hfa.symm.trans (PySem.W.mg_of X G a0)
  cases e
  have nn:∀ {x:Str},PySem.W.nsIn K mainGlobals x=some none→mg x=none:=fun z=>PySem.W.mg_none_of X G z
  have B:Bs mg:=⟨nn z1,nn z2,nn z3,nn z4,nn z5,nn z6,nn z7,nn z8,nn z9,nn z10,nn z11,nn z12,nn z13⟩
  refine ⟨PySem.W.fnOf "law" "law" (defArgs (top 17)) (defBody (top 17)) (defScope (top 17)) .none kV doc pm an cdv ct,fun s v=>.of_eq rfl,fun base _ _=>?_⟩
  have mm:∀ {x:Str} {f:Addr},PySem.W.nsIn K mainGlobals x=some (some (.ref f))→mg x=some (.ref f):=fun z=>PySem.W.mg_of X G z
  have Z:Cs K mg C_BookError C_NoBook C_Ring f_Ring _:=⟨mm y_BookError,mm y_NoBook,mm y_Ring,⟨g1_Ring,g2_Ring,g3_Ring,g4_Ring,g5_Ring,g6_Ring,g7_Ring⟩,m_Ring_BookError,b_BookError,t_BookError,k_Ring_Ring,k_Ring_ValueError,k_Ring_NoBook,⟨q_Ring,⟨g1_Ring,g2_Ring,g3_Ring,g4_Ring,g5_Ring,g6_Ring,g7_Ring⟩,⟨s1_Ring,s2_Ring,s3_Ring,s4_Ring⟩,ty_Ring⟩,kc_Ring,⟨u1_Ring,u2_Ring,u3_Ring⟩,fun_mk lk_Ring cd_Ring kf_Ring,(fun_mk lk_Ring cd_Ring kf_Ring).binds (ps:=["self", "ring"]) fun _ _ _ _ _ _ us hl=>match us,hl with | [_,_],_=>rfl,⟨_,lk_Ring,rfl⟩⟩
  obtain ⟨f5,g5,a5,F5⟩:=d5
  have b5:=F5.binds (ps:=["some", "others"]) fun _ _ _ _ _ _ us hl=>match us,hl with | [_,_],_=>rfl
  have C_meet:=callee (P:=l.prog) (w:=w) (base:=base) F5 (mm a5) b5 (ok_meet F5 B Z)
  obtain ⟨f8,g8,a8,F8⟩:=d8
  have b8:=F8.binds (ps:=["ring"]) fun _ _ _ _ _ _ us hl=>match us,hl with | [_],_=>rfl
  have C_from_the_least:=callee (P:=l.prog) (w:=w) (base:=base) F8 (mm a8) b8 (ok_from_the_least F8 B Z)
  obtain ⟨f7,g7,a7,F7⟩:=d7
  have b7:=F7.binds (ps:=["causes", "left"]) fun _ _ _ _ _ _ us hl=>match us,hl with | [_,_],_=>rfl
  have C_ring_among:=callee (P:=l.prog) (w:=w) (base:=base) F7 (mm a7) b7 (ok_ring_among F7 B Z C_from_the_least)
  obtain ⟨f6,g6,a6,F6⟩:=d6
  have b6:=F6.binds (ps:=["causes"]) fun _ _ _ _ _ _ us hl=>match us,hl with | [_],_=>rfl
  have C_order_of:=callee (P:=l.prog) (w:=w) (base:=base) F6 (mm a6) b6 (ok_order_of F6 B Z C_meet)
  have X_order_of:=calleeXd (P:=l.prog) (w:=w) (base:=base) F6 (mm a6) b6 (okx_order_of F6 B Z C_meet C_ring_among)
  obtain ⟨f10,g10,a10,F10⟩:=d10
  have b10:=F10.binds (ps:=["_law_script", "_law_k"]) fun _ _ _ _ _ _ us hl=>match us,hl with | [_,_],_=>rfl
  have C__law_cell_at:=callee (P:=l.prog) (w:=w) (base:=base) F10 (mm a10) b10 (ok_law_cell_at F10 B Z)
  obtain ⟨f11,g11,a11,F11⟩:=d11
  have b11:=F11.binds (ps:=["_law_script", "_law_first", "_law_many"]) fun _ _ _ _ _ _ us hl=>match us,hl with | [_,_,_],_=>rfl
  have C__law_shape:=callee (P:=l.prog) (w:=w) (base:=base) F11 (mm a11) b11 (ok_law_shape F11 B Z C__law_cell_at)
  obtain ⟨f12,g12,a12,F12⟩:=d12
  have b12:=F12.binds (ps:=["_law_script"]) fun _ _ _ _ _ _ us hl=>match us,hl with | [_],_=>rfl
  have C__law_causes:=callee (P:=l.prog) (w:=w) (base:=base) F12 (mm a12) b12 (ok_law_causes F12 B Z C__law_cell_at C__law_shape)
  obtain ⟨f13,g13,a13,F13⟩:=d13
  have b13:=F13.binds (ps:=["_law_found"]) fun _ _ _ _ _ _ us hl=>match us,hl with | [_],_=>rfl
  have C__law_numbers:=callee (P:=l.prog) (w:=w) (base:=base) F13 (mm a13) b13 (ok_law_numbers F13 B Z)
  obtain ⟨f14,g14,a14,F14⟩:=d14
  have b14:=F14.binds (ps:=["_law_causes_here"]) fun _ _ _ _ _ _ us hl=>match us,hl with | [_],_=>rfl
  have C__law_asked:=callee (P:=l.prog) (w:=w) (base:=base) F14 (mm a14) b14 (ok_law_asked F14 B Z C_order_of X_order_of)
  obtain ⟨f15,g15,a15,F15⟩:=d15
  have b15:=F15.binds (ps:=["_law_causes_here", "_law_found"]) fun _ _ _ _ _ _ us hl=>match us,hl with | [_,_],_=>rfl
  have C__law_order_good:=callee (P:=l.prog) (w:=w) (base:=base) F15 (mm a15) b15 (ok_law_order_good F15 B Z C__law_numbers)
  obtain ⟨f16,g16,a16,F16⟩:=d16
  have b16:=F16.binds (ps:=["_law_causes_here", "_law_kept"]) fun _ _ _ _ _ _ us hl=>match us,hl with | [_,_],_=>rfl
  have C__law_ring_good:=callee (P:=l.prog) (w:=w) (base:=base) F16 (mm a16) b16 (ok_law_ring_good F16 B Z C__law_numbers)
  exact ok_law (fun_mk l0 c0 k0) B Z C__law_causes C__law_asked C__law_order_good C__law_ring_good
theorem walk {l:PySem.W.OpenLaw} {q:Program} {loose:List Str} {XP:(Str→Option Value)→Heap→Prop} {YP:World→Heap→Prop} {d:DefRec} {K:Params→PySem.W.Frag} (hn:l.most=some 63) (hdf:d.params.defaults=[])
    (hY:∀ (w:World) (h:Heap),YP w h→(K w.params).In h) (hT:∀ (w:World) (h:Heap),YP w h→(∀ p∈tabsOf (K w.params),h.get? p.1=some (PySem.W.tabObj #[]))∧tabsUq (K w.params)=true)
    (F:∀ (w:World) (mg:Str→Option Value) (fa:Addr) (h:Heap),(K w.params).In h→h.Ns mainGlobals mg→mg d.name=some (.ref fa) →
      ∃ fd:FuncData,(∀ (s:Shared) (u:Value),BindsTo s fd ⟨[u],[]⟩ [("_law_script", u)])∧∀ base:Heap,(K w.params).In base→base.Ns mainGlobals mg→FnOk l.prog w (K w.params) mg base CX0 5 fa fd ["_law_script"] (spLaw (K w.params))) :
    PySem.W.WalkO q loose XP YP l.row.toRowW d [] (fun f vs=>PySem.call f vs) :=
  L2.walk_of (n:=63) (k:=5) (x := "_law_script") (CX:=fun _=>CX0) (sp:=fun w=>spLaw (K w.params)) hn (by decide) hdf ⟨rfl,by decide,by decide,rfl⟩ hY hT F (fun _ _ a ns hl hS=>⟨a,ns,rfl,hS,hl,fun _=>rfl⟩) fun _ _ _ _ _ z=>z
end K11
open PySem PySem.W PyProof.Rows
set_option maxRecDepth 100000 in
set_option maxHeartbeats 0 in
theorem PySem.Challenge.cw_causebook_k11_order_holds : PySem.Challenge.rw_causebook_k11_order.Holds := by
  w_on; o_law; k_head; (case hw=>w_witness2)
  k_fill
  refine K11.walk (l:=PySem.Challenge.rw_causebook_k11_order) rfl rfl (fun w h Y=>PySem.W.kIn_of Y) (fun w h Y=>⟨tabs_no (by kernel_rfl),by kernel_rfl⟩) ?F
  case F =>
    intro w mg fa h KX G hmg
    refine' K11.all_ok KX G hmg ?d5 ?d8 ?d7 ?d6 ?d10 ?d11 ?d12 ?d13 ?d14 ?d15 ?d16 ?a0 ?l0 ?c0 ?k0 ?z1 ?z2 ?z3 ?z4 ?z5 ?z6 ?z7 ?z8 ?z9 ?z10 ?z11 ?z12 ?z13 ?y_BookError ?y_NoBook ?y_Ring ?g1_Ring ?g2_Ring ?g3_Ring ?g4_Ring ?g5_Ring ?g6_Ring ?g7_Ring ?fi_Ring ?lk_Ring ?cd_Ring ?kf_Ring ?q_Ring ?s1_Ring ?s2_Ring ?s3_Ring ?s4_Ring ?ty_Ring ?kc_Ring ?u1_Ring ?u2_Ring ?u3_Ring ?m_Ring_BookError ?b_BookError ?t_BookError ?k_Ring_Ring ?k_Ring_ValueError ?k_Ring_NoBook
    (case d5=>(refine' Cm.top_mk ?a ?l ?c ?k; (case a=>k_is); (case l=>k_is); (case c=>k_is); (case k=>k_is)))
    (case d8=>(refine' Cm.top_mk ?a ?l ?c ?k; (case a=>k_is); (case l=>k_is); (case c=>k_is); (case k=>k_is)))
    (case d7=>(refine' Cm.top_mk ?a ?l ?c ?k; (case a=>k_is); (case l=>k_is); (case c=>k_is); (case k=>k_is)))
    (case d6=>(refine' Cm.top_mk ?a ?l ?c ?k; (case a=>k_is); (case l=>k_is); (case c=>k_is); (case k=>k_is)))
    (case d10=>(refine' Cm.top_mk ?a ?l ?c ?k; (case a=>k_is); (case l=>k_is); (case c=>k_is); (case k=>k_is)))
    (case d11=>(refine' Cm.top_mk ?a ?l ?c ?k; (case a=>k_is); (case l=>k_is); (case c=>k_is); (case k=>k_is)))
    (case d12=>(refine' Cm.top_mk ?a ?l ?c ?k; (case a=>k_is); (case l=>k_is); (case c=>k_is); (case k=>k_is)))
    (case d13=>(refine' Cm.top_mk ?a ?l ?c ?k; (case a=>k_is); (case l=>k_is); (case c=>k_is); (case k=>k_is)))
    (case d14=>(refine' Cm.top_mk ?a ?l ?c ?k; (case a=>k_is); (case l=>k_is); (case c=>k_is); (case k=>k_is)))
    (case d15=>(refine' Cm.top_mk ?a ?l ?c ?k; (case a=>k_is); (case l=>k_is); (case c=>k_is); (case k=>k_is)))
    (case d16=>(refine' Cm.top_mk ?a ?l ?c ?k; (case a=>k_is); (case l=>k_is); (case c=>k_is); (case k=>k_is)))
    (case a0=>k_is); (case l0=>k_is); (case c0=>k_is); (case k0=>k_is)
    (case z1=>k_is); (case z2=>k_is); (case z3=>k_is); (case z4=>k_is); (case z5=>k_is); (case z6=>k_is); (case z7=>k_is); (case z8=>k_is); (case z9=>k_is); (case z10=>k_is); (case z11=>k_is); (case z12=>k_is); (case z13=>k_is); (case y_BookError=>k_is); (case y_NoBook=>k_is); (case y_Ring=>k_is); (case g1_Ring=>k_is); (case g2_Ring=>k_is); (case g3_Ring=>k_is); (case g4_Ring=>k_is); (case g5_Ring=>k_is); (case g6_Ring=>k_is); (case g7_Ring=>k_is); (case fi_Ring=>k_is); (case lk_Ring=>k_is); (case cd_Ring=>k_is); (case kf_Ring=>k_is); (case q_Ring=>kernel_rfl); (case s1_Ring=>k_is); (case s2_Ring=>kernel_rfl); (case s3_Ring=>k_is); (case s4_Ring=>kernel_rfl); (case ty_Ring=>k_is); (case kc_Ring=>k_is); (case u1_Ring=>kernel_rfl); (case u2_Ring=>kernel_rfl); (case u3_Ring=>k_is); (case m_Ring_BookError=>k_is); (case b_BookError=>k_is); (case t_BookError=>k_is); (case k_Ring_Ring=>kit_is); (case k_Ring_ValueError=>kit_is); (case k_Ring_NoBook=>kit_is)
#print axioms PySem.Challenge.cw_causebook_k11_order_holds
