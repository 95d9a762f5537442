import PyProof.Rows.All
import Wide.All
import OpenK.AllK
import Wide.FinOn
import Lean
import PyProof.EqAt
import PyProof.EqKinds
import PyProof.TupleCall
import PySem.Challenge.RW_causebook_k19_whole_set_by_hand
set_option Elab.async false
set_option linter.all false
set_option maxRecDepth 100000
set_option genSizeOf false
local macro_rules | `(tactic| omega) => `(tactic| first | lia | omega (config := {}))
namespace L2
open PySem PySem.Spec PyProof.Rows
abbrev Key:=Sum Int Str
def keyIs:Key→Value→Bool
  | .inl k,v=>Value.isInt k v
  | .inr x,v=>Value.isStrOf x v
def keyH (w:World):Key→Int
  | .inl k=>hashInt k
  | .inr x=>hashStr w x
theorem keyIs_shape:∀ {k:Key} {v:Value},keyIs k v=true→(∃ i t,k=Sum.inl i∧v=Value.int i t)∨(∃ x t,k=Sum.inr x∧v=Value.str x t)
  | .inl i,v,h=>by
    obtain ⟨t,e⟩:=Value.isInt_shape (k:=i) (v:=v) h
    exact .inl ⟨i,t,rfl,e⟩
  | .inr x,v,h=>by
    obtain ⟨t,e⟩:=Value.isStrOf_shape (x:=x) (v:=v) h
    exact .inr ⟨x,t,rfl,e⟩
theorem key_ll (a b:Int):decide ((Sum.inl a:Key)=Sum.inl b)=(a == b):=by
  by_cases e:a=b
  · subst e; simp
  · have h:¬ (Sum.inl a:Key)=Sum.inl b:=fun q=>e (Sum.inl.inj q)
    rw [decide_eq_false h]
    exact (beq_eq_false_iff_ne.mpr e).symm
theorem key_rr (a b:Str):decide ((Sum.inr a:Key)=Sum.inr b)=decide (a=b):=by
  by_cases e:a=b
  · subst e; simp
  · have h:¬ (Sum.inr a:Key)=Sum.inr b:=fun q=>e (Sum.inr.inj q)
    rw [decide_eq_false h,decide_eq_false e]
theorem key_lr (a:Int) (b:Str):decide ((Sum.inl a:Key)=Sum.inr b)=false:=decide_eq_false (fun q=>nomatch q)
theorem key_rl (a:Str) (b:Int):decide ((Sum.inr a:Key)=Sum.inl b)=false:=decide_eq_false (fun q=>nomatch q)
def mixKind (prog:Program) (w:World):PySem.KeyKind prog w Key where
  is:=keyIs
  hash:=keyH w
  inj:=fun v a b ha hb=>by
    rcases keyIs_shape ha with ⟨i,t,rfl,rfl⟩ | ⟨x,t,rfl,rfl⟩
    · rcases keyIs_shape hb with ⟨j,u,rfl,e⟩ | ⟨y,u,rfl,e⟩
      · injection e with e1 _; rw [e1]
      · exact nomatch e
    · rcases keyIs_shape hb with ⟨j,u,rfl,e⟩ | ⟨y,u,rfl,e⟩
      · exact nomatch e
      · injection e with e1 _; rw [e1]
  byValue:=fun k v h=>by
    rcases keyIs_shape h with ⟨i,t,rfl,rfl⟩ | ⟨x,t,rfl,rfl⟩ <;> rfl
  pyHash:=fun hv h=>by
    rcases keyIs_shape hv with ⟨i,t,rfl,rfl⟩ | ⟨x,t,rfl,rfl⟩
    · exact wpAny_pyHash_int h
    · exact wpAny_pyHash_str h
  eqBool:=fun hu hv h=>by
    rcases keyIs_shape hu with ⟨i,t,rfl,rfl⟩ | ⟨x,t,rfl,rfl⟩
    · rcases keyIs_shape hv with ⟨j,u,rfl,rfl⟩ | ⟨y,u,rfl,rfl⟩
      · rw [key_ll] at h; exact wpAny_eqBool_int h
      · rw [key_lr] at h; exact SeqAt.EqAt.int_str i t y u _ _ _ _ h
    · rcases keyIs_shape hv with ⟨j,u,rfl,rfl⟩ | ⟨y,u,rfl,rfl⟩
      · rw [key_rl] at h; exact SeqAt.EqAt.str_int x t j u _ _ _ _ h
      · rw [key_rr] at h; exact wpAny_eqBool_str h
  «strs»:=fun k x t v h=>by
    rcases keyIs_shape h with ⟨i,u,rfl,e⟩ | ⟨y,u,rfl,e⟩
    · exact nomatch e
    · injection e with e1 _
      subst e1
      cases v <;> rfl
end L2
namespace L2
open PySem PySem.Spec PyProof.Rows
inductive V where
  | non | bl (b:Bool) | int (i:Int) | str (x:Str) | byt (b:Array UInt8) | flt (b:UInt64) | ref (a:Addr) | ty (n:String)
  deriving DecidableEq
def RelV:V→Value→Prop
  | .non,u=>u=Value.none
  | .bl b,u=>u=Value.bool b
  | .int i,u=>∃ t,u=Value.int i t
  | .str x,u=>∃ t,u=Value.str x t
  | .byt b,u=>∃ t,u=Value.bytes b t
  | .flt b,u=>∃ t,u=Value.float b t
  | .ref a,u=>u=Value.ref a
  | .ty n,u=>u=Value.type n
abbrev Vals:List V→List Value→Prop:=Paired RelV
theorem Vals.length {xs:List V} {us:List Value} (r:Vals xs us):xs.length=us.length:=Paired.length r
theorem Vals.get:∀ {xs:List V} {us:List Value} {i:Nat} {x:V},Vals xs us→xs[i]?=some x→∃ u,us[i]?=some u∧RelV x u
  | _,_,_,_,.nil,e=>by simp at e
  | _,_,0,_,.cons r _,e=>by simp at e; subst e; exact ⟨_,rfl,r⟩
  | _,_,i + 1,x,.cons _ t,e=>by
    obtain ⟨u,h1,h2⟩:=Vals.get (i:=i) (x:=x) t (by simpa using e)
    exact ⟨u,by simpa using h1,h2⟩
theorem Vals.set {x:V} {u:Value} (r:RelV x u):∀ {xs:List V} {us:List Value} (i:Nat),Vals xs us→Vals (xs.set i x) (us.set i u)
  | _,_,_,.nil=>.nil
  | _,_,0,.cons _ t=>.cons r t
  | _,_,i + 1,.cons q t=>.cons q (Vals.set r i t)
theorem Vals.append:∀ {xs ys:List V} {us ws:List Value},Vals xs us→Vals ys ws→Vals (xs ++ ys) (us ++ ws)
  | _,_,_,_,.nil,s=>s
  | _,_,_,_,.cons r t,s=>.cons r (Vals.append t s)
theorem Vals.take:∀ {xs:List V} {us:List Value} (n:Nat),Vals xs us→Vals (xs.take n) (us.take n)
  | _,_,0,_=>.nil
  | _,_,_ + 1,.nil=>.nil
  | _,_,n + 1,.cons r t=>.cons r (Vals.take n t)
theorem Vals.drop:∀ {xs:List V} {us:List Value} (n:Nat),Vals xs us→Vals (xs.drop n) (us.drop n)
  | _,_,0,r=>r
  | _,_,_ + 1,.nil=>.nil
  | _,_,n + 1,.cons _ t=>Vals.drop n t
def RelO:Option V→Option Value→Prop
  | some v,some u=>RelV v u
  | none,none=>True
  | _,_=>False
def KV {κ:Type}:List (κ×V)→List (κ×Value)→Prop:=Paired fun (p:κ×V) (q:κ×Value)=>p.1=q.1∧RelV p.2 q.2
def kV:Key→V
  | .inl i=>.int i
  | .inr x=>.str x
inductive HO where
  | lst (xs:List V)
  | tup (xs:List V)
  | dK (kvs:List (Key×V)) | dT (kvs:List (List Key×V))
  | set (S:Int→Bool) (n:Nat)
  | ins (C dx:Addr) (fs:List (Str×V))
  | own (x:Addr)
  | xd (fs:List (Str×V))
  | met (f x:Addr)
  | rng (lo hi:Int)
  | frz (o:Obj) (u:HO)
  | tbl (ps:Array Value)
  | ext (φ:Heap→Prop)
abbrev Hp:=Addr→Option HO
def upd (H:Hp) (a:Addr) (o:HO):Hp:=fun b=>if b=a then some o else H b
theorem upd_same {H:Hp} {a:Addr} {o:HO}:upd H a o a=some o:=by unfold upd; rw [if_pos rfl]
theorem upd_ne {H:Hp} {a b:Addr} {o:HO} (h:b≠a):upd H a o b=H b:=by unfold upd; rw [if_neg h]
theorem ne_of_none {H:Hp} {a b:Addr} {o:HO} (h:H a=some o) (h':H b=none):a≠b:=by
  intro e; subst e; rw [h] at h'; cases h'
def TupAt (H:Hp) (b:Addr) (ys:List V):Prop:=H b=some (.tup ys)∨∃ o:Obj,(∀ v,o.data≠.cell v)∧H b=some (.frz o (.tup ys))
def tagQ (ps:Array Value):Str:=match (ps[0]?:Option Value) with | some (.str q _)=>q | _ => ""
section
variable (P:Program) (w:World)
def ObjOk (H:Hp) (h:Heap) (a:Addr):HO→Prop
  | .lst xs=>xs.length≤sizeLine∧∃ (its:List Value) (n:Nat),Vals xs its∧h.get? a=some { cls:=.type "list", data:=.seq its.toArray n }
  | .tup xs=>xs.length≤sizeLine∧∃ its:List Value,Vals xs its∧IsTup h a its.toArray
  | .dK kvs=>kvs.length≤sizeLine∧(a == sysModules)=false∧∃ vs,KV kvs vs∧h.DictOf (mixKind P w) a vs
  | .dT kvs=>kvs.length≤sizeLine∧(a == sysModules)=false∧∃ xs:List (List Key×Addr×Value),
      Paired (fun (p:List Key×V) (q:List Key×Addr×Value)=>p.1=q.1∧TupAt H q.2.1 (p.1.map kV)∧RelV p.2 q.2.2) kvs xs ∧
      ∃ o es ep,h.get? a=some o∧o.ExactDict∧o.data=.dict es ep∧es.toList=xs.map (entryOfKey (tupleKind (mixKind P w)))∧(xs.map (·.1)).Nodup
  | .set S n=>h.SetOf (intKind P w) a S n
  | .ins C dx fs=>H dx=some (.own a)∧fs.length≤1000∧dx≠a∧h.get? a=some (PySem.W.instObj C dx) ∧
      ∃ mA,h.Ns1 dx mA∧(∀ f,RelO (fs.lookup f) (mA f))∧PySem.Within mA (fs.map (·.1))
  | .own _=>∃ o,h.get? a=some o
  | .xd fs=>∃ mA,h.Ns1 a mA∧∀ f,RelO (fs.lookup f) (mA f)
  | .rng lo hi=>∃ t u v,h.get? a=some { cls:=.type "range", data:=.fields #[.int lo t,.int hi u,.int 1 v] }
  | .frz o u=>h.get? a=some o∧ObjOk H h a u
  | .tbl ps=>∃ vs:Array Value,h.get? a=some (PySem.W.tabObj vs)∧TriplesOk vs.toList∧∀ p v,codeAmong p vs.toList=some v→∃ b o fs t,v=.ref b∧H b=some (.frz o (.ext fun _=>True))∧o.data=.fields fs∧fs[1]?=some (.str (tagQ ps) t)
  | .met f x=>h.get? a=some (PySem.W.methodObj (.ref f) (.ref x))
  | .ext φ=>φ h∧(∃ o,h.get? a=some o)∧∀ h1 h2:Heap,φ h1→(∀ o,h1.get? a=some o→h2.get? a=some o)→φ h2
def HOk (H:Hp) (h:Heap):Prop:=∀ a o,H a=some o→ObjOk P w H h a o
end
section
variable {P:Program} {w:World} {H H':Hp} {h h':Heap} {a:Addr} {o:HO}
theorem ObjOk.lt (x:ObjOk P w H h a o):a < h.objs.size:=by
  cases o with
  | lst xs=>obtain ⟨_,_,_,_,e⟩:=x; exact Heap.lt_size e
  | tup xs=>obtain ⟨_,_,_,p⟩:=x; exact p.lt
  | dK kvs=>obtain ⟨_,_,_,_,o,_,_,e,_⟩:=x; exact Heap.lt_size e
  | dT kvs=>obtain ⟨_,_,_,_,o,_,_,e,_⟩:=x; exact Heap.lt_size e
  | set S n=>obtain ⟨o,_,_,_,e,_⟩:=x; exact Heap.lt_size e
  | ins C dx fs=>obtain ⟨_,_,_,e,_⟩:=x; exact Heap.lt_size e
  | own y=>obtain ⟨_,e⟩:=x; exact Heap.lt_size e
  | xd fs=>obtain ⟨_,⟨_,_,_,e,_⟩,_⟩:=x; exact Heap.lt_size e
  | rng lo hi=>obtain ⟨_,_,_,e⟩:=x; exact Heap.lt_size e
  | frz ob u=>obtain ⟨e,_⟩:=x; exact Heap.lt_size e
  | tbl ps=>obtain ⟨_,e,_⟩:=x; exact Heap.lt_size e
  | met f y=>exact Heap.lt_size (show h.get? a=some _ from x)
  | ext φ=>obtain ⟨_,⟨_,e⟩,_⟩:=x; exact Heap.lt_size e
theorem Paired.mapP {α β:Type} {F G:α→β→Prop}:∀ {l₁:List α} {l₂:List β},Paired F l₁ l₂→(∀ a b,F a b→G a b)→Paired G l₁ l₂
  | _,_,.nil,_=>.nil
  | _,_,.cons r t,f=>.cons (f _ _ r) (Paired.mapP t f)
theorem ObjOk.stay (x:ObjOk P w H h a o) (k:∀ b u,(b=a∨H b=some (.own a))→h.get? b=some u→h'.get? b=some u)
    (ho:∀ b,H b=some (.own a)→H' b=some (.own a)) (ht:∀ b xs,H b=some (.tup xs)→H' b=some (.tup xs))
    (hc:∀ b o u,H b=some (.frz o u)→(∀ v,o.data≠.cell v)→H' b=some (.frz o u):=by first | exact fun _ _ _ q _=>q | (intro b o u z _; rw [upd_ne (ne_of_none z (by assumption))]; exact z) | (intro b o u z _; rw [upd_ne (fun e=>by subst e; simp_all [Mut])]; exact z)):ObjOk P w H' h' a o:=by
  induction o with
  | lst xs=>obtain ⟨z,its,n,r,e⟩:=x; exact ⟨z,its,n,r,k _ _ (.inl rfl) e⟩
  | tup xs=>obtain ⟨z,its,r,ob,e,c⟩:=x; exact ⟨z,its,r,ob,k _ _ (.inl rfl) e,c⟩
  | dK kvs=>obtain ⟨z,y,vs,r,ob,es,ep,e,c⟩:=x; exact ⟨z,y,vs,r,ob,es,ep,k _ _ (.inl rfl) e,c⟩
  | dT kvs =>
    obtain ⟨z,y,xs,r,ob,es,ep,e,c⟩:=x
    exact ⟨z,y,xs,Paired.mapP r fun p q z=>⟨z.1,z.2.1.imp (ht _ _) fun ⟨o,n,y⟩=>⟨o,n,hc _ _ _ y n⟩,z.2.2⟩,ob,es,ep,k _ _ (.inl rfl) e,c⟩
  | set S n=>obtain ⟨ob,es,ep,t,e,c⟩:=x; exact ⟨ob,es,ep,t,k _ _ (.inl rfl) e,c⟩
  | ins C dx fs =>
    obtain ⟨d,z,ne,e,mA,⟨od,es,ep,e2,c⟩,r⟩:=x
    exact ⟨ho _ d,z,ne,k _ _ (.inl rfl) e,mA,⟨od,es,ep,k _ _ (.inr d) e2,c⟩,r⟩
  | own y=>obtain ⟨ob,e⟩:=x; exact ⟨ob,k _ _ (.inl rfl) e⟩
  | xd fs=>obtain ⟨mA,⟨od,es,ep,e,c⟩,r⟩:=x; exact ⟨mA,⟨od,es,ep,k _ _ (.inl rfl) e,c⟩,r⟩
  | rng lo hi=>obtain ⟨t,u,v,e⟩:=x; exact ⟨t,u,v,k _ _ (.inl rfl) e⟩
  | frz ob u ih=>obtain ⟨e,q⟩:=x; exact ⟨k _ _ (.inl rfl) e,ih q⟩
  | tbl ps=>obtain ⟨vs,e,t,z⟩:=x; exact ⟨vs,k _ _ (.inl rfl) e,t,fun p v y=>let ⟨b,o,fs,t,e1,e2,e3⟩:=z p v y; ⟨b,o,fs,t,e1,hc _ _ _ e2 (fun v y=>by rw [e3.1] at y; cases y),e3⟩⟩
  | met f y =>
    have e:h.get? a=some (PySem.W.methodObj (.ref f) (.ref y)):=x
    show h'.get? a=some (PySem.W.methodObj (.ref f) (.ref y))
    exact k a _ (.inl rfl) e
  | ext φ=>obtain ⟨p,⟨o,e⟩,st⟩:=x; exact ⟨st _ _ p fun o q=>k _ _ (.inl rfl) q,⟨o,k _ _ (.inl rfl) e⟩,st⟩
theorem HOk.lt (x:HOk P w H h) (e:H a=some o):a < h.objs.size:=(x a o e).lt
theorem HOk.fresh (x:HOk P w H h) (e:h.objs.size≤a):H a=none:=by
  cases q:H a with
  | none=>rfl
  | some u=>exact absurd (Nat.lt_of_lt_of_le (x.lt q) e) (Nat.lt_irrefl _)
theorem HOk.kept (x:HOk P w H h) (k:∀ b u,h.get? b=some u→h'.get? b=some u):HOk P w H h':=fun a o e =>
  (x a o e).stay (fun b u _ q=>k b u q) (fun _ q=>q) fun _ _ q=>q
theorem HOk.laid (x:HOk P w H h) (k:∀ b u,h.get? b=some u→h'.get? b=some u) (hp:h.objs.size≤a) (new:ObjOk P w (upd H a o) h' a o):HOk P w (upd H a o) h':=fun b u e=>by
  have hn:=x.fresh hp
  by_cases hb:b=a
  · subst hb; rw [upd_same] at e; cases e; exact new
  · rw [upd_ne hb] at e
    exact (x b u e).stay (fun c v _ q=>k c v q) (fun c q=>by rw [upd_ne (ne_of_none q hn)]; exact q) fun c xs q=>by rw [upd_ne (ne_of_none q hn)]; exact q
end
def Rd (H:Hp) (a:Addr) (u:HO):Prop:=H a=some u∨∃ o,H a=some (.frz o u)
theorem Rd.ok {P:Program} {w:World} {H:Hp} {h:Heap} {a:Addr} {u:HO} (r:Rd H a u) (x:HOk P w H h):ObjOk P w H h a u:=by
  rcases r with r | ⟨o,r⟩
  · exact x a u r
  · obtain ⟨_,q⟩:=x a _ r
    exact q
def Mut:Option HO→Prop
  | some (.lst _)=>True
  | some (.dK _)=>True
  | some (.dT _)=>True
  | some (.set _ _)=>True
  | some (.ins _ _ _)=>True
  | some (.ext _)=>True
  | _=>False
section
variable {P:Program} {w:World} {H:Hp} {h h':Heap} {x e:Addr} {o':HO}
theorem HOk.write (ok:HOk P w H h) (mu:Mut (H x)) (he:e=x∨H e=some (.own x)) (k:∀ b u,b≠e→h.get? b=some u→h'.get? b=some u) (heo:∃ u,h'.get? e=some u)
    (new:ObjOk P w (upd H x o') h' x o'):HOk P w (upd H x o') h':=fun b u q=>by
  have nown:∀ c y,H c=some (.own y)→c≠x:=fun c y r z=>by subst z; rw [r] at mu; exact mu
  have ntup:∀ c xs,H c=some (.tup xs)→c≠x:=fun c xs r z=>by subst z; rw [r] at mu; exact mu
  by_cases hb:b=x
  · subst hb; rw [upd_same] at q; cases q; exact new
  · rw [upd_ne hb] at q
    by_cases hbe:b=e
    · have q':H b=some (.own x):=by
        rcases he with z | z
        · exact absurd (hbe.trans z) hb
        · rw [hbe]; exact z
      rw [q] at q'; cases q'
      obtain ⟨v,hv⟩:=heo
      exact ⟨v,by rw [hbe]; exact hv⟩
    · refine (ok b u q).stay (fun c v hc r=>k c v ?_ r) (fun c r=>by rw [upd_ne (nown c b r)]; exact r) fun c xs r=>by rw [upd_ne (ntup c xs r)]; exact r
      rcases hc with rfl | hc
      · exact hbe
      · rintro rfl
        rcases he with z | z
        · exact nown c b hc z
        · rw [hc] at z; cases z; exact hb rfl
end
structure Un (fs ex:List Addr) (H H':Hp) (h h':Heap):Prop where
  keep:∀ b o,h.get? b=some o→H b=none→b∉fs→b∉ex→h'.get? b=some o
  slot:∀ b o,h.get? b=some o→H b=none→b∈fs→b∉ex→∃ sl,h'.get? b=some { o with slots:=sl }
  free:∀ b o,h.get? b=some o→H b=none→b∉ex→H' b=none
  there:∀ b o,h.get? b=some o→b∉ex→∃ o',h'.get? b=some o'
  tups:∀ b xs,H b=some (.tup xs)→H' b=some (.tup xs)
  frzs:∀ b o u,H b=some (.frz o u)→H' b=some (.frz o u)
  tbls:∀ b ps,H b=some (.tbl ps)→∃ more,H' b=some (.tbl (ps ++ more))
section
variable {fs fs' ex ex':List Addr} {H H1 H2:Hp} {h h1 h2 h':Heap} {a x e:Addr} {o:HO}
theorem Un.any (u:Un fs ex H H1 h h1) {b:Addr} {ob:Obj} (q:h.get? b=some ob) (n:H b=none) (hx:b∉ex):∃ sl,h1.get? b=some { ob with slots:=sl }:=by
  by_cases hb:b∈fs
  · exact u.slot b ob q n hb hx
  · exact ⟨ob.slots,u.keep b ob q n hb hx⟩
theorem Un.kept (k:∀ b u,h.get? b=some u→h'.get? b=some u):Un fs ex H H h h' :=
  ⟨fun b ob q _ _ _=>k b ob q,fun b ob q _ _ _=>⟨ob.slots,k b ob q⟩,fun _ _ _ n _=>n,fun b ob q _=>⟨ob,k b ob q⟩,fun _ _ q=>q,fun _ _ _ q=>q,fun _ ps q=>⟨#[],by rw [q]; simp⟩⟩
theorem Un.refl:Un fs ex H H h h:=Un.kept fun _ _ q=>q
theorem Un.laid (k:∀ b u,h.get? b=some u→h'.get? b=some u) (hp:h.objs.size≤a) (hn:H a=none):Un fs ex H (upd H a o) h h' where
  keep:=fun b u q _ _ _=>k b u q
  slot:=fun b u q _ _ _=>⟨u.slots,k b u q⟩
  free:=fun b u q n _=>by rw [upd_ne (Nat.ne_of_lt (Nat.lt_of_lt_of_le (Heap.lt_size q) hp))]; exact n
  there:=fun b u q _=>⟨u,k b u q⟩
  tups:=fun b xs q=>by rw [upd_ne (ne_of_none q hn)]; exact q
  frzs:=fun b u xs q=>by rw [upd_ne (ne_of_none q hn)]; exact q
  tbls:=fun b ps q=>⟨#[],by rw [upd_ne (ne_of_none q hn),q]; simp⟩
theorem Un.write (mu:Mut (H x)) (he:e=x∨H e=some (.own x)) (k:∀ b u,b≠e→h.get? b=some u→h'.get? b=some u) (heo:∃ u,h'.get? e=some u):Un fs ex H (upd H x o) h h':=by
  have hx:∀ b,H b=none→b≠x:=fun b n z=>by subst z; rw [n] at mu; exact mu
  have hb:∀ b,H b=none→b≠e:=fun b n z=>by
    subst z
    rcases he with r | r
    · exact hx b n r
    · rw [n] at r; cases r
  have hm:∀ b u,H b=some u→¬ Mut (some u)→b≠x:=fun b u q nm z=>by subst z; rw [q] at mu; exact nm mu
  refine ⟨fun b u q n _ _=>k b u (hb b n) q,fun b u q n _ _=>⟨u.slots,k b u (hb b n) q⟩,fun b u q n _=>by rw [upd_ne (hx b n)]; exact n,fun b u q _=>?_,
    fun b xs q=>by rw [upd_ne (hm b _ q fun z=>z)]; exact q,fun b u xs q=>by rw [upd_ne (hm b _ q fun z=>z)]; exact q,fun b ps q=>⟨#[],by rw [upd_ne (hm b _ q fun z=>z),q]; simp⟩⟩
  by_cases hbe:b=e
  · subst hbe; exact heo
  · exact ⟨u,k b u hbe q⟩
end
def trk (h:Heap) (H:Hp):List Addr:=(List.range h.objs.size).filter fun a=>(H a).isSome
def hidT (h:Heap) (H:Hp):Heap:=PySem.W.hideAll h (trk h H)
theorem hidT_size (h:Heap) (H:Hp):(hidT h H).objs.size=h.objs.size:=PySem.W.hideAll_size _ _
theorem hidT_get {h:Heap} {H:Hp} {b:Addr} {o:Obj} (e:h.get? b=some o) (n:H b=none):(hidT h H).get? b=some o :=
  PySem.W.hideAll_get _ e fun hm=>by
    have q:(H b).isSome=true:=(List.mem_filter.mp hm).2
    rw [n] at q; simp at q
theorem of_hidT {h:Heap} {H:Hp} {b:Addr} {o:Obj} (e:(hidT h H).get? b=some o):h.get? b=some o∧H b=none:=by
  have e':h.get? b=some o:=PySem.W.of_hideAll (trk h H) e
  refine ⟨e',?_⟩
  cases q:H b with
  | none=>rfl
  | some x =>
    have hm:b∈trk h H:=List.mem_filter.mpr ⟨List.mem_range.mpr (Heap.lt_size e'),by simp [q]⟩
    have z:(hidT h H).get? b=none:=PySem.W.hideAll_none (trk h H) hm
    rw [z] at e; cases e
def allNews (g h:Heap) (L:Addr):List (Addr×Obj):=(List.range h.objs.size).filterMap fun a=>if a=L∨(g.get? a).isSome=true then none else (h.get? a).map fun o=>(a,o)
def rest (g h:Heap) (L d:Addr):List (Addr×Obj):=(allNews g h L).filter fun p=>decide (p.1≠d)
end L2
namespace L2
open PySem PySem.Spec PyProof.Rows
def lamNames:List Str:=["above", "beneath", "above_in", "clumps", "reach", "least_parting", "least_set", "why_not"]
def tabAt (o:Obj):Option (Addr×Str):=match o.cls,o.data with
  | .type "code", .fields vs=>(match (vs[1]?:Option Value),(vs[11]?:Option Value) with
    | some (.str q _),some (.ref P)=>if lamNames.contains q then some (P,q ++ ".<locals>.<lambda>") else none
    | _,_=>none)
  | _,_=>none
def tabsOf (K:PySem.W.Frag):List (Addr×Str):=K.filterMap fun p=>(K.lookup p.1).bind tabAt
def tabsUq (K:PySem.W.Frag):Bool:=(tabsOf K).all fun p=>(K.lookup p.1).isNone && (tabsOf K).all fun q=>decide (p.1=q.1→p.2=q.2)
def TbOk (K:PySem.W.Frag) (H:Hp):Prop:=∀ p∈tabsOf K,∃ t more,H p.1=some (.tbl (#[.str p.2 t] ++ more))
theorem TbOk.un {K:PySem.W.Frag} {fs ex:List Addr} {H H':Hp} {h h':Heap} (t:TbOk K H) (u:Un fs ex H H' h h'):TbOk K H':=fun p hp=>by
  obtain ⟨k,m,e⟩:=t p hp
  obtain ⟨m',e'⟩:=u.tbls _ _ e
  exact ⟨k,m ++ m',by rw [e',Array.append_assoc]⟩
structure Mod (K:PySem.W.Frag) (mg:Str→Option Value) (base:Heap):Prop where
  kin:K.In base
  glob:base.Ns mainGlobals mg
  blt:∃ mb,base.Ns builtinsNs mb∧∀ x:Str,x ≠ "__name__" → mb x=bootBuiltins x
  nolimit:base.NoLimit
  bm:∃ bm ob,mg "__builtins__" = some (.ref bm)∧bm≠builtinsNs∧base.get? bm=some ob∧ob.cls=.type "module" ∧ ob.dict=some builtinsNs∧ob.data=.plain
structure Cx where
  prog:Program
  w:World
  K:PySem.W.Frag
  mg:Str→Option Value
  base:Heap
  A:Around
  N:List Str
  s₀:Shared
  H₀:Hp
  env:Env
  outer:List Env
  stack:List Env
  ex:List Addr
  fn:Str→Bool
  calm:Bool
  pn:List (Addr×Obj)
  xe:Value→Shared→Prop
def frs (l:List Env):List Addr:=l.filterMap (·.frame)
abbrev Cx.fs (X:Cx):List Addr:=frs X.outer
def Vis (sc:Scope) (x:Str):Prop:=sc.names.lookup x=some .local∨sc.names.lookup x=some .cell∨sc.names.lookup x=some .free
def Loc (sc:Scope) (x:Str):Prop:=sc.names.lookup x=some .local∨sc.names.lookup x=some .cell
def Look (env:Env) (h:Heap) (m:Str→Option Value) (x:Str) (u:Value):Prop :=
  (env.kindOf x=some .local∧m x=some u)∨((env.kindOf x=some .cell∨env.kindOf x=some .free)∧∃ c,env.cells.lookup x=some c∧h.IsCell c (some u))
structure Cx.Ok (X:Cx):Prop where
  mod:Mod X.K X.mg X.base
  kind:X.env.scope.kind=.function
  glob:X.env.globals=mainGlobals
  blt:X.env.builtins=builtinsNs
  above:X.s₀.heap.objs.size≤X.env.locals
  inj:∀ x y c,X.env.cells.lookup x=some c→X.env.cells.lookup y=some c→x=y
  has:∀ x,(X.env.kindOf x=some .cell∨X.env.kindOf x=some .free)→∃ c,X.env.cells.lookup x=some c
  cab:∀ x c,X.fn x=true→X.env.cells.lookup x=some c→X.s₀.heap.objs.size≤c
  hd:X.calm=true→X.A.handled=none
  frames:X.A.frames=some X.stack
  stk:X.stack=X.outer∨(X.stack=X.env :: X.outer∧X.env.frame=some X.env.locals)
  exf:∀ b∈X.ex,b≠X.env.locals∧∀ x c,X.env.cells.lookup x=some c→c≠b
  bs:∀ b o,X.base.get? b=some o→X.s₀.heap.get? b=some o∧X.H₀ b=none
  bsz:X.base.objs.size≤X.s₀.heap.objs.size
  noex:∀ b o,X.base.get? b=some o→b∉X.ex
  exfs:∀ b∈X.ex,b∉X.fs
  funs:X.s₀.heap.FunFrames X.base X.outer
  frf:∀ b∈X.fs,X.H₀ b=none
  tb:TbOk X.K X.H₀
structure Inv (X:Cx) (pins:List (Addr×Obj)) (σ:List (Option V)) (H:Hp) (s:Shared):Prop where
  ok:X.Ok
  os:s.os=X.s₀.os
  bare:AllBare s.gens
  base:Un X.fs X.ex X.H₀ H X.s₀.heap s.heap
  loc:∃ m,s.heap.Ns X.env.locals m∧∀ (i:Nat) (x:Str) (v:V),X.N[i]?=some x→σ[i]?=some (some v)→Vis X.env.scope x→∃ u,RelV v u∧Look X.env s.heap m x u
  cell:∀ x c,X.env.cells.lookup x=some c→∃ v,s.heap.IsCell c v
  free:H X.env.locals=none
  freeC:∀ x c,X.env.cells.lookup x=some c→H c=none∨X.fn x=false∧∃ o u,H c=some (.frz o u)
  pin:∀ p∈X.pn ++ pins,s.heap.get? p.1=some p.2∧H p.1=none∧p.1≠X.env.locals∧p.1∉X.fs∧∀ v,p.2.data≠.cell v
  hok:HOk X.prog X.w H s.heap
  len:σ.length=X.N.length
section
variable {X:Cx} {pins:List (Addr×Obj)} {σ:List (Option V)} {H H':Hp} {s:Shared} {h':Heap}
theorem Cx.Ok.nofr (ok:X.Ok) {b:Addr} {o:Obj} (e:X.base.get? b=some o):b∉X.fs:=fun hb=>by
  have:=(ok.funs.mem hb).1
  rw [e] at this; cases this
theorem Inv.bs (I:Inv X pins σ H s):∀ b o,X.base.get? b=some o→s.heap.get? b=some o∧H b=none:=fun b o e =>
  ⟨I.base.keep b o (I.ok.bs b o e).1 (I.ok.bs b o e).2 (I.ok.nofr e) (I.ok.noex b o e),I.base.free b o (I.ok.bs b o e).1 (I.ok.bs b o e).2 (I.ok.noex b o e)⟩
theorem Inv.bk (I:Inv X pins σ H s):∀ b o,X.base.get? b=some o→s.heap.get? b=some o:=fun b o e=>(I.bs b o e).1
theorem Inv.mod (I:Inv X pins σ H s):Mod X.K X.mg X.base:=I.ok.mod
theorem Inv.kIn (I:Inv X pins σ H s):X.K.In s.heap:=I.ok.mod.kin.keeps I.bk
theorem Inv.fr (I:Inv X pins σ H s):∃ m,Fr X.base X.env.locals s.heap m :=
  let ⟨m,hn,_⟩:=I.loc
  ⟨m,hn,I.bk,Nat.le_trans I.ok.bsz I.ok.above⟩
theorem Inv.lt (I:Inv X pins σ H s):X.env.locals < s.heap.objs.size:=let ⟨_,hn,_⟩:=I.loc; hn.lt
theorem Inv.sz (I:Inv X pins σ H s):X.s₀.heap.objs.size≤s.heap.objs.size:=Nat.le_trans I.ok.above (Nat.le_of_lt I.lt)
theorem Inv.nofs (I:Inv X pins σ H s) {a:Addr} (h:s.heap.objs.size≤a):a∉X.fs:=fun hb=>by
  obtain ⟨_,o,ho,_⟩:=I.ok.funs.mem hb
  exact absurd (Nat.lt_of_lt_of_le (Heap.lt_size ho) (Nat.le_trans I.sz h)) (Nat.lt_irrefl _)
theorem Inv.cne (I:Inv X pins σ H s):∀ x c,X.env.cells.lookup x=some c→c≠X.env.locals:=fun x c e z=>by
  obtain ⟨v,o,ho,hd⟩:=I.cell x c e
  obtain ⟨m,⟨o',es,ep,ho',hd',_⟩,_⟩:=I.loc
  rw [z,ho'] at ho; cases ho; rw [hd'] at hd; cases hd
theorem Inv.funs (I:Inv X pins σ H s):s.heap.FunFrames X.base X.outer:=by
  have all:∀ (l:List Env),(∀ b∈frs l,b∈X.fs)→X.s₀.heap.FunFrames X.base l→s.heap.FunFrames X.base l:=by
    intro l
    induction l with
    | nil=>intro _ _; trivial
    | cons env r ih =>
      intro hs hl
      obtain ⟨hk,⟨L,o,hf,hn,ho,hd⟩,hr⟩:=hl
      have hL:L∈X.fs:=hs L (by unfold frs; rw [List.filterMap_cons,hf]; exact List.mem_cons_self)
      obtain ⟨sl,e⟩:=I.base.slot L o ho (I.ok.frf L hL) hL fun z=>I.ok.exfs L z hL
      exact ⟨hk,⟨L,_,hf,hn,e,hd⟩,ih (fun b hb=>hs b (by unfold frs; rw [List.filterMap_cons,hf]; exact List.mem_cons_of_mem _ hb)) hr⟩
  exact all X.outer (fun _ hb=>hb) I.ok.funs
theorem Inv.stack (I:Inv X pins σ H s):s.heap.FunFrames X.base X.stack:=by
  rcases I.ok.stk with e | ⟨e,hf⟩
  · rw [e]; exact I.funs
  · rw [e]
    obtain ⟨m,hn,_⟩:=I.loc
    refine .cons (by rw [I.ok.kind]; decide) hf hn ?_ I.funs
    exact Heap.get?_none_of_le (Nat.le_trans I.ok.bsz I.ok.above)
theorem Inv.stkSub (I:Inv X pins σ H s):∀ b∈frs X.stack,b∈X.env.locals :: X.fs:=fun b hb=>by
  rcases I.ok.stk with e | ⟨e,hf⟩
  · rw [e] at hb; exact List.mem_cons_of_mem _ hb
  · rw [e] at hb
    unfold frs at hb
    rw [List.filterMap_cons,hf] at hb
    exact hb
theorem Inv.stkFree (I:Inv X pins σ H s):∀ b∈frs X.stack,H b=none:=fun b hb=>by
  rcases List.mem_cons.mp (I.stkSub b hb) with e | hb
  · rw [e]; exact I.free
  · obtain ⟨_,o,ho,_⟩:=I.ok.funs.mem hb
    exact I.base.free b o ho (I.ok.frf b hb) fun z=>I.ok.exfs b z hb
theorem Inv.step {g':Array GenState} {t':Nat} {d':Drawn} {ch:List Addr} (I:Inv X pins σ H s)
    (hch:∀ b∈ch,(b∈X.ex∨X.s₀.heap.objs.size≤b)∧b≠X.env.locals∧(∀ x c,X.env.cells.lookup x=some c→c≠b)∧∀ p∈X.pn ++ pins,p.1≠b)
    (keep:∀ b o,b≠X.env.locals→b∉X.fs→b∉ch→s.heap.get? b=some o→H b=none→h'.get? b=some o)
    (slot:∀ b o,b≠X.env.locals→b∈X.fs→b∉ch→s.heap.get? b=some o→H b=none→∃ sl,h'.get? b=some { o with slots:=sl }) (free:∀ b o,b∉ch→s.heap.get? b=some o→H b=none→H' b=none)
    (there:∀ b o,b∉ch→s.heap.get? b=some o→∃ o',h'.get? b=some o')
    (tups:∀ b xs,H b=some (.tup xs)→H' b=some (.tup xs)) (frzs:∀ b o u,H b=some (.frz o u)→H' b=some (.frz o u)) (tbls:∀ b ps,H b=some (.tbl ps)→∃ more,H' b=some (.tbl (ps ++ more)))
    (ns:∀ m,s.heap.Ns X.env.locals m→h'.Ns X.env.locals m) (hok:HOk X.prog X.w H' h') (hg:AllBare g') :
    Inv X pins σ H' { s with heap:=h',gens:=g',drawn:=d',toks:=t' }:=by
  have neL:∀ b o,X.s₀.heap.get? b=some o→b≠X.env.locals:=fun b o e=>Nat.ne_of_lt (Nat.lt_of_lt_of_le (Heap.lt_size e) I.ok.above)
  have neC:∀ b o,X.s₀.heap.get? b=some o→b∉X.ex→b∉ch:=fun b o e hx hb=>by
    rcases (hch b hb).1 with z | z
    · exact hx z
    · exact absurd (Nat.lt_of_lt_of_le (Heap.lt_size e) z) (Nat.lt_irrefl _)
  have cellK:∀ x c,X.env.cells.lookup x=some c→∀ v,s.heap.IsCell c v→h'.IsCell c v:=fun x c e v ⟨o,ho,hd⟩=>by
    have nch:c∉ch:=fun z=>(hch c z).2.2.1 x c e rfl
    rcases I.freeC x c e with hn | ⟨_,o1,u1,hn⟩
    · by_cases hc:c∈X.fs
      · obtain ⟨sl,q⟩:=slot c o (I.cne x c e) hc nch ho hn
        exact ⟨_,q,hd⟩
      · exact ⟨o,keep c o (I.cne x c e) hc nch ho hn,hd⟩
    · have q1:=(I.hok c _ hn).1
      rw [ho] at q1
      cases q1
      exact ⟨o,(hok c _ (frzs c _ _ hn)).1,hd⟩
  refine ⟨I.ok,I.os,hg,⟨fun b o e n hb hx=>?_,fun b o e n hb hx=>?_,fun b o e n hx=>?_,fun b o e hx=>?_,fun b xs e=>tups b xs (I.base.tups b xs e),fun b o xs e=>frzs b o xs (I.base.frzs b o xs e),fun b ps e=>?_⟩,?_,fun x c e=>?_,?_,fun x c e=>?_,fun p hp=>?_,hok,I.len⟩
  · exact keep b o (neL b o e) hb (neC b o e hx) (I.base.keep b o e n hb hx) (I.base.free b o e n hx)
  · obtain ⟨sl,e1⟩:=I.base.slot b o e n hb hx
    obtain ⟨sl',e2⟩:=slot b _ (neL b o e) hb (neC b o e hx) e1 (I.base.free b o e n hx)
    exact ⟨sl',e2⟩
  · obtain ⟨o',e1⟩:=I.base.there b o e hx
    exact free b o' (neC b o e hx) e1 (I.base.free b o e n hx)
  · obtain ⟨o',e1⟩:=I.base.there b o e hx
    exact there b o' (neC b o e hx) e1
  · obtain ⟨m1,e1⟩:=I.base.tbls b ps e
    obtain ⟨m2,e2⟩:=tbls b _ e1
    exact ⟨m1 ++ m2,by rw [e2,Array.append_assoc]⟩
  · obtain ⟨m,hn,hl⟩:=I.loc
    refine ⟨m,ns m hn,fun i x v e1 e2 e3=>?_⟩
    obtain ⟨u,r,l⟩:=hl i x v e1 e2 e3
    refine ⟨u,r,?_⟩
    rcases l with l | ⟨k,c,e,z⟩
    · exact .inl l
    · exact .inr ⟨k,c,e,cellK x c e _ z⟩
  · obtain ⟨v,z⟩:=I.cell x c e
    exact ⟨v,cellK x c e v z⟩
  · obtain ⟨m,⟨o,_,_,ho,_⟩,_⟩:=I.loc
    exact free _ o (fun z=>(hch _ z).2.1 rfl) ho I.free
  · obtain ⟨v,o,ho,hd⟩:=I.cell x c e
    exact (I.freeC x c e).elim (fun n=>.inl (free c o (fun z=>(hch c z).2.2.1 x c e rfl) ho n)) fun ⟨y1,o1,u1,y2⟩=>.inr ⟨y1,o1,u1,frzs c o1 u1 y2⟩
  · obtain ⟨e,n,ne,nf,d⟩:=I.pin p hp
    have nch:p.1∉ch:=fun z=>(hch p.1 z).2.2.2 p hp rfl
    exact ⟨keep p.1 p.2 ne nf nch e n,free p.1 p.2 nch e n,ne,nf,d⟩
theorem Inv.un {t':Nat} (I:Inv X pins σ H s) (u:Un X.fs [] H H' s.heap h') (hok:HOk X.prog X.w H' h'):Inv X pins σ H' { s with heap:=h',toks:=t' }:=by
  obtain ⟨m,⟨o,es,ep,ho,r⟩,_⟩:=id I.loc
  obtain ⟨sl,hL⟩:=u.any ho I.free (by simp)
  exact I.step (g':=s.gens) (d':=s.drawn) (ch:=[]) (fun _ z=>nomatch z) (fun b o _ hb _ e n=>u.keep b o e n hb (by simp)) (fun b o _ hb _ e n=>u.slot b o e n hb (by simp)) (fun b o _ e n=>u.free b o e n (by simp)) (fun b o _ e=>u.there b o e (by simp)) u.tups u.frzs u.tbls (fun m' hm=>by
    obtain ⟨o',es',ep',ho',r'⟩:=hm
    rw [ho] at ho'; cases ho'
    exact ⟨_,es',ep',hL,r'⟩) hok I.bare
theorem Inv.call {g':Array GenState} {t':Nat} {d':Drawn} {ch:List Addr} (I:Inv X pins σ H s) (u:Un (frs X.stack) ch H H' s.heap h') (hok:HOk X.prog X.w H' h') (hg:AllBare g')
    (hch:∀ b∈ch,(b∈X.ex∨X.s₀.heap.objs.size≤b)∧b≠X.env.locals∧(∀ x c,X.env.cells.lookup x=some c→c≠b)∧∀ p∈X.pn ++ pins,p.1≠b) :
    Inv X pins σ H' { s with heap:=h',gens:=g',drawn:=d',toks:=t' }:=by
  obtain ⟨m,⟨o,es,ep,ho,r⟩,_⟩:=id I.loc
  obtain ⟨sl,hL⟩:=u.any ho I.free fun z=>(hch _ z).2.1 rfl
  exact I.step (ch:=ch) hch (fun b o hL hb hc e n=>u.keep b o e n (fun z=>(List.mem_cons.mp (I.stkSub b z)).elim hL hb) hc) (fun b o _ _ hc e n=>u.any e n hc) (fun b o hc e n=>u.free b o e n hc) (fun b o hc e=>u.there b o e hc) u.tups u.frzs u.tbls (fun m' hm=>by
    obtain ⟨o',es',ep',ho',r'⟩:=hm
    rw [ho] at ho'; cases ho'
    exact ⟨_,es',ep',hL,r'⟩) hok hg
theorem Inv.turned {t':Nat} {it:Addr} (I:Inv X pins σ H s) (k:∀ b o,b≠it→s.heap.get? b=some o→h'.get? b=some o) (hn:H it=none) (hL:it≠X.env.locals)
    (h1:it∈X.ex∨X.s₀.heap.objs.size≤it) (h2:∀ x c,X.env.cells.lookup x=some c→c≠it) (h3:∀ p∈X.pn ++ pins,p.1≠it):Inv X pins σ H { s with heap:=h',toks:=t' }:=by
  have nit:∀ b u,H b=some u→b≠it:=fun b u e z=>by rw [z,hn] at e; cases e
  refine I.step (g':=s.gens) (d':=s.drawn) (ch:=[it]) (fun b hb=>?_) (fun b o _ _ hc e _=>k b o (fun z=>hc (by simp [z])) e) (fun b o _ _ hc e _=>⟨o.slots,k b o (fun z=>hc (by simp [z])) e⟩) (fun _ _ _ _ n=>n)
    (fun b o hc e=>⟨o,k b o (fun z=>hc (by simp [z])) e⟩) (fun _ _ e=>e) (fun _ _ _ e=>e) (fun b ps e=>⟨#[],by rw [e]; simp⟩) (fun m hm=>?_) (fun b u e=>?_) I.bare
  · have e:b=it:=by simpa using hb
    subst e
    exact ⟨h1,hL,h2,h3⟩
  · obtain ⟨o,es,ep,ho,r⟩:=hm
    exact ⟨o,es,ep,k _ o (Ne.symm hL) ho,r⟩
  · refine (I.hok b u e).stay (fun c v hc q=>k c v ?_ q) (fun _ q=>q) fun _ _ q=>q
    rcases hc with z | z
    · rw [z]; exact nit b u e
    · exact nit c _ z
theorem Inv.tok (I:Inv X pins σ H s) (t:Nat):Inv X pins σ H { s with toks:=t }:=I.un (h':=s.heap) (t':=t) Un.refl I.hok
theorem Inv.kept {t':Nat} (I:Inv X pins σ H s) (k:∀ b u,s.heap.get? b=some u→h'.get? b=some u):Inv X pins σ H { s with heap:=h',toks:=t' }:=I.un (Un.kept k) (I.hok.kept k)
theorem Inv.laid {a:Addr} {o:HO} {t':Nat} (I:Inv X pins σ H s) (k:∀ b u,s.heap.get? b=some u→h'.get? b=some u) (hp:s.heap.objs.size≤a) (new:ObjOk X.prog X.w (upd H a o) h' a o) :
    Inv X pins σ (upd H a o) { s with heap:=h',toks:=t' }:=I.un (Un.laid k hp (I.hok.fresh hp)) (I.hok.laid k hp new)
theorem Inv.write {x e:Addr} {o:HO} {t':Nat} (I:Inv X pins σ H s) (mu:Mut (H x)) (he:e=x∨H e=some (.own x)) (k:∀ b u,b≠e→s.heap.get? b=some u→h'.get? b=some u) (heo:∃ u,h'.get? e=some u)
    (new:ObjOk X.prog X.w (upd H x o) h' x o):Inv X pins σ (upd H x o) { s with heap:=h',toks:=t' }:=I.un (Un.write mu he k heo) (I.hok.write mu he k heo new)
theorem Inv.weak {σ':List (Option V)} (I:Inv X pins σ H s) (hl:σ'.length=σ.length) (w:∀ (i:Nat) v,σ'[i]?=some (some v)→σ[i]?=some (some v)):Inv X pins σ' H s :=
  ⟨I.ok,I.os,I.bare,I.base,let ⟨m,hn,hl'⟩:=I.loc; ⟨m,hn,fun i x v e1 e2 e3=>hl' i x v e1 (w i v e2) e3⟩,I.cell,I.free,I.freeC,I.pin,I.hok,hl.trans I.len⟩
theorem Inv.pins_of {pins':List (Addr×Obj)} (I:Inv X pins σ H s) (h:∀ p∈pins',s.heap.get? p.1=some p.2∧H p.1=none∧p.1≠X.env.locals∧p.1∉X.fs∧∀ v,p.2.data≠.cell v):Inv X pins' σ H s :=
  ⟨I.ok,I.os,I.bare,I.base,I.loc,I.cell,I.free,I.freeC,fun p hp=>(List.mem_append.mp hp).elim (fun z=>I.pin p (List.mem_append_left _ z)) (h p),I.hok,I.len⟩
theorem nodup_ix {N:List Str} (hN:N.Nodup) {i j:Nat} {x:Str} (a:N[i]?=some x) (b:N[j]?=some x):i=j:=by
  obtain ⟨h1,e1⟩:=List.getElem?_eq_some_iff.mp a
  obtain ⟨h2,e2⟩:=List.getElem?_eq_some_iff.mp b
  exact (List.getElem_inj hN).mp (e1.trans e2.symm)
theorem store_ok2 {M:Model} {A:Around} {E:Value→Shared→Prop} {i:Nat} {x:Str} {v:V} {u:Value} {Q:Unit→Shared→Prop} (I:Inv X pins σ H s) (hN:X.N.Nodup) (hi:X.N[i]?=some x) (hx:Loc X.env.scope x) (r:RelV v u)
    (h:∀ s',Inv X pins (σ.set i (some v)) H s'→(∃ a,Heap.SameBut a s.heap s'.heap∧(a=X.env.locals∨X.env.cells.lookup x=some a))→Q () s') (hf:X.fn x=true∨X.env.scope.names.lookup x=some .local:=by first | exact .inl rfl | exact .inr rfl | assumption):wpAny M A (storeName X.env x u) Q E s:=by
  obtain ⟨m,hn,hl⟩:=id I.loc
  have hcls:(X.env.scope.kind == .class || (X.env.scope.kind == .module && X.env.locals != X.env.globals))=false:=by rw [I.ok.kind]; rfl
  have hiσ:i < σ.length:=by rw [I.len]; exact (List.getElem?_eq_some_iff.mp hi).1
  have cne:=I.cne
  have tracked:∀ {a:Addr} {h':Heap},(∃ o,s.heap.get? a=some o∧H a=none)→Heap.SameBut a s.heap h'→HOk X.prog X.w H h':=fun {a h'} ha hs b ob e=>by
    obtain ⟨_,_,hfree⟩:=ha
    refine (I.hok b ob e).stay (fun c w' hc q=>(hs.2 c ?_).trans q) (fun _ q=>q) fun _ _ q=>q
    rintro rfl
    rcases hc with rfl | hc
    · rw [hfree] at e; cases e
    · rw [hfree] at hc; cases hc
  rcases hx with hk | hk
  · refine wpAny_storeName_local hk hn (fun h' hn' hs=>?_) hcls
    obtain ⟨oL,_,_,hoL,_⟩:=id hn
    refine h _ ⟨I.ok,I.os,I.bare,⟨fun b o e n hb hx=>?_,fun b o e n hb hx=>?_,I.base.free,fun b o e hx=>?_,I.base.tups,I.base.frzs,I.base.tbls⟩,⟨_,hn',fun j y v' e1 e2 e3=>?_⟩,fun y c e=>?_,I.free,I.freeC,fun p hp=>?_,tracked ⟨oL,hoL,I.free⟩ hs,by simpa using I.len⟩ ⟨_,hs,.inl rfl⟩
    · exact (hs.2 b (Nat.ne_of_lt (Nat.lt_of_lt_of_le (Heap.lt_size e) I.ok.above))).trans (I.base.keep b o e n hb hx)
    · obtain ⟨sl,e1⟩:=I.base.slot b o e n hb hx
      exact ⟨sl,(hs.2 b (Nat.ne_of_lt (Nat.lt_of_lt_of_le (Heap.lt_size e) I.ok.above))).trans e1⟩
    · obtain ⟨o',e1⟩:=I.base.there b o e hx
      exact ⟨o',(hs.2 b (Nat.ne_of_lt (Nat.lt_of_lt_of_le (Heap.lt_size e) I.ok.above))).trans e1⟩
    · by_cases hj:j=i
      · subst hj
        rw [hi] at e1; cases e1
        rw [List.getElem?_set_self hiσ] at e2
        cases e2
        exact ⟨u,r,.inl ⟨hk,by simp⟩⟩
      · rw [List.getElem?_set_ne (Ne.symm hj)] at e2
        obtain ⟨u',r',q⟩:=hl j y v' e1 e2 e3
        refine ⟨u',r',?_⟩
        rcases q with ⟨k,e⟩ | ⟨k,c,e,z⟩
        · refine .inl ⟨k,?_⟩
          have:y≠x:=fun e=>hj (nodup_ix hN e1 (e ▸ hi))
          simp [this,e]
        · exact .inr ⟨k,c,e,z.sameBut hs (cne y c e)⟩
    · obtain ⟨w',z⟩:=I.cell y c e
      exact ⟨w',z.sameBut hs (cne y c e)⟩
    · obtain ⟨e,n,ne,nf,d⟩:=I.pin p hp
      exact ⟨(hs.2 p.1 ne).trans e,n,ne,nf,d⟩
  · have hfn:X.fn x=true:=by
      rcases hf with z | z
      · exact z
      · rw [z] at hk; cases hk
    obtain ⟨c,hc⟩:=I.ok.has x (.inl hk)
    obtain ⟨w',z⟩:=I.cell x c hc
    refine wpAny_storeName_cell I.ok.kind hk hc z (fun h' hc' hs=>?_)
    obtain ⟨oc,hoc,hocd⟩:=id z
    refine h { s with heap:=h' } ⟨I.ok,I.os,I.bare,⟨fun b o e n hb hx=>?_,fun b o e n hb hx=>?_,I.base.free,fun b o e hx=>?_,I.base.tups,I.base.frzs,I.base.tbls⟩,⟨m,hn.sameBut hs (Ne.symm (cne x c hc)),fun j y v' e1 e2 e3=>?_⟩,fun y c' e=>?_,I.free,I.freeC,fun p hp=>?_,tracked ⟨oc,hoc,(I.freeC x c hc).elim (fun n=>n) fun z=>by rw [hfn] at z; cases z.1⟩ hs,by simpa using I.len⟩ ⟨c,hs,.inr hc⟩
    · exact (hs.2 b (Nat.ne_of_lt (Nat.lt_of_lt_of_le (Heap.lt_size e) (I.ok.cab x c hfn hc)))).trans (I.base.keep b o e n hb hx)
    · obtain ⟨sl,e1⟩:=I.base.slot b o e n hb hx
      exact ⟨sl,(hs.2 b (Nat.ne_of_lt (Nat.lt_of_lt_of_le (Heap.lt_size e) (I.ok.cab x c hfn hc)))).trans e1⟩
    · obtain ⟨o',e1⟩:=I.base.there b o e hx
      exact ⟨o',(hs.2 b (Nat.ne_of_lt (Nat.lt_of_lt_of_le (Heap.lt_size e) (I.ok.cab x c hfn hc)))).trans e1⟩
    · by_cases hj:j=i
      · subst hj
        rw [hi] at e1; cases e1
        rw [List.getElem?_set_self hiσ] at e2
        cases e2
        exact ⟨u,r,.inr ⟨.inl hk,c,hc,hc'⟩⟩
      · rw [List.getElem?_set_ne (Ne.symm hj)] at e2
        obtain ⟨u',r',q⟩:=hl j y v' e1 e2 e3
        refine ⟨u',r',?_⟩
        rcases q with q | ⟨k,c',e,z'⟩
        · exact .inl q
        · refine .inr ⟨k,c',e,z'.sameBut hs ?_⟩
          rintro rfl
          exact hj (nodup_ix hN e1 (I.ok.inj _ _ _ e hc ▸ hi))
    · by_cases hcc:c'=c
      · subst hcc; exact ⟨_,hc'⟩
      · obtain ⟨w2,z2⟩:=I.cell y c' e
        exact ⟨w2,z2.sameBut hs hcc⟩
    · obtain ⟨e,n,ne,nf,d⟩:=I.pin p hp
      refine ⟨(hs.2 p.1 ?_).trans e,n,ne,nf,d⟩
      intro q
      rw [q,hoc] at e
      have q':oc=p.2:=Option.some.inj e
      exact d w' (by rw [← q']; exact hocd)
theorem store_ok {M:Model} {A:Around} {E:Value→Shared→Prop} {i:Nat} {x:Str} {v:V} {u:Value} {Q:Unit→Shared→Prop} (I:Inv X pins σ H s) (hN:X.N.Nodup) (hi:X.N[i]?=some x) (hx:Loc X.env.scope x) (r:RelV v u)
    (h:∀ s',Inv X pins (σ.set i (some v)) H s'→Q () s') (hf:X.fn x=true∨X.env.scope.names.lookup x=some .local:=by first | exact .inl rfl | exact .inr rfl | assumption):wpAny M A (storeName X.env x u) Q E s :=
  store_ok2 I hN hi hx r (fun s' I' _=>h s' I') hf
theorem Inv.call' {s':Shared} {ch:List Addr} (I:Inv X pins σ H s) (ho:s'.os=s.os) (u:Un (frs X.stack) ch H H' s.heap s'.heap) (hok:HOk X.prog X.w H' s'.heap) (hg:AllBare s'.gens)
    (hch:∀ b∈ch,(b∈X.ex∨X.s₀.heap.objs.size≤b)∧b≠X.env.locals∧(∀ x c,X.env.cells.lookup x=some c→c≠b)∧∀ p∈X.pn ++ pins,p.1≠b):Inv X pins σ H' s':=by
  obtain ⟨h',g',d',t',o'⟩:=s'
  have e:o'=s.os:=ho
  subst e
  exact I.call (g':=g') (t':=t') (d':=d') u hok hg hch
end
abbrev XK:=Value→Option Addr→Hp→Prop
abbrev St:=List (Option V)
abbrev VK:=V→Hp→Prop
abbrev TE:=St→Hp→VK→Prop
abbrev TT:=St→Hp→(Bool→Hp→Prop)→Prop
abbrev TA:=St→Hp→(List V→Hp→Prop)→Prop
structure Ends where
  nx:St→Hp→Prop
  rt:VK
  bk:St→Hp→Prop:=fun _ _=>False
  ct:St→Hp→Prop:=fun _ _=>False
abbrev TS:=Ends→St→Hp→Prop
def EP (X:Cx) (pins:List (Addr×Obj)) (σ:St) (Q:VK) (u:Value) (s':Shared):Prop:=∃ v H',Inv X pins σ H' s'∧RelV v u∧Q v H'
def TP (X:Cx) (pins:List (Addr×Obj)) (σ:St) (Q:Bool→Hp→Prop) (b:Bool) (s':Shared):Prop:=∃ H',Inv X pins σ H' s'∧Q b H'
def AP (X:Cx) (pins:List (Addr×Obj)) (σ:St) (Q:List V→Hp→Prop) (us:List Value) (s':Shared):Prop:=∃ vs H',Inv X pins σ H' s'∧Vals vs us∧Q vs H'
def SP (X:Cx) (pins:List (Addr×Obj)) (D:Ends) (f:Flow) (s':Shared):Prop :=
  match f with
  | .next=>∃ σ' H',Inv X pins σ' H' s'∧D.nx σ' H'
  | .brk=>∃ σ' H',Inv X pins σ' H' s'∧D.bk σ' H'
  | .cont=>∃ σ' H',Inv X pins σ' H' s'∧D.ct σ' H'
  | .ret u=>∃ v σ' H',Inv X pins σ' H' s'∧RelV v u∧D.rt v H'
def PE (X:Cx) (e:Expr) (t:TE):Prop :=
  ∀ (pins:List (Addr×Obj)) (s:Shared) (σ:St) (H:Hp) (Q:VK),Inv X pins σ H s→t σ H Q→wpAny (model X.prog X.w) X.A (eval e X.env) (EP X pins σ Q) X.xe s
def PT (X:Cx) (e:Expr) (t:TT):Prop :=
  ∀ (pins:List (Addr×Obj)) (s:Shared) (σ:St) (H:Hp) (Q:Bool→Hp→Prop),Inv X pins σ H s→t σ H Q→wpAny (model X.prog X.w) X.A (isTrue e X.env (eval e X.env)) (TP X pins σ Q) X.xe s
def PW (X:Cx) (e:Expr) (t:TT):Prop :=
  ∀ (whole:Sem Value) (pins:List (Addr×Obj)) (s:Shared) (σ:St) (H:Hp) (Q:Bool→Hp→Prop),Inv X pins σ H s→t σ H Q→wpAny (model X.prog X.w) X.A (isTrue e X.env whole) (TP X pins σ Q) X.xe s
theorem PW.pt {X:Cx} {e:Expr} {t:TT} (h:PW X e t):PT X e t:=h _
def PA (X:Cx) (es:List Expr) (t:TA):Prop :=
  ∀ (pos:Pos) (pins:List (Addr×Obj)) (s:Shared) (σ:St) (H:Hp) (Q:List V→Hp→Prop),Inv X pins σ H s→t σ H Q→wpAny (model X.prog X.w) X.A (spliced (backTo pos (starEach es X.env))) (AP X pins σ Q) X.xe s
def PS (X:Cx) (st:Stmt) (t:TS):Prop :=
  ∀ (pins:List (Addr×Obj)) (s:Shared) (σ:St) (H:Hp) (D:Ends),Inv X pins σ H s→t D σ H→wpAny (model X.prog X.w) X.A (exec st X.env) (SP X pins D) X.xe s
def PSs (X:Cx) (st:List Stmt) (t:TS):Prop :=
  ∀ (pins:List (Addr×Obj)) (s:Shared) (σ:St) (H:Hp) (D:Ends),Inv X pins σ H s→t D σ H→wpAny (model X.prog X.w) X.A (execs st X.env) (SP X pins D) X.xe s
theorem thn {α:Type} {t:Sem α} {Q Q':α→Shared→Prop} {M:Model} {A:Around} {E:Value→Shared→Prop} {s:Shared} (h:wpAny M A t Q E s) (hQ:∀ a s,Q a s→Q' a s):wpAny M A t Q' E s:=wpAny_mono h hQ fun _ _ x=>x
end L2
namespace L2
open PySem PySem.Spec PyProof.Rows
section
variable {X:Cx}
def tVar (i:Nat):TE:=fun σ H Q=>∃ v,σ[i]?=some (some v)∧Q v H
def tC (v:V):TE:=fun _ H Q=>Q v H
theorem pe_var {i:Nat} {x:Str} {pos:Pos} (hN:X.N[i]?=some x) (hv:Vis X.env.scope x) (hd:(x == ("__debug__" : Str))=false:=by decide) (hcd:(x == ("__classdict__" : Str))=false:=by decide):PE X (.Name x pos) (tVar i):=by
  intro pins s σ H Q I h
  obtain ⟨v,e,h⟩:=h
  obtain ⟨m,hn,hl⟩:=I.loc
  obtain ⟨u,r,l⟩:=hl i x v hN e hv
  have fin:EP X pins σ Q u s:=⟨v,H,I,r,h⟩
  rcases l with ⟨hk,hm⟩ | ⟨hk,c,hc,hcell⟩
  · exact wpAny_Name (wpAny_loadName_local I.ok.kind hk hn hm fin) hd
  · rcases hk with hk | hk
    · exact wpAny_Name (wpAny_loadName_cell I.ok.kind hk hc hcell fin) hd
    · exact wpAny_Name (wpAny_loadName_free I.ok.kind hk hc hcell fin hcd) hd
theorem pe_int {i j pos}:PE X (.Constant (.int i) j pos) (tC (.int i)):=fun _ _ _ H _ I h=>wpAny_Constant_int ⟨.int i,H,I.tok _,⟨_,rfl⟩,h⟩
theorem pe_bl {b j pos}:PE X (.Constant (.bool b) j pos) (tC (.bl b)):=fun _ _ _ H _ I h=>Constant_bool ⟨.bl b,H,I,rfl,h⟩
def Gl (X:Cx) (x:Str):Prop:=X.env.kindOf x=some .globalImplicit
theorem ld_glob {E:Value→Shared→Prop} {pins:List (Addr×Obj)} {s:Shared} {σ:St} {H:Hp} {x:Str} {u:Value} {pos:Pos} {Q:Value→Shared→Prop} (I:Inv X pins σ H s) (hg:Gl X x) (hm:X.mg x=some u) (h:Q u s)
    (hd:(x == ("__debug__" : Str))=false:=by decide):wpAny (model X.prog X.w) X.A (eval (.Name x pos) X.env) Q E s :=
  Calls.Name_function_global I.ok.kind hg (Calls.loadGlobal_global (by rw [I.ok.glob]; exact I.mod.glob.keeps I.bk) hm h) hd
theorem ld_blt {E:Value→Shared→Prop} {pins:List (Addr×Obj)} {s:Shared} {σ:St} {H:Hp} {x:Str} {u:Value} {pos:Pos} {Q:Value→Shared→Prop} (I:Inv X pins σ H s) (hg:Gl X x) (hm:X.mg x=none) (hv:bootBuiltins x=some u) (h:Q u s)
    (hn:x ≠ "__name__" := by decide) (hd:(x == ("__debug__" : Str))=false:=by decide):wpAny (model X.prog X.w) X.A (eval (.Name x pos) X.env) Q E s:=by
  obtain ⟨mb,h1,h2⟩:=I.mod.blt
  exact Calls.Name_function_global I.ok.kind hg (Calls.loadGlobal_builtin (by rw [I.ok.glob]; exact I.mod.glob.keeps I.bk) hm (by rw [I.ok.blt]; exact h1.keeps I.bk) ((h2 x hn).trans hv) h) hd
theorem pe_glob {x:Str} {v:V} {u:Value} {pos:Pos} (hg:Gl X x) (hm:X.mg x=some u) (r:RelV v u) (hd:(x == ("__debug__" : Str))=false:=by decide):PE X (.Name x pos) (tC v) :=
  fun _ _ _ H _ I h=>ld_glob I hg hm ⟨v,H,I,r,h⟩ hd
theorem pe_bltn {x:Str} {v:V} {u:Value} {pos:Pos} (hg:Gl X x) (hm:X.mg x=none) (hv:bootBuiltins x=some u) (r:RelV v u) (hn:x ≠ "__name__" := by decide) (hd:(x == ("__debug__" : Str))=false:=by decide):PE X (.Name x pos) (tC v) :=
  fun _ _ _ H _ I h=>ld_blt I hg hm hv ⟨v,H,I,r,h⟩ hn hd
variable {a b:Expr} {ta tb:TE} {pos:Pos}
def tB (t:TE):TT:=fun σ H Q=>t σ H fun x H1=>∃ c,x=.bl c∧Q c H1
theorem pt_val {e:Expr} {t:TE} (h:PE X e t) (he:∀ whole,isTrue e X.env whole=(do let v ← whole; standAt e.pos; holding [v] (truthy v)):=by intro _; rfl):PT X e (tB t):=by
  intro pins s σ H Q I hw
  refine isTrue_plain (thn (h pins s σ H _ I hw) fun v s1 ⟨x,H1,I1,r1,q1⟩=>?_) (he _)
  obtain ⟨d,rfl,q⟩:=q1
  cases r1
  exact wpAny_truthy_bool ⟨H1,I1,q⟩
variable {tA tB':TT} {rest:List Expr}
def tAnd (t u:TT):TT:=fun σ H Q=>t σ H fun c H1=>if c=true then u σ H1 Q else Q false H1
def tOr (t u:TT):TT:=fun σ H Q=>t σ H fun c H1=>if c=true then Q true H1 else u σ H1 Q
def tNot (t:TT):TT:=fun σ H Q=>t σ H fun c H1=>Q (!c) H1
theorem pw_and1 (ha:PT X a tA):PW X (.BoolOp .And [a] pos) tA:=by
  intro wh pins s σ H Q I h
  refine isTrue_and (thn (ha pins s σ H Q I h) fun c s1 e=>?_)
  cases c with
  | true=>exact isTrue_and_nil e
  | false=>exact e
theorem pw_or1 (ha:PT X a tA):PW X (.BoolOp .Or [a] pos) tA:=by
  intro wh pins s σ H Q I h
  refine isTrue_or (thn (ha pins s σ H Q I h) fun c s1 e=>?_)
  cases c with
  | false=>exact isTrue_or_nil e
  | true=>exact e
theorem pw_and (ha:PT X a tA) (hb:PW X (.BoolOp .And (b :: rest) pos) tB'):PW X (.BoolOp .And (a :: b :: rest) pos) (tAnd tA tB'):=by
  intro wh pins s σ H Q I h
  refine isTrue_and (thn (ha pins s σ H _ I h) fun c s1 ⟨H1,I1,q1⟩=>?_)
  cases c with
  | true=>exact hb wh pins s1 σ H1 Q I1 q1
  | false=>exact ⟨H1,I1,q1⟩
theorem pw_or (ha:PT X a tA) (hb:PW X (.BoolOp .Or (b :: rest) pos) tB'):PW X (.BoolOp .Or (a :: b :: rest) pos) (tOr tA tB'):=by
  intro wh pins s σ H Q I h
  refine isTrue_or (thn (ha pins s σ H _ I h) fun c s1 ⟨H1,I1,q1⟩=>?_)
  cases c with
  | true=>exact ⟨H1,I1,q1⟩
  | false=>exact hb wh pins s1 σ H1 Q I1 q1
theorem pt_not (ha:PT X a tA):PT X (.UnaryOp .Not a pos) (tNot tA):=by
  intro pins s σ H Q I h
  exact isTrue_not (ha pins s σ H (fun c H1=>Q (!c) H1) I h)
def tAndV (ta tb:TE):TE:=fun σ H Q=>ta σ H fun x H1=>∃ c,x=.bl c∧if c=true then tb σ H1 Q else Q (.bl false) H1
def tNotV (ta:TE):TE:=fun σ H Q=>ta σ H fun x H1=>∃ c,x=.bl c∧Q (.bl (!c)) H1
theorem pe_one {op} {t:TE} (h:PE X a t):PE X (.BoolOp op [a] pos) t:=fun pins s σ H Q I hw=>BoolOp_one (h pins s σ H Q I hw)
theorem pe_and (ha:PE X a ta) (hb:PE X (.BoolOp .And (b :: rest) pos) tb):PE X (.BoolOp .And (a :: b :: rest) pos) (tAndV ta tb):=by
  intro pins s σ H Q I h
  refine BoolOp_and (thn (ha pins s σ H _ I h) fun v s1 ⟨x,H1,I1,r1,q1⟩=>?_)
  obtain ⟨c,rfl,q1⟩:=q1
  cases r1
  refine wpAny_truthy_bool ?_
  cases c with
  | true=>exact hb pins s1 σ H1 Q I1 q1
  | false=>exact ⟨.bl false,H1,I1,rfl,q1⟩
theorem pe_not (ha:PE X a ta):PE X (.UnaryOp .Not a pos) (tNotV ta):=by
  intro pins s σ H Q I h
  refine UnaryOp_ (thn (ha pins s σ H _ I h) fun v s1 ⟨x,H1,I1,r1,q1⟩=>?_)
  obtain ⟨c,rfl,q1⟩:=q1
  cases r1
  exact not_of (wpAny_truthy_bool ⟨.bl (!c),H1,I1,rfl,q1⟩)
def tIf (t:TT) (ta tb:TE):TE:=fun σ H Q=>t σ H fun c H1=>if c=true then ta σ H1 Q else tb σ H1 Q
theorem pe_ifExp {c:Expr} (hc:PT X c tA) (ha:PE X a ta) (hb:PE X b tb):PE X (.IfExp c a b pos) (tIf tA ta tb):=by
  intro pins s σ H Q I h
  refine wpAny_IfExp (thn (hc pins s σ H _ I h) fun d s1 ⟨H1,I1,q1⟩=>?_)
  cases d with
  | true=>exact ha pins s1 σ H1 Q I1 q1
  | false=>exact hb pins s1 σ H1 Q I1 q1
end
end L2
namespace L2
open PySem PySem.Spec PyProof.Rows
def SqL (K:PySem.W.Frag) (H:Hp) (a:Addr) (xs:List V):Prop :=
  Rd H a (.lst xs) ∨
    ∃ (o:Obj) (its:Array Value) (n:Nat),K.lookup a=some o∧o.cls=.type "list" ∧ o.dict=none∧o.data=.seq its n∧its.size≤sizeLine∧Vals xs its.toList
def SqT (K:PySem.W.Frag) (H:Hp) (a:Addr) (xs:List V):Prop :=
  Rd H a (.tup xs) ∨
    ∃ (o:Obj) (its:Array Value) (n:Nat),K.lookup a=some o∧o.cls=.type "tuple" ∧ o.data=.seq its n∧its.size≤sizeLine∧Vals xs its.toList
def absV:Value→Option V
  | .none=>some .non
  | .bool b=>some (.bl b)
  | .int i _=>some (.int i)
  | .str x _=>some (.str x)
  | .bytes b _=>some (.byt b)
  | .float b _=>some (.flt b)
  | .ref a=>some (.ref a)
  | .type n=>some (.ty n)
  | _=>none
theorem RelV.abs {x:V} {u:Value} (r:RelV x u):absV u=some x:=by
  cases x with
  | non=>cases r; rfl
  | bl _=>cases r; rfl
  | int _=>obtain ⟨t,rfl⟩:=r; rfl
  | str _=>obtain ⟨t,rfl⟩:=r; rfl
  | byt _=>obtain ⟨t,rfl⟩:=r; rfl
  | flt _=>obtain ⟨t,rfl⟩:=r; rfl
  | ref _=>cases r; rfl
  | ty _=>cases r; rfl
theorem RelV.inj {x y:V} {u:Value} (r:RelV x u) (q:RelV y u):x=y:=Option.some.inj (r.abs.symm.trans q.abs)
theorem Vals.inj:∀ {xs ys:List V} {us:List Value},Vals xs us→Vals ys us→xs=ys
  | _,_,_,.nil,.nil=>rfl
  | _,_,_,.cons r t,.cons r' t'=>by rw [r.inj r',Vals.inj t t']
section
variable {X:Cx} {pins:List (Addr×Obj)} {σ:St} {H:Hp} {s:Shared} {a:Addr} {xs ys:List V}
theorem SqL.of {K:PySem.W.Frag} (h:H a=some (.lst xs)):SqL K H a xs:=.inl (.inl h)
theorem SqT.of {K:PySem.W.Frag} (h:H a=some (.tup xs)):SqT K H a xs:=.inl (.inl h)
theorem Inv.list (I:Inv X pins σ H s) (h:SqL X.K H a xs):∃ its:List Value,Vals xs its∧PlainL s.heap a its.toArray∧xs.length≤sizeLine:=by
  rcases h with h | ⟨o,its,n,hk,hc,hd,hs,hz,r⟩
  · obtain ⟨z,its,n,r,e⟩:=h.ok I.hok
    exact ⟨its,r,⟨_,n,e,rfl,rfl,rfl⟩,z⟩
  · refine ⟨its.toList,r,⟨o,n,I.kIn a o hk,hc,hd,by simpa using hs⟩,?_⟩
    have e:=r.length
    simp only [Array.length_toList] at e
    omega
theorem Inv.tuple (I:Inv X pins σ H s) (h:SqT X.K H a xs):∃ its:List Value,Vals xs its∧IsTup s.heap a its.toArray∧xs.length≤sizeLine:=by
  rcases h with h | ⟨o,its,n,hk,hc,hs,hz,r⟩
  · obtain ⟨z,its,r,p⟩:=h.ok I.hok
    exact ⟨its,r,p,z⟩
  · refine ⟨its.toList,r,⟨o,I.kIn a o hk,hc,n,by simpa using hs⟩,?_⟩
    have e:=r.length
    simp only [Array.length_toList] at e
    omega
theorem Inv.list_inj (I:Inv X pins σ H s) (h:SqL X.K H a xs) (h':SqL X.K H a ys):xs=ys:=by
  obtain ⟨its,r,⟨o,n,e,_,_,d⟩,_⟩:=I.list h
  obtain ⟨its',r',⟨o',n',e',_,_,d'⟩,_⟩:=I.list h'
  rw [e] at e'; cases e'
  rw [d] at d'
  injection d' with d1 _
  have:its=its':=by simpa using congrArg Array.toList d1
  subst this
  exact r.inj r'
end
abbrev Cx.wish (X:Cx) (E:Value→Shared→Prop):Cx:={ X with xe:=E }
abbrev Cx.nox (X:Cx):Cx:=X.wish fun _ _=>False
theorem Cx.Ok.wish {X:Cx} (ok:X.Ok) (E:Value→Shared→Prop):(X.wish E).Ok :=
  ⟨ok.mod,ok.kind,ok.glob,ok.blt,ok.above,ok.inj,ok.has,ok.cab,ok.hd,ok.frames,ok.stk,ok.exf,ok.bs,ok.bsz,ok.noex,ok.exfs,ok.funs,ok.frf,ok.tb⟩
theorem Cx.Ok.unwish {X:Cx} {E:Value→Shared→Prop} (ok:(X.wish E).Ok):X.Ok :=
  ⟨ok.mod,ok.kind,ok.glob,ok.blt,ok.above,ok.inj,ok.has,ok.cab,ok.hd,ok.frames,ok.stk,ok.exf,ok.bs,ok.bsz,ok.noex,ok.exfs,ok.funs,ok.frf,ok.tb⟩
section
variable {X:Cx} {pins:List (Addr×Obj)} {σ:St} {H:Hp} {s:Shared} {E:Value→Shared→Prop}
theorem Inv.wish (I:Inv X pins σ H s) (E:Value→Shared→Prop):Inv (X.wish E) pins σ H s:=⟨I.ok.wish E,I.os,I.bare,I.base,I.loc,I.cell,I.free,I.freeC,I.pin,I.hok,I.len⟩
theorem Inv.unwish (I:Inv (X.wish E) pins σ H s):Inv X pins σ H s:=⟨I.ok.unwish,I.os,I.bare,I.base,I.loc,I.cell,I.free,I.freeC,I.pin,I.hok,I.len⟩
theorem SP.unwish {D:Ends} {f:Flow} {s':Shared} (h:SP (X.wish E) pins D f s'):SP X pins D f s':=by
  cases f with
  | next=>obtain ⟨σ',H',I,q⟩:=h; exact ⟨σ',H',I.unwish,q⟩
  | brk=>obtain ⟨σ',H',I,q⟩:=h; exact ⟨σ',H',I.unwish,q⟩
  | cont=>obtain ⟨σ',H',I,q⟩:=h; exact ⟨σ',H',I.unwish,q⟩
  | ret u=>obtain ⟨v,σ',H',I,r,q⟩:=h; exact ⟨v,σ',H',I.unwish,r,q⟩
theorem PSs.nox {st:List Stmt} {t:TS} (h:PSs X.nox st t):PSs X st t:=fun pins s σ H D I hw =>
  wpAny_mono (h pins s σ H D (I.wish _) hw) (fun _ _ q=>q.unwish) fun _ _ z=>False.elim z
end
section
variable {X:Cx} {st:Stmt} {rest:List Stmt} {t u:TS} {e:Expr} {te:TE} {pos:Pos}
def tNext:TS:=fun D σ H=>D.nx σ H
def tSeq (t u:TS):TS:=fun D σ H=>t { D with nx:=u D } σ H
theorem pss_nil:PSs X [] tNext:=fun _ _ σ H _ I h=>wpAny_execs_nil ⟨σ,H,I,h⟩
theorem pss_cons (h1:PS X st t) (h2:PSs X rest u):PSs X (st :: rest) (tSeq t u):=by
  intro pins s σ H D I h
  refine wpAny_execs_cons (thn (h1 pins s σ H { D with nx:=u D } I h) fun f s1 q=>?_)
  cases f with
  | next =>
    obtain ⟨σ',H',I',q⟩:=q
    exact h2 pins s1 σ' H' D I' q
  | ret v=>exact q
  | brk=>exact q
  | cont=>exact q
theorem pss_one (h1:PS X st t):PSs X [st] t:=by
  intro pins s σ H D I h
  refine wpAny_execs_cons (thn (h1 pins s σ H D I h) fun f s1 q=>?_)
  cases f with
  | next=>exact wpAny_execs_nil q
  | ret v=>exact q
  | brk=>exact q
  | cont=>exact q
theorem Inv.quiet {pins:List (Addr×Obj)} {σ:St} {H:Hp} {s:Shared} (I:Inv X pins σ H s):interactive X.env=false:=by simp [interactive,I.ok.kind]
def tDrop (te:TE):TS:=fun D σ H=>te σ H fun _ H1=>D.nx σ H1
theorem ps_expr (he:PE X e te) (hs:swapsWith e none pos.line X.env=pure false:=by rfl):PS X (.Expr e pos) (tDrop te):=by
  intro pins s σ H D I h
  exact wpAny_Expr_any (thn (he pins s σ H _ I h) fun v s1 ⟨x,H1,I1,r1,q1⟩=>⟨σ,H1,I1,q1⟩) I.quiet hs
def tRet (te:TE):TS:=fun D σ H=>te σ H D.rt
theorem ps_ret (he:PE X e te):PS X (.Return (some e) pos) (tRet te):=by
  intro pins s σ H D I h
  exact wpAny_Return_some (thn (he pins s σ H _ I h) fun v s1 ⟨x,H1,I1,r1,q1⟩=>⟨x,σ,H1,I1,r1,q1⟩)
def tIfS (c:TT) (t u:TS):TS:=fun D σ H=>c σ H fun b H1=>if b=true then t D σ H1 else u D σ H1
theorem ps_if {c:Expr} {a b:List Stmt} {tc:TT} (hc:PT X c tc) (ha:PSs X a t) (hb:PSs X b u):PS X (.If c a b pos) (tIfS tc t u):=by
  intro pins s σ H D I h
  refine wpAny_If (thn (hc pins s σ H _ I h) fun d s1 ⟨H1,I1,q1⟩=>?_)
  cases d with
  | true=>exact ha pins s1 σ H1 D I1 q1
  | false=>exact hb pins s1 σ H1 D I1 q1
def tNever:TS:=fun _ _ _=>False
theorem ps_never:PS X st tNever:=fun _ _ _ _ _ _ h=>h.elim
end
abbrev TG:=V→St→Hp→(St→Hp→Prop)→Prop
abbrev TGs:=List V→St→Hp→(St→Hp→Prop)→Prop
def PG (X:Cx) (target:Expr) (t:TG):Prop :=
  ∀ (pins:List (Addr×Obj)) (s:Shared) (σ:St) (H:Hp) (v:V) (u:Value) (Q:St→Hp→Prop),Inv X pins σ H s→RelV v u→t v σ H Q →
    wpAny (model X.prog X.w) X.A (assign target X.env u) (fun _ s'=>∃ σ' H',Inv X pins σ' H' s'∧Q σ' H') X.xe s
def PGs (X:Cx) (ts:List Expr) (t:TGs):Prop :=
  ∀ (pins:List (Addr×Obj)) (s:Shared) (σ:St) (H:Hp) (vs:List V) (us:List Value) (Q:St→Hp→Prop),Inv X pins σ H s→Vals vs us→t vs σ H Q →
    wpAny (model X.prog X.w) X.A (assignInOrder ((assignEach ts X.env).map (·.2)) us) (fun _ s'=>∃ σ' H',Inv X pins σ' H' s'∧Q σ' H') X.xe s
abbrev TSet:=V→V→V→Hp→(Hp→Prop)→Prop
def PSet (X:Cx) (t:TSet):Prop :=
  ∀ (pins:List (Addr×Obj)) (s:Shared) (σ:St) (H:Hp) (o i v:V) (ov iv u:Value) (Q:Hp→Prop),Inv X pins σ H s→RelV o ov→RelV i iv→RelV v u→t o i v H Q →
    wpAny (model X.prog X.w) X.A (setItem ov iv u) (fun _ s'=>∃ H',Inv X pins σ H' s'∧Q H') X.xe s
section
variable {X:Cx} {pos:Pos}
def gName (i:Nat):TG:=fun v σ H Q=>Q (σ.set i (some v)) H
theorem pg_name {i:Nat} {x:Str} (hN:X.N.Nodup) (hi:X.N[i]?=some x) (hx:Loc X.env.scope x) (hf:X.fn x=true∨X.env.scope.names.lookup x=some .local:=by first | exact .inl rfl | exact .inr rfl | assumption):PG X (.Name x pos) (gName i):=by
  intro pins s σ H v u Q I r h
  exact wpAny_assign_Name (store_ok I hN hi hx r (fun s' I'=>⟨_,H,I',h⟩) hf)
def gNil:TGs:=fun vs σ H Q=>vs=[]∧Q σ H
def gCons (t:TG) (u:TGs):TGs:=fun vs σ H Q=>∃ v r,vs=v :: r∧t v σ H fun σ' H'=>u r σ' H' Q
theorem pgs_nil:PGs X [] gNil:=by
  intro pins s σ H vs us Q I r h
  obtain ⟨e,h⟩:=h
  subst e
  cases r
  exact assignInOrder_nil ⟨σ,H,I,h⟩
theorem pgs_cons {e:Expr} {es:List Expr} {t:TG} {u:TGs} (h1:PG X e t) (h2:PGs X es u)
    (hs:(assignEach (e :: es) X.env).map (·.2)=assign e X.env :: (assignEach es X.env).map (·.2):=by rfl):PGs X (e :: es) (gCons t u):=by
  intro pins s σ H vs us Q I r h
  obtain ⟨v,vr,e1,h⟩:=h
  subst e1
  cases r with
  | cons r rr =>
    rw [hs]
    refine assignInOrder_cons (thn (h1 pins s σ H _ _ _ I r h) fun _ s1 ⟨σ1,H1,I1,q1⟩=>?_)
    exact h2 pins s1 σ1 H1 _ _ Q I1 rr q1
def gTup (K:PySem.W.Frag) (n:Nat) (t:TGs):TG:=fun v σ H Q=>∃ a xs,v=.ref a∧SqT K H a xs∧xs.length=n∧t xs σ H Q
theorem pg_tup {es:List Expr} {k:Nat} {t:TGs} {n:Nat} (hc:X.calm=true) (h:PGs X es t)
    (hn:(assignEach es X.env).length=n:=by rfl) (hst:(assignEach es X.env).findIdx? (·.1)=none:=by rfl):PG X (.Tuple es k pos) (gTup X.K n t):=by
  intro pins s σ H v u Q I r hw
  obtain ⟨a,xs,e1,hq,hl,hw⟩:=hw
  subst e1
  cases r
  obtain ⟨its,rv,ht,hz⟩:=I.tuple hq
  refine assign_Tuple_tuple (I.ok.hd hc) ht (by simp [hn,← hl,rv.length]) hst fun h' hx=>?_
  have I1:Inv X pins σ H { s with heap:=h' }:=I.kept (t':=s.toks) fun b o e=>hx b o (Nat.ne_of_lt (Heap.lt_size e)) e
  exact h pins _ σ H xs _ Q I1 (by simpa using rv) hw
def gSub (to ti:TE) (t:TSet):TG:=fun v σ H Q=>to σ H fun o H1=>ti σ H1 fun i H2=>t o i v H2 fun H3=>Q σ H3
theorem pg_sub {o i:Expr} {to ti:TE} {t:TSet} (ho:PE X o to) (hi:PE X i ti) (hs:PSet X t)
    (ha:∀ v,assign (.Subscript o i pos) X.env v=(do
      let ov ← holding [v] (eval o X.env)
      let iv ← holding [v,ov] (eval i X.env)
      standAt pos
      holding [v,ov,iv] (setItem ov iv v)
      release [v,ov,iv] []):=by intro _; rfl):PG X (.Subscript o i pos) (gSub to ti t):=by
  intro pins s σ H v u Q I r h
  rw [ha]
  refine wpAny_bind (wpAny_holding (thn (ho pins s σ H _ I h) fun ov s1 ⟨x,H1,I1,r1,q1⟩=>?_))
  refine wpAny_bind (wpAny_holding (thn (hi pins s1 σ H1 _ I1 q1) fun iv s2 ⟨y,H2,I2,r2,q2⟩=>?_))
  refine wpAny_bind (wpAny_standAt (wpAny_bind (wpAny_holding (thn (hs pins s2 σ H2 x y v ov iv u _ I2 r1 r2 r q2) fun _ s3 ⟨H3,I3,q3⟩=>?_))))
  exact wpAny_release ⟨σ,H3,I3,q3⟩
def tAsg (te:TE) (g:TG):TS:=fun D σ H=>te σ H fun x H1=>g x σ H1 D.nx
theorem ps_asg {tg e:Expr} {te:TE} {g:TG} (he:PE X e te) (hg:PG X tg g) (hs:swapsWithSole [tg] e pos.line X.env=pure false:=by rfl) (hw:swappedStores [tg] e X.env=pure none:=by rfl)
    (h1:(assignEach [tg] X.env).map (·.2)=[assign tg X.env]:=by rfl):PS X (.Assign [tg] e pos) (tAsg te g):=by
  intro pins s σ H D I h
  refine wpAny_Assign_stores (thn (he pins s σ H _ I h) fun v s1 ⟨x,H1,I1,r1,q1⟩=>?_) hs hw
  rw [h1]
  exact thn (hg pins s1 σ H1 x v _ I1 r1 q1) fun _ s2 q=>q
theorem ps_set {i:Nat} {x:Str} {e:Expr} {te:TE} {pos':Pos} (hN:X.N.Nodup) (hi:X.N[i]?=some x) (hx:Loc X.env.scope x) (he:PE X e te) (hs:swapsWith e (some (.Name x pos')) pos.line X.env=pure false:=by rfl) (hf:X.fn x=true∨X.env.scope.names.lookup x=some .local:=by first | exact .inl rfl | exact .inr rfl | assumption) :
    PS X (.Assign [.Name x pos'] e pos) (tAsg te (gName i)):=by
  intro pins s σ H D I h
  refine wpAny_Assign_Name (thn (he pins s σ H _ I h) fun v s1 ⟨y,H1,I1,r1,q1⟩=>?_) hs
  exact store_ok I1 hN hi hx r1 (fun s2 I2=>⟨_,H1,I2,q1⟩) hf
def tPar (i j:Nat) (ta:TA):TS:=fun D σ H=>ta σ H fun vs H1=>∃ v w,vs=[v,w]∧D.nx ((σ.set i (some v)).set j (some w)) H1
theorem ps_par {i j:Nat} {x y:Str} {a b:Expr} {ta:TA} {px py pt:Pos} {kt k2 pt2} (hc:X.calm=true) (hN:X.N.Nodup) (hi:X.N[i]?=some x) (hj:X.N[j]?=some y) (hij:i≠j)
    (hx:X.env.scope.names.lookup x=some .local) (hy:X.env.scope.names.lookup y=some .local) (ha:PA X [a,b] ta)
    (hw:swappedStores [.Tuple [.Name x px,.Name y py] kt pt] (.Tuple [a,b] k2 pt2) X.env=pure (some [x,y]))
    (hs:swapsWithSole [.Tuple [.Name x px,.Name y py] kt pt] (.Tuple [a,b] k2 pt2) pos.line X.env=pure false:=by rfl) :
    PS X (.Assign [.Tuple [.Name x px,.Name y py] kt pt] (.Tuple [a,b] k2 pt2) pos) (tPar i j ta):=by
  intro pins s σ H D I h
  rw [exec_Assign_arm]
  refine wpAny_bind (wpAny_standAt ?_)
  rw [hs]
  refine wpAny_bind (wpAny_pure ?_)
  rw [if_neg (by decide)]
  refine wpAny_bind (Tuple_ (thn (ha _ pins s σ H _ I h) fun us s1 ⟨vs,H1,I1,r1,q1⟩=>?_))
  obtain ⟨v,w,e1,q1⟩:=q1
  subst e1
  obtain ⟨u1,u2,rfl,rv,rw'⟩:∃ u1 u2,us=[u1,u2]∧RelV v u1∧RelV w u2:=by
    cases r1 with
    | cons p q =>
      cases q with
      | cons p' q' =>
        cases q'
        exact ⟨_,_,rfl,p,p'⟩
  refine wpAny_newObj_type ?_ (by show 2≤sizeLine; decide)
  have I2:Inv X pins σ H1 { s1 with heap:=s1.heap.push { cls:=.type "tuple", data:=.seq [u1,u2].toArray } }:=I1.kept (t':=s1.toks) fun b o e=>Heap.get?_push_of_some _ e
  rw [hw]
  refine wpAny_bind (wpAny_pure ?_)
  show wpAny (model X.prog X.w) X.A (do rule "assign.swapped-stores"; let items ← unpackItems (.ref s1.heap.objs.size) 2 none; assignInOrder [fun v=>bindName X.env y v,fun v=>bindName X.env x v] items.reverse; pure Flow.next) _ _ _
  refine wpAny_bind (wpAny_rule (wpAny_bind (unpackItems_tuple (items:=#[u1,u2]) (I.ok.hd hc) (IsTup.new s1.heap _) fun h' hx'=>?_)))
  have I3:=I2.kept (h':=h') (t':=s1.toks) fun b o e=>hx' b o (Nat.ne_of_lt (Heap.lt_size e)) e
  show wpAny _ _ (assignInOrder [fun v=>bindName X.env y v,fun v=>bindName X.env x v] [u2,u1] >>= fun _=>pure Flow.next) _ _ _
  refine wpAny_bind (assignInOrder_cons (wpAny_bindName (store_ok I3 hN hj (.inl hy) rw' (fun s2 I4=>?_) (.inr hy))))
  refine assignInOrder_cons (wpAny_bindName (store_ok I4 hN hi (.inl hx) rv (fun s3 I5=>assignInOrder_nil (wpAny_pure ?_)) (.inr hx)))
  rw [List.set_comm _ _ (Ne.symm hij)] at I5
  exact ⟨_,H1,I5,q1⟩
end
section
variable {X:Cx} {pos:Pos}
def tWhile (c:TT) (tb:TS):TS:=fun D σ H=>∃ W:Nat→St→Hp→Prop,(∃ m,W m σ H)∧∀ m σ H,W m σ H →
  c σ H fun b H1=>if b=true then ∃ N:St→Hp→Prop,(∀ σ' H',N σ' H'→∃ m',m' < m∧W m' σ' H')∧tb { D with nx:=N,ct:=N,bk:=D.nx } σ H1 else D.nx σ H1
theorem ps_while {c:Expr} {body:List Stmt} {tc:TT} {tb:TS} (hp:PassesOwn (model X.prog X.w) X.A X.env X.xe) (hc:PT X c tc) (hb:PSs X body tb):PS X (.While c body [] pos) (tWhile tc tb):=by
  intro pins s σ H D I h
  obtain ⟨W,⟨m0,w0⟩,turn⟩:=h
  refine wpAny_While (codeAny_whileLoop (fun n s'=>∃ σ' H',Inv X pins σ' H' s'∧W n σ' H') ?_ m0 ⟨σ,H,I,w0⟩)
  rintro n s1 ⟨σ1,H1,I1,w1⟩
  refine wpAny_passesOwn hp (thn (hc pins s1 σ1 H1 _ I1 (turn n σ1 H1 w1)) fun b s2 ⟨H2,I2,q2⟩=>?_)
  cases b with
  | true =>
    obtain ⟨N,hN,q2⟩:=q2
    rw [if_pos rfl]
    refine wpAny_passesOwn hp (thn (hb pins s2 σ1 H2 _ I2 q2) fun f s3 q3=>?_)
    cases f with
    | next =>
      obtain ⟨σ3,H3,I3,n3⟩:=q3
      obtain ⟨m',hm,w3⟩:=hN σ3 H3 n3
      exact ⟨m',hm,σ3,H3,I3,w3⟩
    | cont =>
      obtain ⟨σ3,H3,I3,n3⟩:=q3
      obtain ⟨m',hm,w3⟩:=hN σ3 H3 n3
      exact ⟨m',hm,σ3,H3,I3,w3⟩
    | brk=>exact q3
    | ret v=>exact q3
  | false =>
    rw [if_neg Bool.false_ne_true]
    exact wpAny_execs_nil ⟨σ1,H2,I2,q2⟩
end
structure It where
  go:Nat→Hp→Prop
  yld:Nat→Hp→V→Hp→Prop
  stop:Nat→Hp→Prop
def FpOk (X:Cx) (pins:List (Addr×Obj)) (H:Hp) (b:Addr):Prop :=
  H b=none∧b≠X.env.locals∧b∉X.fs∧(b∈X.ex∨X.s₀.heap.objs.size≤b)∧(∀ x c,X.env.cells.lookup x=some c→c≠b)∧∀ p∈X.pn ++ pins,p.1≠b
theorem Inv.fpOk {X:Cx} {pins:List (Addr×Obj)} {σ:St} {H H':Hp} {s:Shared} {b:Addr} (I:Inv X pins σ H s) (hb:s.heap.objs.size≤b) (hn:H' b=none):FpOk X pins H' b:=by
  refine ⟨hn,Nat.ne_of_gt (Nat.lt_of_lt_of_le I.lt hb),I.nofs hb,.inr (Nat.le_trans I.sz hb),fun x c e z=>?_,fun p hp z=>?_⟩
  · obtain ⟨v,q⟩:=I.cell x c e
    exact absurd (Nat.lt_of_lt_of_le q.lt (by rw [z]; exact hb)) (Nat.lt_irrefl _)
  · exact absurd (Nat.lt_of_lt_of_le (Heap.lt_size (I.pin p hp).1) (by rw [z]; exact hb)) (Nat.lt_irrefl _)
structure Turn (P:Program) (w:World) (K:PySem.W.Frag) (tg:Expr) (J:It) (fp:List Addr) (it:Addr) (tn:Nat→Heap→Prop):Prop where
  mem:it∈fp
  obj:∀ i h,tn i h→∀ b∈fp,∃ o,h.get? b=some o∧∀ v,o.data≠.cell v
  keep:∀ i h h',tn i h→(∀ b∈fp,∀ o,h.get? b=some o→h'.get? b=some o)→tn i h'
  item:∀ (X:Cx),X.prog=P→X.w=w→X.K=K→X.calm=true→∀ (i:Nat) (pins:List (Addr×Obj)) (s:Shared) (σ:St) (H:Hp) (E:Value→Shared→Prop),Inv X pins σ H s→(∀ b∈fp,FpOk X pins H b)→tn i s.heap→J.go i H →
    wpAny (model P w) X.A (pyNext (.ref it)) (fun r s1=>∃ u,r=some u ∧
      wpAny (model P w) X.A (letOwnedTupleGo tg (.ref it) u) (fun _ s2=>∃ x H',Inv X pins σ H' s2∧RelV x u∧J.yld i H x H'∧tn (i + 1) s2.heap∧∀ b∈fp,H' b=none) E s1) E s
  done:∀ (X:Cx),X.prog=P→X.w=w→X.K=K→X.calm=true→∀ (i:Nat) (pins:List (Addr×Obj)) (s:Shared) (σ:St) (H:Hp) (E:Value→Shared→Prop),Inv X pins σ H s→(∀ b∈fp,FpOk X pins H b)→tn i s.heap→J.stop i H →
    wpAny (model P w) X.A (pyNext (.ref it)) (fun r s1=>r=none∧Inv X pins σ H s1) E s
  self:∀ (A:Around) (i:Nat) (s:Shared) (Q:Value→Shared→Prop) (E:Value→Shared→Prop),tn i s.heap→Q (.ref it) s→wpAny (model P w) A (pyIter (.ref it)) Q E s
abbrev TI:=St→Hp→(It→Hp→Prop)→Prop
def PIE (X:Cx) (pins:List (Addr×Obj)) (σ:St) (tg:Expr) (R:It→Hp→Prop) (itv:Value) (s2:Shared):Prop :=
  ∃ (it:Addr) (fp:List Addr) (tn:Nat→Heap→Prop) (J:It) (H':Hp),itv=.ref it∧Inv X pins σ H' s2∧Turn X.prog X.w X.K tg J fp it tn∧tn 0 s2.heap∧(∀ b∈fp,FpOk X pins H' b)∧R J H'
def PI (X:Cx) (tg iter:Expr) (wi:TI):Prop :=
  ∀ (pins:List (Addr×Obj)) (s:Shared) (σ:St) (H:Hp) (R:It→Hp→Prop),Inv X pins σ H s→wi σ H R →
    wpAny (model X.prog X.w) X.A (eval iter X.env) (fun v s1=>wpAny (model X.prog X.w) X.A (pyIter v) (PIE X pins σ tg R) X.xe s1) X.xe s
theorem go_of {M:Model} {A:Around} {E:Value→Shared→Prop} {s:Shared} {tg:Expr} {it:Addr} {u:Value} {o:Obj} {n:String} {vs:Array Value} {Q:Unit→Shared→Prop} (ho:s.heap.get? it=some o) (hc:o.cls=.type n) (hd:o.data=.fields vs)
    (hn:["enumerate", "zip", "dict_itemiterator", "dict_reverseitemiterator", "odict_iterator", "itertools.zip_longest", "itertools.pairwise"].contains n=false) (hQ:Q () s):wpAny M A (letOwnedTupleGo tg (.ref it) u) Q E s:=by
  unfold letOwnedTupleGo
  cases tg <;> first
    | exact wpAny_pure hQ
    | (cases u <;> first
        | exact wpAny_pure hQ
        | (refine wpAny_bind (wpAny_load ho ?_)
           rw [hc,hd]
           show wpAny M A (if (["enumerate", "zip", "dict_itemiterator", "dict_reverseitemiterator", "odict_iterator", "itertools.zip_longest", "itertools.pairwise"].contains n && vs[0]? == some (rawInt _))=true then _ else _) Q E s
           rw [if_neg (by intro h; rw [hn,Bool.false_and] at h; cases h)]
           exact wpAny_pure hQ))
def Itl (K:PySem.W.Frag) (a:Addr):It :=
  ⟨fun i H=>∃ xs x,SqL K H a xs∧xs[i]?=some x,fun i H x H'=>H'=H∧∀ xs,SqL K H a xs→xs[i]?=some x,fun i H=>∃ xs,SqL K H a xs∧xs.length≤i⟩
def Itr (lo:Int) (n:Nat):It:=⟨fun i _=>i < n,fun i H x H'=>H'=H∧x=.int (lo + i),fun i _=>n≤i⟩
theorem turn_list {P:Program} {w:World} {K:PySem.W.Frag} {tg:Expr} (a it:Addr):Turn P w K tg (Itl K a) [it] it (fun i h=>h.IsListIter it a i) where
  mem:=by simp
  obj:=fun i h st b hb=>by
    have e:b=it:=by simpa using hb
    subst e
    obtain ⟨o,e,c,d⟩:=st
    exact ⟨o,e,fun v z=>by rw [d] at z; cases z⟩
  keep:=fun i h h' st k=>st.at fun o e=>k it (by simp) o e
  item:=by
    intro X hP hw hK hc i pins s σ H E I hf st hg
    subst hP hw hK
    obtain ⟨xs,x,hq,hx⟩:=hg
    obtain ⟨its,rv,p,hz⟩:=I.list hq
    obtain ⟨u,hu,ru⟩:=rv.get hx
    obtain ⟨f0,f1,f2,f3,f4,f5⟩:=hf it (by simp)
    refine wpAny_pyNext_list_item st p.isList (x:=u) (by simpa using hu) fun h' st' sb=>?_
    have I1:Inv X pins σ H { s with heap:=h' }:=I.turned (t':=s.toks) (fun b o hb e=>(sb.2 b hb).trans e) f0 f1 f3 f4 f5
    obtain ⟨o,e,c,d⟩:=id st'
    exact ⟨u,rfl,go_of (s:={ s with heap:=h' }) e c d (by decide) ⟨x,H,I1,ru,⟨rfl,fun ys hy=>by rw [I.list_inj hy hq]; exact hx⟩,st',fun b hb=>(hf b hb).1⟩⟩
  done:=by
    intro X hP hw hK hc i pins s σ H E I hf st hg
    subst hP hw hK
    obtain ⟨xs,hq,hx⟩:=hg
    obtain ⟨its,rv,p,hz⟩:=I.list hq
    obtain ⟨f0,f1,f2,f3,f4,f5⟩:=hf it (by simp)
    have hl:=rv.length
    exact wpAny_pyNext_list_end (I.ok.hd hc) st p.isList (by simp; omega) fun h' eb=>⟨rfl,I.turned (t':=s.toks) (fun b o hb e=>eb b o hb e) f0 f1 f3 f4 f5⟩
  self:=fun _ _ _ _ _ st h=>wpAny_pyIter_listiter st h
theorem turn_range {P:Program} {w:World} {K:PySem.W.Frag} {tg:Expr} (it:Addr) (lo:Int) (n:Nat):Turn P w K tg (Itr lo n) [it] it (fun i h=>IsRangeIter h it (lo + (i:Nat) * 1) ((n:Int) - (i:Nat)) 1) where
  mem:=by simp
  obj:=fun i h st b hb=>by
    have e:b=it:=by simpa using hb
    subst e
    exact ⟨_,st,fun v z=>by
      have z':Data.fields _=Data.cell v:=z
      cases z'⟩
  keep:=fun i h h' st k=>k it (by simp) _ st
  item:=by
    intro X hP hw hK hc i pins s σ H E I hf st hg
    subst hP hw hK
    obtain ⟨f0,f1,f2,f3,f4,f5⟩:=hf it (by simp)
    have W:=Walks.range (prog:=X.prog) (w:=X.w) (I.ok.hd hc) it lo 1 n
    refine W.item i s _ _ hg st fun v h' tk hv st' kk=>?_
    obtain ⟨t,rfl⟩:=hv
    have I1:Inv X pins σ H { s with heap:=h',toks:=tk }:=I.turned (fun b o hb e=>kk b o (by simpa using hb) e) f0 f1 f3 f4 f5
    refine ⟨_,rfl,go_of (s:={ s with heap:=h',toks:=tk }) (n := "range_iterator") st' rfl rfl (by decide) ⟨.int (lo + i),H,I1,⟨t,?_⟩,⟨rfl,rfl⟩,st',fun b hb=>(hf b hb).1⟩⟩
    rw [Int.mul_one]
  done:=by
    intro X hP hw hK hc i pins s σ H E I hf st hg
    subst hP hw hK
    obtain ⟨f0,f1,f2,f3,f4,f5⟩:=hf it (by simp)
    exact wpAny_pyNext_range_end (I.ok.hd hc) st (by have:n≤i:=hg; omega) fun h' eb=>⟨rfl,I.turned (t':=s.toks) (fun b o hb e=>eb b o hb e) f0 f1 f3 f4 f5⟩
  self:=fun _ _ _ _ _ st h=>wpAny_pyIter_rangeiter st h
end L2
namespace L2
open PySem PySem.Spec PyProof.Rows
section
variable {X:Cx} {tg:Expr}
def iList (K:PySem.W.Frag) (tl:TE):TI:=fun σ H R=>tl σ H fun x H1=>∃ a,x=.ref a∧(∃ xs,SqL K H1 a xs)∧R (Itl K a) H1
theorem pi_list {l:Expr} {tl:TE} (hl:PE X l tl):PI X tg l (iList X.K tl):=by
  intro pins s σ H R I h
  refine thn (hl pins s σ H _ I h) fun v s1 ⟨x,H1,I1,r1,q1⟩=>?_
  obtain ⟨a,e,⟨xs,hq⟩,q⟩:=q1
  subst e
  cases r1
  obtain ⟨its,rv,p,hz⟩:=I1.list hq
  refine wpAny_pyIter_list p.isList ?_
  refine ⟨s1.heap.objs.size,[s1.heap.objs.size],_,_,H1,rfl,I1.kept (t':=s1.toks) fun b o e=>Heap.get?_push_of_some _ e,turn_list a _,⟨_,Heap.get?_push_size _ rfl,rfl,rfl⟩,fun b hb=>?_,q⟩
  have e:b=s1.heap.objs.size:=by simpa using hb
  subst e
  exact I1.fpOk (Nat.le_refl _) (I1.hok.fresh (Nat.le_refl _))
theorem range_it {pins:List (Addr×Obj)} {σ:St} {H:Hp} {s:Shared} {R:It→Hp→Prop} {E:Value→Shared→Prop} {lo hi:Int} {t u v:Tok} {tk:Nat} (I:Inv X pins σ H s) (h1:-(2 ^ 62)≤lo) (h2:lo < 2 ^ 62) (h3:-(2 ^ 62)≤hi) (h4:hi < 2 ^ 62)
    (q:R (Itr lo (hi - lo).toNat) H):wpAny (model X.prog X.w) X.A (pyIter (.ref s.heap.objs.size)) (PIE X pins σ tg R) E { s with heap:=s.heap.push { cls:=.type "range", data:=.fields #[.int lo t,.int hi u,.int 1 v] },toks:=tk }:=by
  refine wpAny_pyIter_range (IsRange.new ..) (small_one h1 h2 h3 h4) ?_
  have I1:Inv X pins σ H { s with heap:=s.heap.push { cls:=.type "range", data:=.fields #[.int lo t,.int hi u,.int 1 v] },toks:=tk }:=I.kept fun b o e=>Heap.get?_push_of_some _ e
  refine ⟨(s.heap.push { cls:=.type "range", data:=.fields #[.int lo t,.int hi u,.int 1 v] }).objs.size,[(s.heap.push { cls:=.type "range", data:=.fields #[.int lo t,.int hi u,.int 1 v] }).objs.size],_,_,H,rfl,
    I1.kept (t':=tk) fun b o e=>Heap.get?_push_of_some _ e,turn_range _ lo (hi - lo).toNat,?_,fun b hb=>?_,q⟩
  · have e1:lo + ((0:Nat):Int) * 1=lo:=by simp
    have e2:(((hi - lo).toNat:Nat):Int) - ((0:Nat):Int)=Builtin.Range.rangeSize lo hi 1:=by rw [rangeSize_one]; split <;> omega
    show IsRangeIter _ _ (lo + ((0:Nat):Int) * 1) ((((hi - lo).toNat:Nat):Int) - ((0:Nat):Int)) 1
    rw [e1,e2]
    exact Heap.get?_push_size _ rfl
  · have e:b=(s.heap.push { cls:=.type "range", data:=.fields #[.int lo t,.int hi u,.int 1 v] }).objs.size:=by simpa using hb
    subst e
    exact I1.fpOk (Nat.le_refl _) (I1.hok.fresh (Nat.le_refl _))
def iRng1 (ta:TA):TI:=fun σ H R=>ta σ H fun vs H1=>∃ j:Int,vs=[.int j]∧-(2 ^ 62)≤j∧j < 2 ^ 62∧R (Itr 0 j.toNat) H1
theorem pi_range1 {a:Expr} {ta:TA} {p pos:Pos} (hg:Gl X "range") (hm:X.mg "range" = none) (ha:PA X [a] ta) (hs:starEach [a] X.env=[(false,eval a X.env)]:=by rfl):PI X tg (.Call (.Name "range" p) [a] [] pos) (iRng1 ta):=by
  intro pins s σ H R I h
  refine Call_ (ld_blt I hg hm boot_range (PyProof.Rows.callWith_type1 (thn (ha pos pins s σ H _ I h) fun us s1 ⟨vs,H1,I1,r1,q1⟩=>?_) hs rfl))
  obtain ⟨j,e,q1,q2,q⟩:=q1
  subst e
  cases r1 with
  | cons r rr =>
    cases rr
    obtain ⟨t,rfl⟩:=r
    exact call_range_1 (range_it I1 (by omega) (by omega) q1 q2 (by simpa using q))
def tFor (wi:TI) (g:TG) (tb:TS):TS:=fun D σ H=>wi σ H fun J H1=>∃ W:Nat→Nat→St→Hp→Prop,(∃ m,W 0 m σ H1)∧∀ i m σ H,W i m σ H →
  (J.stop i H∧D.nx σ H)∨(J.go i H∧∃ N:St→Hp→Prop,(∀ σ' H',N σ' H'→∃ m',m' < m∧W (i + 1) m' σ' H')∧∀ x H',J.yld i H x H'→g x σ H' fun σ2 H2=>tb { D with nx:=N,ct:=N,bk:=D.nx } σ2 H2)
def pinsAt (fp:List Addr) (h:Heap):List (Addr×Obj):=fp.filterMap fun b=>(h.get? b).map fun o=>(b,o)
theorem mem_pinsAt {fp:List Addr} {h:Heap} {b:Addr} {o:Obj} (hb:b∈fp) (e:h.get? b=some o):(b,o)∈pinsAt fp h:=List.mem_filterMap.mpr ⟨b,hb,by rw [e]; rfl⟩
theorem of_pinsAt {fp:List Addr} {h:Heap} {p:Addr×Obj} (hp:p∈pinsAt fp h):p.1∈fp∧h.get? p.1=some p.2:=by
  obtain ⟨b,hb,e⟩:=List.mem_filterMap.mp hp
  cases q:h.get? b with
  | none=>rw [q] at e; cases e
  | some o =>
    rw [q] at e
    have e':(b,o)=p:=Option.some.inj e
    subst e'
    exact ⟨hb,q⟩
theorem Inv.pinned {pins:List (Addr×Obj)} {σ:St} {H:Hp} {s:Shared} {fp:List Addr} (I:Inv X pins σ H s) (hf:∀ b∈fp,FpOk X pins H b) (ho:∀ b∈fp,∃ o,s.heap.get? b=some o∧∀ v,o.data≠.cell v):Inv X (pins ++ pinsAt fp s.heap) σ H s :=
  I.pins_of fun p hp=>(List.mem_append.mp hp).elim (fun z=>I.pin p (List.mem_append_right _ z)) fun z=>by
    obtain ⟨hb,e⟩:=of_pinsAt z
    obtain ⟨f0,f1,f2,_⟩:=hf p.1 hb
    obtain ⟨o,e',d⟩:=ho p.1 hb
    rw [e] at e'; cases e'
    exact ⟨e,f0,f1,f2,d⟩
theorem Inv.unpinned {pins pl:List (Addr×Obj)} {σ:St} {H:Hp} {s:Shared} (I:Inv X (pins ++ pl) σ H s):Inv X pins σ H s:=I.pins_of fun p hp=>I.pin p (List.mem_append_right _ (List.mem_append_left _ hp))
theorem ps_for {iter:Expr} {body:List Stmt} {wi:TI} {g:TG} {tb:TS} {pos:Pos} (hp:PassesOwn (model X.prog X.w) X.A X.env X.xe) (hc:X.calm=true) (hi:PI X tg iter wi) (hg:PG X tg g) (hb:PSs X body tb)
    (hs:∀ x,foldedSetIterable iter X.env x=pure x:=by intro _; rfl):PS X (.For tg iter body [] pos) (tFor wi g tb):=by
  intro pins s σ H D I h
  refine wpAny_For (thn (hi pins s σ H _ I h) fun v s1 h1=>thn h1 fun itv s2 h2=>?_) hs
  obtain ⟨it,fp,tn,J,H2,e,I2,T,st2,f2,W,⟨m0,w0⟩,turn⟩:=h2
  subst e
  have stat:∀ {H':Hp},(∀ b∈fp,H' b=none)→∀ b∈fp,FpOk X pins H' b:=fun hn b hb=>⟨hn b hb,(f2 b hb).2⟩
  refine codeAny_forLoop_any (fun n s'=>∃ i σ' H',Inv X pins σ' H' s'∧tn i s'.heap∧(∀ b∈fp,H' b=none)∧W i n σ' H') ?_ m0 ⟨0,σ,H2,I2,st2,fun b hb=>(f2 b hb).1,w0⟩
  rintro n s3 ⟨i,σ3,H3,I3,st3,fr3,w3⟩
  rcases turn i n σ3 H3 w3 with ⟨stop,qn⟩ | ⟨go,N,hN,step⟩
  · refine wpAny_passesOwn hp (thn (T.done X rfl rfl rfl hc i pins s3 σ3 H3 X.xe I3 (stat fr3) st3 stop) fun r s4 ⟨hr,I4⟩=>?_)
    subst hr
    exact wpAny_execs_nil ⟨σ3,H3,I4,qn⟩
  · refine wpAny_passesOwn hp (thn (T.item X rfl rfl rfl hc i pins s3 σ3 H3 X.xe I3 (stat fr3) st3 go) fun r s4 ⟨u,hr,h4⟩=>?_)
    subst hr
    refine wpAny_passesOwn hp (thn h4 fun _ s5 ⟨x,H5,I5,r5,y5,st5,fr5⟩=>?_)
    have I5':=I5.pinned (stat fr5) (T.obj _ _ st5)
    refine wpAny_passesOwn hp (thn (hg _ s5 σ3 H5 x u _ I5' r5 (step x H5 y5)) fun _ s6 ⟨σ6,H6,I6,q6⟩=>?_)
    refine wpAny_passesOwn hp (thn (hb _ s6 σ6 H6 _ I6 q6) fun f s7 q7=>?_)
    have again:∀ {σ7:St} {H7:Hp},Inv X (pins ++ pinsAt fp s5.heap) σ7 H7 s7→N σ7 H7→∃ m,m < n∧∃ i σ' H',Inv X pins σ' H' s7∧tn i s7.heap∧(∀ b∈fp,H' b=none)∧W i m σ' H':=fun {σ7 H7} I7 n7=>by
      obtain ⟨m',hm,w7⟩:=hN σ7 H7 n7
      refine ⟨m',hm,i + 1,σ7,H7,I7.unpinned,T.keep _ _ _ st5 fun b hb o e=>(I7.pin (b,o) (List.mem_append_right _ (List.mem_append_right _ (mem_pinsAt hb e)))).1,fun b hb=>?_,w7⟩
      obtain ⟨o,e,d⟩:=T.obj _ _ st5 b hb
      exact (I7.pin (b,o) (List.mem_append_right _ (List.mem_append_right _ (mem_pinsAt hb e)))).2.1
    cases f with
    | next=>obtain ⟨σ7,H7,I7,n7⟩:=q7; exact again I7 n7
    | cont=>obtain ⟨σ7,H7,I7,n7⟩:=q7; exact again I7 n7
    | brk=>obtain ⟨σ7,H7,I7,q7⟩:=q7; exact ⟨σ7,H7,I7.unpinned,q7⟩
    | ret v=>obtain ⟨x7,σ7,H7,I7,r7,q7⟩:=q7; exact ⟨x7,σ7,H7,I7.unpinned,r7,q7⟩
end
theorem for_list {K:PySem.W.Frag} {a:Addr} {xs:List V} {g:TG} {tb:TS} {D:Ends} {σ:St} {H:Hp} (Pv:Nat→St→Hp→Prop) (h0:Pv 0 σ H) (hl:∀ i σ H,i≤xs.length→Pv i σ H→SqL K H a xs)
    (hs:∀ i x σ H,xs[i]?=some x→Pv i σ H→g x σ H fun σ2 H2=>tb { D with nx:=Pv (i + 1),ct:=Pv (i + 1),bk:=D.nx } σ2 H2) (hd:∀ σ H,Pv xs.length σ H→D.nx σ H) :
    ∃ W:Nat→Nat→St→Hp→Prop,(∃ m,W 0 m σ H)∧∀ i m σ H,W i m σ H →
      ((Itl K a).stop i H∧D.nx σ H)∨((Itl K a).go i H∧∃ N:St→Hp→Prop,(∀ σ' H',N σ' H'→∃ m',m' < m∧W (i + 1) m' σ' H')∧∀ x H',(Itl K a).yld i H x H'→g x σ H' fun σ2 H2=>tb { D with nx:=N,ct:=N,bk:=D.nx } σ2 H2):=by
  refine ⟨fun i m σ H=>m=xs.length - i∧i≤xs.length∧Pv i σ H,⟨xs.length,by simp,Nat.zero_le _,h0⟩,?_⟩
  rintro i m σ H ⟨rfl,hi,p⟩
  have q:=hl i σ H hi p
  by_cases hlt:i < xs.length
  · refine .inr ⟨⟨xs,xs[i],q,by simp [hlt]⟩,Pv (i + 1),fun σ' H' p'=>⟨xs.length - (i + 1),by omega,rfl,hlt,p'⟩,fun x H' y=>?_⟩
    obtain ⟨e,y⟩:=y
    subst e
    exact hs i x σ _ (y xs q) p
  · have e:i=xs.length:=by omega
    subst e
    exact .inl ⟨⟨xs,q,Nat.le_refl _⟩,hd σ H p⟩
end L2
namespace L2
open PySem PySem.Spec PyProof.Rows
abbrev R2:=V→V→Hp→VK→Prop
def OpR (X:Cx) (f:Value→Value→Sem Value) (r:R2):Prop :=
  ∀ (pins:List (Addr×Obj)) (s:Shared) (σ:St) (H:Hp) (x y:V) (v u:Value) (Q:VK),Inv X pins σ H s→RelV x v→RelV y u→r x y H Q →
    wpAny (model X.prog X.w) X.A (f v u) (EP X pins σ Q) X.xe s
def CallR (X:Cx) (f:Value) (r:List V→Hp→VK→Prop):Prop :=
  ∀ (pins:List (Addr×Obj)) (s:Shared) (σ:St) (H:Hp) (xs:List V) (us:List Value) (Q:VK),Inv X pins σ H s→Vals xs us→r xs H Q →
    wpAny (model X.prog X.w) X.A (call f us) (EP X pins σ Q) X.xe s
def tOp (r:R2) (ta tb:TE):TE:=fun σ H Q=>ta σ H fun x H1=>tb σ H1 fun y H2=>r x y H2 Q
def rI (C:Int→Int→Prop) (g:Int→Int→V):R2:=fun x y H Q=>∃ i j,x=.int i∧y=.int j∧C i j∧Q (g i j) H
def rI0 (g:Int→Int→V):R2:=fun x y H Q=>∃ i j,x=.int i∧y=.int j∧Q (g i j) H
section
variable {X:Cx} {a b c:Expr} {ta tb tc:TE} {pos:Pos}
theorem binT (ha:PE X a ta) (hb:PE X b tb) {pins:List (Addr×Obj)} {s:Shared} {σ:St} {H:Hp} {R:V→V→Hp→Prop} (I:Inv X pins σ H s)
    (h:ta σ H fun x H1=>tb σ H1 fun y H2=>R x y H2) {Q:Value→Shared→Prop} {f:Value→Value→Sem Value}
    (hf:∀ v u s2 x y H2,Inv X pins σ H2 s2→RelV x v→RelV y u→R x y H2→wpAny (model X.prog X.w) X.A (f v u) Q X.xe s2) :
    wpAny (model X.prog X.w) X.A (eval a X.env) (fun v s₁=>wpAny (model X.prog X.w) X.A (eval b X.env) (fun u s₂=>wpAny (model X.prog X.w) X.A (f v u) Q X.xe s₂) X.xe s₁) X.xe s:=by
  refine thn (ha pins s σ H _ I h) fun v s1 ⟨x,H1,I1,r1,q1⟩=>?_
  refine thn (hb pins s1 σ H1 _ I1 q1) fun u s2 ⟨y,H2,I2,r2,q2⟩=>?_
  exact hf v u s2 x y H2 I2 r1 r2 q2
theorem pe_op {op:Operator} {r:R2} (ho:OpR X (binaryOp op) r) (ha:PE X a ta) (hb:PE X b tb):PE X (.BinOp a op b pos) (tOp r ta tb):=by
  intro pins s σ H Q I h
  exact wpAny_BinOp (binT ha hb I h fun v u s2 x y H2 I2 rx ry q=>ho pins s2 σ H2 x y v u Q I2 rx ry q)
theorem opI {f:Value→Value→Sem Value} {C:Int→Int→Prop} {g:Int→Int→Int}
    (rule:∀ (i j:Int) (t u:Tok) (s:Shared) (Q:Value→Shared→Prop) (E:Value→Shared→Prop),C i j→Q (.int (g i j) s.toks) { s with toks:=s.toks + 1 }→wpAny (model X.prog X.w) X.A (f (.int i t) (.int j u)) Q E s) :
    OpR X f (rI C fun i j=>.int (g i j)):=by
  intro pins s σ H x y v u Q I rx ry h
  obtain ⟨i,j,rfl,rfl,hc,q⟩:=h
  obtain ⟨t,rfl⟩:=rx
  obtain ⟨t',rfl⟩:=ry
  exact rule i j t t' s _ _ hc ⟨.int (g i j),H,I.tok _,⟨_,rfl⟩,q⟩
theorem opI0 {f:Value→Value→Sem Value} {g:Int→Int→Int}
    (rule:∀ (i j:Int) (t u:Tok) (s:Shared) (Q:Value→Shared→Prop) (E:Value→Shared→Prop),Q (.int (g i j) s.toks) { s with toks:=s.toks + 1 }→wpAny (model X.prog X.w) X.A (f (.int i t) (.int j u)) Q E s) :
    OpR X f (rI0 fun i j=>.int (g i j)):=by
  intro pins s σ H x y v u Q I rx ry h
  obtain ⟨i,j,rfl,rfl,q⟩:=h
  obtain ⟨t,rfl⟩:=rx
  obtain ⟨t',rfl⟩:=ry
  exact rule i j t t' s _ _ ⟨.int (g i j),H,I.tok _,⟨_,rfl⟩,q⟩
theorem opB0 {f:Value→Value→Sem Value} {g:Int→Int→Bool}
    (rule:∀ (i j:Int) (t u:Tok) (s:Shared) (Q:Value→Shared→Prop) (E:Value→Shared→Prop),Q (.bool (g i j)) s→wpAny (model X.prog X.w) X.A (f (.int i t) (.int j u)) Q E s) :
    OpR X f (rI0 fun i j=>.bl (g i j)):=by
  intro pins s σ H x y v u Q I rx ry h
  obtain ⟨i,j,rfl,rfl,q⟩:=h
  obtain ⟨t,rfl⟩:=rx
  obtain ⟨t',rfl⟩:=ry
  exact rule i j t t' s _ _ ⟨.bl (g i j),H,I,rfl,q⟩
def CDiv (i j:Int):Prop:=0 < j∧j < 1073741824
def CPow (i j:Int):Prop:=0≤j∧j≤1000000∧i.natAbs < 2 ^ 64
theorem op_add:OpR X (binaryOp .Add) (rI0 fun i j=>.int (i + j)):=opI0 fun _ _ _ _ _ _ _ q=>add_int q
theorem op_sub:OpR X (binaryOp .Sub) (rI0 fun i j=>.int (i - j)):=opI0 fun _ _ _ _ _ _ _ q=>sub_int q
theorem op_fdiv:OpR X (binaryOp .FloorDiv) (rI CDiv fun i j=>.int (i / j)):=opI fun i j _ _ _ _ _ hc q=>by
  have h1:(0:Int) < j:=hc.1
  have h2:j < 1073741824:=hc.2
  exact floordiv_int (by omega) (by rw [Int.fdiv_eq_ediv_of_nonneg i (by omega)]; exact q) (.inl (PyProof.noPylong_small (by omega)))
theorem op_mod:OpR X (binaryOp .Mod) (rI (fun _ j=>0 < j) fun i j=>.int (i % j)):=opI fun i j _ _ _ _ _ hc q=>by
  have h1:(0:Int) < j:=hc
  exact mod_int' (by omega) (by rw [Int.fmod_eq_emod_of_nonneg i (by omega)]; exact q)
theorem op_pow:OpR X (binaryOp .Pow) (rI CPow fun i j=>.int (i ^ j.toNat)):=opI fun _ _ _ _ _ _ _ hc q=>pow_int_small hc.1 hc.2.1 hc.2.2 q
end
def scal:V→V→Bool
  | .non,.non=>true | .non,.int _=>true | .int _,.non=>true | .non,.bl _=>true | .bl _,.non=>true | .non,.str _=>true | .str _,.non=>true
  | .int _,.int _=>true | .bl _,.bl _=>true | .str _,.str _=>true | .byt _,.byt _=>true
  | .int _,.str _=>true | .str _,.int _=>true | .bl _,.str _=>true | .str _,.bl _=>true
  | _,_=>false
def rEq:R2:=fun x y H Q=>scal x y=true∧Q (.bl (decide (x=y))) H
def rNe:R2:=fun x y H Q=>scal x y=true∧Q (.bl (!decide (x=y))) H
theorem dec_int {i j:Int}:decide (V.int i=V.int j)=(i == j):=by
  rw [Bool.eq_iff_iff]
  simp
theorem dec_bl {i j:Bool}:decide (V.bl i=V.bl j)=(i == j):=by
  rw [Bool.eq_iff_iff]
  simp
theorem dec_str {i j:Str}:decide (V.str i=V.str j)=(i == j):=by
  rw [Bool.eq_iff_iff]
  simp
theorem dec_byt {i j:Array UInt8}:decide (V.byt i=V.byt j)=(i.toList == j.toList):=by
  rw [Bool.eq_iff_iff]
  cases i
  cases j
  simp
section
variable {X:Cx} {a b c:Expr} {ta tb tc:TE} {pos:Pos}
theorem fin_bl {pins:List (Addr×Obj)} {σ:St} {H:Hp} {s:Shared} {Q:VK} {k k':Bool} (I:Inv X pins σ H s) (q:Q (.bl k) H) (e:k=k'):EP X pins σ Q (.bool k') s:=by
  subst e
  exact ⟨.bl k,H,I,rfl,q⟩
theorem op_eq:OpR X (compareOp .Eq) rEq:=by
  intro pins s σ H x y v u Q I rx ry h
  obtain ⟨hs,q⟩:=h
  cases x with
  | non =>
    cases rx
    cases y with
    | non=>cases ry; exact PySem.EqNone.eq_none_none (fin_bl I q (by simp))
    | bl j=>cases ry; exact PySem.EqNone.eq_none_bool (fin_bl I q (by simp))
    | int j=>obtain ⟨t',rfl⟩:=ry; exact PySem.EqNone.eq_none_int (fin_bl I q (by simp))
    | str j=>obtain ⟨t',rfl⟩:=ry; exact PySem.EqNone.eq_none_str (fin_bl I q (by simp))
    | _=>exact absurd (show false=true from hs) Bool.false_ne_true
  | bl i =>
    cases rx
    cases y with
    | non=>cases ry; exact PySem.EqNone.eq_bool_none (fin_bl I q (by simp))
    | bl j=>cases ry; exact eq_bool (fin_bl I q dec_bl)
    | str j=>obtain ⟨t',rfl⟩:=ry; exact PySem.EqMixed.eq_bool_str (fin_bl I q (by simp))
    | _=>exact absurd (show false=true from hs) Bool.false_ne_true
  | int i =>
    obtain ⟨t,rfl⟩:=rx
    cases y with
    | non=>cases ry; exact PySem.EqNone.eq_int_none (fin_bl I q (by simp))
    | int j=>obtain ⟨t',rfl⟩:=ry; exact eq_int (fin_bl I q dec_int)
    | str j=>obtain ⟨t',rfl⟩:=ry; exact PySem.EqMixed.eq_int_str (fin_bl I q (by simp))
    | _=>exact absurd (show false=true from hs) Bool.false_ne_true
  | str i =>
    obtain ⟨t,rfl⟩:=rx
    cases y with
    | non=>cases ry; exact PySem.EqNone.eq_str_none (fin_bl I q (by simp))
    | bl j=>cases ry; exact PySem.EqMixed.eq_str_bool (fin_bl I q (by simp))
    | int j=>obtain ⟨t',rfl⟩:=ry; exact PySem.EqMixed.eq_str_int (fin_bl I q (by simp))
    | str j=>obtain ⟨t',rfl⟩:=ry; exact eq_str (fin_bl I q dec_str)
    | _=>exact absurd (show false=true from hs) Bool.false_ne_true
  | byt i =>
    obtain ⟨t,rfl⟩:=rx
    cases y with
    | byt j=>obtain ⟨t',rfl⟩:=ry; exact PySem.W.eq_bytes (fin_bl I q dec_byt)
    | _=>exact absurd (show false=true from hs) Bool.false_ne_true
  | _=>cases y <;> exact absurd (show false=true from hs) Bool.false_ne_true
theorem op_ne:OpR X (compareOp .NotEq) rNe:=by
  intro pins s σ H x y v u Q I rx ry h
  obtain ⟨hs,q⟩:=h
  cases x with
  | non =>
    cases rx
    cases y with
    | non=>cases ry; exact PySem.EqNone.ne_none_none (fin_bl I q (by simp))
    | bl j=>cases ry; exact PySem.EqNone.ne_none_bool (fin_bl I q (by simp))
    | int j=>obtain ⟨t',rfl⟩:=ry; exact PySem.EqNone.ne_none_int (fin_bl I q (by simp))
    | str j=>obtain ⟨t',rfl⟩:=ry; exact PySem.EqNone.ne_none_str (fin_bl I q (by simp))
    | _=>exact absurd (show false=true from hs) Bool.false_ne_true
  | bl i =>
    cases rx
    cases y with
    | non=>cases ry; exact PySem.EqNone.ne_bool_none (fin_bl I q (by simp))
    | bl j=>cases ry; exact ne_bool (fin_bl I q (congrArg not dec_bl))
    | str j=>obtain ⟨t',rfl⟩:=ry; exact PySem.EqMixed.ne_bool_str (fin_bl I q (by simp))
    | _=>exact absurd (show false=true from hs) Bool.false_ne_true
  | int i =>
    obtain ⟨t,rfl⟩:=rx
    cases y with
    | non=>cases ry; exact PySem.EqNone.ne_int_none (fin_bl I q (by simp))
    | int j=>obtain ⟨t',rfl⟩:=ry; exact ne_int (fin_bl I q (congrArg not dec_int))
    | str j=>obtain ⟨t',rfl⟩:=ry; exact PySem.EqMixed.ne_int_str (fin_bl I q (by simp))
    | _=>exact absurd (show false=true from hs) Bool.false_ne_true
  | str i =>
    obtain ⟨t,rfl⟩:=rx
    cases y with
    | non=>cases ry; exact PySem.EqNone.ne_str_none (fin_bl I q (by simp))
    | bl j=>cases ry; exact PySem.EqMixed.ne_str_bool (fin_bl I q (by simp))
    | int j=>obtain ⟨t',rfl⟩:=ry; exact PySem.EqMixed.ne_str_int (fin_bl I q (by simp))
    | str j=>obtain ⟨t',rfl⟩:=ry; exact ne_str (fin_bl I q (congrArg not dec_str))
    | _=>exact absurd (show false=true from hs) Bool.false_ne_true
  | byt i =>
    obtain ⟨t,rfl⟩:=rx
    cases y with
    | byt j=>obtain ⟨t',rfl⟩:=ry; exact PySem.W.ne_bytes (fin_bl I q (congrArg not dec_byt))
    | _=>exact absurd (show false=true from hs) Bool.false_ne_true
  | _=>cases y <;> exact absurd (show false=true from hs) Bool.false_ne_true
theorem op_lt:OpR X (compareOp .Lt) (rI0 fun i j=>.bl (decide (i < j))):=opB0 fun _ _ _ _ _ _ _ q=>lt_int q
theorem op_le:OpR X (compareOp .LtE) (rI0 fun i j=>.bl (decide (i≤j))):=opB0 fun _ _ _ _ _ _ _ q=>le_int q
theorem op_gt:OpR X (compareOp .Gt) (rI0 fun i j=>.bl (decide (j < i))):=opB0 fun _ _ _ _ _ _ _ q=>gt_int q
theorem op_ge:OpR X (compareOp .GtE) (rI0 fun i j=>.bl (decide (j≤i))):=opB0 fun _ _ _ _ _ _ _ q=>ge_int q
theorem nomark (b:Expr) {op:CmpOp} (h:op≠.In:=by decide) (h2:op≠.NotIn:=by decide):behindInMarks op b=false:=by
  have e1:(op == CmpOp.In)=false:=by cases op <;> first | rfl | exact absurd rfl h
  have e2:(op == CmpOp.NotIn)=false:=by cases op <;> first | rfl | exact absurd rfl h2
  cases b <;> simp [behindInMarks,e1,e2]
theorem pe_cmpR {op:CmpOp} {r:R2} (ho:OpR X (compareOp op) r) (ha:PE X a ta) (hb:PE X b tb) (hm:behindInMarks op b=false):PE X (.Compare a [op] [b] pos) (tOp r ta tb):=by
  intro pins s σ H Q I h
  exact wpAny_Compare1 (binT ha hb I h fun v u s2 x y H2 I2 rx ry q=>ho pins s2 σ H2 x y v u Q I2 rx ry q) hm
def tTest (t:TE):TT:=fun σ H Q=>t σ H fun x H'=>∃ k,x=.bl k∧Q k H'
theorem pt_cmpR {op:CmpOp} {r:R2} (ho:OpR X (compareOp op) r) (ha:PE X a ta) (hb:PE X b tb) (hm:behindInMarks op b=false):PT X (.Compare a [op] [b] pos) (tTest (tOp r ta tb)):=by
  intro pins s σ H Q I h
  refine wpAny_isTrue_Compare1 (thn (ha pins s σ H _ I h) fun v s1 ⟨x,H1,I1,r1,q1⟩=>thn (hb pins s1 σ H1 _ I1 q1) fun u s2 ⟨y,H2,I2,r2,q2⟩ =>
    thn (ho pins s2 σ H2 x y v u _ I2 r1 r2 q2) fun c s3 ⟨z,H3,I3,r3,k,e,q3⟩=>?_) hm
  subst e
  cases r3
  exact wpAny_truthy_bool ⟨H3,I3,q3⟩
def tChain (r r':R2) (ta tb tc:TE):TE:=fun σ H Q=>ta σ H fun x H1=>tb σ H1 fun y H2=>r x y H2 fun z H3=>∃ k,z=.bl k ∧
  (if k=true then tc σ H3 fun w' H4=>r' y w' H4 Q else Q (.bl false) H3)
theorem pe_chain {op op':CmpOp} {r r':R2} (ho:OpR X (compareOp op) r) (ho':OpR X (compareOp op') r') (ha:PE X a ta) (hb:PE X b tb) (hc:PE X c tc)
    (hm:lastMarks [op,op'] [b,c]=false:=by with_unfolding_all rfl):PE X (.Compare a [op,op'] [b,c] pos) (tChain r r' ta tb tc):=by
  intro pins s σ H Q I h
  refine Compare_chain (thn (ha pins s σ H _ I h) fun v s1 ⟨x,H1,I1,r1,q1⟩=>chain_link (thn (hb pins s1 σ H1 _ I1 q1) fun u s2 ⟨y,H2,I2,r2,q2⟩ =>
    thn (ho pins s2 σ H2 x y v u _ I2 r1 r2 q2) fun d s3 ⟨z,H3,I3,r3,k,e,q3⟩=>?_)) hm
  subst e
  cases r3
  refine wpAny_truthy_bool ?_
  cases k with
  | false=>exact ite_ff ⟨.bl false,H3,I3,rfl,q3⟩
  | true=>exact ite_tt (chain_last (thn (hc pins s3 σ H3 _ I3 q3) fun w' s4 ⟨z',H4,I4,r4,q4⟩=>ho' pins s4 σ H4 y z' u w' Q I4 r2 r4 q4))
theorem line63:(sizeLine:Nat) < 2 ^ 63:=by rw [sizeLine_eq]; decide
theorem vals1 {x:V} {us:List Value} (r:Vals [x] us):∃ u,us=[u]∧RelV x u:=by
  cases r with
  | cons r1 r2=>cases r2; exact ⟨_,rfl,r1⟩
theorem vals2 {x y:V} {us:List Value} (r:Vals [x,y] us):∃ u w',us=[u,w']∧RelV x u∧RelV y w':=by
  cases r with
  | cons r1 r2 =>
    cases r2 with
    | cons r3 r4=>cases r4; exact ⟨_,_,rfl,r1,r3⟩
theorem call_max2 (hc:X.calm=true):CallR X (.builtin "max") (fun xs H Q=>∃ i j,xs=[.int i,.int j]∧Q (.int (if j > i then j else i)) H):=by
  intro pins s σ H xs us Q I r h
  obtain ⟨i,j,rfl,q⟩:=h
  obtain ⟨u,w',rfl,⟨t,rfl⟩,⟨t',rfl⟩⟩:=vals2 r
  refine max_two_ints (I.ok.hd hc) fun h' tk k=>⟨_,H,I.kept k,?_,q⟩
  by_cases hj:j > i
  · rw [if_pos hj,if_pos hj]; exact ⟨_,rfl⟩
  · rw [if_neg hj,if_neg hj]; exact ⟨_,rfl⟩
theorem call_int1:CallR X (.type "int") (fun xs H Q=>(∃ i,xs=[.int i]∧Q (.int i) H)∨∃ k,xs=[.bl k]∧Q (.int (if k then 1 else 0)) H):=by
  intro pins s σ H xs us Q I r h
  rcases h with ⟨i,rfl,q⟩ | ⟨k,rfl,q⟩
  · obtain ⟨u,rfl,t,rfl⟩:=vals1 r
    exact call_int_int ⟨.int i,H,I,⟨_,rfl⟩,q⟩
  · obtain ⟨u,rfl,r1⟩:=vals1 r
    cases r1
    exact call_int_bool ⟨.int (if k then 1 else 0),H,I.tok _,⟨_,rfl⟩,q⟩
end
end L2
namespace L2
open PySem PySem.Spec PyProof.Rows
section
variable {prog:Program} {w:World} {A:Around} {E:Value→Shared→Prop} {s:Shared} {K:PySem.W.Frag} {x dx C f:Addr} {mA:Str→Option Value} {name:Str} {v:Value}
end
section
variable {P:Program} {w:World} {H H':Hp} {h h':Heap} {a C dx:Addr} {fs fs':List (Str×V)}
end
section
variable {X:Cx} {pins:List (Addr×Obj)} {σ:St} {H:Hp} {s:Shared} {a C dx:Addr} {fs:List (Str×V)} {f:Str} {v:V} {A:Around} {E:Value→Shared→Prop}
end
section
variable {X:Cx} {o e value:Expr} {f:Str} {pos pos' tpos:Pos} {ta tv:TE}
end
section
variable {X:Cx} {pins:List (Addr×Obj)} {σ:St} {H:Hp} {s:Shared} {A:Around} {E:Value→Shared→Prop} {Q:Value→Shared→Prop} {c:Value} {b:Bool}
end
end L2
namespace L2
open PySem PySem.Spec PyProof.Rows
structure Room (k:Nat) (A:Around):Prop where
  hd:A.handled=none
  dp:A.depth + 3 * k + 5 < recursionLimit
  un:A.units + 16 * k + 200 < cLine
theorem Room.mono {j k:Nat} {A:Around} (r:Room k A) (h:j≤k):Room j A:=⟨r.hd,by have:=r.dp; omega,by have:=r.un; omega⟩
theorem Room.deeper {k:Nat} {A:Around} (r:Room (k + 1) A) (env:Env):Room k (A.deeper env) :=
  ⟨r.hd,by have:=r.dp; show A.depth + 1 + 3 * k + 5 < _; omega,by have:=r.un; show A.units + 3 + 16 * k + 200 < _; omega⟩
theorem Room.depth {k:Nat} {A:Around} (r:Room k A):A.depth < recursionLimit:=by have:=r.dp; omega
theorem Room.units {k:Nat} {A:Around} (r:Room k A):A.units + 64 < cLine:=by have:=r.un; omega
def tNil:TA:=fun _ H Q=>Q [] H
def tCons (ta:TE) (tr:TA):TA:=fun σ H Q=>ta σ H fun x H1=>tr σ H1 fun xs H2=>Q (x :: xs) H2
section
variable {X:Cx} {e:Expr} {es:List Expr} {te:TE} {t:TA} {pos:Pos}
theorem pa_nil:PA X [] tNil:=fun _ _ _ _ H Q I h=>Calls.spliced_nil ⟨[],H,I,.nil,h⟩
theorem pa_cons (ha:PE X e te) (hr:PA X es t) (hs:starEach (e :: es) X.env=(false,eval e X.env) :: starEach es X.env:=by rfl):PA X (e :: es) (tCons te t):=by
  intro pos pins s σ H Q I h
  rw [hs]
  show wpAny _ _ (spliced ((false,eval e X.env) :: backTo pos (starEach es X.env))) _ _ s
  refine Calls.spliced_cons (thn (ha pins s σ H _ I h) fun u s1 ⟨x,H1,I1,r1,q1⟩=>?_)
  exact thn (hr pos pins s1 σ H1 _ I1 q1) fun us s2 ⟨xs,H2,I2,r2,q2⟩=>⟨x :: xs,H2,I2,.cons r1 r2,q2⟩
def tTup (t:TA):TE:=fun σ H Q=>t σ H fun xs H1=>xs.length≤sizeLine∧∀ p,H1 p=none→Q (.ref p) (upd H1 p (.tup xs))
def tLst (t:TA):TE:=fun σ H Q=>t σ H fun xs H1=>xs.length≤sizeLine∧∀ p,H1 p=none→Q (.ref p) (upd H1 p (.lst xs))
theorem pe_tup {x1} (h:PA X es t):PE X (.Tuple es x1 pos) (tTup t):=by
  intro pins s σ H Q I hq
  refine wpAny_Tuple_spliced (thn (h pos pins s σ H _ I hq) fun us s1 ⟨xs,H1,I1,r,z,q⟩=>⟨by rw [← r.length]; exact z,?_⟩)
  have hf:H1 s1.heap.objs.size=none:=I1.hok.fresh (Nat.le_refl _)
  refine ⟨.ref s1.heap.objs.size,upd H1 s1.heap.objs.size (.tup xs),I1.laid (t':=s1.toks) (fun b u e=>Heap.get?_push_of_some _ e) (Nat.le_refl _) ?_,rfl,q _ hf⟩
  exact ⟨z,us,r,⟨_,Heap.get?_push_size _ rfl,rfl,_,rfl⟩⟩
theorem pe_lst (h:PA X es t):PE X (.List es pos) (tLst t):=by
  intro pins s σ H Q I hq
  refine wpAny_List_spliced (thn (h pos pins s σ H _ I hq) fun us s1 ⟨xs,H1,I1,r,z,q⟩=>⟨by rw [← r.length]; exact z,?_⟩)
  have hf:H1 s1.heap.objs.size=none:=I1.hok.fresh (Nat.le_refl _)
  refine ⟨.ref s1.heap.objs.size,upd H1 s1.heap.objs.size (.lst xs),I1.laid (t':=s1.toks) (fun b u e=>Heap.get?_push_of_some _ e) (Nat.le_refl _) ?_,rfl,q _ hf⟩
  exact ⟨z,us,0,r,Heap.get?_push_size _ rfl⟩
end
abbrev Sp:=List V→Hp→VK→XK→Prop
abbrev CXT:=List Env→Hp→Shared→XK→Value→Shared→Prop
structure Env0 (P:Program) (w:World) (K:PySem.W.Frag) (mg:Str→Option Value) (base:Heap) (A:Around) (outer:List Env) (s:Shared) (H:Hp):Prop where
  frames:A.frames=some outer
  mod:Mod K mg base
  bs:∀ b o,base.get? b=some o→s.heap.get? b=some o∧H b=none
  bsz:base.objs.size≤s.heap.objs.size
  funs:s.heap.FunFrames base outer
  frf:∀ b∈frs outer,H b=none
  hok:HOk P w H s.heap
  bare:AllBare s.gens
  tb:TbOk K H
def CE (outer:List Env) (P:Program) (w:World) (H:Hp) (s:Shared) (Q:VK) (u:Value) (s':Shared):Prop :=
  ∃ v H',s'.os=s.os∧AllBare s'.gens∧Un (frs outer) [] H H' s.heap s'.heap∧HOk P w H' s'.heap∧RelV v u∧Q v H'
def CR (CX:CXT) (outer:List Env) (P:Program) (w:World) (H:Hp) (s:Shared) (Q:VK) (E:XK) (r:Result) (s':Shared):Prop :=
  match r with
  | .ok (.ret u)=>CE outer P w H s Q u s'
  | .ok _=>False
  | .error e=>CX outer H s E e s'
structure FnOk (P:Program) (w:World) (K:PySem.W.Frag) (mg:Str→Option Value) (base:Heap) (CX:CXT) (k:Nat) (f:Addr) (fd:FuncData) (ps:List Str) (sp:Sp):Prop where
  len:∀ vs H Q E,sp vs H Q E→vs.length=ps.length
  run:∀ (A:Around) (outer:List Env) (s:Shared) (H:Hp) (args:Args) (us:List Value) (vs:List V) (Q:VK) (E:XK),Room k A→Env0 P w K mg base A outer s H→BindsTo s fd args (ps.zip us)→Vals vs us→sp vs H Q E →
    codeAny (model P w) A (.call (.ref f) args) (CR CX outer P w H s Q E) s
section
variable {X:Cx} {pins:List (Addr×Obj)} {σ:St} {H:Hp} {s s':Shared}
theorem Inv.env0 (I:Inv X pins σ H s):Env0 X.prog X.w X.K X.mg X.base X.A X.stack s H :=
  ⟨I.ok.frames,I.ok.mod,I.bs,Nat.le_trans I.ok.bsz I.sz,I.stack,I.stkFree,I.hok,I.bare,I.ok.tb.un I.base⟩
theorem Inv.after {Q:VK} {u:Value} (I:Inv X pins σ H s) (h:CE X.stack X.prog X.w H s Q u s'):EP X pins σ Q u s':=by
  obtain ⟨v,H',os,bare,un,hok,r,q⟩:=h
  obtain ⟨hh,g,d,t,os'⟩:=s'
  obtain rfl:os'=s.os:=os
  exact ⟨v,H',I.call (h':=hh) (g':=g) (d':=d) (t':=t) (ch:=[]) un hok bare (fun b z=>absurd z (by simp)),r,q⟩
end
def tCall (sp:Sp) (dvs:List V) (E:XK) (t:TA):TE:=fun σ H Q=>t σ H fun vs H1=>sp (vs ++ dvs) H1 Q E
def Binds (K:PySem.W.Frag) (fd:FuncData) (ps:List Str) (ds:List Value):Prop :=
  ∀ (s:Shared) (us:List Value),K.In s.heap→(us ++ ds).length=ps.length→BindsTo s fd ⟨us,[]⟩ (ps.zip (us ++ ds))
theorem Binds.all {K:PySem.W.Frag} {fd:FuncData} {ps:List Str} (h:∀ us:List Value,us.length=ps.length→bindArgs fd ⟨us,[]⟩=pure (ps.zip us)):Binds K fd ps []:=fun s us _ hl=>by
  rw [List.append_nil] at hl ⊢
  exact .of_eq (h us hl)
def Passes (CX:CXT) (X:Cx) (E:XK):Prop:=∀ (pins:List (Addr×Obj)) (σ:St) (H:Hp) (s:Shared) (e:Value) (s':Shared),Inv X pins σ H s→CX X.stack H s E e s'→X.xe e s'
section
variable {X:Cx} {CX:CXT} {k:Nat} {f C:Addr} {fd:FuncData} {ps:List Str} {sp:Sp} {dvs:List V} {ds:List Value} {E:XK} {x m:Str} {p pos apos:Pos} {e o:Expr} {es:List Expr} {ta:TE} {t:TA}
theorem run_fn {pins:List (Addr×Obj)} {σ:St} {H:Hp} {s:Shared} {Q:VK} {us:List Value} {vs:List V} (F:FnOk X.prog X.w X.K X.mg X.base CX k f fd ps sp) (hr:Room k X.A) (hb:Binds X.K fd ps ds) (hd:Vals dvs ds) (hx:Passes CX X E)
    (I:Inv X pins σ H s) (r:Vals vs us) (h:sp (vs ++ dvs) H Q E):wpAny (model X.prog X.w) X.A (call (.ref f) us) (EP X pins σ Q) X.xe s:=by
  have r2:Vals (vs ++ dvs) (us ++ ds):=r.append hd
  have hl:(us ++ ds).length=ps.length:=by rw [← r2.length]; exact F.len _ _ _ _ h
  refine wpAny_call (codeAny_mono (F.run X.A X.stack s H ⟨us,[]⟩ (us ++ ds) (vs ++ dvs) Q E hr I.env0 (hb s us I.kIn hl) r2 h) fun r s' hq=>?_)
  cases r with
  | error e=>exact hx pins σ H s e s' I hq
  | ok fl =>
    cases fl with
    | ret u=>exact I.after hq
    | next=>exact False.elim hq
    | brk=>exact False.elim hq
    | cont=>exact False.elim hq
theorem pe_call (F:FnOk X.prog X.w X.K X.mg X.base CX k f fd ps sp) (hr:Room k X.A) (hg:Gl X x) (hm:X.mg x=some (.ref f)) (hk:PySem.W.keepIn X.K (.ref f)=true) (hb:Binds X.K fd ps ds) (hd:Vals dvs ds) (hx:Passes CX X E)
    (ha:PA X (e :: es) t) (hdb:(x == ("__debug__" : Str))=false:=by decide) (he:starEach (e :: es) X.env=(false,eval e X.env) :: starEach es X.env:=by rfl) (hpl:(backTo pos (starEach es X.env)).any (·.1)=false:=by rfl) :
    PE X (.Call (.Name x p) (e :: es) [] pos) (tCall sp dvs E t):=by
  intro pins s σ H Q I h
  refine wpAny_Call_Name_kw (ld_glob I hg hm ?_ hdb)
  refine PySem.W.callWith_K (h₀:=X.base) I.ok.mod.kin hk (thn (ha pos pins s σ H _ I h) fun us s1 ⟨vs,H1,I1,r,q⟩=>⟨I1.kIn,?_⟩) he hpl
  exact run_fn F hr hb hd hx I1 r q
end
section
variable {X:Cx} {CX:CXT} {k:Nat} {f C:Addr} {fd:FuncData} {ps ks:List Str} {sp:Sp} {E:XK} {x m:Str} {p pos apos kpos:Pos} {e o:Expr} {es:List Expr} {kws:List Keyword} {te ta:TE} {t tk:TA} {nm:Option Str}
variable {g:List Value→List Value→List Value} {gV:List V→List V→List V}
end
structure FnScope (N P:List Str) (sc:Scope):Prop where
  kind:sc.kind=.function
  co:sc.isCoroutine=false
  gen:sc.isGenerator=false
  nd:N.Nodup
  pre:N.take P.length=P
  par:∀ x∈P,sc.names.lookup x=some .local∨sc.names.lookup x=some .cell
  nofree:∀ y∈sc.names,y.2≠.free
theorem bindL_out {kindOf:Str→Option NameKind} {x:Str}:∀ {binds:List (Str×Value)} {m:Str→Option Value},(∀ v,(x,v)∉binds)→bindL kindOf binds m x=m x
  | [],_,_=>rfl
  | (n,v) :: r,m,h=>by
    unfold bindL
    rw [bindL_out fun w hw=>h w (List.mem_cons_of_mem _ hw)]
    split
    · have:x≠n:=by rintro rfl; exact h v List.mem_cons_self
      simp [this]
    · rfl
theorem bindC_out {kindOf:Str→Option NameKind} {x:Str}:∀ {binds:List (Str×Value)} {m:Str→Option Value},(∀ v,(x,v)∉binds)→bindC kindOf binds m x=m x
  | [],_,_=>rfl
  | (n,v) :: r,m,h=>by
    unfold bindC
    rw [bindC_out fun w hw=>h w (List.mem_cons_of_mem _ hw)]
    split
    · rfl
    · have:x≠n:=by rintro rfl; exact h v List.mem_cons_self
      simp [this]
theorem bindL_get {kindOf:Str→Option NameKind} {x:Str} {v:Value}:∀ {P:List Str} {vs:List Value} {i:Nat} {m:Str→Option Value},P.Nodup→P[i]?=some x→vs[i]?=some v→kindOf x=some .local →
    bindL kindOf (P.zip vs) m x=some v
  | [],_,_,_,_,h,_,_=>by simp at h
  | _ :: _,[],_,_,_,_,h,_=>by simp at h
  | p :: P,w :: vs,0,m,nd,h1,h2,hk=>by
    simp at h1 h2; subst h1; subst h2
    show bindL kindOf ((p,w) :: P.zip vs) m p=_
    unfold bindL
    rw [bindL_out fun v hv=>(List.nodup_cons.mp nd).1 (List.of_mem_zip hv).1,if_pos hk]
    simp
  | p :: P,w :: vs,i + 1,m,nd,h1,h2,hk=>by
    show bindL kindOf ((p,w) :: P.zip vs) m x=_
    unfold bindL
    exact bindL_get (i:=i) (List.nodup_cons.mp nd).2 (by simpa using h1) (by simpa using h2) hk
theorem bindC_get {kindOf:Str→Option NameKind} {x:Str} {v:Value}:∀ {P:List Str} {vs:List Value} {i:Nat} {m:Str→Option Value},P.Nodup→P[i]?=some x→vs[i]?=some v→kindOf x≠some .local →
    bindC kindOf (P.zip vs) m x=some v
  | [],_,_,_,_,h,_,_=>by simp at h
  | _ :: _,[],_,_,_,_,h,_=>by simp at h
  | p :: P,w :: vs,0,m,nd,h1,h2,hk=>by
    simp at h1 h2; subst h1; subst h2
    show bindC kindOf ((p,w) :: P.zip vs) m p=_
    unfold bindC
    rw [bindC_out fun v hv=>(List.nodup_cons.mp nd).1 (List.of_mem_zip hv).1,if_neg hk]
    simp
  | p :: P,w :: vs,i + 1,m,nd,h1,h2,hk=>by
    show bindC kindOf ((p,w) :: P.zip vs) m x=_
    unfold bindC
    exact bindC_get (i:=i) (List.nodup_cons.mp nd).2 (by simpa using h1) (by simpa using h2) hk
def start (N:List Str) (vs:List V):St:=vs.map some ++ List.replicate (N.length - vs.length) none
def cxOf (CX:CXT) (P:Program) (w:World) (K:PySem.W.Frag) (mg:Str→Option Value) (base:Heap) (N:List Str) (qual:Str) (scope:Scope) (f:Addr) (cd:Value) (A:Around) (outer:List Env) (s:Shared) (H:Hp) (E:XK):Cx where
  prog:=P
  w:=w
  K:=K
  mg:=mg
  base:=base
  A:=A.deeper (envOfC qual scope s.heap.objs.size f cd)
  N:=N
  s₀:=s
  H₀:=H
  env:=envOfC qual scope s.heap.objs.size f cd
  outer:=outer
  stack:=envOfC qual scope s.heap.objs.size f cd :: outer
  ex:=[]
  calm:=true
  fn:=fun _=>true
  pn:=[]
  xe:=fun e s'=>wpAny (model P w) (A.deeper (envOfC qual scope s.heap.objs.size f cd)) (leaving (envOfC qual scope s.heap.objs.size f cd) e) (fun _ s''=>CX outer H s E e s'') (fun e' s''=>CX outer H s E e' s'') s'
theorem cell_has {sc:Scope} {n:Nat} {x:Str} (h:sc.names.lookup x=some .cell):∃ c,(cellsFrom n sc.names []).lookup x=some c:=by
  have q:=PySem.W.cellsFrom_some sc.names n [] (.inl h)
  exact Option.isSome_iff_exists.mp q
theorem inv_start {CX:CXT} {P:Program} {w:World} {K:PySem.W.Frag} {mg:Str→Option Value} {base:Heap} {N ps:List Str} {qual:Str} {scope:Scope} {f:Addr} {cd:Value} {A:Around} {outer:List Env} {s s1:Shared} {H:Hp} {E:XK} {us:List Value} {vs:List V}
    (S:FnScope N ps scope) (hd:A.handled=none) (e0:Env0 P w K mg base A outer s H) (hl:vs.length=ps.length) (r:Vals vs us)
    (x:InCallC s s.heap.objs.size (bindL (envOfC qual scope s.heap.objs.size f cd).kindOf (ps.zip us) fun _=>none) (cellsFrom (s.heap.objs.size + 1) scope.names []) (bindC (envOfC qual scope s.heap.objs.size f cd).kindOf (ps.zip us) fun _=>none) s1) :
    Inv (cxOf CX P w K mg base N qual scope f cd A outer s H E) [] (start N vs) H s1:=by
  have hpl:ps.length≤N.length:=by have:=congrArg List.length S.pre; rw [List.length_take] at this; omega
  obtain ⟨h1,tk,rfl,hk⟩:=x.done
  have noA:∀ b:Addr,b∉(cxOf CX P w K mg base N qual scope f cd A outer s H E).ex:=fun b z=>absurd (show b∈([]:List Addr) from z) (by simp)
  refine ⟨⟨e0.mod,S.kind,rfl,rfl,Nat.le_refl _,fun y z c h1 h2=>?_,fun y hy=>?_,fun y c _ h=>?_,fun _=>hd,Around.frames_deeper e0.frames,.inr ⟨rfl,rfl⟩,fun b z=>absurd z (noA b),e0.bs,e0.bsz,fun b _ _=>noA b,fun b z=>absurd z (noA b),e0.funs,e0.frf,e0.tb⟩,
    rfl,e0.bare,Un.kept hk,⟨_,x.toInCall.ns,fun i y v h1 h2 h3=>?_⟩,fun y c h=>⟨_,x.cell y c h⟩,e0.hok.fresh (Nat.le_refl _),fun y c h=>?_,fun p hp=>absurd (show p∈([]:List (Addr×Obj)) from hp) (by simp),e0.hok.kept hk,?_⟩
  · exact name_of_addr x.apart (PySem.mem_of_lookup h1) (PySem.mem_of_lookup h2)
  · have hy:scope.names.lookup y=some .cell∨scope.names.lookup y=some .free:=hy
    rcases hy with hy | hy
    · exact cell_has hy
    · exact absurd rfl (S.nofree _ (PySem.mem_of_lookup hy))
  · exact Nat.le_of_lt (x.above y c (PySem.mem_of_lookup h))
  · have hi:i < vs.length:=by
      unfold start at h2
      by_cases hi:i < vs.length
      · exact hi
      · rw [List.getElem?_append_right (by simpa using hi)] at h2
        rw [List.getElem?_replicate] at h2
        split at h2 <;> cases h2
    have ha:vs[i]?=some v:=by
      unfold start at h2
      rw [List.getElem?_append_left (by simpa using hi),List.getElem?_map] at h2
      cases e:vs[i]? with
      | none=>rw [e] at h2; cases h2
      | some a=>rw [e] at h2; cases h2; rfl
    obtain ⟨u,hu,rv⟩:=r.get ha
    have hp:ps[i]?=some y:=by
      rw [← S.pre,List.getElem?_take_of_lt (by omega)]; exact h1
    have ndP:ps.Nodup:=by rw [← S.pre]; exact S.nd.sublist (List.take_sublist _ _)
    refine ⟨u,rv,?_⟩
    rcases S.par y (List.mem_of_getElem? hp) with k | k
    · exact .inl ⟨k,bindL_get ndP hp hu k⟩
    · obtain ⟨c,e⟩:=cell_has (n:=s.heap.objs.size + 1) k
      refine .inr ⟨.inl k,c,e,?_⟩
      have q:=x.cell y c e
      rw [bindC_get ndP hp hu (by show scope.names.lookup y≠_; rw [k]; decide)] at q
      exact q
  · exact .inl (e0.hok.fresh (Nat.le_of_lt (x.above y c (PySem.mem_of_lookup h))))
  · unfold start
    show _=N.length
    rw [List.length_append,List.length_map,List.length_replicate]
    omega
theorem fn_of {CX:CXT} {P:Program} {w:World} {K:PySem.W.Frag} {mg:Str→Option Value} {base:Heap} {k:Nat} {f:Addr} {name qual:Str} {params:Arguments} {body:List Stmt} {scope:Scope} {dV kV doc pm cdv ct oc:Value} {an od:Option Addr}
    {osl:Array (Option Value)} {N ps:List Str} {sp:Sp} (lk:K.lookup f=some ⟨oc,od,.func (PySem.W.fnOf name qual params body scope dV kV doc pm an cdv ct),osl⟩) (hcd:PySem.W.codeIn K cdv qual=true) (S:FnScope N ps scope)
    (len:∀ vs H Q E,sp vs H Q E→vs.length=ps.length)
    (hbody:∀ (A:Around) (outer:List Env) (s:Shared) (H:Hp) (vs:List V) (Q:VK) (E:XK),Room k (A.deeper (envOfC qual scope s.heap.objs.size f cdv))→sp vs H Q E →
      ∃ t,PSs (cxOf CX P w K mg base N qual scope f cdv A outer s H E) body t∧t { nx:=fun _ H'=>Q .non H',rt:=Q } (start N vs) H) :
    FnOk P w K mg base CX (k + 1) f (PySem.W.fnOf name qual params body scope dV kV doc pm an cdv ct) ps sp:=by
  refine ⟨len,fun A outer s H args us vs Q E hr e0 hb r hsp=>?_⟩
  have hl:=len _ _ _ _ hsp
  have KX:K.In s.heap:=e0.mod.kin.keeps fun b o e=>(e0.bs b o e).1
  have lim:s.heap.NoLimit:=e0.mod.nolimit.keeps fun b o e=>(e0.bs b o e).1
  have hkind:∀ y∈ps.zip us,scope.names.lookup y.1=some .local∨(scope.names.lookup y.1=some .cell∧((cellsFrom (s.heap.objs.size + 1) scope.names []).lookup y.1).isSome=true):=fun ⟨n,v⟩ hy=>by
    rcases S.par n (List.of_mem_zip hy).1 with q | q
    · exact .inl q
    · exact .inr ⟨q,PySem.W.cellsFrom_some _ _ _ (.inl q)⟩
  refine codeAny_call_function hr.depth (KX _ _ lk) rfl S.co S.gen rfl (PySem.W.codeRec_of KX hcd) (hb _ _ _ _ ?_)
  refine wpAny_newFunctionEnv_cells S.kind hkind fun env he s1 x=>?_
  subst he
  refine ⟨lim.keeps x.toInCall.keep,codeAny_func ?_⟩
  obtain ⟨t,ht,hq⟩:=hbody A outer s H vs Q E (hr.deeper _) hsp
  have I:Inv (cxOf CX P w K mg base N qual scope f cdv A outer s H E) [] (start N vs) H s1:=inv_start S hr.hd e0 hl r x
  refine wpAny_mono (ht [] s1 (start N vs) H _ I hq) (fun fl s' hs=>?_) fun e s' hs=>hs
  have fin:∀ {σ':St} {H':Hp} {v:V} {u:Value},Inv (cxOf CX P w K mg base N qual scope f cdv A outer s H E) [] σ' H' s'→RelV v u→Q v H'→CE outer P w H s Q u s' :=
    fun {σ' H' v u} J rv q=>⟨v,H',J.os,J.bare,J.base,J.hok,rv,q⟩
  cases fl with
  | ret u =>
    obtain ⟨v,σ',H',J,rv,q⟩:=hs
    exact fin J rv q
  | next =>
    obtain ⟨σ',H',J,q⟩:=hs
    exact fin (v:=V.non) (u:=Value.none) J rfl q
  | brk =>
    obtain ⟨_,_,_,q⟩:=hs
    exact False.elim q
  | cont =>
    obtain ⟨_,_,_,q⟩:=hs
    exact False.elim q
end L2
namespace L2
open PySem PySem.Spec PyProof.Rows
section
variable {X:Cx} {x:Str} {p pos:Pos} {e:Expr} {es:List Expr} {t:TA} {id T:String} {r:List V→Hp→VK→Prop}
def tCB (r:List V→Hp→VK→Prop) (t:TA):TE:=fun σ H Q=>t σ H fun vs H1=>r vs H1 Q
theorem pe_callB (hc:CallR X (.builtin id) r) (hg:Gl X x) (hm:X.mg x=none) (hv:bootBuiltins x=some (.builtin id)) (ha:PA X (e :: es) t) (hn:x ≠ "__name__" := by decide) (hdb:(x == ("__debug__" : Str))=false:=by decide)
    (he:starEach (e :: es) X.env=(false,eval e X.env) :: starEach es X.env:=by rfl) (hpl:(backTo pos (starEach es X.env)).any (·.1)=false:=by rfl):PE X (.Call (.Name x p) (e :: es) [] pos) (tCB r t):=by
  intro pins s σ H Q I h
  refine wpAny_Call_Name_kw (ld_blt I hg hm hv ?_ hn hdb)
  exact PyProof.Rows.callWith_builtin1 (thn (ha pos pins s σ H _ I h) fun us s1 ⟨vs,H1,I1,r1,q1⟩=>hc pins s1 σ H1 vs us Q I1 r1 q1) he hpl
theorem pe_callTy (hc:CallR X (.type T) r) (hg:Gl X x) (hm:X.mg x=none) (hv:bootBuiltins x=some (.type T)) (ha:PA X (e :: es) t) (hn:x ≠ "__name__" := by decide) (hdb:(x == ("__debug__" : Str))=false:=by decide)
    (he:starEach (e :: es) X.env=(false,eval e X.env) :: starEach es X.env:=by rfl) (hpl:(backTo pos (starEach es X.env)).any (·.1)=false:=by rfl):PE X (.Call (.Name x p) (e :: es) [] pos) (tCB r t):=by
  intro pins s σ H Q I h
  refine wpAny_Call_Name_kw (ld_blt I hg hm hv ?_ hn hdb)
  exact PyProof.Rows.callWith_type1 (thn (ha pos pins s σ H _ I h) fun us s1 ⟨vs,H1,I1,r1,q1⟩=>hc pins s1 σ H1 vs us Q I1 r1 q1) he hpl
end
end L2
namespace HT
open PySem PyProof.Rows
section
open PySem.SeqAt
open PySem.AutoSeq1 (wpAny_loadPart')
open PySem.MeetsSeq PySem.MeetsSeq2 PySem.MeetsSeq3
end
section
variable {prog:Program} {w:World} {A:Around} {E:Value→Shared→Prop} {s:Shared}
def sIx (n d:Nat):Option Int→Nat
  | none=>d
  | some v=>if v < 0 then (v + (n:Int)).toNat else min v.toNat n
theorem sIx_nat (n d k:Nat):sIx n d (some (k:Int))=min k n:=by
  show (if (k:Int) < 0 then ((k:Int) + (n:Int)).toNat else min (k:Int).toNat n)=min k n
  rw [if_neg (by omega),Int.toNat_natCast]
end
end HT
namespace L2
open PySem PySem.Spec PyProof.Rows
abbrev TO:=St→Hp→(Option Int→Hp→Prop)→Prop
def PO (X:Cx) (e:Option Expr) (t:TO):Prop :=
  ∀ (pins:List (Addr×Obj)) (s:Shared) (σ:St) (H:Hp) (Q:Option Int→Hp→Prop),Inv X pins σ H s→t σ H Q →
    wpAny (model X.prog X.w) X.A (evalPart e X.env) (fun u s'=>∃ o H',Inv X pins σ H' s'∧IsPart u o∧Q o H') X.xe s
def tNoPart:TO:=fun _ H Q=>Q none H
def tPart (t:TE):TO:=fun σ H Q=>t σ H fun x H1=>∃ i,x=.int i∧Q (some i) H1
theorem intsAre_of {ns:List Int}:∀ {us:List Value},Vals (ns.map V.int) us→IntsAre us ns:=by
  induction ns with
  | nil=>intro us r; rw [List.map_nil] at r; cases r; exact .nil
  | cons n ns ih =>
    intro us r
    rw [List.map_cons] at r
    cases r with
    | cons r1 r2 =>
      obtain ⟨t,e⟩:=r1
      subst e
      exact .cons n t (ih r2)
section
variable {X:Cx} {e:Expr} {te:TE} {lo hi:Option Expr} {tl th:TO} {pos p2:Pos}
theorem po_none:PO X none tNoPart:=by
  intro pins s σ H Q I h
  rw [evalPart_none]
  exact wpAny_pure ⟨none,H,I,.none,h⟩
theorem po_some (h:PE X e te):PO X (some e) (tPart te):=by
  intro pins s σ H Q I hw
  rw [evalPart_some]
  refine thn (h pins s σ H _ I hw) fun u s1 ⟨x,H1,I1,r1,q1⟩=>?_
  obtain ⟨i,rfl,q⟩:=q1
  obtain ⟨t,rfl⟩:=r1
  exact ⟨some i,H1,I1,.int i t,q⟩
def SlR (X:Cx) (r:V→Option Int→Option Int→Hp→VK→Prop):Prop :=
  ∀ (pins:List (Addr×Obj)) (s:Shared) (σ:St) (H:Hp) (x:V) (v vl vu:Value) (lo hi:Option Int) (sl:Addr) (Q:VK),Inv X pins σ H s→RelV x v→s.heap.IsSliceOf sl vl vu .none→IsPart vl lo→IsPart vu hi→r x lo hi H Q →
    ∃ T id,typeLookup (.type T) "__getitem__" = pure (some (.builtin id))∧s.TypeIs v T∧wpAny (model X.prog X.w) X.A (getItem v (.ref sl)) (EP X pins σ Q) X.xe s
def tSl (r:V→Option Int→Option Int→Hp→VK→Prop) (te:TE) (tl th:TO):TE:=fun σ H Q=>te σ H fun x H1=>tl σ H1 fun l H2=>th σ H2 fun u H3=>r x l u H3 Q
theorem pe_slice {r:V→Option Int→Option Int→Hp→VK→Prop} (hr:SlR X r) (he:PE X e te) (hl:PO X lo tl) (hu:PO X hi th):PE X (.Subscript e (.Slice lo hi none p2) pos) (tSl r te tl th):=by
  intro pins s σ H Q I h
  refine Subscript_ (thn (he pins s σ H _ I h) fun v s1 ⟨x,H1,I1,r1,q1⟩=>?_)
  refine wpAny_Slice (thn (hl pins s1 σ H1 _ I1 q1) fun vl s2 ⟨l,H2,I2,pl,q2⟩=>thn (hu pins s2 σ H2 _ I2 q2) fun vu s3 ⟨u,H3,I3,pu,q3⟩=>?_)
  rw [evalPart_none]
  refine wpAny_pure ?_
  have I4:Inv X pins σ H3 { s3 with heap:=s3.heap.push { cls:=.type "slice", data:=.fields #[vl,vu,.none] } }:=I3.kept (t':=s3.toks) fun b ob q=>Heap.get?_push_of_some _ q
  obtain ⟨T,id,hT,ht,hg⟩:=hr pins { s3 with heap:=s3.heap.push { cls:=.type "slice", data:=.fields #[vl,vu,.none] } } σ H3 x v vl vu l u s3.heap.objs.size Q I4 r1 (Heap.IsSliceOf.new ..) pl pu q3
  show wpAny (model X.prog X.w) X.A (subscriptTail e (.Slice lo hi none p2) v (.ref s3.heap.objs.size)) (EP X pins σ Q) X.xe { s3 with heap:=s3.heap.push { cls:=.type "slice", data:=.fields #[vl,vu,.none] } }
  exact tail_any (ops:=[.ref s3.heap.objs.size,v]) ht hT hg (by with_unfolding_all rfl)
def cutV (xs:List V) (lo hi:Option Int):List V:=(xs.drop (HT.sIx xs.length 0 lo)).take (HT.sIx xs.length xs.length hi - HT.sIx xs.length 0 lo)
theorem cutV_length (xs:List V) (lo hi:Option Int):(cutV xs lo hi).length≤xs.length:=by
  unfold cutV
  rw [List.length_take,List.length_drop]
  omega
end
end L2
namespace L2
open PySem PySem.Spec PyProof.Rows
def ixN (n:Nat) (i:Int):Option Nat:=if 0≤i then (if i < n then some i.toNat else none) else if -(n:Int)≤i then some (i + n).toNat else none
def atI {α:Type} (xs:List α) (i:Int):Option α:=(ixN xs.length i).bind fun j=>xs[j]?
theorem ixN_seq {n:Nat} {i:Int} {j:Nat} (h:ixN n i=some j):seqIndex? i n=some j∧j < n∧-(n:Int)≤i∧i < n:=by
  unfold ixN at h
  by_cases h0:0≤i
  · rw [if_pos h0] at h
    by_cases h1:i < n
    · rw [if_pos h1] at h
      have e:i.toNat=j:=Option.some.inj h
      exact ⟨by rw [seqIndex_of h0 h1,e],by omega,by omega,h1⟩
    · rw [if_neg h1] at h; cases h
  · rw [if_neg h0] at h
    by_cases h1:-(n:Int)≤i
    · rw [if_pos h1] at h
      have e:(i + n).toNat=j:=Option.some.inj h
      exact ⟨by rw [seqIndex_neg (by omega) h1,e],by omega,h1,by omega⟩
    · rw [if_neg h1] at h; cases h
theorem atI_get {α:Type} {xs:List α} {i:Int} {v:α} (h:atI xs i=some v):∃ j,seqIndex? i xs.length=some j∧xs[j]?=some v∧j < xs.length∧-(xs.length:Int)≤i∧i < xs.length:=by
  unfold atI at h
  cases e:ixN xs.length i with
  | none=>rw [e] at h; cases h
  | some j =>
    rw [e] at h
    obtain ⟨h1,h2,h3,h4⟩:=ixN_seq e
    exact ⟨j,h1,h,h2,h3,h4⟩
theorem atI_nat {α:Type} {xs:List α} {j:Nat} {v:α} (h:xs[j]?=some v):atI xs (j:Int)=some v:=by
  have hj:j < xs.length:=(List.getElem?_eq_some_iff.mp h).1
  have e:ixN xs.length (j:Int)=some j:=by
    unfold ixN
    rw [if_pos (by omega),if_pos (by omega)]; simp
  unfold atI; rw [e]; exact h
def PlainIx (b:Expr):Prop:=∀ o i,subscripted b false o i=operate [o,i] (getItem o i)
def IxR (X:Cx) (r:R2):Prop :=
  ∀ (value slice:Expr) (pins:List (Addr×Obj)) (s:Shared) (σ:St) (H:Hp) (x y:V) (v u:Value) (Q:VK),Inv X pins σ H s→RelV x v→RelV y u→r x y H Q →
    subscripted slice false v u=operate [v,u] (getItem v u)→wpAny (model X.prog X.w) X.A (subscriptTail value slice v u) (EP X pins σ Q) X.xe s
def MtR (X:Cx) (id:String) (r:V→List V→Hp→VK→Prop):Prop :=
  ∀ (pins:List (Addr×Obj)) (s:Shared) (σ:St) (H:Hp) (x:V) (xs:List V) (v:Value) (us:List Value) (Q:VK),Inv X pins σ H s→RelV x v→Vals xs us→r x xs H Q →
    wpAny (model X.prog X.w) X.A (call (.builtin id) (v :: us)) (EP X pins σ Q) X.xe s
section
variable {X:Cx} {a b:Expr} {ta tb:TE} {pos:Pos}
theorem pe_ix {r:R2} (hr:IxR X r) (ha:PE X a ta) (hb:PE X b tb) (hs:PlainIx b):PE X (.Subscript a b pos) (tOp r ta tb):=by
  intro pins s σ H Q I h
  exact Subscript_ (binT ha hb I h fun v u s2 x y H2 I2 rx ry q=>hr a b pins s2 σ H2 x y v u Q I2 rx ry q (hs _ _))
def rIxL (K:PySem.W.Frag):R2:=fun x y H Q=>∃ p xs i v,x=.ref p∧y=.int i∧SqL K H p xs∧atI xs i=some v∧Q v H
def rIxT (K:PySem.W.Frag):R2:=fun x y H Q=>∃ p xs i v,x=.ref p∧y=.int i∧SqT K H p xs∧atI xs i=some v∧Q v H
theorem ix_list:IxR X (rIxL X.K):=by
  intro value slice pins s σ H x y v u Q I rx ry h hs
  obtain ⟨p,xs,i,z,rfl,rfl,hq,he,q⟩:=h
  cases rx
  obtain ⟨t,rfl⟩:=ry
  obtain ⟨its,r,pl,hz⟩:=I.list hq
  obtain ⟨j,h1,h2,h3,h4,h5⟩:=atI_get he
  obtain ⟨w,ew,rw'⟩:=r.get h2
  have hl:=r.length
  have hn:=line63
  have fin:EP X pins σ Q w s:=⟨z,H,I,rw',q⟩
  by_cases h0:0≤i
  · have hj:i.toNat=j:=by
      rw [seqIndex_of h0 h5] at h1
      exact Option.some.inj h1
    exact item_listR pl.isList h0 (by omega) (by rw [hj]; simpa using ew) fin hs
  · have hj:(i + (its.toArray.size:Int)).toNat=j:=by
      rw [seqIndex_neg (by omega) h4] at h1
      rw [List.size_toArray,← hl]
      exact Option.some.inj h1
    exact subscriptTail_builtinR (x:=w) pl.isList.typeIs slot_list_getitem.lookup
      (wpAny_getItem_list_neg (Q:=fun r s'=>r=w∧EP X pins σ Q r s') pl.isList (by omega) (by rw [List.size_toArray] <;> omega) (by omega) (by rw [hj]; simpa using ew) ⟨rfl,fin⟩) hs
theorem ix_tup:IxR X (rIxT X.K):=by
  intro value slice pins s σ H x y v u Q I rx ry h hs
  obtain ⟨p,xs,i,z,rfl,rfl,hq,he,q⟩:=h
  cases rx
  obtain ⟨t,rfl⟩:=ry
  obtain ⟨its,r,pl,hz⟩:=I.tuple hq
  obtain ⟨j,h1,h2,h3,h4,h5⟩:=atI_get he
  obtain ⟨w,ew,rw'⟩:=r.get h2
  have hl:=r.length
  have hn:=line63
  have fin:EP X pins σ Q w s:=⟨z,H,I,rw',q⟩
  exact subscriptTail_builtinR (x:=w) pl.typeIs slot_tuple_getitem.lookup
    (getItem_tuple (j:=j) (Q:=fun r s'=>r=w∧EP X pins σ Q r s') pl (by omega) (by omega) (by rw [List.size_toArray,← hl]; exact h1) (by simpa using ew) ⟨rfl,fin⟩) hs
theorem mapSeq_set (its:List Value) (n j:Nat) (u:Value):Obj.mapSeq (·.setIfInBounds j u) { cls:=.type "list", data:=.seq its.toArray n }={ cls:=.type "list", data:=.seq (its.set j u).toArray n }:=by
  simp [Obj.mapSeq]
theorem Inv.lst {pins:List (Addr×Obj)} {σ:St} {H:Hp} {s:Shared} {p:Addr} {xs:List V} (I:Inv X pins σ H s) (h:H p=some (.lst xs)) :
    ∃ (its:List Value) (n:Nat),Vals xs its∧s.heap.get? p=some { cls:=.type "list", data:=.seq its.toArray n }∧xs.length≤sizeLine:=by
  obtain ⟨z,its,n,r,e⟩:=I.hok p _ h
  exact ⟨its,n,r,e,z⟩
theorem Inv.lstUpd {pins:List (Addr×Obj)} {σ:St} {H:Hp} {s:Shared} {p:Addr} {xs ys:List V} {its its':List Value} {n n':Nat} {f:Obj→Obj} (I:Inv X pins σ H s) (h:H p=some (.lst xs))
    (ho:s.heap.get? p=some { cls:=.type "list", data:=.seq its.toArray n }) (hf:f { cls:=.type "list", data:=.seq its.toArray n }={ cls:=.type "list", data:=.seq its'.toArray n' }) (r:Vals ys its') (hz:ys.length≤sizeLine) (t:Nat) :
    Inv X pins σ (upd H p (.lst ys)) { s with heap:=s.heap.update p f,toks:=t }:=by
  have e:(s.heap.update p f).get? p=some { cls:=.type "list", data:=.seq its'.toArray n' }:=by
    rw [Heap.get?_update_self f ho (by rw [hf] <;> rfl),hf]
  refine I.write (x:=p) (e:=p) (by rw [h]; trivial) (.inl rfl) (fun b u hb q=>(Heap.get?_update_other _ _ (Ne.symm hb)).trans q) ⟨_,e⟩ ?_
  exact ⟨hz,its',n',r,e⟩
def rSetL:V→V→V→Hp→(Hp→Prop)→Prop:=fun o i v H Q=>∃ p xs k j,o=.ref p∧i=.int k∧H p=some (.lst xs)∧ixN xs.length k=some j∧Q (upd H p (.lst (xs.set j v)))
theorem set_list:PSet X rSetL:=by
  intro pins s σ H o i v ov iv u Q I ro ri rv h
  obtain ⟨p,xs,k,j,rfl,rfl,hp,hj,q⟩:=h
  cases ro
  obtain ⟨t,rfl⟩:=ri
  obtain ⟨its,n,r,ho,hz⟩:=I.lst hp
  obtain ⟨h1,h2,h3,h4⟩:=ixN_seq hj
  have hl:=r.length
  have hn:=line63
  have I':Inv X pins σ (upd H p (.lst (xs.set j v))) { s with heap:=s.heap.update p (Obj.mapSeq (·.setIfInBounds j u)) } :=
    I.lstUpd hp ho (mapSeq_set its n j u) (r.set rv j) (by rw [List.length_set]; exact hz) s.toks
  by_cases h0:0≤k
  · have hk:k.toNat=j:=by
      rw [seqIndex_of h0 h4] at h1
      exact Option.some.inj h1
    exact PySem.W.ki_setAt ho h0 (by omega) (by rw [List.size_toArray,← hl]; exact h4) (by rw [hk]; exact ⟨_,I',q⟩)
  · have hk:(k + (its.toArray.size:Int)).toNat=j:=by
      rw [seqIndex_neg (by omega) h3] at h1
      rw [List.size_toArray,← hl]
      exact Option.some.inj h1
    exact PySem.W.ki_setBack ho (by omega) (by rw [List.size_toArray,← hl]; exact h3) (by omega) (by rw [hk]; exact ⟨_,I',q⟩)
theorem slice_bounds (lo hi:Option Int) (n:Nat):(sliceBounds lo hi none n).1=((HT.sIx n 0 lo:Nat):Int)∧(sliceBounds lo hi none n).2.1=((HT.sIx n n hi:Nat):Int)∧(sliceBounds lo hi none n).2.2=1:=by
  refine ⟨?_,?_,rfl⟩
  · cases lo with
    | none=>simp [sliceBounds,HT.sIx]
    | some i =>
      simp only [sliceBounds,HT.sIx,Option.getD_none,show (1:Int) > 0 by decide,if_true]
      by_cases h:i < 0
      · simp only [h,if_true] <;> omega
      · simp only [h,if_false] <;> omega
  · cases hi with
    | none=>simp [sliceBounds,HT.sIx]
    | some i =>
      simp only [sliceBounds,HT.sIx,Option.getD_none,show (1:Int) > 0 by decide,if_true]
      by_cases h:i < 0
      · simp only [h,if_true] <;> omega
      · simp only [h,if_false] <;> omega
theorem slicePick_cut (its:List Value) (lo hi:Option Int):slicePick its.toArray lo hi none=((its.drop (HT.sIx its.length 0 lo)).take (HT.sIx its.length its.length hi - HT.sIx its.length 0 lo)).toArray:=by
  obtain ⟨h1,h2,h3⟩:=slice_bounds lo hi its.toArray.size
  unfold slicePick
  rw [h1,h2,h3]
  simp only [sliceRange_one,pick_run,List.size_toArray] <;> rfl
def rSlL (K:PySem.W.Frag):V→Option Int→Option Int→Hp→VK→Prop:=fun x lo hi H Q=>∃ a xs,x=.ref a∧SqL K H a xs∧∀ p,H p=none→Q (.ref p) (upd H p (.lst (cutV xs lo hi)))
theorem sl_list:SlR X (rSlL X.K):=by
  intro pins s σ H x v vl vu lo hi sl Q I rx hs pl pu h
  obtain ⟨a,xs,rfl,hx,q⟩:=h
  cases rx
  obtain ⟨its,r,ht,hz⟩:=I.list hx
  have hlen:=r.length
  refine ⟨"list", _,slot_list_getitem.lookup,ht.isList.typeIs,?_⟩
  refine wpAny_getItem_list_slice ht.isList hs pl pu .none (by simp) ?_ (by rw [List.size_toArray] <;> omega)
  rw [slicePick_cut,← hlen]
  refine ⟨.ref s.heap.objs.size,_,I.laid (t':=s.toks) (o:=.lst (cutV xs lo hi)) (fun b ob q=>Heap.get?_push_of_some _ q) (Nat.le_refl _) ?_,rfl,q _ (I.hok.fresh (Nat.le_refl _))⟩
  exact ⟨Nat.le_trans (cutV_length xs lo hi) hz,_,0,(r.drop (HT.sIx xs.length 0 lo)).take (HT.sIx xs.length xs.length hi - HT.sIx xs.length 0 lo),Heap.get?_push_size _ rfl⟩
theorem call_len_seq:CallR X (.builtin "len") (fun xs H Q=>∃ p ys,xs=[.ref p]∧(SqL X.K H p ys∨SqT X.K H p ys)∧Q (.int ys.length) H):=by
  intro pins s σ H xs us Q I r h
  obtain ⟨p,ys,rfl,hq,q⟩:=h
  obtain ⟨u,rfl,rx⟩:=vals1 r
  cases rx
  have hn:=line63
  rcases hq with hq | hq
  · obtain ⟨its,r',pl,hz⟩:=I.list hq
    have hlen:=r'.length
    exact Calls.call_len_list pl.isList (by simp only [List.size_toArray] <;> omega) ⟨.int ys.length,H,I.tok _,⟨s.toks + 1,by rw [List.size_toArray,hlen]⟩,q⟩
  · obtain ⟨its,r',pl,hz⟩:=I.tuple hq
    have hlen:=r'.length
    exact len_tuple pl (by simp only [List.size_toArray] <;> omega) ⟨.int ys.length,H,I.tok _,⟨s.toks + 1,by rw [List.size_toArray,hlen]⟩,q⟩
theorem call_list_of:CallR X (.type "list") (fun xs H Q=>∃ p ys,xs=[.ref p]∧(SqL X.K H p ys∨SqT X.K H p ys)∧∀ l,H l=none→Q (.ref l) (upd H l (.lst ys))):=by
  intro pins s σ H xs us Q I r h
  obtain ⟨p,ys,rfl,hq,q⟩:=h
  obtain ⟨u,rfl,rx⟩:=vals1 r
  cases rx
  have fin:∀ (its:List Value),Vals ys its→ys.length≤sizeLine→∀ (h':Heap) (c':Nat),(∀ b o',s.heap.get? b=some o'→h'.get? b=some o') →
      h'.get? s.heap.objs.size=some { cls:=.type "list", dict:=none,data:=.seq its.toArray c',slots:=#[] }→EP X pins σ Q (.ref s.heap.objs.size) { s with heap:=h' }:=fun its r' hz h' c' kp e =>
    ⟨.ref s.heap.objs.size,_,I.laid (t':=s.toks) kp (Nat.le_refl _) (show ObjOk X.prog X.w _ h' _ (.lst ys) from ⟨hz,its,c',r',e⟩),rfl,q _ (I.hok.fresh (Nat.le_refl _))⟩
  rcases hq with hq | hq
  · obtain ⟨its,r',pl,hz⟩:=I.list hq
    have hlen:=r'.length
    obtain ⟨o,ho,hc,n,hd⟩:=pl.isList
    exact call_list_seq p (.inl rfl) ho hc hd (fun h' c' kp e=>fin its r' hz h' c' kp e) (by simp only [List.size_toArray] <;> omega)
  · obtain ⟨its,r',pl,hz⟩:=I.tuple hq
    have hlen:=r'.length
    obtain ⟨o,ho,hc,n,hd⟩:=pl
    exact call_list_seq p (.inr rfl) ho hc hd (fun h' c' kp e=>fin its r' hz h' c' kp e) (by simp only [List.size_toArray] <;> omega)
def tyV (K:PySem.W.Frag) (T:String) (x:V) (H:Hp):Prop:=match x with
  | .str _=>T = "str"
  | .int _=>T = "int"
  | .ref p=>(T = "list" ∧ ∃ xs,SqL K H p xs)∨(T = "tuple" ∧ ∃ o,K.lookup p=some o∧o.cls=.type "tuple" ∧ o.dict=none) ∨
      (T = "dict" ∧ ((∃ kvs,H p=some (.dK kvs))∨∃ kvs,H p=some (.dT kvs)))∨(T = "set" ∧ ∃ S n,H p=some (.set S n))
  | _=>False
theorem tyV_is {pins:List (Addr×Obj)} {σ:St} {H:Hp} {s:Shared} {T:String} {x:V} {v:Value} (I:Inv X pins σ H s) (r:RelV x v) (ty:tyV X.K T x H) :
    s.TypeIs v T∧∀ a,v=.ref a→∃ ob,s.heap.get? a=some ob∧ob.dict=none:=by
  cases x with
  | str z =>
    obtain ⟨t,rfl⟩:=r
    cases (show T = "str" from ty)
    exact ⟨typeIs_str s z t,fun _ e=>nomatch e⟩
  | int i =>
    obtain ⟨t,rfl⟩:=r
    cases (show T = "int" from ty)
    exact ⟨typeIs_int s i t,fun _ e=>nomatch e⟩
  | ref p =>
    cases r
    rcases ty with ⟨rfl,xs,hq⟩ | ⟨rfl,o,hk,hc,hd⟩ | ⟨rfl,hk⟩ | ⟨rfl,S,n,hk⟩
    · obtain ⟨its,_,pl,_⟩:=I.list hq
      refine ⟨pl.isList.typeIs,fun a e=>?_⟩
      cases e
      obtain ⟨o,n,e,c,hd,_⟩:=pl
      exact ⟨o,e,hd⟩
    · refine ⟨⟨o,I.kIn p o hk,hc⟩,fun a e=>?_⟩
      cases e
      exact ⟨o,I.kIn _ o hk,hd⟩
    · have z:∃ o,s.heap.get? p=some o∧o.ExactDict:=by
        rcases hk with ⟨kvs,hk⟩ | ⟨kvs,hk⟩
        · obtain ⟨_,_,_,_,o,_,_,e,ex,_⟩:=I.hok p _ hk
          exact ⟨o,e,ex⟩
        · obtain ⟨_,_,_,_,o,_,_,e,ex,_⟩:=I.hok p _ hk
          exact ⟨o,e,ex⟩
      obtain ⟨o,e,ex⟩:=z
      refine ⟨⟨o,e,ex.1⟩,fun a e2=>?_⟩
      cases e2
      exact ⟨o,e,ex.2.1⟩
    · obtain ⟨o,_,_,_,e,ex,_⟩:=I.hok p _ hk
      refine ⟨⟨o,e,ex.1⟩,fun a e2=>?_⟩
      cases e2
      exact ⟨o,e,ex.2.1⟩
  | _=>exact False.elim ty
def tBM (K:PySem.W.Frag) (T:String) (r:V→List V→Hp→VK→Prop) (to:TE) (t:TA):TE:=fun σ H Q=>to σ H fun x H1=>tyV K T x H1∧t σ H1 fun xs H2=>r x xs H2 Q
variable {o e:Expr} {es:List Expr} {to:TE} {t:TA} {name:Str} {apos cpos:Pos} {T id:String} {r:V→List V→Hp→VK→Prop}
theorem pe_bm (pa:PlainAttrs T) (slot:Slot T name id) (hty:typeOf (.builtin id)=pure (.type "method_descriptor")) (hm:MtR X id r) (ho:PE X o to) (ha:PA X (e :: es) t)
    (hbase:attributeBase o name X.env (eval o X.env)=eval o X.env:=by rfl)
    (hfew:((backTo cpos (starEach (e :: es) X.env)).all (fun x=>!x.1) && (backToKw cpos (keywordEach [] X.env)).all (fun x=>x.1.isSome)
      && decide ((e :: es).length + ([]:List Keyword).length + (if ([]:List Keyword).isEmpty then 0 else 1) < 30))=true:=by rfl)
    (hline:(apos.endLine == cpos.line)=true:=by rfl) (hs:starEach (e :: es) X.env=(false,eval e X.env) :: starEach es X.env:=by rfl) (hplain:(backTo cpos (starEach es X.env)).any (·.1)=false:=by rfl) :
    PE X (.Call (.Attribute o name apos) (e :: es) [] cpos) (tBM X.K T r to t):=by
  intro pins s σ H Q I h
  refine wpAny_Call_method_late hbase hfew hline rfl (thn (ho pins s σ H _ I h) fun v s1 ⟨x,H1,I1,r1,ty,q1⟩=>?_)
  obtain ⟨h1,h2⟩:=tyV_is I1 r1 ty
  refine ⟨T,id,pa,slot,hty,h1,h2,?_⟩
  have hA:=ha cpos pins s1 σ H1 _ I1 q1
  rw [hs] at hA ⊢
  refine Calls.callWith_builtin (by show (false || (backTo cpos (starEach es X.env)).any (·.1))=false; rw [hplain] <;> rfl) (Calls.evalArgs_plain ?_)
  exact thn hA fun us s2 ⟨vs,H2,I2,r2,q2⟩=>hm pins s2 σ H2 x vs v us Q I2 r1 r2 q2
end
end L2
namespace L2
open PySem PySem.Spec PyProof.Rows
def MtM (X:Cx) (id:String) (r:V→List V→Hp→VK→Prop):Prop :=
  ∀ (pins:List (Addr×Obj)) (s:Shared) (σ:St) (H:Hp) (x:V) (xs:List V) (v:Value) (us:List Value) (Q:VK),Inv X pins σ H s→RelV x v→Vals xs us→r x xs H Q →
    wpAny (model X.prog X.w) X.A (call (.builtin id) (v :: us)) (EP X pins σ Q) X.xe s
theorem Vals.one:∀ {x:V} {us:List Value},Vals [x] us→∃ u,us=[u]∧RelV x u
  | _,_,.cons r .nil=>⟨_,rfl,r⟩
theorem Vals.two:∀ {x y:V} {us:List Value},Vals [x,y] us→∃ u v,us=[u,v]∧RelV x u∧RelV y v
  | _,_,_,.cons r (.cons q .nil)=>⟨_,_,rfl,r,q⟩
theorem Vals.reverse {xs:List V} {us:List Value} (h:Vals xs us):Vals xs.reverse us.reverse:=by
  induction h with
  | nil=>exact .nil
  | cons r t ih=>rw [List.reverse_cons,List.reverse_cons]; exact Vals.append ih (.cons r .nil)
section
variable {X:Cx} {pins:List (Addr×Obj)} {σ:St} {H:Hp} {s:Shared} {l b:Addr} {xs ys zs:List V}
theorem Inv.lset {its its':List Value} {n:Nat} {f:Array Value→Array Value} {t':Nat} (I:Inv X pins σ H s) (hH:H l=some (.lst xs))
    (e:s.heap.get? l=some { cls:=.type "list", data:=.seq its.toArray n }) (hf:f its.toArray=its'.toArray) (hv:Vals ys its') (hz:ys.length≤sizeLine) :
    Inv X pins σ (upd H l (.lst ys)) { s with heap:=s.heap.update l (Obj.mapSeq f),toks:=t' }:=by
  have q:=PySem.IsL.update e f
  rw [hf] at q
  refine I.write (x:=l) (e:=l) (by rw [hH]; exact trivial) (.inl rfl) (fun b' u hb hu=>(Heap.get?_update_other s.heap (Obj.mapSeq f) (Ne.symm hb)).trans hu) ⟨_,q⟩ ?_
  exact ⟨hz,its',_,hv,q⟩
theorem Inv.lnew {its:List Value} {t':Nat} (I:Inv X pins σ H s) (hv:Vals ys its) (hz:ys.length≤sizeLine) :
    Inv X pins σ (upd H s.heap.objs.size (.lst ys)) { s with heap:=s.heap.push { cls:=.type "list", data:=.seq its.toArray },toks:=t' } :=
  I.laid (fun _ _ q=>Heap.get?_push_of_some _ q) (Nat.le_refl _) ⟨hz,its,0,hv,Heap.get?_push_size _ rfl⟩
theorem Inv.fresh (I:Inv X pins σ H s):H s.heap.objs.size=none:=I.hok.fresh (Nat.le_refl _)
theorem Inv.lstM (I:Inv X pins σ H s) (hH:H l=some (.lst xs)):xs.length≤sizeLine∧∃ (its:List Value) (n:Nat),Vals xs its∧xs.length=its.length∧s.heap.get? l=some { cls:=.type "list", data:=.seq its.toArray n }:=by
  obtain ⟨z,its,n,r,e⟩:=I.hok l _ hH
  exact ⟨z,its,n,r,r.length,e⟩
end
section
variable {X:Cx}
def rAppend:V→List V→Hp→VK→Prop:=fun x vs H Q=>∃ l xs y,x=.ref l∧vs=[y]∧H l=some (.lst xs)∧xs.length < sizeLine∧Q .non (upd H l (.lst (xs ++ [y])))
theorem mt_append:MtM X "list.append" rAppend:=by
  intro pins s σ H x vs v us Q I rx rv h
  obtain ⟨l,xs,y,rfl,rfl,hH,hz,q⟩:=h
  cases rx
  obtain ⟨u,rfl,ru⟩:=rv.one
  obtain ⟨z,its,n,r,hl,e⟩:=I.lstM hH
  refine call_meets F.slot_list_append ⟨_,e,rfl⟩ F.entry_list_append (F.args_list_append_2 _ _) (PySem.list_append l its.toArray n u (by rw [List.size_toArray]; omega)) ⟨e,?_⟩
  refine ⟨.non,_,I.lset (its':=its ++ [u]) hH e (by simp) (r.append (.cons ru .nil)) ?_,rfl,q⟩
  rw [List.length_append,List.length_singleton]
  omega
end
section
variable {prog:Program} {w:World} {A:Around} {E:Value→Shared→Prop} {s:Shared}
end
section
variable {X:Cx}
end
end L2
namespace Att
open PySem PySem.W PySem.Calls PyProof.Rows
theorem ints_of_wellAll {P:Params} {h:Heap}:∀ (ns:List Int) (vs:List Value),WellAll P h vs (ns.map WData.int)→IntsAre vs ns:=by
  intro ns
  induction ns with
  | nil =>
    intro vs w
    rw [List.map_nil] at w
    cases w
    exact .nil
  | cons n ns ih =>
    intro vs w
    rw [List.map_cons] at w
    cases w with
    | cons a b =>
      cases a
      exact .cons _ _ (ih _ b)
theorem script_of {l:OpenLaw} {n:Nat} (hn:l.most=some n) {P:Params} {h:Heap} {args:List WData} {vals:List Value}
    (hpre:l.row.toRowW.claim.pre args=true) (hwl:WellAll P h vals args) :
    ∃ a vs ns,vals=[Value.ref a]∧args=[WData.list (ns.map WData.int)]∧h.get? a=some { cls:=.type "list", data:=.seq vs.toArray }∧IntsAre vs ns∧ns.length≤n:=by
  have hsh:WShape.hasAll [] args [.list .int]=true:=(pre_splitW hpre).1
  have hc:l.pre.holds [] { args:=args }=true:=(pre_splitW hpre).2
  obtain ⟨d,r,rfl,h1,h2⟩:=hasAllW_cons hsh
  obtain rfl:=hasAllW_nil h2
  obtain ⟨xs,rfl,h3⟩:=hasW_list h1
  obtain ⟨ns,rfl⟩:=items_int h3
  have hlen:ns.length≤n:=by
    unfold OpenLaw.pre at hc
    have h4:(WTm.not (.lt (.lit (.int (n:Int))) (.len (.arg 0)))).holds [] { args:=[.list (ns.map .int)] }=true:=by
      have h4:=(holds_andW hc).1
      rw [hn] at h4
      exact h4
    have h5:=condW_of h4 (w_not (w_lt w_lit (w_len_list (w_arg rfl))))
    rw [List.length_map] at h5
    refine Nat.le_of_not_lt fun q=>?_
    have q':(n:Int) < ((ns.length:Nat):Int):=by omega
    first
      | (rw [decide_eq_true q'] at h5; exact absurd h5 (by decide))
      | (simp at h5; omega)
  cases hwl with
  | cons w1 w2 =>
    cases w2
    cases w1 with
    | list ho hall=>exact ⟨_,_,ns,rfl,rfl,ho,ints_of_wellAll ns _ hall,hlen⟩
theorem post_true (l:OpenLaw) (args:List WData):l.row.toRowW.claim.post args (.bool true) args=true :=
  postW_of (r:=l.row.toRowW) (X:=(true == true))
    (show WShape.has [] (.bool true) .bool=true by first | rfl | decide | simp [WShape.has,WShape.arms,WShape.armsAll])
    (show (WTm.eq .res (.lit (.bool true))).value [] { args:=args,res:=some (.bool true),after:=args }=some (.bool (true == true)) from w_eq_bool (w_res rfl) w_lit) rfl
theorem attach_call {l:OpenLaw} {n:Nat} {q:Program} {loose:List Str} {XP:(Str→Option Value)→Heap→Prop} {YP:World→Heap→Prop} {d:DefRec}
    (hn:l.most=some n) (hdf:d.params.defaults=[])
    (call:∀ (w:World) (s₀ s₁:Shared) (mg mb:Str→Option Value) (fa:Addr) (o:Obj) (pm cd doc:Value) (a:Addr) (vs:List Value) (ns:List Int),
      Ground q loose [] XP w s₀ mg mb s₁.heap→YP w s₁.heap →
      s₁.heap.get? fa=some o→o.data=.func (docDef d.name d.params d.body d.scope pm cd doc)→s₁.heap.CodeRec cd d.name→mg d.name=some (.ref fa) →
      s₁.heap.get? a=some { cls:=.type "list", data:=.seq vs.toArray }→IntsAre vs ns→ns.length≤n→s₁.gens=#[] →
      codeAny (model l.prog w) callerA (.call (.ref fa) ⟨[.ref a],[]⟩) (fun r s'=>r=.ok (.ret (.bool true))∧OldK s₁.heap s'.heap∧s'.os=s₁.os∧AllBare s'.gens) s₁) :
    WalkO q loose XP YP l.row.toRowW d [] (fun f vs=>PySem.call f vs):=by
  intro w s₀ s₁ mg mb G Y fa o pm cd doc dV kV ho hd hcd hD hmg hg args vals as hpre hlay hrd hwl hlo
  obtain rfl:dV=.none:=Dflts.none hD hdf
  obtain rfl:kV=.none:=Dflts.noKw hD
  obtain ⟨a,vs,ns,rfl,rfl,hobj,hints,hlen⟩:=script_of hn hpre hwl
  refine enter_call (codeAny_mono (call w s₀ s₁ mg mb fa o pm cd doc a vs ns G Y ho (fd_plain hd) hcd hmg hobj hints hlen hg) fun r s' hq=>?_)
  obtain ⟨rfl,h2,h3,h4⟩:=hq
  exact ⟨.inl ⟨.bool true,.bool true,[],rfl,fun _=>rfl,.bool true,post_true l _,fun _=>⟨List.Pairwise.nil,fun _ hm=>(nomatch hm)⟩⟩,h2,h3,h4⟩
section
variable {prog:Program} {w:World} {A:Around} {E:Value→Shared→Prop} {s:Shared} {K:Frag}
end
end Att
namespace L2
open PySem PySem.Spec PyProof.Rows
theorem vals_ints:∀ {vs:List Value} {ns:List Int},IntsAre vs ns→Vals (ns.map V.int) vs
  | _,_,.nil=>.nil
  | _,_,.cons n t h=>.cons ⟨t,rfl⟩ (vals_ints h)
theorem tabsOf_mem {K:PySem.W.Frag} {p:Addr×Str} (h:p∈tabsOf K):∃ c o vs,K.lookup c=some o∧o.cls=.type "code" ∧ o.data=.fields vs∧vs[11]?=some (.ref p.1):=by
  obtain ⟨⟨c,_⟩,_,e⟩:=List.mem_filterMap.mp h
  obtain ⟨o,e1,e2⟩:=Option.bind_eq_some_iff.mp e
  unfold tabAt at e2
  split at e2
  · rename_i vs h1 h2
    split at e2
    · rename_i q t P h3 h4
      split at e2
      · cases e2
        exact ⟨c,o,vs,e1,h1,h2,h4⟩
      · cases e2
    · cases e2
  · cases e2
theorem law_call {P:Program} {w:World} {K:PySem.W.Frag} {mg mb:Str→Option Value} {CX:CXT} {k:Nat} {fa a:Addr} {fd:FuncData} {x:Str} {sp:Sp} {s₁:Shared} {vs:List Value} {ns:List Int}
    (KX:K.In s₁.heap) (hT0:(∀ p∈tabsOf K,s₁.heap.get? p.1=some (PySem.W.tabObj #[]))∧tabsUq K=true)
    (hbm:∃ bm ob,mg "__builtins__" = some (.ref bm)∧bm≠builtinsNs∧s₁.heap.get? bm=some ob∧ob.cls=.type "module" ∧ ob.dict=some builtinsNs∧ob.data=.plain)
    (hns:s₁.heap.Ns mainGlobals mg) (hb:s₁.heap.Ns builtinsNs mb) (hbb:∀ x:Str,x ≠ "__name__" → mb x=bootBuiltins x) (hlim:s₁.heap.NoLimit) (hg:s₁.gens=#[])
    (ha:s₁.heap.get? a=some { cls:=.type "list", data:=.seq vs.toArray }) (hi:IntsAre vs ns) (hl:ns.length≤sizeLine) (hr:Room k callerA)
    (F:∀ base:Heap,K.In base→base.Ns mainGlobals mg→FnOk P w K mg base CX k fa fd [x] sp) (hbind:∀ (s:Shared) (u:Value),BindsTo s fd ⟨[u],[]⟩ [(x,u)])
    (hsp:∀ H:Hp,SqL K H a (ns.map V.int)→sp [.ref a] H (fun v _=>v=.bl true) fun _ _ _=>False)
    (hCX:∀ H e s',CX [] H s₁ (fun _ _ _=>False) e s'→False) :
    codeAny (model P w) callerA (.call (.ref fa) ⟨[.ref a],[]⟩) (fun r s'=>r=.ok (.ret (.bool true))∧OldK s₁.heap s'.heap∧s'.os=s₁.os∧AllBare s'.gens) s₁:=by
  have uq:=hT0.2
  unfold tabsUq at uq
  have hT:∀ p∈tabsOf K,s₁.heap.get? p.1=some (PySem.W.tabObj #[])∧K.lookup p.1=none:=fun p hp=>⟨hT0.1 p hp,by
    have:=List.all_eq_true.mp uq p hp
    simp only [Bool.and_eq_true] at this
    exact Option.isNone_iff_eq_none.mp this.1⟩
  have one:∀ p q:Addr×Str,p∈tabsOf K→q∈tabsOf K→p.1=q.1→p.2=q.2:=fun p q hp hq e=>by
    have:=List.all_eq_true.mp uq p hp
    simp only [Bool.and_eq_true] at this
    have:=List.all_eq_true.mp this.2 q hq
    simpa [e] using this
  have rv:=vals_ints hi
  have lenV:=hi.length
  have core:∀ H:Hp,SqL K H a (ns.map V.int)→HOk P w H s₁.heap→(∀ b,H b=none∨(b=a∧∃ o xs,H b=some (.frz o (.lst xs)))∨∃ p∈tabsOf K,b=p.1∧∃ ps,H b=some (.tbl ps))→(H a≠none→K.lookup a=none)→TbOk K H →
      codeAny (model P w) callerA (.call (.ref fa) ⟨[.ref a],[]⟩) (fun r s'=>r=.ok (.ret (.bool true))∧OldK s₁.heap s'.heap∧s'.os=s₁.os∧AllBare s'.gens) s₁:=by
    intro H hS hok hA hK hTb
    have base_of:∀ {b:Addr} {o:Obj},s₁.heap.get? b=some o→H b=none→(hidT s₁.heap H).get? b=some o:=fun e n=>hidT_get e n
    have noA:∀ {b:Addr} {o:Obj},s₁.heap.get? b=some o→(∀ vs:Array Value,∀ n,o.data≠.seq vs n)→(∀ vs,o.data≠.fields vs)→H b=none:=fun {b o} e d1 d2=>by
      rcases hA b with z | ⟨rfl,_⟩ | ⟨p,hp,rfl,_⟩
      · exact z
      · rw [ha] at e; cases e
        exact absurd rfl (d1 _ _)
      · rw [(hT p hp).1] at e; cases e
        exact absurd rfl (d2 _)
    have nsK:∀ {b:Addr} {m:Str→Option Value},s₁.heap.Ns b m→(hidT s₁.heap H).Ns b m:=fun {b m} ⟨o,es,ep,e,d,r⟩=>⟨o,es,ep,base_of e (noA e (fun _ _ z=>by rw [d] at z; cases z) fun _ z=>by rw [d] at z; cases z),d,r⟩
    have hKb:K.In (hidT s₁.heap H):=fun b o e=>base_of (KX b o e) (by
      rcases hA b with z | ⟨rfl,_,_,z⟩ | ⟨p,hp,rfl,_⟩
      · exact z
      · rw [hK (by rw [z]; simp)] at e; cases e
      · rw [(hT p hp).2] at e; cases e)
    have hM:Mod K mg (hidT s₁.heap H):=⟨hKb,nsK hns,⟨mb,nsK hb,hbb⟩,let ⟨mc,h1,h2⟩:=hlim; ⟨mc,nsK h1,h2⟩,let ⟨bm,ob,q1,q2,q3,q4,q5,q6⟩:=hbm; ⟨bm,ob,q1,q2,base_of q3 (noA q3 (fun _ _ z=>by rw [q6] at z; cases z) fun _ z=>by rw [q6] at z; cases z),q4,q5,q6⟩⟩
    have e0:Env0 P w K mg (hidT s₁.heap H) callerA [] s₁ H:=⟨rfl,hM,fun b o e=>of_hidT e,Nat.le_of_eq (hidT_size _ _),trivial,fun b hb=>absurd (show b∈([]:List Addr) from hb) (by simp),hok,.of_eq hg,hTb⟩
    refine codeAny_mono ((F _ hKb (nsK hns)).run callerA [] s₁ H ⟨[.ref a],[]⟩ [.ref a] [.ref a] _ _ hr e0 (hbind s₁ (.ref a)) (.cons rfl .nil) (hsp H hS)) fun r s' h=>?_
    cases r with
    | error e=>exact (hCX H e s' h).elim
    | ok fl =>
      cases fl with
      | next=>exact False.elim h
      | brk=>exact False.elim h
      | cont=>exact False.elim h
      | ret u =>
        obtain ⟨v,H',os,bare,un,hok',r',q⟩:=h
        have q':v=.bl true:=q
        subst q'
        obtain rfl:u=Value.bool true:=r'
        refine ⟨rfl,⟨fun b o e=>?_,fun b o e=>un.there b o e (by simp)⟩,os,bare⟩
        rcases hA b with z | ⟨rfl,ob,xs,z⟩ | ⟨p,hp,rfl,ps,z⟩
        · exact .inl (un.keep b o e z (by intro z; exact absurd (show b∈([]:List Addr) from z) (by simp)) (by simp))
        · have z2:=un.frzs _ ob _ z
          obtain ⟨e1,_⟩:=hok _ _ z
          obtain ⟨e2,_⟩:=hok' _ _ z2
          rw [e] at e1; cases e1
          exact .inl e2
        · obtain ⟨m,z2⟩:=un.tbls _ _ z
          obtain ⟨vs',e2,_⟩:=hok' _ _ z2
          obtain ⟨c,oc,cs,k1,k2,k3,k4⟩:=tabsOf_mem hp
          rw [(hT p hp).1] at e
          cases e
          exact .inr (.inl ⟨⟨c,oc,cs,KX _ _ k1,k2,k3,k4⟩,rfl,#[],vs',rfl,by simpa using e2⟩)
  have tabH:∀ {H:Hp} {p:Addr×Str},p∈tabsOf K→ObjOk P w H s₁.heap p.1 (.tbl #[.str p.2 0]):=fun {H p} hp=>⟨#[],(hT p hp).1,trivial,fun q v z=>by cases z⟩
  let HT:Hp:=fun b=>((tabsOf K).find? fun p=>p.1 == b).map fun p=>HO.tbl #[.str p.2 0]
  have HTat:∀ b,HT b=none∨∃ p∈tabsOf K,b=p.1∧HT b=some (.tbl #[.str p.2 0]):=fun b=>by
    cases q:(tabsOf K).find? fun p=>p.1 == b with
    | none=>exact .inl (by show Option.map _ _=none; rw [q]; rfl)
    | some p=>exact .inr ⟨p,List.mem_of_find?_eq_some q,(show p.1=b by have:=List.find?_some q; simpa using this).symm,by show Option.map _ _=_; rw [q]; rfl⟩
  have HTok:TbOk K HT:=fun p hp=>by
    rcases HTat p.1 with z | ⟨q,hq,e,z⟩
    · exfalso
      have z':Option.map _ ((tabsOf K).find? fun q=>q.1 == p.1)=none:=z
      rw [Option.map_eq_none_iff,List.find?_eq_none] at z'
      exact z' p hp (by simp)
    · exact ⟨0,#[],by rw [z,one p q hp hq e]; simp⟩
  cases hk:K.lookup a with
  | some o =>
    have e:=KX a o hk
    rw [ha] at e
    cases e
    refine core HT (.inr ⟨_,vs.toArray,_,hk,rfl,rfl,rfl,by rw [List.size_toArray,lenV]; exact hl,by simpa using rv⟩) (fun b u z=>?_) (fun b=>?_) (fun z=>?_) HTok
    · rcases HTat b with y | ⟨p,hp,rfl,y⟩
      · rw [y] at z; cases z
      · rw [y] at z; cases z; exact tabH hp
    · rcases HTat b with y | ⟨p,hp,e,y⟩
      · exact .inl y
      · exact .inr (.inr ⟨p,hp,e,_,y⟩)
    · rcases HTat a with y | ⟨p,hp,rfl,y⟩
      · exact absurd y z
      · exact (hT p hp).2
  | none =>
    have na:∀ p∈tabsOf K,p.1≠a:=fun p hp e=>by
      have:=(hT p hp).1
      rw [e,ha] at this; cases this
    refine core (fun b=>if b=a then some (.frz { cls:=.type "list", data:=.seq vs.toArray } (.lst (ns.map V.int))) else HT b) (.inl (.inr ⟨{ cls:=.type "list", data:=.seq vs.toArray },if_pos rfl⟩)) (fun b u z=>?_) (fun b=>?_) (fun _=>hk) fun p hp=>?_
    · by_cases hb:b=a
      · have z':=(if_pos hb).symm.trans z
        cases z'
        subst hb
        exact ⟨ha,by rw [List.length_map]; exact hl,vs,_,rv,ha⟩
      · have z':=(if_neg hb).symm.trans z
        rcases HTat b with y | ⟨p,hp,rfl,y⟩
        · rw [y] at z'; cases z'
        · rw [y] at z'; cases z'; exact tabH hp
    · by_cases hb:b=a
      · exact .inr (.inl ⟨hb,_,_,if_pos hb⟩)
      · rcases HTat b with y | ⟨p,hp,e,y⟩
        · exact .inl ((if_neg hb).trans y)
        · exact .inr (.inr ⟨p,hp,e,_,(if_neg hb).trans y⟩)
    · obtain ⟨t,m,e⟩:=HTok p hp
      exact ⟨t,m,(if_neg (na p hp)).trans e⟩
end L2
namespace L2
open PySem PySem.Spec PyProof.Rows
theorem walk_of {l:PySem.W.OpenLaw} {n k:Nat} {q:Program} {loose:List Str} {XP:(Str→Option Value)→Heap→Prop} {YP:World→Heap→Prop} {d:DefRec} {K:Params→PySem.W.Frag} {CX:World→CXT} {sp:World→Sp} {x:Str}
    (hn:l.most=some n) (hn2:n≤sizeLine) (hdf:d.params.defaults=[]) (hr:Room k callerA)
    (hY:∀ (w:World) (h:Heap),YP w h→(K w.params).In h) (hT:∀ (w:World) (h:Heap),YP w h→(∀ p∈tabsOf (K w.params),h.get? p.1=some (PySem.W.tabObj #[]))∧tabsUq (K w.params)=true)
    (F:∀ (w:World) (mg:Str→Option Value) (fa:Addr) (h:Heap),(K w.params).In h→h.Ns mainGlobals mg→mg d.name=some (.ref fa) →
      ∃ fd:FuncData,(∀ (s:Shared) (u:Value),BindsTo s fd ⟨[u],[]⟩ [(x,u)]) ∧
        ∀ base:Heap,(K w.params).In base→base.Ns mainGlobals mg→FnOk l.prog w (K w.params) mg base (CX w) k fa fd [x] (sp w))
    (hsp:∀ (w:World) (H:Hp) (a:Addr) (ns:List Int),ns.length≤n→SqL (K w.params) H a (ns.map V.int)→sp w [.ref a] H (fun v _=>v=.bl true) fun _ _ _=>False)
    (hCX:∀ (w:World) (H:Hp) (s:Shared) (e:Value) (s':Shared),CX w [] H s (fun _ _ _=>False) e s'→False) :
    PySem.W.WalkO q loose XP YP l.row.toRowW d [] (fun f vs=>PySem.call f vs):=by
  refine Att.attach_call hn hdf fun w s₀ s₁ mg mb fa o pm cd doc a vs ns G Y ho hd hcd hmg hobj hints hlen hg=>?_
  have KX:=hY w _ Y
  obtain ⟨fd,hb,hF⟩:=F w mg fa _ KX G.T.g hmg
  exact law_call KX (hT w _ Y) G.T.bmain G.T.g G.T.b G.T.builtins G.T.nolimit hg hobj hints (Nat.le_trans hlen hn2) hr hF hb (fun H hS=>hsp w H a ns hlen hS) fun H e s'=>hCX w H s₁ e s'
end L2
namespace L2
open PySem PySem.Spec PyProof.Rows
def defArgs (s:Stmt):Arguments:=match s with
  | .FunctionDef _ a _ _ _ _ _ _ _ _=>a
  | _=>{ posonlyargs:=[],args:=[],vararg:=none,kwonlyargs:=[],kw_defaults:=[],kwarg:=none,defaults:=[] }
def defBody (s:Stmt):List Stmt:=match s with
  | .FunctionDef _ _ b _ _ _ _ _ _ _=>b
  | _=>[]
def defScope (s:Stmt):Scope:=match s with
  | .FunctionDef _ _ _ _ _ _ sc _ _ _=>sc
  | _=>{ kind:=.function,names:=[],isGenerator:=false,isCoroutine:=false }
abbrev CX0:CXT:=fun _ _ _ _ _ _=>False
abbrev E0:XK:=fun _ _ _=>False
theorem pass0 {X:Cx}:Passes CX0 X E0:=fun _ _ _ _ _ _ _ h=>h.elim
structure Fun (K:PySem.W.Frag) (x qual:Str) (st:Stmt) (f:Addr) (fd:FuncData):Prop where
  ex:∃ (oc:Value) (od:Option Addr) (kV doc pm:Value) (an:Option Addr) (cdv ct:Value) (osl:Array (Option Value)),
    fd=PySem.W.fnOf x qual (defArgs st) (defBody st) (defScope st) .none kV doc pm an cdv ct∧K.lookup f=some ⟨oc,od,.func fd,osl⟩∧PySem.W.codeIn K cdv qual=true
  kp:PySem.W.keepIn K (.ref f)=true
section
variable {P:Program} {w:World} {K:PySem.W.Frag} {mg:Str→Option Value} {base:Heap}
theorem Fun.ok {x qual:Str} {st:Stmt} {f:Addr} {fd:FuncData} {N ps:List Str} {k:Nat} {sp:Sp} (F:Fun K x qual st f fd) (S:FnScope N ps (defScope st)) (len:∀ vs H Q E,sp vs H Q E→vs.length=ps.length)
    (hbody:∀ (cdv:Value) (A:Around) (outer:List Env) (s:Shared) (H:Hp) (vs:List V) (Q:VK) (E:XK),Room k (A.deeper (envOfC qual (defScope st) s.heap.objs.size f cdv))→sp vs H Q E →
      ∃ t,PSs (cxOf CX0 P w K mg base N qual (defScope st) f cdv A outer s H E).nox (defBody st) t∧t { nx:=fun _ H'=>Q .non H',rt:=Q } (start N vs) H):FnOk P w K mg base CX0 (k + 1) f fd ps sp:=by
  obtain ⟨oc,od,kV,doc,pm,an,cdv,ct,osl,rfl,lk,hcd⟩:=F.ex
  refine fn_of lk hcd S len fun A outer s H vs Q E hr hsp=>?_
  obtain ⟨t,h,q⟩:=hbody cdv A outer s H vs Q E hr hsp
  exact ⟨t,h.nox,q⟩
theorem Fun.binds {x qual:Str} {st:Stmt} {f:Addr} {fd:FuncData} {ps:List Str} (F:Fun K x qual st f fd)
    (h:∀ (kV doc pm:Value) (an:Option Addr) (cdv ct:Value) (us:List Value),us.length=ps.length→bindArgs (PySem.W.fnOf x qual (defArgs st) (defBody st) (defScope st) .none kV doc pm an cdv ct) ⟨us,[]⟩=pure (ps.zip us)):Binds K fd ps []:=by
  obtain ⟨oc,od,kV,doc,pm,an,cdv,ct,osl,rfl,lk,hcd⟩:=F.ex
  exact .all (h kV doc pm an cdv ct)
theorem fun_mk {x qual:Str} {st:Stmt} {f:Addr} {oc:Value} {od an:Option Addr} {osl:Array (Option Value)} {kV doc pm cdv ct:Value} (l:K.lookup f=some ⟨oc,od,.func (PySem.W.fnOf x qual (defArgs st) (defBody st) (defScope st) .none kV doc pm an cdv ct),osl⟩)
    (c:PySem.W.codeIn K cdv qual=true) (k:PySem.W.keepIn K (.ref f)=true):Fun K x qual st f (PySem.W.fnOf x qual (defArgs st) (defBody st) (defScope st) .none kV doc pm an cdv ct):=⟨⟨oc,od,kV,doc,pm,an,cdv,ct,osl,rfl,l,c⟩,k⟩
end
section
variable {X:Cx}
theorem pv (i:Nat) {x:Str} {pos:Pos} (hN:X.N[i]?=some x:=by rfl) (hv:Vis X.env.scope x:=by first | exact Or.inl rfl | exact Or.inr (Or.inl rfl) | exact Or.inr (Or.inr rfl)) (hd:(x == ("__debug__" : Str))=false:=by decide)
    (hcd:(x == ("__classdict__" : Str))=false:=by decide):PE X (.Name x pos) (tVar i):=pe_var hN hv hd hcd
end
theorem iteF {A B:Prop} (h:B):if false=true then A else B:=by
  rw [if_neg Bool.false_ne_true]
  exact h
theorem iteT {A B:Prop} (h:A):if true=true then A else B:=by
  rw [if_pos rfl]
  exact h
def Same (H H':Hp):Prop:=∀ b o,H b=some o→H' b=some o
theorem Same.refl (H:Hp):Same H H:=fun _ _ h=>h
theorem Same.trans {H H1 H2:Hp} (a:Same H H1) (b:Same H1 H2):Same H H2:=fun c o h=>b c o (a c o h)
theorem Same.free {H H':Hp} (e:Same H H') {l:Addr} (h:H' l=Option.none):H l=Option.none:=by
  cases q:H l with
  | none=>rfl
  | some o =>
    rw [e l o q] at h
    cases h
theorem Same.seq {K:PySem.W.Frag} {H H':Hp} {a:Addr} {xs:List V} (e:Same H H') (h:SqL K H a xs):SqL K H' a xs:=by
  rcases h with (h | ⟨o,h⟩) | h
  · exact .inl (.inl (e _ _ h))
  · exact .inl (.inr ⟨o,e _ _ h⟩)
  · exact .inr h
end L2
set_option maxHeartbeats 1000000
namespace Sh
theorem pos_right {g y:Int} (h:0 < g * y) (g0:0 < g):0 < y:=by
  have h2:g * 0 < g * y:=by rw [Int.mul_zero]; exact h
  exact Int.lt_of_mul_lt_mul_left h2 (by omega)
theorem gcd_step (a b:Int):Int.gcd b (a % b)=Int.gcd a b:=by
  have h:a % b=a + b * (-(a / b)):=by
    have:=Int.emod_def a b
    rw [this,Int.mul_neg]; rfl
  rw [h,Int.gcd_comm,Int.gcd_add_mul_left_left]
structure Low (a b:Int):Prop where
  pos:1≤b
  co:Int.gcd a b=1
abbrev co (a b:Int):Prop:=Int.gcd a b=1
theorem co_symm {a b:Int} (h:co a b):co b a:=by rw [co,Int.gcd_comm]; exact h
theorem co_mul {a b c:Int} (h1:co a b) (h2:co a c):co a (b * c):=by
  show Nat.gcd a.natAbs (b * c).natAbs=1
  rw [Int.natAbs_mul]
  exact Nat.Coprime.mul_right h1 h2
theorem co_mulL {a b c:Int} (h1:co b a) (h2:co c a):co (b * c) a:=co_symm (co_mul (co_symm h1) (co_symm h2))
theorem co_dvdR {a b c:Int} (h:co a b) (d:c ∣ b):co a c:=by
  show Nat.Coprime a.natAbs c.natAbs
  exact (Nat.Coprime.coprime_dvd_left (Int.natAbs_dvd_natAbs.mpr d) (co_symm h)).symm
theorem co_dvdL {a b c:Int} (h:co a b) (d:c ∣ a):co c b:=co_symm (co_dvdR (co_symm h) d)
theorem gcd_pos {a b:Int} (h:0 < b):0 < ((Int.gcd a b:Nat):Int):=by
  have:0 < Int.gcd a b:=Int.gcd_pos_of_ne_zero_right a (by omega)
  omega
theorem parts {a b:Int} (hb:0 < b):∃ g x y:Int,((Int.gcd a b:Nat):Int)=g∧0 < g∧a=g * x∧b=g * y∧0 < y∧co x y∧a / g=x∧b / g=y:=by
  have g0:=gcd_pos (a:=a) hb
  obtain ⟨x,hx⟩:=Int.gcd_dvd_left a b
  obtain ⟨y,hy⟩:=Int.gcd_dvd_right a b
  refine ⟨_,x,y,rfl,g0,hx,hy,?_,?_,?_,?_⟩
  · exact pos_right (by rw [← hy]; exact hb) g0
  · have e:Int.gcd (((Int.gcd a b:Nat):Int) * x) (((Int.gcd a b:Nat):Int) * y)=Int.gcd a b:=by rw [← hx,← hy]
    rw [Int.gcd_mul_left] at e
    have e2:(((Int.gcd a b:Nat):Int)).natAbs=Int.gcd a b:=Int.natAbs_natCast _
    rw [e2] at e
    have p:0 < Int.gcd a b:=by omega
    have e3:Int.gcd a b * Int.gcd x y=Int.gcd a b * 1:=by rw [e,Nat.mul_one]
    exact Nat.eq_of_mul_eq_mul_left p e3
  · conv=>lhs; lhs; rw [hx]
    exact Int.mul_ediv_cancel_left x (by omega)
  · conv=>lhs; lhs; rw [hy]
    exact Int.mul_ediv_cancel_left y (by omega)
def mk (a b:Int):Int×Int:=(a / (Int.gcd a b:Nat),b / (Int.gcd a b:Nat))
theorem mk_low {a b:Int} (hb:0 < b):Low (mk a b).1 (mk a b).2:=by
  obtain ⟨g,x,y,e,g0,ha,hb',hy,c,e1,e2⟩:=parts (a:=a) hb
  show Low (a / _) (b / _)
  rw [e,e1,e2]
  exact ⟨hy,c⟩
theorem mk_cross {a b:Int} (hb:0 < b):(mk a b).1 * b=a * (mk a b).2:=by
  obtain ⟨g,x,y,e,g0,ha,hb',hy,c,e1,e2⟩:=parts (a:=a) hb
  show (a / _) * b=a * (b / _)
  rw [e,e1,e2,hb',ha,Int.mul_left_comm,Int.mul_assoc]
def pl (a b c d:Int):Int×Int :=
  let g:Int:=(Int.gcd b d:Nat)
  let t:=a * (d / g) + c * (b / g)
  let r:Int:=(Int.gcd t g:Nat)
  (t / r,(b / g) * (d / r))
def tm (a b c d:Int):Int×Int :=
  let f:Int:=(Int.gcd a d:Nat)
  let s:Int:=(Int.gcd c b:Nat)
  ((a / f) * (c / s),(b / s) * (d / f))
theorem tm_all {a b c d:Int} (h1:Low a b) (h2:Low c d):Low (tm a b c d).1 (tm a b c d).2∧(tm a b c d).1 * (b * d)=(a * c) * (tm a b c d).2:=by
  obtain ⟨f,a',d',e,f0,ha,hd,hd0,cad,e1,e2⟩:=parts (a:=a) (b:=d) h2.pos
  obtain ⟨s,c',b',e',s0,hc,hb,hb0,ccb,e3,e4⟩:=parts (a:=c) (b:=b) h1.pos
  have etm:tm a b c d=(a' * c',b' * d'):=by
    simp only [tm]
    rw [e,e1,e2,e',e3,e4]
  rw [etm]
  have ca:co a' b':=co_dvdL (co_dvdR h1.co ⟨s,by rw [hb,Int.mul_comm]⟩) ⟨f,by rw [ha,Int.mul_comm]⟩
  have cc:co c' d':=co_dvdL (co_dvdR h2.co ⟨f,by rw [hd,Int.mul_comm]⟩) ⟨s,by rw [hc,Int.mul_comm]⟩
  refine ⟨⟨?_,co_mul (co_mulL ca ccb) (co_mulL cad cc)⟩,?_⟩
  · have:0 < b' * d':=Int.mul_pos hb0 hd0
    show 1≤b' * d'
    omega
  · show a' * c' * (b * d)=a * c * (b' * d')
    rw [hb,hd,ha,hc]
    simp only [Int.mul_left_comm,Int.mul_comm]
end Sh
namespace Sh
theorem gcd_le {a b:Int} (h:1≤b):(((Int.gcd a b:Nat):Int)).natAbs≤b.natAbs:=by
  rw [Int.natAbs_natCast]
  exact Nat.le_of_dvd (by omega) (Nat.gcd_dvd_right a.natAbs b.natAbs)
theorem div_le {a g:Int} (h:g ∣ a):(a / g).natAbs≤a.natAbs:=by
  rw [Int.natAbs_ediv_of_dvd h]
  exact Nat.div_le_self _ _
theorem pow_mono {m n:Nat} (h:m≤n):2 ^ m≤2 ^ n:=Nat.pow_le_pow_right (by decide) h
theorem up {a:Int} {m n:Nat} (h1:a.natAbs < 2 ^ m) (h:m≤n):a.natAbs < 2 ^ n:=Nat.lt_of_lt_of_le h1 (pow_mono h)
theorem dn {a b:Int} {m:Nat} (h:a.natAbs≤b.natAbs) (h1:b.natAbs < 2 ^ m):a.natAbs < 2 ^ m:=Nat.lt_of_le_of_lt h h1
end Sh
namespace Wd
def prod:List Int→Int
  | []=>1
  | s :: r=>s * prod r
def rk:List Int→List Int→Int
  | s :: r,d :: e=>rk r e * s + d
  | _,_=>0
def rkF (ss ws:List Int):Int:=(ss.zip ws).foldl (fun a x=>a * x.1 + x.2) 0
theorem prod_append:∀ (a b:List Int),prod (a ++ b)=prod a * prod b
  | [],b=>(Int.one_mul _).symm
  | s :: r,b=>by
    show s * prod (r ++ b)=s * prod r * prod b
    rw [prod_append r b,Int.mul_assoc]
end Wd
namespace Wd
def rng (n:Nat):List Int:=(List.range n).map fun (i:Nat)=>(i:Int)
def grow (hs:List (List Int)) (cs:List Int):List (List Int):=hs.flatMap fun h=>cs.map fun c=>h ++ [c]
theorem grow_len (hs:List (List Int)) (cs:List Int):(grow hs cs).length=hs.length * cs.length:=by
  induction hs with
  | nil=>simp [grow]
  | cons h r ih =>
    show ((cs.map fun c=>h ++ [c]) ++ grow r cs).length=_
    rw [List.length_append,List.length_map,ih,List.length_cons,Nat.succ_mul,Nat.add_comm]
theorem grow_snoc (hs:List (List Int)) (h:List Int) (cs:List Int):grow (hs ++ [h]) cs=grow hs cs ++ cs.map fun c=>h ++ [c]:=by
  unfold grow
  rw [List.flatMap_append]
  simp
theorem prod_snoc (ss:List Int) (s:Int):prod (ss ++ [s])=prod ss * s:=by
  rw [prod_append]
  show prod ss * (s * 1)=_
  rw [Int.mul_one]
theorem rng_len (n:Nat):(rng n).length=n:=by unfold rng; rw [List.length_map,List.length_range]
theorem rng_get {n i:Nat} (h:i < n):(rng n)[i]?=some (i:Int):=by
  unfold rng
  rw [List.getElem?_map,List.getElem?_range h]
  rfl
def nxt:List Int→List Int→Option (List Int)
  | s :: r,d :: e=>if d + 1 < s then some ((d + 1) :: e) else (nxt r e).map fun x=>0 :: x
  | _,_=>none
end Wd
namespace L2
open PySem PySem.Spec PyProof.Rows PySem.SeqAt
theorem bits_lt {k:Int} {n:Nat} (h:k.natAbs < 2 ^ n):Builtin.Int.intBits k≤n:=by
  unfold Builtin.Int.intBits
  by_cases h0:k=0
  · subst h0; exact Nat.zero_le _
  · have hk:k.natAbs≠0:=by omega
    rw [if_neg (by simpa using h0)]
    exact (Nat.log2_lt hk).mpr h
theorem mulOk {i j:Int} {m n:Nat} (hi:i.natAbs < 2 ^ m) (hj:j.natAbs < 2 ^ n) (hs:m + n≤2 ^ 27):IntMulOk i j:=by
  have h1:=bits_lt hi
  have h2:=bits_lt hj
  unfold IntMulOk
  intro h
  rw [Bool.and_eq_true] at h
  have h3:decide (((Builtin.Int.intBits i + Builtin.Int.intBits j:Nat):Int) > (bitsLine:Int))=true:=by
    have h4:=h.2
    unfold Builtin.Int.intTooBig at h4
    simpa using h4
  have h5:((Builtin.Int.intBits i + Builtin.Int.intBits j:Nat):Int) > (bitsLine:Int):=of_decide_eq_true h3
  have h6:bitsLine=2 ^ 27:=rfl
  rw [h6] at h5
  omega
section
variable {X:Cx}
theorem op_mulB:OpR X (binaryOp .Mult) (rI IntMulOk fun i j=>.int (i * j)):=opI fun _ _ _ _ _ _ _ hc q=>mul_int q hc
def CDivB (_ j:Int):Prop:=0 < j∧j.natAbs < 2 ^ 9000
theorem op_fdivB:OpR X (binaryOp .FloorDiv) (rI CDivB fun i j=>.int (i / j)):=opI fun i j _ _ _ _ _ hc q=>by
  have h1:(0:Int) < j:=hc.1
  have h2:j.natAbs.log2 < 9000:=(Nat.log2_lt (by omega)).mpr hc.2
  exact floordiv_int (by omega) (by rw [Int.fdiv_eq_ediv_of_nonneg i (by omega)]; exact q) (.inl (PyProof.noPylong_of_log2 h2))
mutual
inductive Dp (K:PySem.W.Frag) (H:Hp):V→PyData→Prop
  | non:Dp K H .non .none
  | bl (b:Bool):Dp K H (.bl b) (.bool b)
  | int (i:Int):Dp K H (.int i) (.int i)
  | str (x:Str):Dp K H (.str x) (.str x)
  | lst {a:Addr} {xs:List V} {ds:List PyData}:SqL K H a xs→DpAll K H xs ds→Dp K H (.ref a) (.list ds)
  | tup {a:Addr} {xs:List V} {ds:List PyData}:SqT K H a xs→DpAll K H xs ds→Dp K H (.ref a) (.tuple ds)
inductive DpAll (K:PySem.W.Frag) (H:Hp):List V→List PyData→Prop
  | nil:DpAll K H [] []
  | cons {v:V} {vs:List V} {d:PyData} {ds:List PyData}:Dp K H v d→DpAll K H vs ds→DpAll K H (v :: vs) (d :: ds)
end
mutual
theorem Dp.reads {pins:List (Addr×Obj)} {σ:St} {H:Hp} {s:Shared} (I:Inv X pins σ H s):∀ {x:V} {d:PyData} {u:Value},Dp X.K H x d→RelV x u→∃ as,Reads s.heap u d as
  | _,_,u,.non,r=>by cases (show u=Value.none from r); exact ⟨_,.none⟩
  | _,_,u,.bl b,r=>by cases (show u=Value.bool b from r); exact ⟨_,.bool b⟩
  | _,_,u,.int i,r=>by obtain ⟨t,e⟩:=(show ∃ t,u=Value.int i t from r); subst e; exact ⟨_,.int i t⟩
  | _,_,u,.str x,r=>by obtain ⟨t,e⟩:=(show ∃ t,u=Value.str x t from r); subst e; exact ⟨_,.str x t⟩
  | _,_,u,@Dp.lst _ _ a xs ds h k,r=>by
    cases (show u=Value.ref a from r)
    obtain ⟨its,rv,⟨o,n,e,c,_,d⟩,_⟩:=I.list h
    obtain ⟨as,ra⟩:=DpAll.reads I k rv
    exact ⟨_,.list e c d (by simpa using ra)⟩
  | _,_,u,@Dp.tup _ _ a xs ds h k,r=>by
    cases (show u=Value.ref a from r)
    obtain ⟨its,rv,⟨o,e,c,n,d⟩,_⟩:=I.tuple h
    obtain ⟨as,ra⟩:=DpAll.reads I k rv
    exact ⟨_,.tuple e c d (by simpa using ra)⟩
theorem DpAll.reads {pins:List (Addr×Obj)} {σ:St} {H:Hp} {s:Shared} (I:Inv X pins σ H s):∀ {xs:List V} {ds:List PyData} {us:List Value},DpAll X.K H xs ds→Vals xs us→∃ as,ReadsAll s.heap us ds as
  | _,_,_,.nil,.nil=>⟨_,.nil⟩
  | _,_,_,.cons h k,.cons r t=>by
    obtain ⟨as,ra⟩:=Dp.reads I h r
    obtain ⟨bs,rb⟩:=DpAll.reads I k t
    exact ⟨_,.cons ra rb⟩
end
theorem Inv.turnNew {pins:List (Addr×Obj)} {σ:St} {H:Hp} {s:Shared} {h':Heap} {fp:List Addr} {T:Addr} {o:HO} {t':Nat} (I:Inv X pins σ H s) (hf:∀ b∈fp,FpOk X pins H b)
    (k:∀ b u,b∉fp→s.heap.get? b=some u→h'.get? b=some u) (hT:s.heap.objs.size≤T) (new:ObjOk X.prog X.w (upd H T o) h' T o):Inv X pins σ (upd H T o) { s with heap:=h',toks:=t' }:=by
  have hn:H T=none:=I.hok.fresh hT
  have nfp:∀ b u,H b=some u→b∉fp:=fun b u e z=>by rw [(hf b z).1] at e; cases e
  have neT:∀ b u,s.heap.get? b=some u→b≠T:=fun b u e=>Nat.ne_of_lt (Nat.lt_of_lt_of_le (Heap.lt_size e) hT)
  refine I.step (g':=s.gens) (d':=s.drawn) (ch:=fp) (fun b hb=>⟨(hf b hb).2.2.2.1,(hf b hb).2.1,(hf b hb).2.2.2.2.1,(hf b hb).2.2.2.2.2⟩) (fun b u _ _ hc e _=>k b u hc e) (fun b u _ _ hc e _=>⟨u.slots,k b u hc e⟩)
    (fun b u _ e n=>by rw [upd_ne (neT b u e)]; exact n) (fun b u hc e=>⟨u,k b u hc e⟩) (fun b xs e=>by rw [upd_ne (ne_of_none e hn)]; exact e) (fun b u v e=>by rw [upd_ne (ne_of_none e hn)]; exact e) (fun b ps e=>⟨#[],by rw [upd_ne (ne_of_none e hn),e]; simp⟩)
    (fun m hm=>?_) (fun b u e=>?_) I.bare
  · obtain ⟨ob,es,ep,ho,r⟩:=hm
    exact ⟨ob,es,ep,k _ ob (fun z=>(hf _ z).2.1 rfl) ho,r⟩
  · by_cases hb:b=T
    · subst hb; rw [upd_same] at e; cases e; exact new
    · rw [upd_ne hb] at e
      refine (I.hok b u e).stay (fun c v hc q=>k c v ?_ q) (fun c q=>by rw [upd_ne (ne_of_none q hn)]; exact q) fun c xs q=>by rw [upd_ne (ne_of_none q hn)]; exact q
      rcases hc with z | z
      · rw [z]; exact nfp b u e
      · exact nfp c _ z
theorem Inv.turnAll {pins:List (Addr×Obj)} {σ:St} {H:Hp} {s:Shared} {h':Heap} {fp:List Addr} {t':Nat} (I:Inv X pins σ H s) (hf:∀ b∈fp,FpOk X pins H b)
    (k:∀ b u,b∉fp→s.heap.get? b=some u→h'.get? b=some u):Inv X pins σ H { s with heap:=h',toks:=t' }:=by
  have nfp:∀ b u,H b=some u→b∉fp:=fun b u e z=>by rw [(hf b z).1] at e; cases e
  refine I.step (g':=s.gens) (d':=s.drawn) (ch:=fp) (fun b hb=>⟨(hf b hb).2.2.2.1,(hf b hb).2.1,(hf b hb).2.2.2.2.1,(hf b hb).2.2.2.2.2⟩) (fun b u _ _ hc e _=>k b u hc e) (fun b u _ _ hc e _=>⟨u.slots,k b u hc e⟩)
    (fun b u _ e n=>n) (fun b u hc e=>⟨u,k b u hc e⟩) (fun b xs e=>e) (fun b u v e=>e) (fun b ps e=>⟨#[],by rw [e]; simp⟩)
    (fun m hm=>?_) (fun b u e=>?_) I.bare
  · obtain ⟨ob,es,ep,ho,r⟩:=hm
    exact ⟨ob,es,ep,k _ ob (fun z=>(hf _ z).2.1 rfl) ho,r⟩
  · refine (I.hok b u e).stay (fun c v hc q=>k c v ?_ q) (fun c q=>q) fun c xs q=>q
    rcases hc with z | z
    · rw [z]; exact nfp b u e
    · exact nfp c _ z
end
theorem ad {m n:Nat} (h:m≠n):(show Addr from m)≠(show Addr from n):=h
def Itz (K:PySem.W.Frag) (a b:Addr):It :=
  ⟨fun i H=>∃ xs x ys y,SqL K H a xs∧xs[i]?=some x∧SqL K H b ys∧ys[i]?=some y,
   fun i H x H'=>∃ T u v,H T=none∧x=.ref T∧H'=upd H T (.tup [u,v])∧(∀ xs,SqL K H a xs→xs[i]?=some u)∧∀ ys,SqL K H b ys→ys[i]?=some v,
   fun i H=>∃ xs ys,SqL K H a xs∧SqL K H b ys∧(xs.length≤i∨ys.length≤i)⟩
theorem turn_zip {P:Program} {w:World} {K:PySem.W.Frag} {es:List Expr} {k:Nat} {tpos:Pos} (a b n:Addr) :
    Turn P w K (.Tuple es k tpos) (Itz K a b) [n + 4,n + 2,n + 3,n,n + 1] (n + 4)
      (fun i h=>IsZip h (n + 4) (n + 2) (n + 3) .none∧IsPair h (n + 2) (.ref n) (.ref (n + 1))∧(∃ u v,IsPair h (n + 3) u v)∧h.IsListIter n a i∧h.IsListIter (n + 1) b i) where
  mem:=by simp
  obj:=fun i h st c hc=>by
    obtain ⟨hz,hI,⟨u,v,hO⟩,⟨o1,e1,_,d1⟩,⟨o2,e2,_,d2⟩⟩:=st
    simp only [List.mem_cons,List.not_mem_nil,or_false] at hc
    rcases hc with rfl | rfl | rfl | rfl | rfl
    · exact ⟨_,hz,fun v z=>by have z':Data.fields _=Data.cell v:=z; cases z'⟩
    · exact ⟨_,hI,fun v z=>by have z':Data.seq _ _=Data.cell v:=z; cases z'⟩
    · exact ⟨_,hO,fun v z=>by have z':Data.seq _ _=Data.cell v:=z; cases z'⟩
    · exact ⟨_,e1,fun v z=>by rw [d1] at z; cases z⟩
    · exact ⟨_,e2,fun v z=>by rw [d2] at z; cases z⟩
  keep:=fun i h h' st k=>by
    obtain ⟨hz,hI,⟨u,v,hO⟩,h1,h2⟩:=st
    exact ⟨k _ (by simp) _ hz,k _ (by simp) _ hI,⟨u,v,k _ (by simp) _ hO⟩,h1.at fun o e=>k _ (by simp) o e,h2.at fun o e=>k _ (by simp) o e⟩
  item:=by
    intro X hP hw hK hc i pins s σ H E I hf st hg
    subst hP hw hK
    obtain ⟨hz,hI,⟨u0,v0,hO⟩,h1,h2⟩:=st
    obtain ⟨xs,x,ys,y,hxs,hx,hys,hy⟩:=hg
    obtain ⟨its,rx,px,zx⟩:=I.list hxs
    obtain ⟨jts,ry,py,zy⟩:=I.list hys
    obtain ⟨u,hu,ru⟩:=rx.get hx
    obtain ⟨v,hv,rv⟩:=ry.get hy
    have nofp:∀ {c:Addr} {zs:List V},SqL X.K H c zs→∀ d∈[n + 4,n + 2,n + 3,n,n + 1],c≠d:=fun {c zs} hq d hd e=>by
      subst e
      have hn:=(hf c hd).1
      rcases hq with (q | ⟨o,q⟩) | ⟨o,its,m,q,_⟩
      · rw [hn] at q; cases q
      · rw [hn] at q; cases q
      · have hb:X.base.get? c=some o:=I.ok.mod.kin c o q
        rcases (hf c hd).2.2.2.1 with z | z
        · exact I.ok.noex c o hb z
        · exact absurd (Nat.lt_of_lt_of_le (Heap.lt_size hb) (Nat.le_trans I.ok.bsz z)) (Nat.lt_irrefl _)
    have D:ZipApart (n + 4) (n + 2) (n + 3) n (n + 1) a b:=by
      have na:=nofp hxs
      have nb:=nofp hys
      exact ⟨ad (by omega),ad (by omega),ad (by omega),ad (by omega),ad (by omega),ad (by omega),ad (by omega),ad (by omega),ad (by omega),ad (by omega),na _ (by simp),na _ (by simp),na _ (by simp),na _ (by simp),nb _ (by simp),nb _ (by simp),nb _ (by simp),nb _ (by simp)⟩
    refine wpAny_pyNext_zip_item D hz hI hO h1 h2 px.isList py.isList (x:=u) (y:=v) (by simpa using hu) (by simpa using hv) fun h' z' o' i1' i2' t' sz' kp=>?_
    refine ⟨_,rfl,wpAny_letOwnedTupleGo_zip z' fun h'' z'' sb=>?_⟩
    have kp2:∀ c o,c∉[n + 4,n + 2,n + 3,n,n + 1]→s.heap.get? c=some o→h''.get? c=some o:=fun c o hc e =>
      (sb.2 c (fun z=>hc (by simp [z]))).trans (kp c o (fun z=>hc (by simp [z])) (fun z=>hc (by simp [z])) (fun z=>hc (by simp [z])) (fun z=>hc (by simp [z])) e)
    have lts:∀ c∈[n + 4,n + 2,n + 3,n,n + 1],c < s.heap.objs.size:=fun c hc=>by
      obtain ⟨_,e1,_⟩:=id h1
      obtain ⟨_,e2,_⟩:=id h2
      simp only [List.mem_cons,List.not_mem_nil,or_false] at hc
      rcases hc with rfl | rfl | rfl | rfl | rfl
      · exact Heap.lt_size hz
      · exact Heap.lt_size hI
      · exact Heap.lt_size hO
      · exact Heap.lt_size e1
      · exact Heap.lt_size e2
    have nez:∀ {c:Addr},c∈[n + 2,n + 3,n,n + 1]→c≠n + 4:=fun {c} hc=>by
      simp only [List.mem_cons,List.not_mem_nil,or_false] at hc
      rcases hc with rfl | rfl | rfl | rfl
      · exact ad (by omega)
      · exact ad (by omega)
      · exact ad (by omega)
      · exact ad (by omega)
    have tz:s.heap.objs.size≠n + 4:=Nat.ne_of_gt (lts _ (by simp))
    refine ⟨.ref s.heap.objs.size,upd H s.heap.objs.size (.tup [x,y]),I.turnNew (t':=s.toks) hf kp2 (Nat.le_refl _) ?_,rfl,⟨_,x,y,I.hok.fresh (Nat.le_refl _),rfl,rfl,fun zs hq=>by rw [I.list_inj hq hxs]; exact hx,fun zs hq=>by rw [I.list_inj hq hys]; exact hy⟩,?_,fun c hc=>?_⟩
    · refine ⟨by show 2≤sizeLine; decide,[u,v],.cons ru (.cons rv .nil),⟨_,(sb.2 _ tz).trans t',rfl,_,rfl⟩⟩
    · refine ⟨z'',?_,⟨_,_,(sb.2 _ (nez (by simp))).trans o'⟩,i1'.at fun o e=>(sb.2 _ (nez (by simp))).trans e,i2'.at fun o e=>(sb.2 _ (nez (by simp))).trans e⟩
      exact (sb.2 _ (nez (by simp))).trans (kp _ _ (ad (by omega)) (ad (by omega)) (ad (by omega)) (ad (by omega)) hI)
    · rw [upd_ne (Nat.ne_of_lt (lts c hc))]
      exact (hf c hc).1
  done:=by
    intro X hP hw hK hc i pins s σ H E I hf st hg
    subst hP hw hK
    obtain ⟨hz,hI,⟨u0,v0,hO⟩,h1,h2⟩:=st
    obtain ⟨xs,ys,hxs,hys,hl⟩:=hg
    obtain ⟨its,rx,px,zx⟩:=I.list hxs
    obtain ⟨jts,ry,py,zy⟩:=I.list hys
    have nofp:∀ {c:Addr} {zs:List V},SqL X.K H c zs→∀ d∈[n + 4,n + 2,n + 3,n,n + 1],c≠d:=fun {c zs} hq d hd e=>by
      subst e
      have hn:=(hf c hd).1
      rcases hq with (q | ⟨o,q⟩) | ⟨o,its,m,q,_⟩
      · rw [hn] at q; cases q
      · rw [hn] at q; cases q
      · have hb:X.base.get? c=some o:=I.ok.mod.kin c o q
        rcases (hf c hd).2.2.2.1 with z | z
        · exact I.ok.noex c o hb z
        · exact absurd (Nat.lt_of_lt_of_le (Heap.lt_size hb) (Nat.le_trans I.ok.bsz z)) (Nat.lt_irrefl _)
    have D:ZipApart (n + 4) (n + 2) (n + 3) n (n + 1) a b:=by
      have na:=nofp hxs
      have nb:=nofp hys
      exact ⟨ad (by omega),ad (by omega),ad (by omega),ad (by omega),ad (by omega),ad (by omega),ad (by omega),ad (by omega),ad (by omega),ad (by omega),na _ (by simp),na _ (by simp),na _ (by simp),na _ (by simp),nb _ (by simp),nb _ (by simp),nb _ (by simp),nb _ (by simp)⟩
    have l1:=rx.length
    have l2:=ry.length
    have hend:its.toArray[i]?=none∨jts.toArray[i]?=none:=by
      rcases hl with q | q
      · left; simp; omega
      · right; simp; omega
    refine wpAny_pyNext_zip_end (I.ok.hd hc) D hz hI hO h1 h2 px.isList py.isList hend fun h' kp=>⟨rfl,I.turnAll (t':=s.toks) hf fun c o hc e=>kp c o (fun z=>hc (by simp [z])) (fun z=>hc (by simp [z])) (fun z=>hc (by simp [z])) (fun z=>hc (by simp [z])) e⟩
  self:=fun _ _ _ _ _ st h=>wpAny_pyIter_zip st.1 h
section
variable {X:Cx}
def iZip (K:PySem.W.Frag) (ta:TA):TI:=fun σ H R=>ta σ H fun vs H1=>∃ a b,vs=[.ref a,.ref b]∧(∃ xs,SqL K H1 a xs)∧(∃ ys,SqL K H1 b ys)∧R (Itz K a b) H1
theorem pi_zip {a b:Expr} {ta:TA} {p pos:Pos} {es:List Expr} {k:Nat} {tpos:Pos} (hg:Gl X "zip") (hm:X.mg "zip" = none) (ha:PA X [a,b] ta) (he:starEach (a :: [b]) X.env=(false,eval a X.env) :: starEach [b] X.env:=by rfl)
    (hpl:(backTo pos (starEach [b] X.env)).any (·.1)=false:=by rfl):PI X (.Tuple es k tpos) (.Call (.Name "zip" p) [a,b] [] pos) (iZip X.K ta):=by
  intro pins s σ H R I h
  refine wpAny_Call_Name_kw (ld_blt I hg hm (u:=.type "zip") (by decide +kernel) ?_ (by decide) (by decide))
  refine PyProof.Rows.callWith_type1 (thn (ha pos pins s σ H _ I h) fun us s1 ⟨vs,H1,I1,r1,q1⟩=>?_) he hpl
  obtain ⟨a1,b1,rfl,⟨xs,hx⟩,⟨ys,hy⟩,q⟩:=q1
  obtain ⟨u,v,rfl,ru,rv⟩:=r1.two
  cases (show u=Value.ref a1 from ru)
  cases (show v=Value.ref b1 from rv)
  obtain ⟨its,rx,px,zx⟩:=I1.list hx
  obtain ⟨jts,ry,py,zy⟩:=I1.list hy
  refine call_zip_2 px.isList py.isList fun h' hz hI hO h1 h2 sz kp=>?_
  refine wpAny_pyIter_zip hz ?_
  refine ⟨s1.heap.objs.size + 4,_,_,_,H1,rfl,I1.kept (t':=s1.toks) kp,turn_zip a1 b1 s1.heap.objs.size,⟨hz,hI,⟨_,_,hO⟩,h1,h2⟩,fun c hc=>?_,q⟩
  have hc':s1.heap.objs.size≤c:=by
    simp only [List.mem_cons,List.not_mem_nil,or_false] at hc
    rcases hc with rfl | rfl | rfl | rfl | rfl
    · exact Nat.le_add_right _ _
    · exact Nat.le_add_right _ _
    · exact Nat.le_add_right _ _
    · exact Nat.le_refl _
    · exact Nat.le_add_right _ _
  exact I1.fpOk hc' (I1.hok.fresh hc')
end
end L2
namespace L2
open PySem PySem.Spec PyProof.Rows
def Cx.blk (X:Cx) (N:List Str) (scope:Scope) (cl:List (Str×Addr)) (C:Addr) (s:Shared) (H:Hp) (fp:List Addr):Cx :=
  { X with N:=N,s₀:=s,H₀:=H,env:=compEnvC scope cl C X.env,outer:=X.stack,stack:=X.stack,ex:=fp,fn:=fun _=>false,pn:=[],xe:=fun _ _=>False }
def capt (js:List (Option Nat)) (σ:St):St:=js.map fun o=>match o with | none=>none | some j=>(σ[j]?).join
structure CompOk (X:Cx) (N:List Str) (scope:Scope) (cl:List (Str×Addr)) (js:List (Option Nat)):Prop where
  clos:closureFor scope X.env=pure cl
  nocell:∀ y∈scope.names,y.2≠.cell
  kind:scope.kind=.function
  names:∀ y∈scope.names,y.2=.local→scope.names.lookup y.1=some .local
  cells:∀ p∈cl,X.env.cells.lookup p.1=some p.2
  has:∀ y∈scope.names,y.2=.free→(cl.lookup y.1).isSome=true
  len:js.length=N.length
  cap:∀ (i j:Nat),js[i]?=some (some j)→∃ x,N[i]?=some x∧X.N[j]?=some x∧scope.names.lookup x=some .free∧(X.env.scope.names.lookup x=some .cell∨X.env.scope.names.lookup x=some .free)
def Sub (σ σ':St):Prop:=σ.length=σ'.length∧∀ (i:Nat) v,σ[i]?=some (some v)→σ'[i]?=some (some v)
theorem Sub.set {σ:St} {i:Nat} {x:Option V} (h:σ[i]?=some none):Sub σ (σ.set i x):=by
  refine ⟨by simp,fun j v e=>?_⟩
  have ne:j≠i:=by rintro rfl; rw [h] at e; cases e
  rw [List.getElem?_set_ne (Ne.symm ne)]
  exact e
theorem relabel_free {env:Env} (hk:env.scope.kind=.function):∀ {names:List (Str×NameKind)} {x:Str},names.lookup x=some .free→env.scope.names.lookup x=some .cell →
    (names.map fun (n,k)=>if (k == NameKind.free && env.scope.kind == .function && env.kindOf n == some .cell) then (n,NameKind.cell) else (n,k)).lookup x=some .cell
  | [],_,h,_=>by simp at h
  | (n,k) :: r,x,h,hc=>by
    have ih:=@relabel_free env hk r x
    show List.lookup x ((if (k == NameKind.free && env.scope.kind == .function && env.kindOf n == some .cell)=true then (n,NameKind.cell) else (n,k)) :: _)=_
    cases hx:x == n with
    | true =>
      have e:x=n:=by simpa using hx
      subst e
      simp only [List.lookup_cons,hx] at h
      cases h
      have c:(NameKind.free == NameKind.free && env.scope.kind == .function && env.kindOf x == some .cell)=true:=by
        have q:env.kindOf x=some .cell:=hc
        rw [hk,q]; rfl
      rw [if_pos c,List.lookup_cons,hx]
    | false =>
      simp only [List.lookup_cons,hx] at h
      by_cases hcc:(k == NameKind.free && env.scope.kind == .function && env.kindOf n == some .cell)=true
      · rw [if_pos hcc,List.lookup_cons,hx]; exact ih h hc
      · rw [if_neg hcc,List.lookup_cons,hx]; exact ih h hc
theorem relabel_keep {env:Env}:∀ {names:List (Str×NameKind)} {x:Str},names.lookup x=some .free→env.scope.names.lookup x=some .free →
    (names.map fun (n,k)=>if (k == NameKind.free && env.scope.kind == .function && env.kindOf n == some .cell) then (n,NameKind.cell) else (n,k)).lookup x=some .free
  | [],_,h,_=>by simp at h
  | (n,k) :: r,x,h,hc=>by
    have ih:=@relabel_keep env r x
    show List.lookup x ((if (k == NameKind.free && env.scope.kind == .function && env.kindOf n == some .cell)=true then (n,NameKind.cell) else (n,k)) :: _)=_
    cases hx:x == n with
    | true =>
      have e:x=n:=by simpa using hx
      subst e
      simp only [List.lookup_cons,hx] at h
      cases h
      have q:env.kindOf x=some .free:=hc
      rw [if_neg (by rw [q]; simp),List.lookup_cons,hx]
    | false =>
      simp only [List.lookup_cons,hx] at h
      by_cases hcc:(k == NameKind.free && env.scope.kind == .function && env.kindOf n == some .cell)=true
      · rw [if_pos hcc,List.lookup_cons,hx]; exact ih h hc
      · rw [if_neg hcc,List.lookup_cons,hx]; exact ih h hc
theorem relabel_back {env:Env}:∀ {names:List (Str×NameKind)} {x:Str},(∀ y∈names,y.2≠.cell) →
    ((names.map fun (n,k)=>if (k == NameKind.free && env.scope.kind == .function && env.kindOf n == some .cell) then (n,NameKind.cell) else (n,k)).lookup x=some .cell ∨
     (names.map fun (n,k)=>if (k == NameKind.free && env.scope.kind == .function && env.kindOf n == some .cell) then (n,NameKind.cell) else (n,k)).lookup x=some .free)→∃ y∈names,y.1=x∧y.2=.free
  | [],_,_,h=>by simp at h
  | (n,k) :: r,x,hn,h=>by
    have ih:=@relabel_back env r x (fun y hy=>hn y (List.mem_cons_of_mem _ hy))
    have h':List.lookup x ((if (k == NameKind.free && env.scope.kind == .function && env.kindOf n == some .cell)=true then (n,NameKind.cell) else (n,k)) :: (r.map fun (n,k)=>if (k == NameKind.free && env.scope.kind == .function && env.kindOf n == some .cell) then (n,NameKind.cell) else (n,k)))=some .cell ∨
      List.lookup x ((if (k == NameKind.free && env.scope.kind == .function && env.kindOf n == some .cell)=true then (n,NameKind.cell) else (n,k)) :: (r.map fun (n,k)=>if (k == NameKind.free && env.scope.kind == .function && env.kindOf n == some .cell) then (n,NameKind.cell) else (n,k)))=some .free:=h
    cases hx:x == n with
    | true =>
      have e:x=n:=by simpa using hx
      subst e
      by_cases hcc:(k == NameKind.free && env.scope.kind == .function && env.kindOf x == some .cell)=true
      · have kf:k=.free:=by
          cases k <;> first | rfl | (simp at hcc)
        exact ⟨(x,k),List.mem_cons_self,rfl,kf⟩
      · rw [if_neg hcc] at h'
        simp only [List.lookup_cons,hx] at h'
        rcases h' with q | q
        · cases q; exact absurd rfl (hn (x,.cell) List.mem_cons_self)
        · cases q; exact ⟨(x,.free),List.mem_cons_self,rfl,rfl⟩
    | false =>
      by_cases hcc:(k == NameKind.free && env.scope.kind == .function && env.kindOf n == some .cell)=true
      · rw [if_pos hcc] at h'
        simp only [List.lookup_cons,hx] at h'
        obtain ⟨y,hy,e⟩:=ih h'
        exact ⟨y,List.mem_cons_of_mem _ hy,e⟩
      · rw [if_neg hcc] at h'
        simp only [List.lookup_cons,hx] at h'
        obtain ⟨y,hy,e⟩:=ih h'
        exact ⟨y,List.mem_cons_of_mem _ hy,e⟩
section
variable {X:Cx} {N:List Str} {scope:Scope} {cl:List (Str×Addr)} {js:List (Option Nat)} {pins:List (Addr×Obj)} {σ:St} {H:Hp} {s:Shared} {fp:List Addr}
theorem blk_start (K:CompOk X N scope cl js) (I:Inv X pins σ H s) (hf:∀ b∈fp,FpOk X pins H b) (hlt:∀ b∈fp,b < s.heap.objs.size) {h1:Heap} {m1:Str→Option Value} {tk:Nat} (hn:h1.Ns s.heap.objs.size m1)
    (hk:∀ b o,s.heap.get? b=some o→h1.get? b=some o) :
    Inv (X.blk N scope cl s.heap.objs.size s H fp) [] (capt js σ) H { s with heap:=h1,toks:=tk }:=by
  have bigC:∀ b∈fp,b≠s.heap.objs.size:=fun b hb=>Nat.ne_of_lt (hlt b hb)
  have hcl:∀ x c,cl.lookup x=some c→X.env.cells.lookup x=some c:=fun x c e=>K.cells (x,c) (PySem.mem_of_lookup e)
  refine ⟨⟨I.ok.mod,K.kind,I.ok.glob,I.ok.blt,Nat.le_refl _,fun x y c e1 e2=>I.ok.inj x y c (hcl x c e1) (hcl y c e2),fun x hx=>?_,fun x c z _=>absurd z (by intro q; cases q),I.ok.hd,I.ok.frames,.inl rfl,fun b hb=>⟨bigC b hb,fun x c e=>(hf b hb).2.2.2.2.1 x c (hcl x c e)⟩,
    I.bs,Nat.le_trans I.ok.bsz I.sz,fun b o e hb=>?_,fun b hb z=>?_,I.stack,I.stkFree,I.ok.tb.un I.base⟩,rfl,I.bare,Un.kept hk,⟨m1,hn,fun i x v e1 e2 e3=>?_⟩,fun x c e=>?_,I.hok.fresh (Nat.le_refl _),fun x c e=>(I.freeC x c (hcl x c e)).imp id fun z=>⟨rfl,z.2⟩,fun p hp=>absurd (show p∈([]:List (Addr×Obj)) from hp) (by simp),I.hok.kept hk,?_⟩
  · obtain ⟨y,hy,e1,e2⟩:=relabel_back K.nocell hx
    have q:=K.has y hy e2
    rw [e1] at q
    exact Option.isSome_iff_exists.mp q
  · rcases (hf b hb).2.2.2.1 with z | z
    · exact I.ok.noex b o e z
    · exact absurd (Nat.lt_of_lt_of_le (Heap.lt_size e) (Nat.le_trans I.ok.bsz z)) (Nat.lt_irrefl _)
  · rcases List.mem_cons.mp (I.stkSub b z) with q | q
    · exact (hf b hb).2.1 q
    · exact (hf b hb).2.2.1 q
  ·
    have hi:(capt js σ)[i]?=some (some v):=e2
    unfold capt at hi
    rw [List.getElem?_map] at hi
    cases ej:js[i]? with
    | none=>rw [ej] at hi; cases hi
    | some o =>
      rw [ej] at hi
      cases o with
      | none=>cases hi
      | some j =>
        obtain ⟨y,h1',h2',h3',h4'⟩:=K.cap i j ej
        have e1':N[i]?=some x:=e1
        rw [h1'] at e1'
        cases e1'
        have hj:σ[j]?=some (some v):=by
          cases q:σ[j]? with
          | none=>have hi':(Option.join σ[j]?)=some v:=Option.some.inj hi; rw [q] at hi'; cases hi'
          | some w=>have hi':(Option.join σ[j]?)=some v:=Option.some.inj hi; rw [q] at hi'; cases w with
            | none=>cases hi'
            | some w=>exact congrArg some hi'
        obtain ⟨m,_,hl⟩:=I.loc
        obtain ⟨u,r,l⟩:=hl j x v h2' hj (.inr h4')
        refine ⟨u,r,.inr ⟨h4'.imp (fun z=>relabel_free I.ok.kind h3' z) (fun z=>relabel_keep h3' z),?_⟩⟩
        rcases l with ⟨k,_⟩ | ⟨_,c,ec,hc⟩
        · rcases h4' with h4' | h4' <;> exact absurd (k.symm.trans h4') (by intro z; cases z)
        · obtain ⟨c',ec'⟩:=Option.isSome_iff_exists.mp (K.has (x,.free) (PySem.mem_of_lookup h3') rfl)
          have e3':=hcl x c' ec'
          rw [ec] at e3'
          cases e3'
          exact ⟨c,ec',hc.keeps hk⟩
  · obtain ⟨v,hv⟩:=I.cell x c (hcl x c e)
    exact ⟨v,hv.keeps hk⟩
  · show (capt js σ).length=N.length
    unfold capt
    rw [List.length_map]
    exact K.len
theorem blk_end {σ':St} {H':Hp} {s':Shared} {h':Heap} (I:Inv X pins σ H s) (hf:∀ b∈fp,FpOk X pins H b) (J:Inv (X.blk N scope cl s.heap.objs.size s H fp) [] σ' H' s') (hs:Heap.SameBut s.heap.objs.size s'.heap h') :
    Inv X pins σ H' { s' with heap:=h' }:=by
  have neC:∀ b o,s.heap.get? b=some o→b≠s.heap.objs.size:=fun b o e=>Nat.ne_of_lt (Heap.lt_size e)
  have u:=J.base
  have u':Un (frs X.stack) fp H H' s.heap s'.heap:=u
  refine I.call' (s':={ s' with heap:=h' }) (ch:=fp) J.os ⟨fun b o e n hb hx=>?_,fun b o e n hb hx=>?_,u'.free,fun b o e hx=>?_,u'.tups,u'.frzs,u'.tbls⟩ (fun b ob e=>?_) J.bare fun b hb=>?_
  · exact (hs.2 b (neC b o e)).trans (u'.keep b o e n hb hx)
  · obtain ⟨sl,q⟩:=u'.slot b o e n hb hx
    exact ⟨sl,(hs.2 b (neC b o e)).trans q⟩
  · obtain ⟨o',q⟩:=u'.there b o e hx
    exact ⟨o',(hs.2 b (neC b o e)).trans q⟩
  · have hfree:H' s.heap.objs.size=none:=J.free
    refine (J.hok b ob e).stay (fun c w' hc q=>(hs.2 c ?_).trans q) (fun _ q=>q) fun _ _ q=>q
    rintro rfl
    rcases hc with rfl | hc
    · rw [hfree] at e; cases e
    · rw [hfree] at hc; cases hc
  · obtain ⟨f0,f1,f2,f3,f4,f5⟩:=hf b hb
    exact ⟨f3,f1,f4,f5⟩
end
end L2
namespace L2
open PySem PySem.Spec PyProof.Rows
def PIf (X:Cx) (ifs:List Expr) (t:TT):Prop :=
  ∀ (pins:List (Addr×Obj)) (s:Shared) (σ:St) (H:Hp) (Q:Bool→Hp→Prop),Inv X pins σ H s→t σ H Q →
    wpAny (model X.prog X.w) X.A (forIn ifs true fun c r=>if r=true then (do let ok ← isTrue c X.env (eval c X.env); pure (ForInStep.yield ok)) else pure (ForInStep.yield r)) (TP X pins σ Q) X.xe s
def tYes:TT:=fun _ H Q=>Q true H
theorem pif_nil {X:Cx}:PIf X [] tYes:=fun _ _ _ H _ I h=>wpAny_tests_nil ⟨H,I,h⟩
theorem pif_one {X:Cx} {c:Expr} {t:TT} (h:PT X c t):PIf X [c] t:=fun pins s σ H Q I q=>wpAny_tests_one (h pins s σ H Q I q)
def compR (J:It) (g:TG) (tt:TT) (te:TE) (σc:St) (Q:VK) (H1:Hp):Prop:=∀ D,H1 D=none →
  ∃ W:Nat→Nat→List V→Hp→Prop,(∃ m,W 0 m [] (upd H1 D (.lst [])))∧∀ i m ys H,W i m ys H →
    (J.stop i H∧Q (.ref D) H) ∨
    (J.go i H∧∃ N:List V→Hp→Prop,(∀ zs H',N zs H'→∃ m',m' < m∧W (i + 1) m' zs H')∧∀ x H',J.yld i H x H'→g x σc H' fun σ2 H2=>Sub σc σ2∧tt σ2 H2 fun b H3 =>
      if b=true then te σ2 H3 fun v H4=>H4 D=some (.lst ys)∧ys.length < sizeLine∧N (ys ++ [v]) (upd H4 D (.lst (ys ++ [v]))) else N ys H3)
def tComp (js:List (Option Nat)) (wi:TI) (g:TG) (tt:TT) (te:TE):TE:=fun σ H Q=>wi σ H fun J H1=>compR J g tt te (capt js σ) Q H1
section
variable {prog:Program} {w:World} {A:Around} {R:Result→Shared→Prop} {s:Shared}
theorem comp_loop {elt tg iter:Expr} {ifs:List Expr} {scope:Scope} {pos:Pos} {it acc:Value} {env:Env} (Iv:Nat→Shared→Prop) (F:Value→Shared→Prop) (hF:∀ e s,¬ F e s)
    (turn:∀ n s,Iv n s→wpAny (model prog w) A (pyNext it) (fun r s1=>(r=none→R (.ok .next) s1)∧∀ v,r=some v →
      wpAny (model prog w) A (letOwnedTupleGo tg it v) (fun _ s2=>wpAny (model prog w) A (assign tg env v) (fun _ s3 =>
        wpAny (model prog w) A (forIn ifs true fun c r=>if r=true then (do let ok ← isTrue c env (eval c env); pure (ForInStep.yield ok)) else pure (ForInStep.yield r)) (fun ok s4 =>
          (ok=false→∃ m,m < n∧Iv m s4)∧(ok=true→wpAny (model prog w) A (eval elt env) (fun x s5=>wpAny (model prog w) A (call (.builtin "list.append") [acc,x]) (fun _ s6=>∃ m,m < n∧Iv m s6) F s5) F s4)) F s3) F s2) F s1) F s)
    (n:Nat) (h:Iv n s):codeAny (model prog w) A (.compLoop (.ListComp elt [⟨tg,iter,ifs,0⟩] scope pos) 0 it acc env) R s:=by
  refine codeAny_loop rfl Iv (fun n s hI=>?_) n h
  show wpAny _ A (Sem.onRaise (compTurn (.ListComp elt [⟨tg,iter,ifs,0⟩] scope pos) 0 it acc env) (fun x=>do noteFrame x env; theTreesLotGoes x)) _ _ s
  refine wpAny_noted ?_
  rw [compTurn_list]
  have ff:∀ {E:Value→Shared→Prop} (e:Value) (s:Shared),F e s→E e s:=fun e s z=>(hF e s z).elim
  refine wpAny_bind (wpAny_standAt (wpAny_bind (wpAny_mono (turn n s hI) (fun r s1 h1=>?_) ff)))
  obtain ⟨h0,h1⟩:=h1
  cases r with
  | none=>exact wpAny_pure (h0 rfl)
  | some v =>
    refine wpAny_bind (wpAny_mono (h1 v rfl) (fun _ s2 h2=>?_) ff)
    refine wpAny_bind (wpAny_mono h2 (fun _ s3 h3=>?_) ff)
    refine wpAny_bind (wpAny_mono h3 (fun ok s4 h4=>?_) ff)
    cases ok with
    | false=>exact wpAny_pure ⟨rfl,h4.1 rfl⟩
    | true =>
      refine wpAny_bind (wpAny_bind (wpAny_mono (h4.2 rfl) (fun x s5 h5=>?_) ff))
      exact wpAny_bind (wpAny_mono h5 (fun _ s6 h6=>wpAny_pure (wpAny_pure ⟨rfl,h6⟩)) ff)
end
section
variable {X:Cx} {N:List Str} {scope:Scope} {cl:List (Str×Addr)} {js:List (Option Nat)} {pins:List (Addr×Obj)} {σ:St} {H:Hp} {s:Shared}
theorem comp_core {elt tg iter:Expr} {ifs:List Expr} {pos:Pos} {J:It} {fp:List Addr} {it:Addr} {tn:Nat→Heap→Prop} {g:TG} {tt:TT} {te:TE} {Q:VK} {E:Value→Shared→Prop} {RR:Value→Addr→Result→Shared→Prop}
    (hc:X.calm=true) (K:CompOk X N scope cl js) (I:Inv X pins σ H s) (T:Turn X.prog X.w X.K tg J fp it tn) (st:tn 0 s.heap) (hf:∀ b∈fp,FpOk X pins H b)
    (hg:∀ C s H fp,PG (X.blk N scope cl C s H fp) tg g) (ht:∀ C s H fp,PIf (X.blk N scope cl C s H fp) ifs tt) (he:∀ C s H fp,PE (X.blk N scope cl C s H fp) elt te)
    (hq:compR J g tt te (capt js σ) Q H)
    (hRR:∀ (D:Addr) (s3 s':Shared) (H':Hp) (σ':St),Inv X pins σ (upd H D (.lst [])) s3→(∀ b∈fp,FpOk X pins (upd H D (.lst [])) b)→Inv (X.blk N scope cl s3.heap.objs.size s3 (upd H D (.lst [])) fp) [] σ' H' s'→Q (.ref D) H'→RR (.ref D) s3.heap.objs.size (.ok .next) s') :
    wpAny (model X.prog X.w) X.A (newList []) (fun acc s3=>wpAny (model X.prog X.w) X.A (newFunctionEnv scope X.env.globals cl [] X.env.qual none .none (some X.env)) (fun cenv s4 =>
      codeAny (model X.prog X.w) X.A (.compStart (.ListComp elt [⟨tg,iter,ifs,0⟩] scope pos) 0 (.ref it) acc { cenv with scope:=relabel scope X.env }) (RR acc cenv.locals) s4) E s3) E s:=by
  have fresh:H s.heap.objs.size=none:=I.fresh
  have lt:∀ b∈fp,b < s.heap.objs.size:=fun b hb=>by
    obtain ⟨o,e,_⟩:=T.obj _ _ st b hb
    exact Heap.lt_size e
  obtain ⟨W,⟨m0,w0⟩,step⟩:=hq _ fresh
  refine wpAny_newObj_type ?_
  have I3:=I.lnew (ys:=[]) (its:=[]) (t':=s.toks) .nil (Nat.zero_le _)
  have f3:∀ b∈fp,FpOk X pins (upd H s.heap.objs.size (.lst [])) b:=fun b hb=>⟨by rw [upd_ne (Nat.ne_of_lt (lt b hb))]; exact (hf b hb).1,(hf b hb).2⟩
  generalize e3:({ s with heap:=s.heap.push { cls:=.type "list", data:=.seq ([]:List Value).toArray },toks:=s.toks }:Shared)=s3 at I3
  have st3:tn 0 s3.heap:=by
    rw [← e3]
    exact T.keep _ _ _ st fun b _ o e=>Heap.get?_push_of_some _ e
  have lt3:∀ b∈fp,b < s3.heap.objs.size:=fun b hb=>by
    obtain ⟨o,e,_⟩:=T.obj _ _ st3 b hb
    exact Heap.lt_size e
  refine wpAny_newFunctionEnv K.nocell (by intro y hy; simp at hy) (fun h4 n4 k4=>?_) K.kind
  have old:∀ b o,s3.heap.get? b=some o→h4.get? b=some o:=fun b o e=>(k4.2 b (Nat.ne_of_lt (Heap.lt_size e))).trans (Heap.get?_push_of_some _ e)
  have I4:=blk_start K I3 f3 lt3 (tk:=s3.toks + ([]:List (Str×Value)).length) n4 old
  have st4:tn 0 h4:=T.keep _ _ _ st3 fun b _ o e=>old b o e
  have fpB:∀ {H':Hp},(∀ b∈fp,H' b=none)→∀ b∈fp,FpOk (X.blk N scope cl s3.heap.objs.size s3 (upd H s.heap.objs.size (.lst [])) fp) [] H' b:=fun hn b hb =>
    ⟨hn b hb,Nat.ne_of_lt (lt3 b hb),fun z=>(List.mem_cons.mp (I3.stkSub b z)).elim (f3 b hb).2.1 (f3 b hb).2.2.1,.inl hb,fun x c e=>(f3 b hb).2.2.2.2.1 x c (K.cells (x,c) (PySem.mem_of_lookup e)),fun p hp=>absurd (show p∈([]:List (Addr×Obj)) from hp) (by simp)⟩
  have loop:codeAny (model X.prog X.w) X.A (.compLoop (.ListComp elt [⟨tg,iter,ifs,0⟩] scope pos) 0 (.ref it) (.ref s.heap.objs.size) (compEnvC scope cl s3.heap.objs.size X.env)) (RR (.ref s.heap.objs.size) s3.heap.objs.size)
      ({ s3 with heap:=h4,toks:=s3.toks + ([]:List (Str×Value)).length }:Shared):=by
    refine comp_loop (fun n s'=>∃ i ys H',Inv (X.blk N scope cl s3.heap.objs.size s3 (upd H s.heap.objs.size (.lst [])) fp) [] (capt js σ) H' s'∧tn i s'.heap∧(∀ b∈fp,H' b=none)∧W i n ys H') (fun _ _=>False) (fun _ _ z=>z) ?_ m0
      ⟨0,[],_,I4,st4,fun b hb=>(f3 b hb).1,w0⟩
    rintro n s5 ⟨i,ys,H5,I5,st5,fr5,w5⟩
    rcases step i n ys H5 w5 with ⟨stop,qn⟩ | ⟨go,Nn,hN,nxt⟩
    · refine thn (T.done (X.blk N scope cl s3.heap.objs.size s3 (upd H s.heap.objs.size (.lst [])) fp) rfl rfl rfl hc i [] s5 (capt js σ) H5 _ I5 (fpB fr5) st5 stop) fun r s6 ⟨hr,I6⟩=>⟨fun _=>?_,fun v e=>?_⟩
      · exact hRR _ s3 s6 H5 _ I3 f3 I6 qn
      · rw [hr] at e; cases e
    · refine thn (T.item (X.blk N scope cl s3.heap.objs.size s3 (upd H s.heap.objs.size (.lst [])) fp) rfl rfl rfl hc i [] s5 (capt js σ) H5 _ I5 (fpB fr5) st5 go) fun r s6 ⟨u,hr,h6⟩=>⟨fun e=>?_,fun v e=>?_⟩
      · rw [hr] at e; cases e
      rw [hr] at e; cases e
      refine thn h6 fun _ s7 ⟨x,H7,I7,r7,y7,st7,fr7⟩=>?_
      have I7':=I7.pinned (fpB fr7) (T.obj _ _ st7)
      have back:∀ {σ':St} {H':Hp} {s':Shared} {i' n':Nat} {zs:List V},Inv (X.blk N scope cl s3.heap.objs.size s3 (upd H s.heap.objs.size (.lst [])) fp) ([] ++ pinsAt fp s7.heap) σ' H' s'→Sub (capt js σ) σ'→W (i + 1) n' zs H' →
          ∃ i ys H',Inv (X.blk N scope cl s3.heap.objs.size s3 (upd H s.heap.objs.size (.lst [])) fp) [] (capt js σ) H' s'∧tn i s'.heap∧(∀ b∈fp,H' b=none)∧W i n' ys H':=fun {σ' H' s' i' n' zs} I' sb w'=>by
        refine ⟨i + 1,zs,H',(I'.unpinned).weak sb.1 sb.2,T.keep _ _ _ st7 fun b hb o e=>(I'.pin (b,o) (List.mem_append_right _ (List.mem_append_right _ (mem_pinsAt hb e)))).1,fun b hb=>?_,w'⟩
        obtain ⟨o,e,_⟩:=T.obj _ _ st7 b hb
        exact (I'.pin (b,o) (List.mem_append_right _ (List.mem_append_right _ (mem_pinsAt hb e)))).2.1
      refine thn (hg _ _ _ _ _ s7 (capt js σ) H7 x _ _ I7' r7 (nxt x H7 y7)) fun _ s8 ⟨σ8,H8,I8,sb8,q8⟩=>?_
      refine thn (ht _ _ _ _ _ s8 σ8 H8 _ I8 q8) fun ok s9 ⟨H9,I9,q9⟩=>⟨fun e=>?_,fun e=>?_⟩
      · rw [e,if_neg Bool.false_ne_true] at q9
        obtain ⟨m',hm,w'⟩:=hN _ _ q9
        exact ⟨m',hm,back (i':=0) I9 sb8 w'⟩
      · rw [e,if_pos rfl] at q9
        refine thn (he _ _ _ _ _ s9 σ8 H9 _ I9 q9) fun xv sa ⟨v,Ha,Ia,ra,qa,za,nn⟩=>?_
        obtain ⟨m',hm,w'⟩:=hN _ _ nn
        refine thn (mt_append (X:=X.blk N scope cl s3.heap.objs.size s3 (upd H s.heap.objs.size (.lst [])) fp) _ sa σ8 Ha (.ref s.heap.objs.size) [v] (.ref s.heap.objs.size) [xv] (fun y H'=>H'=upd Ha s.heap.objs.size (.lst (ys ++ [v]))) Ia rfl (.cons ra .nil) ⟨_,ys,v,rfl,rfl,qa,za,rfl⟩) fun y sb ⟨z,Hb,Ib,_,eb⟩=>?_
        rw [eb] at Ib
        exact ⟨m',hm,back (i':=0) Ib sb8 w'⟩
  exact codeAny_compStart_list loop (T.self _ 0 _ _ _ st4 loop)
theorem pe_comp {elt tg iter:Expr} {ifs:List Expr} {pos:Pos} {wi:TI} {g:TG} {tt:TT} {te:TE} (hc:X.calm=true) (K:CompOk X N scope cl js) (hi:PI X tg iter wi)
    (hg:∀ C s H fp,PG (X.blk N scope cl C s H fp) tg g) (ht:∀ C s H fp,PIf (X.blk N scope cl C s H fp) ifs tt) (he:∀ C s H fp,PE (X.blk N scope cl C s H fp) elt te)
    (hs:∀ x,foldedSetIterable iter X.env x=pure x:=by intro _; rfl):PE X (.ListComp elt [⟨tg,iter,ifs,0⟩] scope pos) (tComp js wi g tt te):=by
  intro pins s σ H Q I h
  rw [eval_ListComp]
  refine wpAny_comprehension_free (use:=none) rfl hs K.clos K.kind K.names (thn (hi pins s σ H _ I h) fun v s1 h1=>thn h1 fun itv s2 h2=>?_)
  obtain ⟨it,fp,tn,J,H2,e,I2,T,st2,f2,hq⟩:=h2
  subst e
  refine comp_core (RR:=fun acc C=>compPost (model X.prog X.w) X.A X.xe none (EP X pins σ Q) acc C) hc K I2 T st2 f2 hg ht he hq ?_
  intro D s3 s' H' σ' I3 f3 J' q
  obtain ⟨m,hn,_⟩:=J'.loc
  exact ⟨m,hn,fun h'' hs''=>⟨.ref D,H',blk_end I3 f3 J' hs'',rfl,q⟩⟩
theorem ps_setComp {elt tg iter:Expr} {ifs:List Expr} {pos spos py:Pos} {i:Nat} {y:Str} {wi:TI} {g:TG} {tt:TT} {te:TE} (hc:X.calm=true) (hN:X.N.Nodup) (hiN:X.N[i]?=some y) (hy:X.env.scope.names.lookup y=some .local) (K:CompOk X N scope cl js) (hi:PI X tg iter wi)
    (hg:∀ C s H fp,PG (X.blk N scope cl C s H fp) tg g) (ht:∀ C s H fp,PIf (X.blk N scope cl C s H fp) ifs tt) (he:∀ C s H fp,PE (X.blk N scope cl C s H fp) elt te)
    (hsw:swapsWith (.ListComp elt [⟨tg,iter,ifs,0⟩] scope pos) (some (.Name y py)) spos.line X.env=pure true:=by rfl)
    (hs:∀ x,foldedSetIterable iter X.env x=pure x:=by intro _; rfl):PS X (.Assign [.Name y py] (.ListComp elt [⟨tg,iter,ifs,0⟩] scope pos) spos) (tAsg (tComp js wi g tt te) (gName i)):=by
  intro pins s σ H D I h
  rw [exec_Assign_Name_used _ _ _ _ hsw]
  refine wpAny_bind (wpAny_standAt (wpAny_bind ?_))
  show wpAny _ X.A (do let _ ← comprehension (.ListComp elt [⟨tg,iter,ifs,0⟩] scope pos) scope X.env _ (newList []) false (eval iter X.env) (some (assign (.Name y py) X.env))) _ _ s
  refine wpAny_bind (wpAny_mono (wpAny_comprehension_free (use:=some (assign (.Name y py) X.env)) (Q:=fun _ s'=>SP X pins D .next s') rfl hs K.clos K.kind K.names
    (thn (hi pins s σ H _ I h) fun v s1 h1=>thn h1 fun itv s2 h2=>?_)) (fun _ s' hq=>wpAny_pure (wpAny_pure hq)) fun _ _ e=>e)
  obtain ⟨it,fp,tn,J,H2,e,I2,T,st2,f2,hq⟩:=h2
  subst e
  refine comp_core (RR:=fun acc C=>compPost (model X.prog X.w) X.A X.xe (some (assign (.Name y py) X.env)) (fun _ s'=>SP X pins D .next s') acc C) hc K I2 T st2 f2 hg ht he hq ?_
  intro Dl s3 s' H' σ' I3 f3 J' q
  have I':Inv X pins σ H' s':=blk_end I3 f3 J' (Heap.SameBut.refl ..)
  obtain ⟨m,hn,_⟩:=J'.loc
  have hC:s3.heap.objs.size≠X.env.locals:=Ne.symm (Nat.ne_of_lt I3.lt)
  have hcell:∀ x c,X.env.cells.lookup x=some c→c≠s3.heap.objs.size:=fun x c e z=>by
    obtain ⟨v,q⟩:=I3.cell x c e
    exact absurd q.lt (by rw [z]; exact Nat.lt_irrefl _)
  show wpAny _ X.A (assign (.Name y py) X.env (.ref Dl)) _ _ _
  refine wpAny_assign_Name (store_ok2 I' hN hiN (.inl hy) (v:=.ref Dl) rfl (fun s'' I'' ⟨a,hs2,ha⟩=>?_) (.inr hy))
  have ha':s3.heap.objs.size≠a:=by
    rcases ha with ha | ha
    · rw [ha]; exact hC
    · exact Ne.symm (hcell y a ha)
  refine ⟨m,hn.sameBut hs2 ha',fun h3 hs3=>?_⟩
  refine ⟨_,H',I''.turned (t':=s''.toks) (it:=s3.heap.objs.size) (fun b o hb e=>(hs3.2 b hb).trans e) J'.free hC (.inr I3.sz) hcell (fun p hp z=>?_),q⟩
  exact absurd (Heap.lt_size (I3.pin p hp).1) (by rw [z]; exact Nat.lt_irrefl _)
end
end L2
namespace L2
open PySem PySem.Spec PyProof.Rows
structure Callee (P:Program) (w:World) (K:PySem.W.Frag) (mg:Str→Option Value) (base:Heap) (CX:CXT) (x:Str) (ps:List Str) (k:Nat) (sp:Sp):Prop where
  ex:∃ f fd,FnOk P w K mg base CX k f fd ps sp∧mg x=some (.ref f)∧PySem.W.keepIn K (.ref f)=true∧Binds K fd ps []
section
variable {X:Cx} {CX:CXT} {k:Nat} {ps:List Str} {sp:Sp} {E:XK} {x:Str} {p pos:Pos} {e:Expr} {es:List Expr} {t:TA}
theorem pe_fn (C:Callee X.prog X.w X.K X.mg X.base CX x ps k sp) (hr:Room k X.A) (hg:Gl X x) (hx:Passes CX X E) (ha:PA X (e :: es) t)
    (hdb:(x == ("__debug__" : Str))=false:=by decide) (he:starEach (e :: es) X.env=(false,eval e X.env) :: starEach es X.env:=by rfl) (hpl:(backTo pos (starEach es X.env)).any (·.1)=false:=by rfl) :
    PE X (.Call (.Name x p) (e :: es) [] pos) (tCall sp [] E t):=by
  intro pins s σ H Q I h
  obtain ⟨f,fd,F,hm,hk,hb⟩:=C.ex
  exact (pe_call F hr hg hm hk hb .nil hx ha hdb he hpl) pins s σ H Q I h
end
theorem CompOk.of {X:Cx} {N:List Str} {scope:Scope} {cl:List (Str×Addr)} {js:List (Option Nat)} (clos:closureFor scope X.env=pure cl) (nc:(scope.names.all fun y=>y.2 != .cell)=true) (kind:scope.kind=.function)
    (nm:(scope.names.all fun y=>y.2 != .local || (scope.names.lookup y.1 == some .local))=true) (cells:∀ p∈cl,X.env.cells.lookup p.1=some p.2) (has:(scope.names.all fun y=>y.2 != .free || (cl.lookup y.1).isSome)=true)
    (len:js.length=N.length) (cap:((js.zip N).all fun p=>match p.1 with | none=>true | some j=>(X.N[j]? == some p.2) && (scope.names.lookup p.2 == some .free) && (X.env.scope.names.lookup p.2 == some .cell || X.env.scope.names.lookup p.2 == some .free))=true):CompOk X N scope cl js:=by
  rw [List.all_eq_true] at nc nm has cap
  refine ⟨clos,fun y hy=>by simpa using nc y hy,kind,fun y hy e=>?_,cells,fun y hy e=>?_,len,fun i j e=>?_⟩
  · have q:=nm y hy
    rw [e] at q
    simpa using q
  · have q:=has y hy
    rw [e] at q
    simpa using q
  · have hi:i < js.length:=(List.getElem?_eq_some_iff.mp e).1
    have hx:N[i]?=some (N[i]'(by omega)):=List.getElem?_eq_getElem (by omega)
    have hz:(js.zip N)[i]?=some (some j,N[i]'(by omega)):=by
      rw [List.getElem?_zip_eq_some]
      exact ⟨e,hx⟩
    have q:=cap _ (List.mem_of_getElem? hz)
    simp only [Bool.and_eq_true,Bool.or_eq_true,beq_iff_eq] at q
    exact ⟨_,hx,q.1.1,q.1.2,q.2⟩
theorem Same.new {H:Hp} {p:Addr} (h:H p=none) (o:HO):Same H (upd H p o):=fun b u q=>by rw [upd_ne (ne_of_none q h)]; exact q
def spLaw (K:PySem.W.Frag):Sp:=fun vs H Q _=>∃ (a:Addr) (ns:List Int),vs=[.ref a]∧SqL K H a (ns.map V.int)∧ns.length≤63∧∀ H',Q (.bl true) H'
end L2
namespace L2
open PySem PySem.Spec PyProof.Rows
theorem dp_ints {K:PySem.W.Frag} {H:Hp}:∀ ns:List Int,DpAll K H (ns.map V.int) (ns.map PyData.int)
  | []=>.nil
  | n :: r=>.cons (.int n) (dp_ints r)
end L2
namespace PySem
section
variable {prog:Program} {w:World} {A:Around} {E:Value→Shared→Prop} {s:Shared} {R:Result→Shared→Prop}
end
end PySem
namespace L2
open PySem PySem.Spec PyProof.Rows
section
variable {X:Cx}
end
end L2
namespace L2
open PySem PySem.Spec PyProof.Rows
section
variable {X:Cx} {K:PySem.W.Frag}
theorem ix_listK (hK:X.K=K):IxR X (rIxL K):=by subst hK; exact ix_list
theorem ix_tupK (hK:X.K=K):IxR X (rIxT K):=by subst hK; exact ix_tup
theorem call_len_seqK (hK:X.K=K):CallR X (.builtin "len") (fun xs H Q=>∃ p ys,xs=[.ref p]∧(SqL K H p ys∨SqT K H p ys)∧Q (.int ys.length) H):=by subst hK; exact call_len_seq
theorem call_list_ofK (hK:X.K=K):CallR X (.type "list") (fun xs H Q=>∃ p ys,xs=[.ref p]∧(SqL K H p ys∨SqT K H p ys)∧∀ l,H l=none→Q (.ref l) (upd H l (.lst ys))):=by subst hK; exact call_list_of
theorem sl_listK (hK:X.K=K):SlR X (rSlL K):=by subst hK; exact sl_list
theorem pg_tupK {es:List Expr} {k:Nat} {t:TGs} {n:Nat} {pos:Pos} (hK:X.K=K) (hc:X.calm=true) (h:PGs X es t)
    (hn:(assignEach es X.env).length=n:=by rfl) (hst:(assignEach es X.env).findIdx? (·.1)=none:=by rfl):PG X (.Tuple es k pos) (gTup K n t):=by subst hK; exact pg_tup hc h hn hst
end
end L2
namespace L2
open PySem PySem.Spec PyProof.Rows PySem.SeqAt
section
variable {X:Cx} {K:PySem.W.Frag}
def rEqS (K:PySem.W.Frag):R2:=fun x y H Q=>∃ d,Dp K H x d∧Dp K H y d∧shaped d=true∧Q (.bl true) H
def rNeS (K:PySem.W.Frag):R2:=fun x y H Q=>∃ d,Dp K H x d∧Dp K H y d∧shaped d=true∧Q (.bl false) H
theorem op_eqS (hu:X.A.units + 64 < cLine):OpR X (compareOp .Eq) (rEqS X.K):=by
  intro pins s σ H x y v u Q I rx ry h
  obtain ⟨d,h1,h2,z,q⟩:=h
  obtain ⟨as,ra⟩:=h1.reads I rx
  obtain ⟨bs,rb⟩:=h2.reads I ry
  refine eq_dataH ra rb z z hu ?_
  rw [eqv_refl d (canLay_of_shaped z)]
  exact ⟨.bl true,H,I,rfl,q⟩
theorem op_neS (hu:X.A.units + 64 < cLine):OpR X (compareOp .NotEq) (rNeS X.K):=by
  intro pins s σ H x y v u Q I rx ry h
  obtain ⟨d,h1,h2,z,q⟩:=h
  obtain ⟨as,ra⟩:=h1.reads I rx
  obtain ⟨bs,rb⟩:=h2.reads I ry
  refine ne_dataH ra rb z z hu ?_
  rw [eqv_refl d (canLay_of_shaped z)]
  exact ⟨.bl false,H,I,rfl,q⟩
theorem op_eqSK (hK:X.K=K) (hu:X.A.units + 64 < cLine):OpR X (compareOp .Eq) (rEqS K):=by subst hK; exact op_eqS hu
theorem op_neSK (hK:X.K=K) (hu:X.A.units + 64 < cLine):OpR X (compareOp .NotEq) (rNeS K):=by subst hK; exact op_neS hu
end
end L2
namespace L2
open PySem PySem.Spec PyProof.Rows
section
end
end L2
namespace Cm
open PySem L2
theorem take_succ {α:Type} {xs:List α} {i:Nat} {x:α} (h:xs[i]?=some x):xs.take (i + 1)=xs.take i ++ [x]:=by
  rw [List.take_add_one,h]; rfl
theorem callee {P:Program} {w:World} {K:PySem.W.Frag} {mg:Str→Option Value} {base:Heap} {x:Str} {st:Stmt} {f:Addr} {fd:FuncData} {ps:List Str} {k:Nat} {sp:Sp} (F:Fun K x x st f fd) (hm:mg x=some (.ref f)) (hb:Binds K fd ps []) (G:FnOk P w K mg base CX0 k f fd ps sp) :
    Callee P w K mg base CX0 x ps k sp:=⟨f,fd,G,hm,F.kp,hb⟩
structure At (K:PySem.W.Frag) (x:Str) (st:Stmt) (f:Addr) (fd:FuncData):Prop where
  ns:PySem.W.nsIn K mainGlobals x=some (some (.ref f))
  fn:Fun K x x st f fd
theorem top_mk {K:PySem.W.Frag} {x:Str} {st:Stmt} {f:Addr} {oc:Value} {od an:Option Addr} {osl:Array (Option Value)} {kV doc pm cdv ct:Value} (a:PySem.W.nsIn K mainGlobals x=some (some (.ref f)))
    (l:K.lookup f=some ⟨oc,od,.func (PySem.W.fnOf x x (defArgs st) (defBody st) (defScope st) .none kV doc pm an cdv ct),osl⟩) (c:PySem.W.codeIn K cdv x=true) (k:PySem.W.keepIn K (.ref f)=true):∃ f fd,At K x st f fd:=⟨f,_,a,fun_mk l c k⟩
theorem depth_ints:∀ ns:List Int,PyData.depthAll (ns.map .int)=0
  | []=>rfl
  | n :: r=>by
    show max (PyData.depth (.int n)) (PyData.depthAll (r.map .int))=0
    rw [depth_ints r]; rfl
theorem shaped_ints (ns:List Int):PySem.SeqAt.shaped (.list (ns.map .int))=true:=by
  unfold PySem.SeqAt.shaped
  have h1:PyData.canLay0 (.list (ns.map .int))=true:=by
    show PyData.canLayAll0 (ns.map .int)=true
    induction ns with
    | nil=>rfl
    | cons n r ih =>
      show (PyData.canLay0 (.int n) && PyData.canLayAll0 (r.map .int))=true
      rw [ih]; rfl
  have h2:PyData.depth (.list (ns.map .int))=1:=by
    show PyData.depthAll (ns.map .int) + 1=1
    rw [depth_ints]
  rw [h1,h2]; rfl
end Cm
namespace Cm
open PySem L2
end Cm
namespace PD
open PySem L2
variable {K:PySem.W.Frag}
theorem Same.seqT {H H':Hp} {a:Addr} {xs:List V} (e:Same H H') (h:SqT K H a xs):SqT K H' a xs:=by
  rcases h with (h | ⟨o,h⟩) | h
  · exact .inl (.inl (e _ _ h))
  · exact .inl (.inr ⟨o,e _ _ h⟩)
  · exact .inr h
mutual
theorem dp_same {F F':Hp} (e:Same F F'):∀ {v:V} {d:PyData},Dp K F v d→Dp K F' v d
  | _,_,.non=>.non
  | _,_,.bl b=>.bl b
  | _,_,.int i=>.int i
  | _,_,.str x=>.str x
  | _,_,.lst h k=>.lst (e.seq h) (dpAll_same e k)
  | _,_,.tup h k=>.tup (Same.seqT e h) (dpAll_same e k)
theorem dpAll_same {F F':Hp} (e:Same F F'):∀ {vs:List V} {ds:List PyData},DpAll K F vs ds→DpAll K F' vs ds
  | _,_,.nil=>.nil
  | _,_,.cons h k=>.cons (dp_same e h) (dpAll_same e k)
end
theorem DpAll.length {F:Hp}:∀ {vs:List V} {ds:List PyData},DpAll K F vs ds→vs.length=ds.length
  | _,_,.nil=>rfl
  | _,_,.cons _ k=>congrArg (· + 1) (DpAll.length k)
theorem DpAll.get {F:Hp}:∀ {vs:List V} {ds:List PyData} {i:Nat} {d:PyData},DpAll K F vs ds→ds[i]?=some d→∃ v,vs[i]?=some v∧Dp K F v d
  | _,_,_,_,.nil,e=>by simp at e
  | _,_,0,_,.cons h _,e=>by simp at e; subst e; exact ⟨_,rfl,h⟩
  | _,_,i + 1,d,.cons _ k,e=>by
    obtain ⟨v,h1,h2⟩:=DpAll.get (i:=i) k (by simpa using e)
    exact ⟨v,by simpa using h1,h2⟩
theorem DpAll.append {F:Hp}:∀ {vs ws:List V} {ds es:List PyData},DpAll K F vs ds→DpAll K F ws es→DpAll K F (vs ++ ws) (ds ++ es)
  | _,_,_,_,.nil,k=>k
  | _,_,_,_,.cons h t,k=>.cons h (DpAll.append t k)
theorem DpAll.reverse {F:Hp}:∀ {vs:List V} {ds:List PyData},DpAll K F vs ds→DpAll K F vs.reverse ds.reverse
  | _,_,.nil=>.nil
  | _,_,.cons h t=>by
    rw [List.reverse_cons,List.reverse_cons]
    exact DpAll.append (DpAll.reverse t) (.cons h .nil)
theorem dpAll_ints {F:Hp} (ns:List Int):DpAll K F (ns.map V.int) (ns.map PyData.int):=dp_ints ns
theorem dpAll_of_ints {F:Hp}:∀ {vs:List V} {ns:List Int},DpAll K F vs (ns.map PyData.int)→vs=ns.map V.int
  | _,[],.nil=>rfl
  | _,n :: r,.cons h t=>by cases h; rw [List.map_cons,dpAll_of_ints t]
theorem dp_int {F:Hp} {v:V} {i:Int} (h:Dp K F v (.int i)):v=.int i:=by cases h; rfl
theorem dp_bl {F:Hp} {v:V} {b:Bool} (h:Dp K F v (.bool b)):v=.bl b:=by cases h; rfl
structure Gr (H F H' F':Hp):Prop where
  h:Same H H'
  f:Same F F'
  le:Same F' H'
  ap:∀ a o,H a=some o→F a=none→F' a=none
theorem Gr.refl {H F:Hp} (le:Same F H):Gr H F H F:=⟨.refl _,.refl _,le,fun _ _ _ h=>h⟩
theorem Gr.trans {H F H1 F1 H2 F2:Hp} (a:Gr H F H1 F1) (b:Gr H1 F1 H2 F2):Gr H F H2 F2:=⟨a.h.trans b.h,a.f.trans b.f,b.le,fun c o q n=>b.ap c o (a.h _ _ q) (a.ap c o q n)⟩
theorem Gr.new {H F:Hp} {p:Addr} (le:Same F H) (hp:H p=none) (o:HO):Gr H F (upd H p o) (upd F p o):=by
  have fp:F p=none:=le.free hp
  refine ⟨Same.new hp o,Same.new fp o,fun b u q=>?_,fun b u q n=>?_⟩
  · by_cases e:b=p
    · subst e; rw [upd_same] at q ⊢; exact q
    · rw [upd_ne e] at q ⊢; exact le _ _ q
  · rw [upd_ne (ne_of_none q hp)]; exact n
theorem Gr.newO {H F:Hp} {p:Addr} (le:Same F H) (hp:H p=none) (o:HO):Gr H F (upd H p o) F:=⟨Same.new hp o,.refl _,fun b u q=>by rw [upd_ne (ne_of_none (le _ _ q) hp)]; exact le _ _ q,fun _ _ _ n=>n⟩
inductive Sx where
  | fresh | spoil (T:Addr→Prop)
def Sx.has (S:Sx) (H0:Hp) (a:Addr):Prop:=match S with | .fresh=>H0 a≠none | .spoil T=>H0 a≠none∨T a
def LN (K:PySem.W.Frag) (κ:Bool) (S:Sx) (H0 F:Hp) (a:Addr) (xs:List V):Prop:=match κ with
  | true=>F a=some (.lst xs)∧¬ S.has H0 a
  | false=>SqL K F a xs
theorem LN.sq {κ:Bool} {S:Sx} {H0 F:Hp} {a:Addr} {xs:List V} (h:LN K κ S H0 F a xs):SqL K F a xs:=by
  cases κ with
  | true=>exact SqL.of h.1
  | false=>exact h
theorem LN.mono {κ:Bool} {S:Sx} {H0 F F':Hp} {a:Addr} {xs:List V} (h:LN K κ S H0 F a xs) (e:Same F F'):LN K κ S H0 F' a xs:=by
  cases κ with
  | true=>exact ⟨e _ _ h.1,h.2⟩
  | false=>exact e.seq h
theorem LN.new {κ:Bool} {S:Sx} {H0 F:Hp} {a:Addr} {xs:List V} (h:¬ S.has H0 a):LN K κ S H0 (upd F a (.lst xs)) a xs:=by
  cases κ with
  | true=>exact ⟨upd_same,h⟩
  | false=>exact SqL.of upd_same
mutual
inductive Rp (K:PySem.W.Frag) (κ:Bool) (S:Sx) (H0 F:Hp):V→PyData→Prop
  | non:Rp K κ S H0 F .non .none
  | bl (b:Bool):Rp K κ S H0 F (.bl b) (.bool b)
  | int (i:Int):Rp K κ S H0 F (.int i) (.int i)
  | str (x:Str):Rp K κ S H0 F (.str x) (.str x)
  | lst {a:Addr} {xs:List V} {ds:List PyData}:LN K κ S H0 F a xs→RpAll K κ S H0 F xs ds→Rp K κ S H0 F (.ref a) (.list ds)
  | tup {a:Addr} {xs:List V} {ds:List PyData}:SqT K F a xs→RpAll K κ S H0 F xs ds→Rp K κ S H0 F (.ref a) (.tuple ds)
inductive RpAll (K:PySem.W.Frag) (κ:Bool) (S:Sx) (H0 F:Hp):List V→List PyData→Prop
  | nil:RpAll K κ S H0 F [] []
  | cons {v:V} {vs:List V} {d:PyData} {ds:List PyData}:Rp K κ S H0 F v d→RpAll K κ S H0 F vs ds→RpAll K κ S H0 F (v :: vs) (d :: ds)
end
section
variable {κ κ':Bool} {S S':Sx} {H0 H0' F F':Hp}
mutual
theorem rp_map (hl:∀ a xs,LN K κ S H0 F a xs→LN K κ' S' H0' F' a xs) (ht:∀ a xs,SqT K F a xs→SqT K F' a xs):∀ {v:V} {d:PyData},Rp K κ S H0 F v d→Rp K κ' S' H0' F' v d
  | _,_,.non=>.non
  | _,_,.bl b=>.bl b
  | _,_,.int i=>.int i
  | _,_,.str x=>.str x
  | _,_,.lst h k=>.lst (hl _ _ h) (rpAll_map hl ht k)
  | _,_,.tup h k=>.tup (ht _ _ h) (rpAll_map hl ht k)
theorem rpAll_map (hl:∀ a xs,LN K κ S H0 F a xs→LN K κ' S' H0' F' a xs) (ht:∀ a xs,SqT K F a xs→SqT K F' a xs):∀ {vs:List V} {ds:List PyData},RpAll K κ S H0 F vs ds→RpAll K κ' S' H0' F' vs ds
  | _,_,.nil=>.nil
  | _,_,.cons h k=>.cons (rp_map hl ht h) (rpAll_map hl ht k)
end
theorem rp_mono (e:Same F F') {v:V} {d:PyData} (h:Rp K κ S H0 F v d):Rp K κ S H0 F' v d:=rp_map (fun _ _ z=>z.mono e) (fun _ _ z=>Same.seqT e z) h
theorem rpAll_mono (e:Same F F') {vs:List V} {ds:List PyData} (h:RpAll K κ S H0 F vs ds):RpAll K κ S H0 F' vs ds:=rpAll_map (fun _ _ z=>z.mono e) (fun _ _ z=>Same.seqT e z) h
mutual
theorem rp_dp:∀ {v:V} {d:PyData},Rp K κ S H0 F v d→Dp K F v d
  | _,_,.non=>.non
  | _,_,.bl b=>.bl b
  | _,_,.int i=>.int i
  | _,_,.str x=>.str x
  | _,_,.lst h k=>.lst h.sq (rpAll_dp k)
  | _,_,.tup h k=>.tup h (rpAll_dp k)
theorem rpAll_dp:∀ {vs:List V} {ds:List PyData},RpAll K κ S H0 F vs ds→DpAll K F vs ds
  | _,_,.nil=>.nil
  | _,_,.cons h k=>.cons (rp_dp h) (rpAll_dp k)
end
mutual
theorem dp_rp:∀ {v:V} {d:PyData},Dp K F v d→Rp K false S H0 F v d
  | _,_,.non=>.non
  | _,_,.bl b=>.bl b
  | _,_,.int i=>.int i
  | _,_,.str x=>.str x
  | _,_,.lst h k=>.lst h (dpAll_rp k)
  | _,_,.tup h k=>.tup h (dpAll_rp k)
theorem dpAll_rp:∀ {vs:List V} {ds:List PyData},DpAll K F vs ds→RpAll K false S H0 F vs ds
  | _,_,.nil=>.nil
  | _,_,.cons h k=>.cons (dp_rp h) (dpAll_rp k)
end
theorem rp_weak (hk:κ'=true→κ=true) {v:V} {d:PyData} (h:Rp K κ S H0 F v d):Rp K κ' S H0 F v d:=by
  cases κ' with
  | false=>exact dp_rp (rp_dp h)
  | true=>rw [hk rfl] at h; exact h
theorem RpAll.length {vs:List V} {ds:List PyData} (h:RpAll K κ S H0 F vs ds):vs.length=ds.length:=DpAll.length (rpAll_dp h)
theorem RpAll.get:∀ {vs:List V} {ds:List PyData} {i:Nat} {d:PyData},RpAll K κ S H0 F vs ds→ds[i]?=some d→∃ v,vs[i]?=some v∧Rp K κ S H0 F v d
  | _,_,_,_,.nil,e=>by simp at e
  | _,_,0,_,.cons h _,e=>by simp at e; subst e; exact ⟨_,rfl,h⟩
  | _,_,i + 1,d,.cons _ k,e=>by
    obtain ⟨v,h1,h2⟩:=RpAll.get (i:=i) k (by simpa using e)
    exact ⟨v,by simpa using h1,h2⟩
theorem RpAll.get':∀ {vs:List V} {ds:List PyData} {i:Nat} {v:V},RpAll K κ S H0 F vs ds→vs[i]?=some v→∃ d,ds[i]?=some d∧Rp K κ S H0 F v d
  | _,_,_,_,.nil,e=>by simp at e
  | _,_,0,_,.cons h _,e=>by simp at e; subst e; exact ⟨_,rfl,h⟩
  | _,_,i + 1,d,.cons _ k,e=>by
    obtain ⟨v,h1,h2⟩:=RpAll.get' (i:=i) k (by simpa using e)
    exact ⟨v,by simpa using h1,h2⟩
theorem RpAll.append:∀ {vs ws:List V} {ds es:List PyData},RpAll K κ S H0 F vs ds→RpAll K κ S H0 F ws es→RpAll K κ S H0 F (vs ++ ws) (ds ++ es)
  | _,_,_,_,.nil,k=>k
  | _,_,_,_,.cons h t,k=>.cons h (RpAll.append t k)
theorem RpAll.take:∀ {vs:List V} {ds:List PyData} (n:Nat),RpAll K κ S H0 F vs ds→RpAll K κ S H0 F (vs.take n) (ds.take n)
  | _,_,0,_=>.nil
  | _,_,_ + 1,.nil=>.nil
  | _,_,n + 1,.cons h t=>.cons h (RpAll.take n t)
theorem RpAll.drop:∀ {vs:List V} {ds:List PyData} (n:Nat),RpAll K κ S H0 F vs ds→RpAll K κ S H0 F (vs.drop n) (ds.drop n)
  | _,_,0,r=>r
  | _,_,_ + 1,.nil=>.nil
  | _,_,n + 1,.cons _ t=>RpAll.drop n t
theorem RpAll.set {v:V} {d:PyData} (h:Rp K κ S H0 F v d):∀ {vs:List V} {ds:List PyData} (n:Nat),RpAll K κ S H0 F vs ds→RpAll K κ S H0 F (vs.set n v) (ds.set n d)
  | _,_,_,.nil=>.nil
  | _,_,0,.cons _ t=>.cons h t
  | _,_,n + 1,.cons q t=>.cons q (RpAll.set h n t)
theorem RpAll.reverse:∀ {vs:List V} {ds:List PyData},RpAll K κ S H0 F vs ds→RpAll K κ S H0 F vs.reverse ds.reverse
  | _,_,.nil=>.nil
  | _,_,.cons h t=>by
    rw [List.reverse_cons,List.reverse_cons]
    exact RpAll.append (RpAll.reverse t) (.cons h .nil)
theorem rp_int {v:V} {i:Int} (h:Rp K κ S H0 F v (.int i)):v=.int i:=by cases h; rfl
theorem rp_bl {v:V} {b:Bool} (h:Rp K κ S H0 F v (.bool b)):v=.bl b:=by cases h; rfl
theorem rp_lst {v:V} {ds:List PyData} (h:Rp K κ S H0 F v (.list ds)):∃ a vs,v=.ref a∧LN K κ S H0 F a vs∧RpAll K κ S H0 F vs ds:=by cases h with | lst h k=>exact ⟨_,_,rfl,h,k⟩
theorem rp_tup {v:V} {ds:List PyData} (h:Rp K κ S H0 F v (.tuple ds)):∃ a vs,v=.ref a∧SqT K F a vs∧RpAll K κ S H0 F vs ds:=by cases h with | tup h k=>exact ⟨_,_,rfl,h,k⟩
end
def imm:PyData→Bool
  | .none=>true
  | .bool _=>true
  | .int _=>true
  | .str _=>true
  | .tuple ds=>immAll ds
  | _=>false
where immAll:List PyData→Bool
  | []=>true
  | d :: r=>imm d && immAll r
mutual
theorem dp_imm {κ:Bool} {S:Sx} {H0 F:Hp}:∀ {v:V} {d:PyData},imm d=true→Dp K F v d→Rp K κ S H0 F v d
  | _,_,_,.non=>.non
  | _,_,_,.bl b=>.bl b
  | _,_,_,.int i=>.int i
  | _,_,_,.str x=>.str x
  | _,_,h,.lst _ _=>by unfold imm at h; cases h
  | _,_,h,.tup q k=>.tup q (dpAll_imm (by unfold imm at h; exact h) k)
theorem dpAll_imm {κ:Bool} {S:Sx} {H0 F:Hp}:∀ {vs:List V} {ds:List PyData},imm.immAll ds=true→DpAll K F vs ds→RpAll K κ S H0 F vs ds
  | _,_,_,.nil=>.nil
  | _,_,h,.cons p k=>by
    unfold imm.immAll at h
    rw [Bool.and_eq_true] at h
    exact .cons (dp_imm h.1 p) (dpAll_imm h.2 k)
end
theorem dpAll_immL {κ:Bool} {S:Sx} {H0 F:Hp} {vs:List V} {ds:List PyData} (h:∀ d∈ds,imm d=true) (k:DpAll K F vs ds):RpAll K κ S H0 F vs ds:=by
  refine dpAll_imm ?_ k
  clear k
  induction ds with
  | nil=>rfl
  | cons d r ih =>
    unfold imm.immAll
    rw [h d List.mem_cons_self,ih fun x hx=>h x (List.mem_cons_of_mem _ hx)]
    rfl
inductive DV where
  | fz (κ:Bool) (d:PyData) | ow (κ:Bool) (ds:List PyData) | tn (d:PyData) | ox | o2 (r:Option Addr) (dss:List (List PyData)) | fn (a:Addr) | xn (o:Addr→HO) | oa (a:Addr) (κ:Bool) (ds:List PyData) | xp (φ:Hp→V→Prop) | od (o:HO) | og (ad:Hp→V→Addr→Prop) (ψ:Sx→Hp→Hp→Hp→V→Prop)
abbrev Ctx:=List (Option DV)
structure OwnO (S:Sx) (H0 H F:Hp) (a:Addr) (o:HO):Prop where
  h:H a=some o
  f:F a=none
  n:H0 a=none
  s:¬ S.has H0 a
abbrev OwnAt (S:Sx) (H0 H F:Hp) (a:Addr) (vs:List V):Prop:=OwnO S H0 H F a (.lst vs)
structure IdA (r:Option Addr) (v:V) (a:Addr):Prop where
  eq:v=.ref a
  id:∀ b,r=some b→a=b
structure GOk (ad:Hp→V→Addr→Prop) (ψ:Sx→Hp→Hp→Hp→V→Prop):Prop where
  pl:∀ H H' v,(∀ a,ad H v a→H' a=H a)→∀ a,ad H' v a↔ad H v a
  ps:∀ S H0 H H' F F' v,(∀ a,ad H v a→H' a=H a)→Same F F'→ψ S H0 H F v→ψ S H0 H' F' v
def HasV (K:PySem.W.Frag) (S:Sx) (H0 H F:Hp) (v:V):DV→Prop
  | .fz κ d=>Rp K κ S H0 F v d
  | .ow κ ds=>∃ a vs,v=.ref a∧OwnAt S H0 H F a vs∧RpAll K κ S H0 F vs ds
  | .tn d=>∃ T,S=.spoil T∧Rp K true (.spoil fun a=>¬ T a) (fun _=>none) F v d
  | .ox=>∃ a vs,v=.ref a∧OwnAt S H0 H F a vs
  | .fn a=>v=.ref a
  | .xn o=>∃ a,v=.ref a∧F a=some (o a)
  | .oa a κ ds=>v=.ref a∧∃ vs,OwnAt S H0 H F a vs∧RpAll K κ S H0 F vs ds
  | .xp φ=>∃ F1,Same F1 F∧φ F1 v
  | .od o=>∃ a,v=.ref a∧OwnO S H0 H F a o
  | .og ad ψ=>GOk ad ψ∧(∀ a,ad H v a→∃ o,OwnO S H0 H F a o)∧ψ S H0 H F v
  | .o2 r dss=>∃ a vs,IdA r v a∧OwnAt S H0 H F a vs∧V.ref a∉vs∧vs.Nodup∧vs.length=dss.length∧∀ (j:Nat) x,vs[j]?=some x→∃ b us ds,x=.ref b∧OwnAt S H0 H F b us∧dss[j]?=some ds∧RpAll K true S H0 F us ds
def Owns (H:Hp) (v:V):DV→Addr→Prop
  | .ow _ _,a=>v=.ref a
  | .ox,a=>v=.ref a
  | .oa _ _ _,a=>v=.ref a
  | .od _,a=>v=.ref a
  | .og ad _,a=>ad H v a
  | .o2 _ _,a=>v=.ref a∨∃ p vs,v=.ref p∧H p=some (.lst vs)∧V.ref a∈vs
  | _,_=>False
structure DEnv (K:PySem.W.Frag) (S:Sx) (H0 F0 H F:Hp) (σ:St) (Γ:Ctx):Prop where
  gr:Gr H0 F0 H F
  l0:Same F0 H0
  sd:∀ a,S.has H0 a→∃ o,H a=some o
  s0:∀ T,S=.spoil T→∀ a,T a→H0 a=none
  len:σ.length=Γ.length
  has:∀ (i:Nat) (x:DV),Γ[i]?=some (some x)→∃ v,σ[i]?=some (some v)∧HasV K S H0 H F v x
  ne:∀ (i j:Nat) (x y:DV) (v w:V) (a:Addr),Γ[i]?=some (some x)→Γ[j]?=some (some y)→σ[i]?=some (some v)→σ[j]?=some (some w)→Owns H v x a→Owns H w y a→i=j
variable {S:Sx} {κ:Bool}
theorem DEnv.le {H0 F0 H F:Hp} {σ:St} {Γ:Ctx} (e:DEnv K S H0 F0 H F σ Γ):Same F H:=e.gr.le
theorem DEnv.out {H0 F0 H F:Hp} {σ:St} {Γ:Ctx} (e:DEnv K S H0 F0 H F σ Γ) {p:Addr} (hp:H p=none):¬ S.has H0 p:=fun c=>by
  obtain ⟨o,q⟩:=e.sd p c
  rw [hp] at q; cases q
theorem OwnO.mono {H0 H F H' F':Hp} {a:Addr} {u:HO} (o:OwnO S H0 H F a u) (g:Gr H F H' F'):OwnO S H0 H' F' a u:=⟨g.h _ _ o.h,g.ap _ _ o.h o.f,o.n,o.s⟩
theorem HasV.mono {H0 H F H' F':Hp} {v:V} {x:DV} (h:HasV K S H0 H F v x) (g:Gr H F H' F'):HasV K S H0 H' F' v x:=by
  cases x with
  | fz κ d=>exact rp_mono g.f h
  | ow κ ds=>obtain ⟨a,vs,e,o,k⟩:=h; exact ⟨a,vs,e,o.mono g,rpAll_mono g.f k⟩
  | tn d=>obtain ⟨T,e,k⟩:=h; exact ⟨T,e,rp_mono g.f k⟩
  | ox=>obtain ⟨a,vs,e,o⟩:=h; exact ⟨a,vs,e,o.mono g⟩
  | o2 r dss =>
    obtain ⟨a,vs,e,o,n1,n2,l,k⟩:=h
    refine ⟨a,vs,e,o.mono g,n1,n2,l,fun j x hx=>?_⟩
    obtain ⟨b,us,ds,e2,o2,h2,k2⟩:=k j x hx
    exact ⟨b,us,ds,e2,o2.mono g,h2,rpAll_mono g.f k2⟩
  | fn a=>exact h
  | xn φ=>obtain ⟨a,e,k⟩:=h; exact ⟨a,e,g.f _ _ k⟩
  | oa a κ ds=>obtain ⟨e,vs,o,k⟩:=h; exact ⟨e,vs,o.mono g,rpAll_mono g.f k⟩
  | xp φ=>obtain ⟨F1,s,k⟩:=h; exact ⟨F1,s.trans g.f,k⟩
  | od u=>obtain ⟨a,e,o⟩:=h; exact ⟨a,e,o.mono g⟩
  | og ad ψ =>
    obtain ⟨ok,w,p⟩:=h
    have eq:∀ a,ad H v a→H' a=H a:=fun a z=>by
      obtain ⟨o,y⟩:=w a z
      rw [y.h]
      exact g.h _ _ y.h
    refine ⟨ok,fun a z=>?_,ok.ps S H0 H H' F F' v eq g.f p⟩
    obtain ⟨o,y⟩:=w a ((ok.pl H H' v eq a).mp z)
    exact ⟨o,y.mono g⟩
theorem HasV.owns {H0 H F:Hp} {v:V} {x:DV} {a:Addr} (h:HasV K S H0 H F v x) (o:Owns H v x a):∃ u,OwnO S H0 H F a u:=by
  cases x with
  | fz _ _=>exact o.elim
  | tn _=>exact o.elim
  | ow κ ds=>obtain ⟨b,vs,e,w,_⟩:=h; cases (show v=.ref a from o); cases e; exact ⟨_,w⟩
  | ox=>obtain ⟨b,vs,e,w⟩:=h; cases (show v=.ref a from o); cases e; exact ⟨_,w⟩
  | o2 r dss =>
    obtain ⟨b,vs,e,w,_,_,_,k⟩:=h
    rcases o with o | ⟨p,us,e2,hp,hm⟩
    · cases o; cases e.eq; exact ⟨_,w⟩
    · cases e.eq
      cases e2
      have hw:=w.h
      rw [hp] at hw
      cases hw
      obtain ⟨j,hj⟩:=List.mem_iff_getElem?.mp hm
      obtain ⟨c,ws,ds,e3,o3,_⟩:=k j _ hj
      cases e3
      exact ⟨_,o3⟩
  | fn _=>exact o.elim
  | xn _=>exact o.elim
  | oa b κ ds=>obtain ⟨e,vs,w,_⟩:=h; cases (show v=.ref a from o); cases e; exact ⟨_,w⟩
  | xp _=>exact o.elim
  | od u=>obtain ⟨b,e,w⟩:=h; cases (show v=.ref a from o); cases e; exact ⟨u,w⟩
  | og ad ψ=>exact h.2.1 a o
theorem Owns.back {H0 H F H':Hp} {v:V} {x:DV} {a:Addr} (h:HasV K S H0 H F v x) (g:∀ b u,OwnO S H0 H F b u→H' b=some u) (o:Owns H' v x a):Owns H v x a:=by
  cases x with
  | fz _ _=>exact o.elim
  | tn _=>exact o.elim
  | ow κ ds=>exact o
  | ox=>exact o
  | o2 r dss =>
    rcases o with o | ⟨p,us,e2,hp,hm⟩
    · exact .inl o
    · obtain ⟨b,vs,e',w,_⟩:=h
      have e:=e'.eq
      rw [e2] at e
      cases e
      rw [g _ _ w] at hp
      cases hp
      exact .inr ⟨p,_,e2,w.h,hm⟩
  | fn _=>exact o.elim
  | xn _=>exact o.elim
  | oa b κ ds=>exact o
  | xp _=>exact o.elim
  | od _=>exact o
  | og ad ψ =>
    obtain ⟨ok,w,p⟩:=h
    exact (ok.pl H H' v (fun b z=>by
      obtain ⟨u,y⟩:=w b z
      rw [g _ _ y,y.h]) a).mp o
theorem DEnv.mono {H0 F0 H F H' F':Hp} {σ:St} {Γ:Ctx} (e:DEnv K S H0 F0 H F σ Γ) (g:Gr H F H' F'):DEnv K S H0 F0 H' F' σ Γ where
  gr:=e.gr.trans g
  l0:=e.l0
  sd:=fun a h=>let ⟨o,q⟩:=e.sd a h; ⟨o,g.h _ _ q⟩
  s0:=e.s0
  len:=e.len
  has:=fun i x h=>let ⟨v,a,b⟩:=e.has i x h; ⟨v,a,b.mono g⟩
  ne:=fun i j x y v w a h1 h2 h3 h4 o1 o2=>by
    obtain ⟨v',q1,q2⟩:=e.has i x h1
    obtain ⟨w',q3,q4⟩:=e.has j y h2
    rw [h3] at q1
    cases q1
    rw [h4] at q3
    cases q3
    exact e.ne i j x y v w a h1 h2 h3 h4 (o1.back q2 fun _ _ z=>g.h _ _ z.h) (o2.back q4 fun _ _ z=>g.h _ _ z.h)
section
variable {Γ:Ctx}
def EvE (K:PySem.W.Frag) (S:Sx) (κ:Bool) (t:TE) (Γ:Ctx) (d:PyData):Prop:=∀ (H0 F0 H F:Hp) (σ:St),DEnv K S H0 F0 H F σ Γ→∀ Q:VK,(∀ v H' F',Gr H F H' F'→Rp K κ S H0 F' v d→Q v H')→t σ H Q
def EvO (K:PySem.W.Frag) (S:Sx) (κ:Bool) (t:TE) (Γ:Ctx) (ds:List PyData):Prop:=∀ (H0 F0 H F:Hp) (σ:St),DEnv K S H0 F0 H F σ Γ→∀ Q:VK,(∀ a vs H' F',Gr H F H' F'→H a=none→H' a=some (.lst vs)→F' a=none→RpAll K κ S H0 F' vs ds→Q (.ref a) H')→t σ H Q
def EvL (K:PySem.W.Frag) (S:Sx) (κ:Bool) (t:TE) (Γ:Ctx) (ds:List PyData):Prop:=∀ (H0 F0 H F:Hp) (σ:St),DEnv K S H0 F0 H F σ Γ→∀ Q:VK,(∀ a vs H' F',Gr H F H' F'→SqL K H' a vs→RpAll K κ S H0 F' vs ds→Q (.ref a) H')→t σ H Q
def EvD (K:PySem.W.Frag) (S:Sx) (t:TE) (Γ:Ctx) (d:PyData):Prop:=∀ (H0 F0 H F:Hp) (σ:St),DEnv K S H0 F0 H F σ Γ→∀ Q:VK,(∀ v H' F',Gr H F H' F'→Dp K H' v d→Q v H')→t σ H Q
def EvT (K:PySem.W.Frag) (S:Sx) (t:TT) (Γ:Ctx) (b:Bool):Prop:=∀ (H0 F0 H F:Hp) (σ:St),DEnv K S H0 F0 H F σ Γ→∀ Q:Bool→Hp→Prop,(∀ H' F',Gr H F H' F'→Q b H')→t σ H Q
def EvA (K:PySem.W.Frag) (S:Sx) (κ:Bool) (t:TA) (Γ:Ctx) (ds:List PyData):Prop:=∀ (H0 F0 H F:Hp) (σ:St),DEnv K S H0 F0 H F σ Γ→∀ Q:List V→Hp→Prop,(∀ vs H' F',Gr H F H' F'→RpAll K κ S H0 F' vs ds→Q vs H')→t σ H Q
def EvP (K:PySem.W.Frag) (S:Sx) (t:TO) (Γ:Ctx) (o:Option Int):Prop:=∀ (H0 F0 H F:Hp) (σ:St),DEnv K S H0 F0 H F σ Γ→∀ Q:Option Int→Hp→Prop,(∀ H' F',Gr H F H' F'→Q o H')→t σ H Q
theorem EvE.toD {t:TE} {d:PyData} (h:EvE K S κ t Γ d):EvD K S t Γ d:=fun H0 F0 H F σ e Q q=>h H0 F0 H F σ e Q fun v H' F' g p=>q v H' F' g (dp_same g.le (rp_dp p))
theorem EvE.weak {κ':Bool} {t:TE} {d:PyData} (h:EvE K S κ t Γ d) (hk:κ'=true→κ=true):EvE K S κ' t Γ d:=fun H0 F0 H F σ e Q q=>h H0 F0 H F σ e Q fun v H' F' g p=>q v H' F' g (rp_weak hk p)
theorem EvE.imm {κ':Bool} {t:TE} {d:PyData} (h:EvE K S κ t Γ d) (hk:imm d=true):EvE K S κ' t Γ d:=fun H0 F0 H F σ e Q q=>h H0 F0 H F σ e Q fun v H' F' g p=>q v H' F' g (dp_imm hk (rp_dp p))
theorem EvE.toL {t:TE} {ds:List PyData} (h:EvE K S κ t Γ (.list ds)):EvL K S κ t Γ ds:=fun H0 F0 H F σ e Q q=>h H0 F0 H F σ e Q fun v H' F' g p=>by
  obtain ⟨a,vs,rfl,h1,h2⟩:=rp_lst p
  exact q a vs H' F' g (g.le.seq h1.sq) h2
theorem EvL.imm {κ':Bool} {t:TE} {ds:List PyData} (h:EvL K S κ t Γ ds) (hk:∀ d∈ds,imm d=true):EvL K S κ' t Γ ds:=fun H0 F0 H F σ e Q q=>h H0 F0 H F σ e Q fun a vs H' F' g p k=>q a vs H' F' g p (dpAll_immL hk (rpAll_dp k))
theorem EvO.toL {t:TE} {ds:List PyData} (h:EvO K S κ t Γ ds):EvL K S κ t Γ ds:=fun H0 F0 H F σ e Q q=>h H0 F0 H F σ e Q fun a vs H' F' g _ p _ k=>q a vs H' F' g (SqL.of p) k
theorem EvO.toE {t:TE} {ds:List PyData} (h:EvO K S κ t Γ ds):EvE K S κ t Γ (.list ds):=fun H0 F0 H F σ e Q q=>h H0 F0 H F σ e Q fun a vs H' F' g n p f k=>by
  have s:Same F' (upd F' a (.lst vs)):=Same.new f _
  refine q (.ref a) H' (upd F' a (.lst vs)) ⟨g.h,g.f.trans s,fun b u z=>?_,fun b u z y=>?_⟩ (.lst (LN.new (e.out n)) (rpAll_mono s k))
  · by_cases eb:b=a
    · subst eb; rw [upd_same] at z; rw [← z]; exact p
    · rw [upd_ne eb] at z; exact g.le _ _ z
  · rw [upd_ne (ne_of_none z n)]; exact g.ap _ _ z y
theorem evl_own {i:Nat} {ds:List PyData} (h:Γ[i]?=some (some (.ow κ ds))):EvL K S κ (tVar i) Γ ds:=fun H0 F0 H F σ e Q q=>by
  obtain ⟨v,h1,a,vs,rfl,o,k⟩:=e.has i _ h
  exact ⟨_,h1,q a vs H F (.refl e.le) (SqL.of o.h) k⟩
theorem ev_var {i:Nat} {d:PyData} (h:Γ[i]?=some (some (.fz κ d))):EvE K S κ (tVar i) Γ d:=fun H0 F0 H F σ e Q q=>by
  obtain ⟨v,hv,hd⟩:=e.has i _ h
  exact ⟨v,hv,q v H F (.refl e.le) hd⟩
theorem ev_tnt {i:Nat} {d:PyData} (h:Γ[i]?=some (some (.tn d))):EvE K S false (tVar i) Γ d:=fun H0 F0 H F σ e Q q=>by
  obtain ⟨v,hv,T,_,hd⟩:=e.has i _ h
  exact ⟨v,hv,q v H F (.refl e.le) (dp_rp (rp_dp hd))⟩
theorem ev_int {i:Int}:EvE K S κ (tC (.int i)) Γ (.int i):=fun _ _ H F _ e _ q=>q _ H F (.refl e.le) (.int i)
theorem ev_bl {b:Bool}:EvE K S κ (tC (.bl b)) Γ (.bool b):=fun _ _ H F _ e _ q=>q _ H F (.refl e.le) (.bl b)
theorem ev_op {r:R2} {ta tb:TE} {x y d:PyData} (ha:EvE K S false ta Γ x) (hb:EvE K S false tb Γ y) (hr:∀ v w H F (Q:VK),Same F H→Dp K F v x→Dp K F w y→(∀ z,(∀ F,Dp K F z d)→Q z H)→r v w H Q) (hi:imm d=true:=by rfl):EvE K S κ (tOp r ta tb) Γ d:=fun H0 F0 H F σ e Q q =>
  ha H0 F0 H F σ e _ fun v H1 F1 g1 p1=>hb H0 F0 H1 F1 σ (e.mono g1) _ fun w H2 F2 g2 p2=>by
    exact hr v w H2 F2 Q g2.le (dp_same g2.f (rp_dp p1)) (rp_dp p2) fun z p3=>q z H2 F2 (g1.trans g2) (dp_imm hi (p3 F2))
theorem ev_I0 {g:Int→Int→V} {ta tb:TE} {i j:Int} {d:PyData} (hi:imm d=true) (hg:∀ F,Dp K F (g i j) d) (ha:EvE K S false ta Γ (.int i)) (hb:EvE K S false tb Γ (.int j)):EvE K S κ (tOp (rI0 g) ta tb) Γ d :=
  ev_op ha hb (fun v w H F Q le p1 p2 k=>by cases dp_int p1; cases dp_int p2; exact ⟨i,j,rfl,rfl,k _ hg⟩) hi
theorem ev_I {C:Int→Int→Prop} {g:Int→Int→V} {ta tb:TE} {i j:Int} {d:PyData} (hi:imm d=true) (hg:∀ F,Dp K F (g i j) d) (ha:EvE K S false ta Γ (.int i)) (hb:EvE K S false tb Γ (.int j)) (hc:C i j):EvE K S κ (tOp (rI C g) ta tb) Γ d :=
  ev_op ha hb (fun v w H F Q le p1 p2 k=>by cases dp_int p1; cases dp_int p2; exact ⟨i,j,rfl,rfl,hc,k _ hg⟩) hi
theorem ev_add {ta tb:TE} {i j:Int} (ha:EvE K S false ta Γ (.int i)) (hb:EvE K S false tb Γ (.int j)):EvE K S κ (tOp (rI0 fun i j=>.int (i + j)) ta tb) Γ (.int (i + j)):=ev_I0 rfl (fun _=>.int _) ha hb
theorem ev_sub {ta tb:TE} {i j:Int} (ha:EvE K S false ta Γ (.int i)) (hb:EvE K S false tb Γ (.int j)):EvE K S κ (tOp (rI0 fun i j=>.int (i - j)) ta tb) Γ (.int (i - j)):=ev_I0 rfl (fun _=>.int _) ha hb
theorem ev_lt {ta tb:TE} {i j:Int} (ha:EvE K S false ta Γ (.int i)) (hb:EvE K S false tb Γ (.int j)):EvE K S κ (tOp (rI0 fun i j=>.bl (decide (i < j))) ta tb) Γ (.bool (decide (i < j))):=ev_I0 rfl (fun _=>.bl _) ha hb
theorem ev_gt {ta tb:TE} {i j:Int} (ha:EvE K S false ta Γ (.int i)) (hb:EvE K S false tb Γ (.int j)):EvE K S κ (tOp (rI0 fun i j=>.bl (decide (j < i))) ta tb) Γ (.bool (decide (j < i))):=ev_I0 rfl (fun _=>.bl _) ha hb
theorem ev_ge {ta tb:TE} {i j:Int} (ha:EvE K S false ta Γ (.int i)) (hb:EvE K S false tb Γ (.int j)):EvE K S κ (tOp (rI0 fun i j=>.bl (decide (j≤i))) ta tb) Γ (.bool (decide (j≤i))):=ev_I0 rfl (fun _=>.bl _) ha hb
theorem ev_mul {ta tb:TE} {i j:Int} (ha:EvE K S false ta Γ (.int i)) (hb:EvE K S false tb Γ (.int j)) (hc:IntMulOk i j):EvE K S κ (tOp (rI IntMulOk fun i j=>.int (i * j)) ta tb) Γ (.int (i * j)):=ev_I rfl (fun _=>.int _) ha hb hc
theorem ev_fdiv {ta tb:TE} {i j:Int} (ha:EvE K S false ta Γ (.int i)) (hb:EvE K S false tb Γ (.int j)) (hc:CDiv i j):EvE K S κ (tOp (rI CDiv fun i j=>.int (i / j)) ta tb) Γ (.int (i / j)):=ev_I rfl (fun _=>.int _) ha hb hc
theorem ev_fdivB {ta tb:TE} {i j:Int} (ha:EvE K S false ta Γ (.int i)) (hb:EvE K S false tb Γ (.int j)) (hc:CDivB i j):EvE K S κ (tOp (rI CDivB fun i j=>.int (i / j)) ta tb) Γ (.int (i / j)):=ev_I rfl (fun _=>.int _) ha hb hc
theorem ev_mod {ta tb:TE} {i j:Int} (ha:EvE K S false ta Γ (.int i)) (hb:EvE K S false tb Γ (.int j)) (hc:0 < j):EvE K S κ (tOp (rI (fun _ j=>0 < j) fun i j=>.int (i % j)) ta tb) Γ (.int (i % j)):=ev_I rfl (fun _=>.int _) ha hb hc
theorem ev_pow {ta tb:TE} {i j:Int} (ha:EvE K S false ta Γ (.int i)) (hb:EvE K S false tb Γ (.int j)) (hc:CPow i j):EvE K S κ (tOp (rI CPow fun i j=>.int (i ^ j.toNat)) ta tb) Γ (.int (i ^ j.toNat)):=ev_I rfl (fun _=>.int _) ha hb hc
theorem dec_int (i j:Int):decide (V.int i=V.int j)=decide (i=j):=by by_cases h:i=j <;> simp [h]
theorem ev_eqI {ta tb:TE} {i j:Int} (ha:EvE K S false ta Γ (.int i)) (hb:EvE K S false tb Γ (.int j)):EvE K S κ (tOp rEq ta tb) Γ (.bool (decide (i=j))) :=
  ev_op ha hb fun v w H F Q le p1 p2 k=>by
    cases dp_int p1; cases dp_int p2
    refine ⟨rfl,?_⟩
    rw [dec_int]; exact k _ fun _=>.bl _
theorem ev_neI {ta tb:TE} {i j:Int} (ha:EvE K S false ta Γ (.int i)) (hb:EvE K S false tb Γ (.int j)):EvE K S κ (tOp rNe ta tb) Γ (.bool (!(decide (i=j)))) :=
  ev_op ha hb fun v w H F Q le p1 p2 k=>by
    cases dp_int p1; cases dp_int p2
    refine ⟨rfl,?_⟩
    rw [dec_int]; exact k _ fun _=>.bl _
theorem ev_eqSm {ta tb:TE} {d:PyData} (ha:EvD K S ta Γ d) (hb:EvD K S tb Γ d) (z:SeqAt.shaped d=true):EvE K S κ (tOp (rEqS K) ta tb) Γ (.bool true):=fun H0 F0 H F σ e Q q =>
  ha H0 F0 H F σ e _ fun v H1 F1 g1 p1=>hb H0 F0 H1 F1 σ (e.mono g1) _ fun w H2 F2 g2 p2=>⟨d,dp_same g2.h p1,p2,z,q _ H2 F2 (g1.trans g2) (.bl _)⟩
theorem ev_neSm {ta tb:TE} {d:PyData} (ha:EvD K S ta Γ d) (hb:EvD K S tb Γ d) (z:SeqAt.shaped d=true):EvE K S κ (tOp (rNeS K) ta tb) Γ (.bool false):=fun H0 F0 H F σ e Q q =>
  ha H0 F0 H F σ e _ fun v H1 F1 g1 p1=>hb H0 F0 H1 F1 σ (e.mono g1) _ fun w H2 F2 g2 p2=>⟨d,dp_same g2.h p1,p2,z,q _ H2 F2 (g1.trans g2) (.bl _)⟩
theorem atI_dp {H0 F:Hp} {vs:List V} {ds:List PyData} {i:Int} {d:PyData} (k:RpAll K κ S H0 F vs ds) (h:atI ds i=some d):∃ v,atI vs i=some v∧Rp K κ S H0 F v d:=by
  unfold atI at h ⊢
  rw [RpAll.length k]
  cases e:ixN ds.length i with
  | none=>rw [e] at h; cases h
  | some j=>rw [e] at h; exact RpAll.get k h
theorem ev_ixL {ta tb:TE} {ds:List PyData} {i:Int} {d:PyData} (ha:EvL K S κ ta Γ ds) (hb:EvE K S false tb Γ (.int i)) (h:atI ds i=some d):EvE K S κ (tOp (rIxL K) ta tb) Γ d:=fun H0 F0 H F σ e Q q =>
  ha H0 F0 H F σ e _ fun a vs H1 F1 g1 p1 k1=>hb H0 F0 H1 F1 σ (e.mono g1) _ fun w H2 F2 g2 p2=>by
    cases rp_int p2
    obtain ⟨v,h1,h2⟩:=atI_dp (rpAll_mono g2.f k1) h
    exact ⟨a,vs,i,v,rfl,rfl,g2.h.seq p1,h1,q _ H2 F2 (g1.trans g2) h2⟩
theorem ev_ixT {ta tb:TE} {ds:List PyData} {i:Int} {d:PyData} (ha:EvE K S κ ta Γ (.tuple ds)) (hb:EvE K S false tb Γ (.int i)) (h:atI ds i=some d):EvE K S κ (tOp (rIxT K) ta tb) Γ d:=fun H0 F0 H F σ e Q q =>
  ha H0 F0 H F σ e _ fun v H1 F1 g1 p1=>hb H0 F0 H1 F1 σ (e.mono g1) _ fun w H2 F2 g2 p2=>by
    cases rp_int p2
    obtain ⟨a,vs,rfl,h1,h2⟩:=rp_tup p1
    obtain ⟨v,h3,h4⟩:=atI_dp (rpAll_mono g2.f h2) h
    exact ⟨a,vs,i,v,rfl,rfl,Same.seqT (g1.le.trans g2.h) h1,h3,q _ H2 F2 (g1.trans g2) h4⟩
theorem ev_and {ta tb:TE} {a b:Bool} (ha:EvE K S false ta Γ (.bool a)) (hb:a=true→EvE K S false tb Γ (.bool b)):EvE K S κ (tAndV ta tb) Γ (.bool (a && b)):=fun H0 F0 H F σ e Q q =>
  ha H0 F0 H F σ e _ fun v H1 F1 g1 p1=>by
    cases rp_bl p1
    refine ⟨a,rfl,?_⟩
    cases a with
    | true=>exact iteT (hb rfl H0 F0 H1 F1 σ (e.mono g1) Q fun v H2 F2 g2 p2=>by cases rp_bl p2; exact q _ H2 F2 (g1.trans g2) (.bl _))
    | false=>exact iteF (q _ H1 F1 g1 (.bl _))
theorem ev_not {ta:TE} {a:Bool} (ha:EvE K S false ta Γ (.bool a)):EvE K S κ (tNotV ta) Γ (.bool (!a)):=fun H0 F0 H F σ e Q q =>
  ha H0 F0 H F σ e _ fun v H1 F1 g1 p1=>by cases rp_bl p1; exact ⟨a,rfl,q _ H1 F1 g1 (.bl _)⟩
theorem et_test {t:TE} {b:Bool} (h:EvE K S false t Γ (.bool b)):EvT K S (tTest t) Γ b:=fun H0 F0 H F σ e Q q =>
  h H0 F0 H F σ e _ fun v H1 F1 g1 p1=>by cases rp_bl p1; exact ⟨b,rfl,q H1 F1 g1⟩
theorem et_B {t:TE} {b:Bool} (h:EvE K S false t Γ (.bool b)):EvT K S (tB t) Γ b:=fun H0 F0 H F σ e Q q =>
  h H0 F0 H F σ e _ fun v H1 F1 g1 p1=>by cases rp_bl p1; exact ⟨b,rfl,q H1 F1 g1⟩
theorem et_and {t u:TT} {a b:Bool} (ha:EvT K S t Γ a) (hb:a=true→EvT K S u Γ b):EvT K S (tAnd t u) Γ (a && b):=fun H0 F0 H F σ e Q q =>
  ha H0 F0 H F σ e _ fun H1 F1 g1=>by
    cases a with
    | true=>exact iteT (hb rfl H0 F0 H1 F1 σ (e.mono g1) Q fun H2 F2 g2=>q H2 F2 (g1.trans g2))
    | false=>exact iteF (q H1 F1 g1)
theorem et_or {t u:TT} {a b:Bool} (ha:EvT K S t Γ a) (hb:a=false→EvT K S u Γ b):EvT K S (tOr t u) Γ (a || b):=fun H0 F0 H F σ e Q q =>
  ha H0 F0 H F σ e _ fun H1 F1 g1=>by
    cases a with
    | false=>exact iteF (hb rfl H0 F0 H1 F1 σ (e.mono g1) Q fun H2 F2 g2=>q H2 F2 (g1.trans g2))
    | true=>exact iteT (q H1 F1 g1)
theorem et_not {t:TT} {a:Bool} (ha:EvT K S t Γ a):EvT K S (tNot t) Γ (!a):=fun H0 F0 H F σ e Q q=>ha H0 F0 H F σ e _ fun H1 F1 g1=>q H1 F1 g1
theorem et_yes:EvT K S tYes Γ true:=fun H0 F0 H F σ e Q q=>q H F (.refl e.le)
theorem EvT.eq {t:TT} {a b:Bool} (h:EvT K S t Γ a) (e:a=b):EvT K S t Γ b:=e ▸ h
theorem EvE.eq {t:TE} {a b:PyData} (h:EvE K S κ t Γ a) (e:a=b):EvE K S κ t Γ b:=e ▸ h
theorem EvO.eq {t:TE} {a b:List PyData} (h:EvO K S κ t Γ a) (e:a=b):EvO K S κ t Γ b:=e ▸ h
theorem ea_nil:EvA K S κ tNil Γ []:=fun H0 F0 H F σ e Q q=>q [] H F (.refl e.le) .nil
theorem ea_cons {t:TE} {u:TA} {d:PyData} {ds:List PyData} (h:EvE K S κ t Γ d) (k:EvA K S κ u Γ ds):EvA K S κ (tCons t u) Γ (d :: ds):=fun H0 F0 H F σ e Q q =>
  h H0 F0 H F σ e _ fun v H1 F1 g1 p1=>k H0 F0 H1 F1 σ (e.mono g1) _ fun vs H2 F2 g2 p2=>q _ H2 F2 (g1.trans g2) (.cons (rp_mono g2.f p1) p2)
theorem ev_tup {t:TA} {ds:List PyData} (h:EvA K S κ t Γ ds) (hz:ds.length≤sizeLine):EvE K S κ (tTup t) Γ (.tuple ds):=fun H0 F0 H F σ e Q q =>
  h H0 F0 H F σ e _ fun vs H1 F1 g1 p1=>⟨by rw [RpAll.length p1]; exact hz,fun p hp=>q _ _ (upd F1 p (.tup vs)) (g1.trans (.new g1.le hp _)) (.tup (SqT.of upd_same) (rpAll_mono (Same.new (g1.le.free hp) _) p1))⟩
theorem evo_lst {t:TA} {ds:List PyData} (h:EvA K S κ t Γ ds) (hz:ds.length≤sizeLine):EvO K S κ (tLst t) Γ ds:=fun H0 F0 H F σ e Q q =>
  h H0 F0 H F σ e _ fun vs H1 F1 g1 p1=>⟨by rw [RpAll.length p1]; exact hz,fun p hp=>q p vs _ F1 (g1.trans (.newO g1.le hp _)) (g1.h.free hp) upd_same (g1.le.free hp) p1⟩
def spD (K:PySem.W.Frag) (κ:Bool) (pre:List PyData→PyData→Prop):Sp:=fun vs H Q _=>∃ F ds d,Same F H∧DpAll K F vs ds∧pre ds d∧∀ v H' F',Gr H F H' F'→Rp K κ .fresh H F' v d→Q v H'
theorem ev_callF {pre:List PyData→PyData→Prop} {E:XK} {t:TA} {ds:List PyData} {d:PyData} (h:EvA K S false t Γ ds) (hp:pre ds d):EvE K S κ (tCall (spD K true pre) [] E t) Γ d:=fun H0 F0 H F σ e Q q =>
  h H0 F0 H F σ e _ fun vs H1 F1 g1 p1=>⟨F1,ds,d,g1.le,by rw [List.append_nil]; exact rpAll_dp p1,hp,fun v H2 F2 g2 p2=>q v H2 F2 (g1.trans g2) (rp_weak (κ:=true) (fun _=>rfl) (rp_map (κ:=true) (κ':=true) (S':=S) (H0':=H0) (fun a xs z=>⟨z.1,fun c=>by
    obtain ⟨u,hu⟩:=(e.mono g1).sd a c
    exact z.2 (by show H1 a≠none; rw [hu]; simp)⟩) (fun _ _ z=>z) p2))⟩
theorem ev_callN {pre:List PyData→PyData→Prop} {E:XK} {t:TA} {ds:List PyData} {d:PyData} (h:EvA K S false t Γ ds) (hp:pre ds d):EvE K S false (tCall (spD K false pre) [] E t) Γ d:=fun H0 F0 H F σ e Q q =>
  h H0 F0 H F σ e _ fun vs H1 F1 g1 p1=>⟨F1,ds,d,g1.le,by rw [List.append_nil]; exact rpAll_dp p1,hp,fun v H2 F2 g2 p2=>q v H2 F2 (g1.trans g2) (dp_rp (rp_dp p2))⟩
theorem ev_len {ta:TE} {ds:List PyData} (h:EvL K S false ta Γ ds):EvE K S κ (tCB (fun xs H Q=>∃ p ys,xs=[.ref p]∧(SqL K H p ys∨SqT K H p ys)∧Q (.int ys.length) H) (tCons ta tNil)) Γ (.int ds.length):=fun H0 F0 H F σ e Q q =>
  h H0 F0 H F σ e _ fun a vs H1 F1 g1 p1 k1=>⟨a,vs,rfl,.inl p1,q _ H1 F1 g1 (by rw [RpAll.length k1]; exact .int _)⟩
theorem ev_lenT {ta:TE} {ds:List PyData} (h:EvE K S false ta Γ (.tuple ds)):EvE K S κ (tCB (fun xs H Q=>∃ p ys,xs=[.ref p]∧(SqL K H p ys∨SqT K H p ys)∧Q (.int ys.length) H) (tCons ta tNil)) Γ (.int ds.length):=fun H0 F0 H F σ e Q q =>
  h H0 F0 H F σ e _ fun v H1 F1 g1 p1=>by
    obtain ⟨a,vs,rfl,h1,h2⟩:=rp_tup p1
    exact ⟨a,vs,rfl,.inr (Same.seqT g1.le h1),q _ H1 F1 g1 (by rw [RpAll.length h2]; exact .int _)⟩
theorem evo_list {ta:TE} {ds:List PyData} (h:EvL K S κ ta Γ ds):EvO K S κ (tCB (fun xs H Q=>∃ p ys,xs=[.ref p]∧(SqL K H p ys∨SqT K H p ys)∧∀ l,H l=none→Q (.ref l) (upd H l (.lst ys))) (tCons ta tNil)) Γ ds:=fun H0 F0 H F σ e Q q =>
  h H0 F0 H F σ e _ fun a vs H1 F1 g1 p1 k1=>⟨a,vs,rfl,.inl p1,fun p hp=>q p vs _ F1 (g1.trans (.newO g1.le hp _)) (g1.h.free hp) upd_same (g1.le.free hp) k1⟩
def cutD (xs:List PyData) (lo hi:Option Int):List PyData:=(xs.drop (HT.sIx xs.length 0 lo)).take (HT.sIx xs.length xs.length hi - HT.sIx xs.length 0 lo)
theorem cut_dp {H0 F:Hp} {vs:List V} {ds:List PyData} {lo hi:Option Int} (k:RpAll K κ S H0 F vs ds):RpAll K κ S H0 F (cutV vs lo hi) (cutD ds lo hi):=by
  unfold cutV cutD
  rw [RpAll.length k]
  exact RpAll.take _ (RpAll.drop _ k)
theorem ep_none:EvP K S tNoPart Γ none:=fun H0 F0 H F σ e Q q=>q H F (.refl e.le)
theorem ep_some {t:TE} {i:Int} (h:EvE K S false t Γ (.int i)):EvP K S (tPart t) Γ (some i):=fun H0 F0 H F σ e Q q =>
  h H0 F0 H F σ e _ fun v H1 F1 g1 p1=>by cases rp_int p1; exact ⟨i,rfl,q H1 F1 g1⟩
theorem evo_slice {t:TE} {tl th:TO} {ds:List PyData} {lo hi:Option Int} (h:EvL K S κ t Γ ds) (hl:EvP K S tl Γ lo) (hh:EvP K S th Γ hi):EvO K S κ (tSl (rSlL K) t tl th) Γ (cutD ds lo hi):=fun H0 F0 H F σ e Q q =>
  h H0 F0 H F σ e _ fun a vs H1 F1 g1 p1 k1=>hl H0 F0 H1 F1 σ (e.mono g1) _ fun H2 F2 g2=>hh H0 F0 H2 F2 σ ((e.mono g1).mono g2) _ fun H3 F3 g3 =>
    ⟨a,vs,rfl,(g2.h.trans g3.h).seq p1,fun p hp=>q p _ _ F3 (((g1.trans g2).trans g3).trans (.newO g3.le hp _)) (((g1.trans g2).trans g3).h.free hp) upd_same (g3.le.free hp) (cut_dp (rpAll_mono (g2.f.trans g3.f) k1))⟩
end
end PD
namespace L2
open PySem PySem.Spec PyProof.Rows
section
variable {X:Cx} {K:PySem.W.Frag}
def rCatS (K:PySem.W.Frag):R2:=fun x y H Q=>∃ l b xs zs,x=.ref l∧y=.ref b∧SqL K H l xs∧SqL K H b zs∧xs.length + zs.length≤sizeLine∧∀ p,H p=none→Q (.ref p) (upd H p (.lst (xs ++ zs)))
theorem op_catS:OpR X (binaryOp .Add) (rCatS X.K):=by
  intro pins s σ H x y v u Q I rx ry h
  obtain ⟨l,b,xs,zs,rfl,rfl,hH,hB,hz,q⟩:=h
  cases rx
  cases ry
  obtain ⟨its,r,pl,z⟩:=I.list hH
  obtain ⟨its2,r2,pl2,z2⟩:=I.list hB
  have l1:=r.length
  have l2:=r2.length
  obtain ⟨⟨cls,dd,data,sl⟩,ho,hc,n,hd⟩:=pl.isList
  obtain ⟨⟨cls2,dd2,data2,sl2⟩,ho2,hc2,n2,hd2⟩:=pl2.isList
  simp only at hc hd hc2 hd2
  subst hc hd hc2 hd2
  have e:its.toArray ++ its2.toArray=(its ++ its2).toArray:=by simp
  refine concat_meets ⟨_,ho,rfl⟩ ⟨_,ho2,rfl⟩ noFill_list_add seq_list_add PySem.F.slot_list_add PySem.F.entry_list_add (PySem.F.args_list_add_2 _ _) (list_addW l b its.toArray its2.toArray n n2 dd dd2 sl sl2 (by simp only [List.size_toArray]; omega)) ⟨ho,ho2,?_⟩
  rw [e]
  exact ⟨.ref _,_,I.lnew (t':=s.toks) (r.append r2) (by rw [List.length_append]; omega),rfl,q _ I.fresh⟩
def tyD:PyData→String
  | .none => "NoneType"
  | .bool _ => "bool"
  | .int _ => "int"
  | .str _ => "str"
  | .list _ => "list"
  | .tuple _ => "tuple"
  | _ => "object"
def rIsiD (K:PySem.W.Frag):List V→Hp→VK→Prop:=fun xs H Q=>∃ x d T b,xs=[x,.ty T]∧Dp K H x d∧PySem.W.kitOne K (.type (tyD d)) (.type T)=some b∧Q (.bl b) H
theorem call_isiD:CallR X (.builtin "isinstance") (rIsiD X.K):=by
  intro pins s σ H xs us Q I r h
  obtain ⟨x,d,T,b,rfl,dp,e,q⟩:=h
  obtain ⟨u,v,rfl,ru,rv⟩:=r.two
  cases (show v=Value.type T from rv)
  have fin:∀ tk,EP X pins σ Q (.bool b) { s with toks:=tk }:=fun tk=>⟨.bl b,H,I.tok tk,rfl,q⟩
  cases dp with
  | non=>cases (show u=Value.none from ru); exact PySem.W.kia_one PySem.W.kitx_none I.kIn True.intro e (fun z=>nomatch z) fin
  | bl y=>cases (show u=Value.bool y from ru); exact PySem.W.kia_one PySem.W.kitx_bool I.kIn True.intro e (fun z=>nomatch z) fin
  | int i=>obtain ⟨t,z⟩:=(show ∃ t,u=Value.int i t from ru); cases z; exact PySem.W.kia_one PySem.W.kitx_int I.kIn True.intro e (fun z=>nomatch z) fin
  | str y=>obtain ⟨t,z⟩:=(show ∃ t,u=Value.str y t from ru); cases z; exact PySem.W.kia_one PySem.W.kitx_str I.kIn True.intro e (fun z=>nomatch z) fin
  | @lst a xs ds h k =>
    cases (show u=Value.ref a from ru)
    obtain ⟨its,rv,⟨o,n,h1,h2,_⟩,_⟩:=I.list h
    exact PySem.W.kia_one PySem.W.kitx_list I.kIn ⟨_,h1,h2⟩ e (fun z=>nomatch z) fin
  | @tup a xs ds h k =>
    cases (show u=Value.ref a from ru)
    obtain ⟨its,rv,⟨o,h1,h2,_⟩,_⟩:=I.tuple h
    exact PySem.W.kia_one PySem.W.kitx_tuple I.kIn ⟨_,h1,h2⟩ e (fun z=>nomatch z) fin
theorem call_isiDK (hK:X.K=K):CallR X (.builtin "isinstance") (rIsiD K):=by subst hK; exact call_isiD
theorem op_catSK (hK:X.K=K):OpR X (binaryOp .Add) (rCatS K):=by subst hK; exact op_catS
end
end L2
namespace PD
open PySem L2
section
variable {K:PySem.W.Frag} {S:Sx} {κ:Bool} {Γ:Ctx}
theorem evo_cat {ta tb:TE} {xs ys:List PyData} (ha:EvL K S κ ta Γ xs) (hb:EvL K S κ tb Γ ys) (hz:xs.length + ys.length≤sizeLine):EvO K S κ (tOp (rCatS K) ta tb) Γ (xs ++ ys):=fun H0 F0 H F σ e Q q =>
  ha H0 F0 H F σ e _ fun a vs H1 F1 g1 p1 k1=>hb H0 F0 H1 F1 σ (e.mono g1) _ fun b ws H2 F2 g2 p2 k2 =>
    ⟨a,b,vs,ws,rfl,rfl,g2.h.seq p1,p2,by rw [RpAll.length k1,RpAll.length k2]; exact hz,fun p hp=>q p _ _ F2 ((g1.trans g2).trans (.newO g2.le hp _)) ((g1.trans g2).h.free hp) upd_same (g2.le.free hp) (RpAll.append (rpAll_mono g2.f k1) k2)⟩
theorem ev_isi {ta:TE} {d:PyData} {T:String} {b:Bool} (h:EvD K S ta Γ d) (hi:PySem.W.kitOne K (.type (tyD d)) (.type T)=some b):EvE K S κ (tCB (rIsiD K) (tCons ta (tCons (tC (.ty T)) tNil))) Γ (.bool b):=fun H0 F0 H F σ e Q q =>
  h H0 F0 H F σ e _ fun v H1 F1 g1 p1=>⟨v,d,T,b,rfl,p1,hi,q _ H1 F1 g1 (.bl b)⟩
def ExG (K:PySem.W.Frag) (S:Sx) (κ:Bool) (g:TG) (js:List Nat) (d:PyData) (Γ:Ctx) (k:Ctx→Prop):Prop:=∀ (H0 F0 H F:Hp) (σ:St) (v:V),DEnv K S H0 F0 H F σ Γ→Rp K κ S H0 F v d→∀ Q:St→Hp→Prop,
  (∀ Γ' σ' H' F',k Γ'→Gr H F H' F'→DEnv K S H0 F0 H' F' σ' Γ'→σ'.length=σ.length→(∀ j,j∉js→σ'[j]?=σ[j]?)→Q σ' H')→g v σ H Q
theorem DEnv.set {H0 F0 H F:Hp} {σ:St} {i:Nat} {v:V} {x:DV} (e:DEnv K S H0 F0 H F σ Γ) (p:HasV K S H0 H F v x)
    (hne:∀ a,Owns H v x a→∀ (j:Nat) y w,j≠i→Γ[j]?=some (some y)→σ[j]?=some (some w)→¬ Owns H w y a):DEnv K S H0 F0 H F (σ.set i (some v)) (Γ.set i (some x)):=by
  refine ⟨e.gr,e.l0,e.sd,e.s0,by simp [e.len],fun j f h=>?_,fun j k' x1 y1 v1 w1 b g1 g2 g3 g4 o1 o2=>?_⟩
  · by_cases hj:j=i
    · subst hj
      by_cases hl:j < Γ.length
      · rw [List.getElem?_set_self hl] at h
        cases h
        exact ⟨v,by rw [List.getElem?_set_self (by rw [e.len]; exact hl)],p⟩
      · rw [List.getElem?_eq_none (by simp; omega)] at h
        cases h
    · rw [List.getElem?_set_ne (Ne.symm hj)] at h ⊢
      exact e.has j f h
  · have li:∀ {j:Nat} {y:DV},(Γ.set i (some x))[j]?=some (some y)→j < Γ.length:=fun {j y} z=>by
      have:=(List.getElem?_eq_some_iff.mp z).1
      rw [List.length_set] at this
      exact this
    by_cases hj:j=i
    · subst hj
      by_cases hk:k'=j
      · exact hk.symm
      · rw [List.getElem?_set_self (by rw [e.len]; exact li g1)] at g3
        rw [List.getElem?_set_self (li g1)] at g1
        cases g1
        cases g3
        rw [List.getElem?_set_ne (Ne.symm hk)] at g4 g2
        exact absurd o2 (hne b o1 k' y1 w1 hk g2 g4)
    · rw [List.getElem?_set_ne (Ne.symm hj)] at g3 g1
      by_cases hk:k'=i
      · subst hk
        rw [List.getElem?_set_self (by rw [e.len]; exact li g2)] at g4
        rw [List.getElem?_set_self (li g2)] at g2
        cases g2
        cases g4
        exact absurd o1 (hne b o2 j x1 v1 hj g1 g3)
      · rw [List.getElem?_set_ne (Ne.symm hk)] at g4 g2
        exact e.ne j k' x1 y1 v1 w1 b g1 g2 g3 g4 o1 o2
theorem DEnv.setF {H0 F0 H F:Hp} {σ:St} {i:Nat} {v:V} {d:PyData} (e:DEnv K S H0 F0 H F σ Γ) (p:Rp K κ S H0 F v d):DEnv K S H0 F0 H F (σ.set i (some v)) (Γ.set i (some (.fz κ d))):=e.set (x:=.fz κ d) p fun _ z=>z.elim
theorem OwnO.other {H0 H F:Hp} {a b:Addr} {u oo:HO} (w:OwnO S H0 H F b u) (h:b≠a):OwnO S H0 (upd H a oo) F b u:=⟨by rw [upd_ne h]; exact w.h,w.f,w.n,w.s⟩
theorem HasV.other {H0 H F:Hp} {a:Addr} {v:V} {x:DV} {oo:HO} (h:HasV K S H0 H F v x) (n:¬ Owns H v x a):HasV K S H0 (upd H a oo) F v x:=by
  cases x with
  | fz κ d=>exact h
  | tn d=>exact h
  | ow κ ds=>obtain ⟨b,us,eb,wo,kk⟩:=h; exact ⟨b,us,eb,wo.other fun z=>n (by rw [eb,z]; rfl),kk⟩
  | ox=>obtain ⟨b,us,eb,wo⟩:=h; exact ⟨b,us,eb,wo.other fun z=>n (by rw [eb,z]; rfl)⟩
  | o2 r dss =>
    obtain ⟨b,us,eb,wo,n1,n2,l,k⟩:=h
    refine ⟨b,us,eb,wo.other fun z=>n (.inl (by rw [eb.eq,z])),n1,n2,l,fun j y hy=>?_⟩
    obtain ⟨c,ws,ds,e2,o2,h2,k2⟩:=k j y hy
    exact ⟨c,ws,ds,e2,o2.other fun z=>n (.inr ⟨b,us,eb.eq,wo.h,by rw [← z,← e2]; exact List.mem_of_getElem? hy⟩),h2,k2⟩
  | fn a=>exact h
  | xn φ=>exact h
  | oa b κ ds=>obtain ⟨eb,us,wo,kk⟩:=h; exact ⟨eb,us,wo.other fun z=>n (by rw [eb,z]; rfl),kk⟩
  | xp φ=>exact h
  | od u=>obtain ⟨b,eb,wo⟩:=h; exact ⟨b,eb,wo.other fun z=>n (by rw [eb,z]; rfl)⟩
  | og ad ψ =>
    obtain ⟨ok,w,p⟩:=h
    have eq:∀ b,ad H v b→upd H a oo b=H b:=fun b z=>upd_ne fun y=>n (y ▸ z)
    refine ⟨ok,fun b z=>?_,ok.ps S H0 H _ F F v eq (.refl _) p⟩
    have z:=(ok.pl H _ v eq b).mp z
    obtain ⟨o,y⟩:=w b z
    exact ⟨o,y.other fun q=>n (q ▸ z)⟩
theorem Owns.other {H0 H F:Hp} {a c:Addr} {v:V} {x:DV} {oo:HO} (h:HasV K S H0 H F v x) (n:¬ Owns H v x a) (o:Owns (upd H a oo) v x c):Owns H v x c:=by
  cases x with
  | fz _ _=>exact o.elim
  | tn _=>exact o.elim
  | ow κ ds=>exact o
  | ox=>exact o
  | o2 r dss =>
    rcases o with o | ⟨p,us,e2,hp,hm⟩
    · exact .inl o
    · rw [upd_ne (fun z=>n (.inl (by rw [e2,z])))] at hp
      exact .inr ⟨p,us,e2,hp,hm⟩
  | fn _=>exact o.elim
  | xn _=>exact o.elim
  | oa _ _ _=>exact o
  | xp _=>exact o.elim
  | od _=>exact o
  | og ad ψ=>exact (h.1.pl H (upd H a oo) v (fun b z=>upd_ne fun y:b=a=>n (y ▸ z)) c).mp o
theorem DEnv.putO {H0 F0 H F:Hp} {σ:St} {i:Nat} {a:Addr} {v:V} {oo:HO} {x y:DV} (e:DEnv K S H0 F0 H F σ Γ) (h:Γ[i]?=some (some x)) (ha:σ[i]?=some (some v)) (ho:Owns H v x a)
    (k:HasV K S H0 (upd H a oo) F v y) (ko:∀ c,Owns (upd H a oo) v y c→Owns H v x c):DEnv K S H0 F0 (upd H a oo) F σ (Γ.set i (some y)):=by
  obtain ⟨v',q1,q2⟩:=e.has i x h
  rw [ha] at q1
  cases q1
  obtain ⟨ws,w⟩:=q2.owns ho
  have hs:Same F (upd H a oo):=fun b u z=>by
    have:b≠a:=by rintro rfl; rw [w.f] at z; cases z
    rw [upd_ne this]; exact e.le _ _ z
  have li:=(List.getElem?_eq_some_iff.mp h).1
  have far:∀ {j:Nat} {f:DV} {u:V},j≠i→Γ[j]?=some (some f)→σ[j]?=some (some u)→¬ Owns H u f a:=fun {j f u} hj z r o=>hj (e.ne j i f x u v a z h r ha o ho)
  refine ⟨⟨fun b u z=>?_,e.gr.f,hs,e.gr.ap⟩,e.l0,fun b c=>?_,e.s0,by simp [e.len],fun j f z=>?_,fun j k' x1 y1 v1 w1 b g1 g2 g3 g4 o1 o2=>?_⟩
  · rw [upd_ne (ne_of_none z w.n)]; exact e.gr.h _ _ z
  · obtain ⟨o,q⟩:=e.sd b c
    by_cases hb:b=a
    · subst hb; exact ⟨_,upd_same⟩
    · exact ⟨o,by rw [upd_ne hb]; exact q⟩
  · by_cases hj:j=i
    · subst hj
      rw [List.getElem?_set_self li] at z
      cases z
      exact ⟨_,ha,k⟩
    · rw [List.getElem?_set_ne (Ne.symm hj)] at z
      obtain ⟨u,r1,r2⟩:=e.has j f z
      exact ⟨u,r1,r2.other (far hj z r1)⟩
  · have bk:∀ {j:Nat} {f:DV} {u:V},(Γ.set i (some y))[j]?=some (some f)→σ[j]?=some (some u)→Owns (upd H a oo) u f b→∃ g,Γ[j]?=some (some g)∧Owns H u g b:=fun {j f u} z r o=>by
      by_cases hj:j=i
      · subst hj
        rw [List.getElem?_set_self li] at z
        cases z
        rw [ha] at r
        cases r
        exact ⟨x,h,ko b o⟩
      · rw [List.getElem?_set_ne (Ne.symm hj)] at z
        obtain ⟨u',r1,r2⟩:=e.has j f z
        rw [r] at r1
        cases r1
        exact ⟨f,z,o.other r2 (far hj z r)⟩
    obtain ⟨f1,z1,w1'⟩:=bk g1 g3 o1
    obtain ⟨f2,z2,w2'⟩:=bk g2 g4 o2
    exact e.ne j k' f1 f2 v1 w1 b z1 z2 g3 g4 w1' w2'
theorem DEnv.put {H0 F0 H F:Hp} {σ:St} {i:Nat} {a:Addr} {v:V} {vs:List V} {x y:DV} (e:DEnv K S H0 F0 H F σ Γ) (h:Γ[i]?=some (some x)) (ha:σ[i]?=some (some v)) (ho:Owns H v x a)
    (k:HasV K S H0 (upd H a (.lst vs)) F v y) (ko:∀ c,Owns (upd H a (.lst vs)) v y c→Owns H v x c):DEnv K S H0 F0 (upd H a (.lst vs)) F σ (Γ.set i (some y)):=e.putO h ha ho k ko
theorem OwnO.frz {H0 H F:Hp} {a b:Addr} {u oo:HO} (w:OwnO S H0 H F b u) (h:b≠a):OwnO S H0 H (upd F a oo) b u:=⟨w.h,by rw [upd_ne h]; exact w.f,w.n,w.s⟩
theorem HasV.frz {H0 H F:Hp} {a:Addr} {v:V} {x:DV} {vs:List V} (h:HasV K S H0 H F v x) (s:Same F (upd F a (.lst vs))) (n:¬ Owns H v x a):HasV K S H0 H (upd F a (.lst vs)) v x:=by
  cases x with
  | fz κ d=>exact rp_mono s h
  | tn d=>obtain ⟨T,eT,k⟩:=h; exact ⟨T,eT,rp_mono s k⟩
  | ow κ ds=>obtain ⟨b,us,eb,wo,kk⟩:=h; exact ⟨b,us,eb,wo.frz fun z=>n (by rw [eb,z]; rfl),rpAll_mono s kk⟩
  | ox=>obtain ⟨b,us,eb,wo⟩:=h; exact ⟨b,us,eb,wo.frz fun z=>n (by rw [eb,z]; rfl)⟩
  | o2 r dss =>
    obtain ⟨b,us,eb,wo,n1,n2,l,k⟩:=h
    refine ⟨b,us,eb,wo.frz fun z=>n (.inl (by rw [eb.eq,z])),n1,n2,l,fun j y hy=>?_⟩
    obtain ⟨c,ws,ds,e2,o2,h2,k2⟩:=k j y hy
    exact ⟨c,ws,ds,e2,o2.frz fun z=>n (.inr ⟨b,us,eb.eq,wo.h,by rw [← z,← e2]; exact List.mem_of_getElem? hy⟩),h2,rpAll_mono s k2⟩
  | fn a=>exact h
  | xn φ=>obtain ⟨b,e,k⟩:=h; exact ⟨b,e,s _ _ k⟩
  | oa b κ ds=>obtain ⟨eb,us,wo,kk⟩:=h; exact ⟨eb,us,wo.frz fun z=>n (by rw [eb,z]; rfl),rpAll_mono s kk⟩
  | xp φ=>obtain ⟨F1,s1,k⟩:=h; exact ⟨F1,s1.trans s,k⟩
  | od u=>obtain ⟨b,eb,wo⟩:=h; exact ⟨b,eb,wo.frz fun z=>n (by rw [eb,z]; rfl)⟩
  | og ad ψ =>
    obtain ⟨ok,w,p⟩:=h
    refine ⟨ok,fun b z=>?_,ok.ps S H0 H H F _ v (fun _ _=>rfl) s p⟩
    obtain ⟨o,y⟩:=w b z
    exact ⟨o,y.frz fun q=>n (q ▸ z)⟩
theorem DEnv.froz {H0 F0 H F:Hp} {σ:St} {i:Nat} {a:Addr} {v:V} {vs:List V} {x y:DV} (e:DEnv K S H0 F0 H F σ Γ) (h:Γ[i]?=some (some x)) (hv:σ[i]?=some (some v)) (ho:Owns H v x a) (w:OwnAt S H0 H F a vs)
    (k:HasV K S H0 H (upd F a (.lst vs)) v y) (ko:∀ c,Owns H v y c→Owns H v x c):Same F (upd F a (.lst vs))∧DEnv K S H0 F0 H (upd F a (.lst vs)) σ (Γ.set i (some y)):=by
  have s:Same F (upd F a (.lst vs)):=Same.new w.f _
  have li:=(List.getElem?_eq_some_iff.mp h).1
  have g:Gr H0 F0 H (upd F a (.lst vs)):=⟨e.gr.h,e.gr.f.trans s,fun b u z=>by
    by_cases eb:b=a
    · subst eb; rw [upd_same] at z; rw [← z]; exact w.h
    · rw [upd_ne eb] at z; exact e.le _ _ z,fun b u z y=>by
    rw [upd_ne (ne_of_none z w.n)]; exact e.gr.ap _ _ z y⟩
  refine ⟨s,g,e.l0,e.sd,e.s0,by simp [e.len],fun j f z=>?_,fun j k' x1 y1 v1 w1 b g1 g2 g3 g4 o1 o2=>?_⟩
  · by_cases hj:j=i
    · subst hj
      rw [List.getElem?_set_self li] at z
      cases z
      exact ⟨v,hv,k⟩
    · rw [List.getElem?_set_ne (Ne.symm hj)] at z
      obtain ⟨u,r1,r2⟩:=e.has j f z
      exact ⟨u,r1,r2.frz s fun o=>hj (e.ne j i f x u v a z h r1 hv o ho)⟩
  · have bk:∀ {j:Nat} {f:DV} {u:V},(Γ.set i (some y))[j]?=some (some f)→σ[j]?=some (some u)→Owns H u f b→∃ g,Γ[j]?=some (some g)∧Owns H u g b:=fun {j f u} z r o=>by
      by_cases hj:j=i
      · subst hj
        rw [List.getElem?_set_self li] at z
        cases z
        rw [hv] at r
        cases r
        exact ⟨x,h,ko b o⟩
      · rw [List.getElem?_set_ne (Ne.symm hj)] at z
        exact ⟨f,z,o⟩
    obtain ⟨f1,z1,w1'⟩:=bk g1 g3 o1
    obtain ⟨f2,z2,w2'⟩:=bk g2 g4 o2
    exact e.ne j k' f1 f2 v1 w1 b z1 z2 g3 g4 w1' w2'
theorem DEnv.freeze {H0 F0 H F:Hp} {σ:St} {i:Nat} {ds:List PyData} (e:DEnv K S H0 F0 H F σ Γ) (h:Γ[i]?=some (some (.ow κ ds))):∃ F',Same F F'∧DEnv K S H0 F0 H F' σ (Γ.set i (some (.fz κ (.list ds)))):=by
  obtain ⟨v,q1,a,vs,rfl,w,q5⟩:=e.has i _ h
  exact ⟨_,e.froz (y:=.fz κ (.list ds)) h q1 rfl w (.lst (LN.new w.s) (rpAll_mono (Same.new w.f _) q5)) fun _ z=>z.elim⟩
theorem eg_name {i:Nat} {d:PyData} {k:Ctx→Prop} (h:k (Γ.set i (some (.fz κ d)))):ExG K S κ (gName i) [i] d Γ k:=fun H0 F0 H F σ v e p Q q =>
  q _ _ H F h (.refl e.le) (e.setF p) (by simp) fun j hj=>by rw [List.getElem?_set_ne (by intro z; exact hj (by simp [z]))]
theorem eg_two {i j:Nat} {x y:PyData} {k:Ctx→Prop} (h:k ((Γ.set i (some (.fz κ x))).set j (some (.fz κ y)))):ExG K S κ (gTup K 2 (gCons (gName i) (gCons (gName j) gNil))) [i,j] (.tuple [x,y]) Γ k:=fun H0 F0 H F σ v e p Q q=>by
  obtain ⟨a,vs,rfl,h1,h2⟩:=rp_tup p
  cases h2 with
  | cons px h2=>cases h2 with
    | cons py h2 =>
      cases h2
      refine ⟨a,_,rfl,Same.seqT e.le h1,rfl,_,_,rfl,_,_,rfl,rfl,?_⟩
      refine q _ _ H F h (.refl e.le) ((e.setF px).setF py) (by simp) fun m hm=>?_
      rw [List.getElem?_set_ne (by intro z; exact hm (by simp [z])),List.getElem?_set_ne (by intro z; exact hm (by simp [z]))]
structure ItD (K:PySem.W.Frag) (S:Sx) (κ:Bool) (H0 F:Hp) (J:It) (ds:List PyData):Prop where
  go:∀ i H F',Same F F'→Same F' H→i < ds.length→J.go i H
  yld:∀ i H F' x H',Same F F'→Same F' H→(∀ a,S.has H0 a→∃ o,H a=some o)→i < ds.length→J.yld i H x H'→∃ d F'',ds[i]?=some d∧Gr H F' H' F''∧Rp K κ S H0 F'' x d
  stop:∀ H F',Same F F'→Same F' H→J.stop ds.length H
def EvI (K:PySem.W.Frag) (S:Sx) (κ:Bool) (t:TI) (Γ:Ctx) (ds:List PyData):Prop:=∀ (H0 F0 H F:Hp) (σ:St),DEnv K S H0 F0 H F σ Γ→∀ R:It→Hp→Prop,(∀ J H' F',Gr H F H' F'→ItD K S κ H0 F' J ds→R J H')→t σ H R
theorem ei_list {t:TE} {ds:List PyData} (h:EvE K S κ t Γ (.list ds)):EvI K S κ (iList K t) Γ ds:=fun H0 F0 H F σ e R q =>
  h H0 F0 H F σ e _ fun v H1 F1 g1 p1=>by
    obtain ⟨a,vs,rfl,h1,h2⟩:=rp_lst p1
    have hl:=RpAll.length h2
    have up:∀ {F' H':Hp},Same F1 F'→Same F' H'→SqL K H' a vs:=fun s1 s2=>(s1.trans s2).seq h1.sq
    refine ⟨a,rfl,⟨vs,up (.refl _) g1.le⟩,q _ H1 F1 g1 ⟨fun i H' F' s1 s2 hi=>?_,fun i H' F' x H'' s1 s2 _ hi y=>?_,fun H' F' s1 s2=>?_⟩⟩
    · exact ⟨vs,vs[i]'(by omega),up s1 s2,by simp⟩
    · obtain ⟨rfl,y⟩:=y
      obtain ⟨d,hd,hp⟩:=RpAll.get' h2 (y vs (up s1 s2))
      exact ⟨d,F',hd,.refl s2,rp_mono s1 hp⟩
    · exact ⟨vs,up s1 s2,by omega⟩
theorem ei_rng1 {t:TA} {n:Int} (h:EvA K S false t Γ [.int n]) (h1:-(2 ^ 62)≤n) (h2:n < 2 ^ 62):EvI K S κ (iRng1 t) Γ ((List.range n.toNat).map fun i:Nat=>.int (i:Int)):=fun H0 F0 H F σ e R q =>
  h H0 F0 H F σ e _ fun vs H1 F1 g1 p1=>by
    cases p1 with
    | cons p p1 =>
      cases p1
      cases rp_int p
      refine ⟨n,rfl,h1,h2,q _ H1 F1 g1 ⟨fun i H' F' s1 s2 hi=>?_,fun i H' F' x H'' s1 s2 _ hi y=>?_,fun H' F' s1 s2=>?_⟩⟩
      · show i < n.toNat
        simpa using hi
      · obtain ⟨rfl,rfl⟩:=y
        have hi':i < n.toNat:=by simpa using hi
        refine ⟨.int i,F',by simp [hi'],.refl s2,?_⟩
        have:(0:Int) + (i:Int)=i:=by omega
        rw [this]; exact .int _
      · show n.toNat≤_
        simp
theorem get_zip {α β γ:Type} {f:α→β→γ} {xs:List α} {ys:List β} {i:Nat} {x:α} {y:β} (h1:xs[i]?=some x) (h2:ys[i]?=some y):(List.zipWith f xs ys)[i]?=some (f x y):=by
  rw [List.getElem?_zipWith,h1,h2]
theorem ei_zip {t:TA} {xs ys:List PyData} (h:EvA K S κ t Γ [.list xs,.list ys]):EvI K S κ (iZip K t) Γ (List.zipWith (fun x y=>.tuple [x,y]) xs ys):=fun H0 F0 H F σ e R q =>
  h H0 F0 H F σ e _ fun vs H1 F1 g1 p1=>by
    cases p1 with
    | cons p p1 =>
      cases p1 with
      | cons p' p1 =>
        cases p1
        obtain ⟨a,us,rfl,h1,h2⟩:=rp_lst p
        obtain ⟨b,ws,rfl,h3,h4⟩:=rp_lst p'
        have l1:=RpAll.length h2
        have l2:=RpAll.length h4
        have up:∀ {F' H':Hp},Same F1 F'→Same F' H'→SqL K H' a us:=fun s1 s2=>(s1.trans s2).seq h1.sq
        have uq:∀ {F' H':Hp},Same F1 F'→Same F' H'→SqL K H' b ws:=fun s1 s2=>(s1.trans s2).seq h3.sq
        refine ⟨a,b,rfl,⟨us,up (.refl _) g1.le⟩,⟨ws,uq (.refl _) g1.le⟩,q _ H1 F1 g1 ⟨fun i H' F' s1 s2 hi=>?_,fun i H' F' x H'' s1 s2 sd hi y=>?_,fun H' F' s1 s2=>?_⟩⟩
        · rw [List.length_zipWith] at hi
          exact ⟨us,us[i]'(by omega),ws,ws[i]'(by omega),up s1 s2,by simp,uq s1 s2,by simp⟩
        · obtain ⟨T,u,v,hT,rfl,rfl,y1,y2⟩:=y
          obtain ⟨d,hd,hp⟩:=RpAll.get' h2 (y1 us (up s1 s2))
          obtain ⟨f,hf,hq⟩:=RpAll.get' h4 (y2 ws (uq s1 s2))
          have s3:Same F' (upd F' T (.tup [u,v])):=Same.new (s2.free hT) _
          exact ⟨.tuple [d,f],_,get_zip hd hf,.new s2 hT _,.tup (SqT.of upd_same) (.cons (rp_mono (s1.trans s3) hp) (.cons (rp_mono (s1.trans s3) hq) .nil))⟩
        · refine ⟨us,ws,up s1 s2,uq s1 s2,?_⟩
          rw [List.length_zipWith]
          omega
def captG (js:List (Option Nat)) (Γ:Ctx):Ctx:=js.map fun o=>match o with | none=>none | some j=>(Γ[j]?).join
theorem captG_get {js:List (Option Nat)} {i:Nat} {d:DV} (h:(captG js Γ)[i]?=some (some d)):∃ j,js[i]?=some (some j)∧Γ[j]?=some (some d):=by
  unfold captG at h
  rw [List.getElem?_map] at h
  cases e:js[i]? with
  | none=>rw [e] at h; cases h
  | some o =>
    rw [e] at h
    cases o with
    | none=>cases h
    | some j =>
      refine ⟨j,rfl,?_⟩
      have h':(Γ[j]?).join=some d:=Option.some.inj h
      cases q:Γ[j]? with
      | none=>rw [q] at h'; cases h'
      | some o=>rw [q] at h'; exact congrArg some h'
theorem capt_get {js:List (Option Nat)} {σ:St} {i j:Nat} {v:V} (h:js[i]?=some (some j)) (k:σ[j]?=some (some v)):(capt js σ)[i]?=some (some v):=by
  unfold capt
  rw [List.getElem?_map,h]
  show some ((σ[j]?).join)=_
  rw [k]; rfl
theorem DEnv.capt {H0 F0 H F:Hp} {σ:St} {js:List (Option Nat)} (e:DEnv K S H0 F0 H F σ Γ) (hj:∀ i j k:Nat,js[i]?=some (some k)→js[j]?=some (some k)→i=j):DEnv K S H0 F0 H F (L2.capt js σ) (captG js Γ):=by
  refine ⟨e.gr,e.l0,e.sd,e.s0,by unfold L2.capt captG; simp,fun i d h=>?_,fun i j x y v w a h1 h2 h3 h4 o1 o2=>?_⟩
  · obtain ⟨j,e1,e2⟩:=captG_get h
    obtain ⟨v,e3,e4⟩:=e.has j d e2
    exact ⟨v,capt_get e1 e3,e4⟩
  · obtain ⟨m,e1,e2⟩:=captG_get h1
    obtain ⟨n,e3,e4⟩:=captG_get h2
    obtain ⟨v1,q1,_⟩:=e.has m x e2
    obtain ⟨v2,q2,_⟩:=e.has n y e4
    have c1:=capt_get (σ:=σ) e1 q1
    have c2:=capt_get (σ:=σ) e3 q2
    rw [h3] at c1
    rw [h4] at c2
    cases c1
    cases c2
    have:=e.ne m n x y v w a e2 e4 q1 q2 o1 o2
    subst this
    exact hj i j m e1 e3
theorem evo_comp {κ':Bool} {js:List (Option Nat)} {wi:TI} {g:TG} {tt:TT} {te:TE} {is:List Nat} {ds:List PyData} (p:PyData→Bool) (f:PyData→PyData) (hi:EvI K S κ' wi Γ ds) (hjs:∀ i∈is,js[i]?=some none) (hj:∀ i j k:Nat,js[i]?=some (some k)→js[j]?=some (some k)→i=j)
    (hz:ds.length≤sizeLine) (hb:∀ d∈ds,ExG K S κ' g is d (captG js Γ) fun Γ'=>EvT K S tt Γ' (p d)∧(p d=true→EvE K S κ te Γ' (f d))):EvO K S κ (tComp js wi g tt te) Γ ((ds.filter p).map f):=fun H0 F0 H F σ e Q q =>
  hi H0 F0 H F σ e _ fun J H1 F1 g1 I1=>by
    intro D hD
    have sdm:∀ {H2 F2:Hp},Gr H1 F1 H2 F2→∀ a,S.has H0 a→∃ o,H2 a=some o:=fun g2 a c=>let ⟨o,z⟩:=(e.mono g1).sd a c; ⟨o,g2.h _ _ z⟩
    refine ⟨fun i m ys H2=>m=ds.length - i∧i≤ds.length∧∃ F2,Gr H1 F1 H2 F2∧H2 D=some (.lst ys)∧F2 D=none∧RpAll K κ S H0 F2 ys (((ds.take i).filter p).map f),⟨_,rfl,Nat.zero_le _,F1,.newO g1.le hD _,upd_same,g1.le.free hD,.nil⟩,?_⟩
    rintro i m ys H2 ⟨rfl,hi,F2,g2,hl,fl,k2⟩
    by_cases hlt:i < ds.length
    · refine .inr ⟨I1.go i H2 F2 g2.f g2.le hlt,fun zs H3=>i + 1≤ds.length∧∃ F2,Gr H1 F1 H3 F2∧H3 D=some (.lst zs)∧F2 D=none∧RpAll K κ S H0 F2 zs (((ds.take (i + 1)).filter p).map f),fun zs H3 h3=>⟨ds.length - (i + 1),by omega,rfl,h3⟩,fun x H3 y=>?_⟩
      obtain ⟨d,F3,hd,g3,p3⟩:=I1.yld i H2 F2 x H3 g2.f g2.le (sdm g2) hlt y
      have hl3:=g3.h _ _ hl
      have fl3:=g3.ap _ _ hl fl
      have E3:=((e.mono g1).mono (g2.trans g3)).capt hj
      refine hb d (List.mem_of_getElem? hd) H0 F0 H3 F3 _ x E3 p3 _ fun Γ' σ' H4 F4 hΓ g4 E4 len4 out4=>?_
      obtain ⟨ht,he⟩:=hΓ
      have hl4:=g4.h _ _ hl3
      have fl4:=g4.ap _ _ hl3 fl3
      have tk:ds.take (i + 1)=ds.take i ++ [d]:=by rw [List.take_add_one,hd]; rfl
      refine ⟨⟨len4.symm,fun j v hv=>?_⟩,ht H0 F0 H4 F4 σ' E4 _ fun H5 F5 g5=>?_⟩
      · by_cases hjj:j∈is
        · have:=hjs j hjj
          unfold L2.capt at hv
          rw [List.getElem?_map,this] at hv
          cases hv
        · rw [out4 j hjj]; exact hv
      have hl5:=g5.h _ _ hl4
      have fl5:=g5.ap _ _ hl4 fl4
      cases hpd:p d with
      | false =>
        refine iteF ⟨hlt,F5,g2.trans ((g3.trans g4).trans g5),hl5,fl5,?_⟩
        rw [tk,List.filter_append,List.map_append]
        simp only [List.filter_cons,hpd,List.filter_nil]
        simpa using rpAll_mono ((g3.trans g4).trans g5).f k2
      | true =>
        refine iteT (he hpd H0 F0 H5 F5 σ' (E4.mono g5) _ fun v H6 F6 g6 p6=>?_)
        have hl6:=g6.h _ _ hl5
        have fl6:=g6.ap _ _ hl5 fl5
        have gg:=(g3.trans g4).trans (g5.trans g6)
        have G6:=g2.trans gg
        refine ⟨hl6,?_,hlt,F6,⟨fun b u z=>?_,G6.f,fun b u z=>?_,G6.ap⟩,upd_same,fl6,?_⟩
        · have h1:=RpAll.length k2
          rw [List.length_map] at h1
          have h2:=List.length_filter_le p (ds.take i)
          rw [List.length_take] at h2
          omega
        · rw [upd_ne (ne_of_none z hD)]; exact G6.h _ _ z
        · rw [upd_ne (by rintro rfl; rw [fl6] at z; cases z)]; exact G6.le _ _ z
        · rw [tk,List.filter_append,List.map_append]
          simp only [List.filter_cons,hpd,List.filter_nil,if_true,List.map_cons,List.map_nil]
          exact RpAll.append (rpAll_mono gg.f k2) (.cons p6 .nil)
    · have ei:i=ds.length:=by omega
      subst ei
      rw [List.take_length] at k2
      exact .inl ⟨I1.stop H2 F2 g2.f g2.le,q D ys H2 F2 (g1.trans g2) (g1.h.free hD) hl fl k2⟩
end
end PD
namespace PD
open PySem L2
section
variable {K:PySem.W.Frag} {S:Sx} {κ:Bool} {Γ:Ctx}
structure Post where
  nx:Ctx→Prop
  rt:PyData→Prop
  bk:Ctx→Prop:=fun _=>False
  ct:Ctx→Prop:=fun _=>False
  kr:Bool:=false
structure Into (K:PySem.W.Frag) (S:Sx) (H0 F0 B:Hp) (P:Post) (D:Ends):Prop where
  nx:∀ Γ' σ' H' F',P.nx Γ'→Same B F'→DEnv K S H0 F0 H' F' σ' Γ'→D.nx σ' H'
  rt:∀ d v H' F',P.rt d→Gr H0 F0 H' F'→Rp K P.kr .fresh H0 F' v d→D.rt v H'
  bk:∀ Γ' σ' H' F',P.bk Γ'→Same B F'→DEnv K S H0 F0 H' F' σ' Γ'→D.bk σ' H'
  ct:∀ Γ' σ' H' F',P.ct Γ'→Same B F'→DEnv K S H0 F0 H' F' σ' Γ'→D.ct σ' H'
def Avoid (S:Sx) (B:Hp):Prop:=∀ T,S=.spoil T→∀ a xs,B a=some (.lst xs)→¬ T a
def ExT (K:PySem.W.Frag) (S S':Sx) (t:TS) (Γ:Ctx) (P:Post):Prop:=∀ (H0 F0 H F:Hp) (σ:St) (B:Hp),DEnv K S H0 F0 H F σ Γ→Same B F→(S'=S∨Avoid S B)→∀ D:Ends,Into K S' H0 F0 B P D→t D σ H
abbrev ExS (K:PySem.W.Frag) (S:Sx) (t:TS) (Γ:Ctx) (P:Post):Prop:=ExT K S S t Γ P
variable {S':Sx}
variable {P:Post}
theorem ex_next (h:P.nx Γ):ExS K S tNext Γ P:=fun H0 F0 H F σ B e b _ D I=>I.nx Γ σ H F h b e
theorem ex_seq {t u:TS} (N:Ctx→Prop) (h1:ExT K S S t Γ { P with nx:=N,bk:=fun _=>False,ct:=fun _=>False }) (h2:∀ Γ',N Γ'→ExT K S S' u Γ' P):ExT K S S' (tSeq t u) Γ P:=fun H0 F0 H F σ B e b v D I =>
  h1 H0 F0 H F σ B e b (.inl rfl) { D with nx:=u D } ⟨fun Γ' σ' H' F' n s e'=>h2 Γ' n H0 F0 H' F' σ' B e' s v D I,I.rt,fun _ _ _ _ z=>z.elim,fun _ _ _ _ z=>z.elim⟩
theorem has_fresh {H0:Hp} {a:Addr} (h:¬ S.has H0 a):¬ Sx.has .fresh H0 a:=by
  cases S with
  | fresh=>exact h
  | spoil T=>exact fun c=>h (.inl c)
theorem ret_kind {H0 F:Hp} {kr:Bool} {v:V} {d:PyData} (hk:(S=S∧κ=kr)∨kr=false) (p:Rp K κ S H0 F v d):Rp K kr .fresh H0 F v d:=by
  rcases hk with ⟨_,rfl⟩ | rfl
  · cases κ with
    | false=>exact dp_rp (rp_dp p)
    | true=>exact rp_map (κ:=true) (κ':=true) (fun a xs z=>⟨z.1,has_fresh z.2⟩) (fun _ _ z=>z) p
  · exact dp_rp (rp_dp p)
theorem ex_ret {te:TE} {d:PyData} (κ:Bool) (h:EvE K S κ te Γ d) (hr:P.rt d) (hk:(S=S∧κ=P.kr)∨P.kr=false):ExT K S S' (tRet te) Γ P:=fun H0 F0 H F σ B e b _ D I=>h H0 F0 H F σ e _ fun v H' F' g p=>I.rt d v H' F' hr (e.gr.trans g) (ret_kind hk p)
theorem ex_freeze {t:TS} (i:Nat) {ds:List PyData} (h:Γ[i]?=some (some (.ow κ ds))) (k:ExT K S S' t (Γ.set i (some (.fz κ (.list ds)))) P):ExT K S S' t Γ P:=fun H0 F0 H F σ B e b v D I=>by
  obtain ⟨F',s,e'⟩:=e.freeze h
  exact k H0 F0 H F' σ B e' (b.trans s) v D I
theorem ex_retO {i:Nat} {ds:List PyData} (h:Γ[i]?=some (some (.ow κ ds))) (hr:P.rt (.list ds)) (hk:(S=S∧κ=P.kr)∨P.kr=false):ExT K S S' (tRet (tVar i)) Γ P :=
  ex_freeze i h (ex_ret κ (ev_var (by rw [List.getElem?_set_self (List.getElem?_eq_some_iff.mp h).1])) hr hk)
theorem ex_set {te:TE} {i:Nat} {d:PyData} (h:EvE K S κ te Γ d) (k:P.nx (Γ.set i (some (.fz κ d)))):ExS K S (tAsg te (gName i)) Γ P:=fun H0 F0 H F σ B e b _ D I =>
  h H0 F0 H F σ e _ fun v H' F' g p=>I.nx _ _ H' F' k (b.trans g.f) ((e.mono g).setF p)
theorem ex_setO {te:TE} {i:Nat} {ds:List PyData} (h:EvO K S κ te Γ ds) (k:P.nx (Γ.set i (some (.ow κ ds)))):ExS K S (tAsg te (gName i)) Γ P:=fun H0 F0 H F σ B e b _ D I =>
  h H0 F0 H F σ e _ fun a vs H' F' g n p f q=>I.nx _ _ H' F' k (b.trans g.f) ((e.mono g).set (x:=.ow κ ds) ⟨a,vs,rfl,⟨p,f,e.gr.h.free n,e.out n⟩,q⟩ fun c oc j y w hj z hw o=>by
    cases (show V.ref a=.ref c from oc)
    obtain ⟨v,q1,q2⟩:=e.has j y z
    rw [hw] at q1
    cases q1
    obtain ⟨us,w1⟩:=q2.owns (o.back q2 fun _ _ z=>g.h _ _ z.h)
    have:=w1.h
    rw [n] at this; cases this)
theorem ex_drop {te:TE} {d:PyData} (h:EvE K S κ te Γ d) (k:P.nx Γ):ExS K S (tDrop te) Γ P:=fun H0 F0 H F σ B e b _ D I =>
  h H0 F0 H F σ e _ fun v H' F' g p=>I.nx _ _ H' F' k (b.trans g.f) (e.mono g)
theorem ex_append {te:TE} {i:Nat} {ds:List PyData} {d:PyData} (h:Γ[i]?=some (some (.ow κ ds))) (he:EvE K S κ te Γ d) (hz:ds.length < sizeLine) (k:P.nx (Γ.set i (some (.ow κ (ds ++ [d]))))):ExS K S (tDrop (tBM K "list" rAppend (tVar i) (tCons te tNil))) Γ P:=fun H0 F0 H F σ B e b _ D I=>by
  obtain ⟨v0,q1,a,vs,rfl,w,q5⟩:=e.has i _ h
  refine ⟨_,q1,.inl ⟨rfl,_,SqL.of w.h⟩,he H0 F0 H F σ e _ fun v H' F' g p=>?_⟩
  have k':=rpAll_mono g.f q5
  refine ⟨a,vs,v,rfl,rfl,g.h _ _ w.h,by rw [RpAll.length q5]; exact hz,?_⟩
  exact I.nx _ _ _ F' k (b.trans g.f) ((e.mono g).put (y:=.ow κ (ds ++ [d])) h q1 (show Owns H' (.ref a) (.ow κ ds) a from rfl) ⟨a,_,rfl,⟨upd_same,(w.mono g).f,w.n,w.s⟩,RpAll.append k' (.cons p .nil)⟩ fun _ z=>z)
theorem ex_setItem {te ti:TE} {i j:Nat} {m:Int} {ds:List PyData} {d:PyData} (h:Γ[i]?=some (some (.ow κ ds))) (he:EvE K S κ te Γ d) (hi:EvE K S false ti Γ (.int m)) (hm:ixN ds.length m=some j) (k:P.nx (Γ.set i (some (.ow κ (ds.set j d))))) :
    ExS K S (tAsg te (gSub (tVar i) ti rSetL)) Γ P:=fun H0 F0 H F σ B e b _ D I=>by
  obtain ⟨v0,q1,a,vs,rfl,w,q5⟩:=e.has i _ h
  refine he H0 F0 H F σ e _ fun v H1 F1 g1 p1=>⟨_,q1,hi H0 F0 H1 F1 σ (e.mono g1) _ fun w' H2 F2 g2 p2=>?_⟩
  cases rp_int p2
  have k':=rpAll_mono (g1.trans g2).f q5
  refine ⟨a,vs,m,j,rfl,rfl,(g1.trans g2).h _ _ w.h,by rw [RpAll.length q5]; exact hm,?_⟩
  exact I.nx _ _ _ F2 k (b.trans (g1.trans g2).f) ((e.mono (g1.trans g2)).put (y:=.ow κ (ds.set j d)) h q1 (show Owns H2 (.ref a) (.ow κ ds) a from rfl) ⟨a,_,rfl,⟨upd_same,(w.mono (g1.trans g2)).f,w.n,w.s⟩,RpAll.set (rp_mono g2.f p1) _ k'⟩ fun _ z=>z)
theorem ex_if {c:TT} {t u:TS} {b:Bool} (hc:EvT K S c Γ b) (h1:b=true→ExT K S S' t Γ P) (h2:b=false→ExT K S S' u Γ P):ExT K S S' (tIfS c t u) Γ P:=fun H0 F0 H F σ B e bb v D I =>
  hc H0 F0 H F σ e _ fun H' F' g=>by
    cases b with
    | true=>exact iteT (h1 rfl H0 F0 H' F' σ B (e.mono g) (bb.trans g.f) v D I)
    | false=>exact iteF (h2 rfl H0 F0 H' F' σ B (e.mono g) (bb.trans g.f) v D I)
theorem ex_for {wi:TI} {g:TG} {tb:TS} {ds:List PyData} (κ:Bool) (Iv:Nat→Ctx→Prop) (hi:EvI K S κ wi Γ ds) (h0:Iv 0 Γ)
    (hs:∀ i d Γ',ds[i]?=some d→Iv i Γ'→∃ js,ExG K S κ g js d Γ' fun Γ''=>ExS K S tb Γ'' { nx:=Iv (i + 1),rt:=P.rt,bk:=P.nx,ct:=Iv (i + 1),kr:=P.kr }) (hd:∀ Γ',Iv ds.length Γ'→P.nx Γ'):ExS K S (tFor wi g tb) Γ P:=fun H0 F0 H F σ B e b _ D I =>
  hi H0 F0 H F σ e _ fun J H1 F1 g1 I1=>by
    refine ⟨fun i m σ2 H2=>m=ds.length - i∧i≤ds.length∧∃ Γ2 F2,Iv i Γ2∧Same F1 F2∧DEnv K S H0 F0 H2 F2 σ2 Γ2,⟨_,rfl,Nat.zero_le _,Γ,F1,h0,.refl _,e.mono g1⟩,?_⟩
    rintro i m σ2 H2 ⟨rfl,hi,Γ2,F2,v2,s2,e2⟩
    have b1:Same B F1:=b.trans g1.f
    by_cases hlt:i < ds.length
    · refine .inr ⟨I1.go i H2 F2 s2 e2.le hlt,fun σ3 H3=>i + 1≤ds.length∧∃ Γ3 F3,Iv (i + 1) Γ3∧Same F1 F3∧DEnv K S H0 F0 H3 F3 σ3 Γ3,fun σ3 H3 h3=>⟨_,by omega,rfl,h3⟩,fun x H3 y=>?_⟩
      obtain ⟨d,F3,hd,g3,p3⟩:=I1.yld i H2 F2 x H3 s2 e2.le e2.sd hlt y
      obtain ⟨js,hg⟩:=hs i d Γ2 hd v2
      refine hg H0 F0 H3 F3 σ2 x (e2.mono g3) p3 _ fun Γ' σ' H4 F4 k4 g4 e4 _ _=>?_
      have s4:Same F1 F4:=s2.trans (g3.f.trans g4.f)
      exact k4 H0 F0 H4 F4 σ' F1 e4 s4 (.inl rfl) _ ⟨fun Γ5 σ5 H5 F5 n s5 e5=>⟨hlt,Γ5,F5,n,s5,e5⟩,I.rt,fun Γ5 σ5 H5 F5 n s5 e5=>I.nx Γ5 σ5 H5 F5 n (b1.trans s5) e5,fun Γ5 σ5 H5 F5 n s5 e5=>⟨hlt,Γ5,F5,n,s5,e5⟩⟩
    · have ei:i=ds.length:=by omega
      subst ei
      exact .inl ⟨I1.stop H2 F2 s2 e2.le,I.nx Γ2 σ2 H2 F2 (hd Γ2 v2) (b1.trans s2) e2⟩
theorem ex_while {c:TT} {tb:TS} (Iv:Nat→Ctx→Prop) (m0:Nat) (h0:Iv m0 Γ)
    (hs:∀ m Γ',Iv m Γ'→∃ b,EvT K S c Γ' b∧(b=true→ExS K S tb Γ' { nx:=fun Γ''=>∃ m',m' < m∧Iv m' Γ'',rt:=P.rt,bk:=P.nx,ct:=fun Γ''=>∃ m',m' < m∧Iv m' Γ'',kr:=P.kr })∧(b=false→P.nx Γ')):ExS K S (tWhile c tb) Γ P:=fun H0 F0 H F σ B e bb _ D I=>by
  refine ⟨fun m σ2 H2=>∃ Γ2 F2,Iv m Γ2∧Same B F2∧DEnv K S H0 F0 H2 F2 σ2 Γ2,⟨m0,Γ,F,h0,bb,e⟩,?_⟩
  rintro m σ2 H2 ⟨Γ2,F2,v2,s2,e2⟩
  obtain ⟨b,hc,h1,h2⟩:=hs m Γ2 v2
  refine hc H0 F0 H2 F2 σ2 e2 _ fun H3 F3 g3=>?_
  have s3:=s2.trans g3.f
  cases b with
  | true =>
    refine iteT ⟨fun σ4 H4=>∃ m',m' < m∧∃ Γ4 F4,Iv m' Γ4∧Same B F4∧DEnv K S H0 F0 H4 F4 σ4 Γ4,fun σ4 H4 ⟨m',hm,h⟩=>⟨m',hm,h⟩,?_⟩
    exact h1 rfl H0 F0 H3 F3 σ2 B (e2.mono g3) s3 (.inl rfl) _ ⟨fun Γ5 σ5 H5 F5 ⟨m',hm,n⟩ s5 e5=>⟨m',hm,Γ5,F5,n,s5,e5⟩,I.rt,fun Γ5 σ5 H5 F5 n s5 e5=>I.nx Γ5 σ5 H5 F5 n s5 e5,fun Γ5 σ5 H5 F5 ⟨m',hm,n⟩ s5 e5=>⟨m',hm,Γ5,F5,n,s5,e5⟩⟩
  | false=>exact iteF (I.nx Γ2 σ2 H3 F3 (h2 rfl) s3 (e2.mono g3))
def startG (n:Nat) (ds:List PyData):Ctx:=ds.map (fun d=>some (.fz false d)) ++ List.replicate (n - ds.length) none
theorem denv_start {H F:Hp} {N:List Str} {vs:List V} {ds:List PyData} (le:Same F H) (k:DpAll K F vs ds):DEnv K .fresh H F H F (L2.start N vs) (startG N.length ds):=by
  have l:=DpAll.length k
  have no:∀ (i:Nat) (x:DV),(startG N.length ds)[i]?=some (some x)→∃ d,x=.fz false d∧ds[i]?=some d:=fun i x h=>by
    unfold startG at h
    by_cases hi:i < ds.length
    · rw [List.getElem?_append_left (by simpa using hi),List.getElem?_map] at h
      rw [List.getElem?_eq_getElem hi] at h ⊢
      have h':some (DV.fz false ds[i])=some x:=Option.some.inj h
      exact ⟨_,(Option.some.inj h').symm,rfl⟩
    · rw [List.getElem?_append_right (by simpa using Nat.le_of_not_lt hi)] at h
      rw [List.getElem?_replicate] at h
      split at h <;> cases h
  refine ⟨.refl le,le,fun a c=>?_,fun T z=>(nomatch z),by unfold L2.start startG; simp [l],fun i x h=>?_,fun i j x y v w a h _ _ _ o=>?_⟩
  · cases q:H a with
    | none=>exact absurd q c
    | some o=>exact ⟨o,rfl⟩
  · obtain ⟨d',e,h'⟩:=no i _ h
    cases e
    obtain ⟨v,h1,h2⟩:=DpAll.get k h'
    refine ⟨v,?_,dp_rp h2⟩
    unfold L2.start
    have hi:=(List.getElem?_eq_some_iff.mp h1).1
    rw [List.getElem?_append_left (by simpa using hi),List.getElem?_map,h1]
    rfl
  · obtain ⟨d',e,_⟩:=no i _ h
    cases e
    exact o.elim
theorem run_body {t:TS} {N:List Str} {H F:Hp} {vs:List V} {ds:List PyData} {d:PyData} {Q:VK} {Γ:Ctx} (hΓ:startG N.length ds=Γ) (h:ExS K .fresh t Γ { nx:=fun _=>d=.none,rt:=fun x=>x=d,kr:=κ }) (le:Same F H) (k:DpAll K F vs ds)
    (q:∀ v H' F',Gr H F H' F'→Rp K κ .fresh H F' v d→Q v H'):t { nx:=fun _ H'=>Q .non H',rt:=Q } (L2.start N vs) H:=by
  subst hΓ
  refine h H F H F (L2.start N vs) F (denv_start le k) (.refl _) (.inl rfl) _ ⟨fun Γ' σ' H' F' n _ e=>?_,fun d' v H' F' e g p=>?_,fun _ _ _ _ z=>z.elim,fun _ _ _ _ z=>z.elim⟩
  · have n':d=.none:=n
    subst n'
    exact q .non H' F' e.gr .non
  · have e':d'=d:=e
    subst e'
    exact q v H' F' g p
theorem spD_len {pre:List PyData→PyData→Prop} {n:Nat} (h:∀ ds d,pre ds d→ds.length=n) {vs:List V} {H:Hp} {Q:VK} {E:XK} (s:spD K κ pre vs H Q E):vs.length=n:=by
  obtain ⟨F,ds,d,_,k,p,_⟩:=s
  rw [DpAll.length k]
  exact h ds d p
inductive MkD:DV→DV→Prop
  | fz {d:PyData}:MkD (.fz true d) (.fz true d)
  | im {κ:Bool} {d:PyData}:imm d=true→MkD (.fz κ d) (.fz true d)
  | ow {ds:List PyData}:MkD (.ow true ds) (.ow true ds)
  | oi {κ:Bool} {ds:List PyData}:(∀ d∈ds,imm d=true)→MkD (.ow κ ds) (.ow true ds)
  | ox:MkD .ox .ox
  | fn {a:Addr}:MkD (.fn a) (.fn a)
inductive MarkC:Ctx→Ctx→Prop
  | nil:MarkC [] []
  | no {x:Option DV} {Γ Γ':Ctx}:MarkC Γ Γ'→MarkC (x :: Γ) (none :: Γ')
  | got {x y:DV} {Γ Γ':Ctx}:MkD x y→MarkC Γ Γ'→MarkC (some x :: Γ) (some y :: Γ')
theorem MarkC.len {Γ Γ':Ctx} (h:MarkC Γ Γ'):Γ.length=Γ'.length:=by
  induction h with
  | nil=>rfl
  | no _ ih=>exact congrArg (· + 1) ih
  | got _ _ ih=>exact congrArg (· + 1) ih
theorem MarkC.get {Γ Γ':Ctx} (h:MarkC Γ Γ'):∀ {i:Nat} {x:DV},Γ'[i]?=some (some x)→∃ y,Γ[i]?=some (some y)∧MkD y x:=by
  induction h with
  | nil=>intro i x e; simp at e
  | no _ ih =>
    intro i x e
    cases i with
    | zero=>simp at e
    | succ i=>exact ih (i:=i) (by simpa using e)
  | @got a b _ _ m _ ih =>
    intro i x e
    cases i with
    | zero =>
      have e':b=x:=by simpa using e
      subst e'
      exact ⟨a,rfl,m⟩
    | succ i=>exact ih (i:=i) (by simpa using e)
theorem MkD.owns {x y:DV} {H H':Hp} {v:V} {a:Addr} (h:MkD y x) (o:Owns H' v x a):Owns H v y a:=by
  cases h <;> first | exact o | exact o.elim
theorem ex_mark {pre:List PyData→PyData→Prop} {E:XK} {ta:TA} {ds:List PyData} {d:PyData} {i:Nat} {u:TS} {Γ1 Γ2:Ctx} (h:EvA K .fresh false ta Γ ds) (hp:pre ds d) (hm:MarkC Γ Γ1) (hs:Γ1.set i (some (.tn d))=Γ2)
    (k:∀ T,ExT K (.spoil T) S' u Γ2 P):ExT K .fresh S' (tSeq (tAsg (tCall (spD K true pre) [] E ta) (gName i)) u) Γ P:=fun H0 F0 H F σ B e b _ D I =>
  h H0 F0 H F σ e _ fun vs H1 F1 g1 p1=>⟨F1,ds,d,g1.le,by rw [List.append_nil]; exact rpAll_dp p1,hp,fun v H2 F2 g2 p2=>by
    have e1:=e.mono g1
    let T:Addr→Prop:=fun a=>F2 a≠none∧H1 a=none
    have nT:∀ {a:Addr} {o:HO},H1 a=some o→¬ T a:=fun {a o} z c=>by
      have:H1 a=none:=c.2
      rw [z] at this; cases this
    have keep:∀ (a:Addr) (xs:List V),LN K true .fresh H0 F1 a xs→LN K true (.spoil T) H0 F2 a xs:=fun a xs z=>⟨g2.f _ _ z.1,fun c=>c.elim z.2 (nT (g1.le _ _ z.1))⟩
    have ownS:∀ {a:Addr} {us:List V},OwnAt .fresh H0 H1 F1 a us→OwnAt (.spoil T) H0 H2 F2 a us:=fun {a us} w=>⟨g2.h _ _ w.h,g2.ap _ _ w.h w.f,w.n,fun c=>c.elim w.s (nT w.h)⟩
    have em:DEnv K (.spoil T) H0 F0 H2 F2 σ Γ1:=by
      refine ⟨e1.gr.trans g2,e1.l0,fun a c=>?_,fun T' eT a c=>?_,by rw [e.len,hm.len],fun j x hx=>?_,fun m n x y v w a h1 h2 h3 h4 o1 o2=>?_⟩
      · rcases c with c | c
        · obtain ⟨o,q⟩:=e1.sd a c
          exact ⟨o,g2.h _ _ q⟩
        · cases q:F2 a with
          | none=>exact absurd q c.1
          | some o=>exact ⟨o,g2.le _ _ q⟩
      · cases eT
        exact e1.gr.h.free c.2
      · obtain ⟨y,hy,my⟩:=hm.get hx
        obtain ⟨w,hw,hv⟩:=e1.has j y hy
        refine ⟨w,hw,?_⟩
        cases my with
        | fz=>exact rp_map keep (fun _ _ z=>Same.seqT g2.f z) hv
        | im hi=>exact dp_imm hi (dp_same g2.f (rp_dp hv))
        | ow=>obtain ⟨a,us,ea,wo,kk⟩:=hv; exact ⟨a,us,ea,ownS wo,rpAll_map keep (fun _ _ z=>Same.seqT g2.f z) kk⟩
        | oi hi=>obtain ⟨a,us,ea,wo,kk⟩:=hv; exact ⟨a,us,ea,ownS wo,dpAll_immL hi (dpAll_same g2.f (rpAll_dp kk))⟩
        | ox=>obtain ⟨a,us,ea,wo⟩:=hv; exact ⟨a,us,ea,ownS wo⟩
        | fn=>exact hv
      · obtain ⟨x',e1',m1⟩:=hm.get h1
        obtain ⟨y',e2',m2⟩:=hm.get h2
        exact e1.ne m n x' y' v w a e1' e2' h3 h4 (m1.owns o1) (m2.owns o2)
    subst hs
    refine k T H0 F0 H2 F2 _ B (em.set (x:=.tn d) ⟨T,rfl,?_⟩ fun _ z=>z.elim) (b.trans (g1.f.trans g2.f)) (.inr fun T' eT a xs z=>?_) D I
    · refine rp_map (κ:=true) (κ':=true) (S':=.spoil fun a=>¬ T a) (H0':=fun _=>none) (fun a xs z=>⟨z.1,fun c=>c.elim (fun w=>w rfl) fun w=>w ⟨by rw [z.1]; simp,?_⟩⟩) (fun _ _ z=>z) p2
      cases q:H1 a with
      | none=>rfl
      | some o=>exact absurd (show H1 a≠none by rw [q]; simp) z.2
    · cases eT
      exact nT (g1.le _ _ (g1.f _ _ (b _ _ z)))⟩
def isLst:Option HO→Bool
  | some (.lst _)=>true
  | _=>false
open Classical in
noncomputable def drop (T:Addr→Prop) (F:Hp):Hp:=fun a=>if T a∧isLst (F a)=true then none else F a
theorem drop_some {T:Addr→Prop} {F:Hp} {a:Addr} {o:HO}:drop T F a=some o↔F a=some o∧¬ (T a∧isLst (some o)=true):=by
  unfold drop
  constructor
  · intro h
    split at h
    · cases h
    · rename_i c; rw [h] at c; exact ⟨h,c⟩
  · rintro ⟨h,c⟩
    rw [h,if_neg c]
inductive SpD:DV→DV→Prop
  | fz {d:PyData}:SpD (.fz true d) (.fz true d)
  | im {κ:Bool} {d:PyData}:imm d=true→SpD (.fz κ d) (.fz true d)
  | ow {ds:List PyData}:SpD (.ow true ds) (.ow true ds)
  | oi {κ:Bool} {ds:List PyData}:(∀ d∈ds,imm d=true)→SpD (.ow κ ds) (.ow true ds)
  | ox:SpD .ox .ox
  | tn {ds:List PyData}:SpD (.tn (.list ds)) .ox
inductive SpC:Ctx→Ctx→Prop
  | nil:SpC [] []
  | no {x:Option DV} {Γ Γ':Ctx}:SpC Γ Γ'→SpC (x :: Γ) (none :: Γ')
  | got {x y:DV} {Γ Γ':Ctx}:SpD x y→SpC Γ Γ'→SpC (some x :: Γ) (some y :: Γ')
theorem SpC.len {Γ Γ':Ctx} (h:SpC Γ Γ'):Γ.length=Γ'.length:=by
  induction h with
  | nil=>rfl
  | no _ ih=>exact congrArg (· + 1) ih
  | got _ _ ih=>exact congrArg (· + 1) ih
theorem SpC.get {Γ Γ':Ctx} (h:SpC Γ Γ'):∀ {i:Nat} {x:DV},Γ'[i]?=some (some x)→∃ y,Γ[i]?=some (some y)∧SpD y x:=by
  induction h with
  | nil=>intro i x e; simp at e
  | no _ ih =>
    intro i x e
    cases i with
    | zero=>simp at e
    | succ i=>exact ih (i:=i) (by simpa using e)
  | @got a b _ _ m _ ih =>
    intro i x e
    cases i with
    | zero =>
      have e':b=x:=by simpa using e
      subst e'
      exact ⟨a,rfl,m⟩
    | succ i=>exact ih (i:=i) (by simpa using e)
def OneT (Γ:Ctx):Prop:=∀ (i j:Nat) d f,Γ[i]?=some (some (.tn d))→Γ[j]?=some (some (.tn f))→i=j
theorem DEnv.spoilt {T:Addr→Prop} {H0 F0 H H' F:Hp} {σ:St} {Γ':Ctx} (e:DEnv K (.spoil T) H0 F0 H F σ Γ) (h1:∀ b o,H b=some o→isLst (some o)=false∨¬ T b→H' b=some o) (hm:SpC Γ Γ') (ho:OneT Γ)
    (h2:∀ (i:Nat) ds a vs,Γ[i]?=some (some (.tn (.list ds)))→σ[i]?=some (some (.ref a))→H a=some (.lst vs)→∃ ws,H' a=some (.lst ws)):DEnv K .fresh H0 F0 H' (drop T F) σ Γ':=by
  have s0:∀ a,T a→H0 a=none:=e.s0 T rfl
  have hF:∀ b o,drop T F b=some o→H' b=some o:=fun b o z=>by
    obtain ⟨z1,z2⟩:=drop_some.mp z
    refine h1 b o (e.le _ _ z1) ?_
    cases q:isLst (some o) with
    | false=>exact .inl rfl
    | true=>exact .inr fun c=>z2 ⟨c,q⟩
  have tup:∀ (a:Addr) (xs:List V),SqT K F a xs→SqT K (drop T F) a xs:=fun a xs z=>by
    rcases z with (z | ⟨o,z⟩) | z
    · exact .inl (.inl (drop_some.mpr ⟨z,fun c=>nomatch c.2⟩))
    · exact .inl (.inr ⟨o,drop_some.mpr ⟨z,fun c=>nomatch c.2⟩⟩)
    · exact .inr z
  have ln:∀ (a:Addr) (xs:List V),LN K true (.spoil T) H0 F a xs→LN K true .fresh H0 (drop T F) a xs:=fun a xs z=>⟨drop_some.mpr ⟨z.1,fun c=>z.2 (.inr c.1)⟩,fun c=>z.2 (.inl c)⟩
  have dpim:∀ {κ:Bool} {v:V} {d:PyData},imm d=true→Rp K κ (.spoil T) H0 F v d→Rp K true .fresh H0 (drop T F) v d:=fun hi p=>rp_map (κ:=true) ln tup (dp_imm hi (rp_dp p))
  have own:∀ {a:Addr} {us:List V},OwnAt (.spoil T) H0 H F a us→OwnAt .fresh H0 H' (drop T F) a us:=fun {a us} w=>by
    refine ⟨h1 _ _ w.h (.inr fun c=>w.s (.inr c)),?_,w.n,fun c=>w.s (.inl c)⟩
    cases q:drop T F a with
    | none=>rfl
    | some o =>
      have:=(drop_some.mp q).1
      rw [w.f] at this
      cases this
  have tno':∀ {i:Nat} {ds:List PyData} {v:V},Γ[i]?=some (some (.tn (.list ds)))→σ[i]?=some (some v)→∃ a vs ws,v=.ref a∧F a=some (.lst vs)∧OwnAt .fresh H0 H' (drop T F) a ws:=fun {i ds v} hi hv=>by
    obtain ⟨v',hv',h⟩:=e.has i _ hi
    rw [hv] at hv'
    cases hv'
    obtain ⟨T',eT,p⟩:=h
    cases eT
    obtain ⟨a,vs,rfl,hl,_⟩:=rp_lst p
    have Ta:T a:=Classical.byContradiction fun c=>hl.2 (.inr c)
    obtain ⟨ws,hw⟩:=h2 i ds a vs hi hv (e.le _ _ hl.1)
    refine ⟨a,vs,ws,rfl,hl.1,hw,?_,s0 a Ta,fun c=>c (s0 a Ta)⟩
    cases q:drop T F a with
    | none=>rfl
    | some o =>
      obtain ⟨q1,q2⟩:=drop_some.mp q
      rw [hl.1] at q1
      cases q1
      exact absurd ⟨Ta,rfl⟩ q2
  refine ⟨⟨fun b o z=>?_,fun b o z=>?_,hF,fun b o z n=>?_⟩,e.l0,(fun a c=>by
    cases q:H0 a with
    | none=>exact absurd q c
    | some o=>exact ⟨o,h1 _ _ (e.gr.h _ _ q) (.inr fun c=>by rw [s0 _ c] at q; cases q)⟩),(fun T' eT=>nomatch eT),by rw [e.len,hm.len],fun j x hx=>?_,fun m n x y v w a g1 g2 g3 g4 o1 o2=>?_⟩
  · exact h1 _ _ (e.gr.h _ _ z) (.inr fun c=>by rw [s0 _ c] at z; cases z)
  · exact drop_some.mpr ⟨e.gr.f _ _ z,fun c=>by have:=e.l0 _ _ z; rw [s0 _ c.1] at this; cases this⟩
  · cases q:drop T F b with
    | none=>rfl
    | some o'=>have:=(drop_some.mp q).1; rw [e.gr.ap _ _ z n] at this; cases this
  · obtain ⟨y,hy,my⟩:=hm.get hx
    obtain ⟨v,hv,h⟩:=e.has j y hy
    refine ⟨v,hv,?_⟩
    cases my with
    | fz=>exact rp_map ln tup h
    | im hi=>exact dpim hi h
    | ow=>obtain ⟨a,us,ea,wo,kk⟩:=h; exact ⟨a,us,ea,own wo,rpAll_map ln tup kk⟩
    | oi hi=>obtain ⟨a,us,ea,wo,kk⟩:=h; exact ⟨a,us,ea,own wo,rpAll_map (κ:=true) ln tup (dpAll_immL hi (rpAll_dp kk))⟩
    | ox=>obtain ⟨a,us,ea,wo⟩:=h; exact ⟨a,us,ea,own wo⟩
    | tn=>obtain ⟨a,_,ws,ea,_,wo⟩:=tno' hy hv; exact ⟨a,ws,ea,wo⟩
  · obtain ⟨x',e1',m1⟩:=hm.get g1
    obtain ⟨y',e2',m2⟩:=hm.get g2
    have cs:∀ {x x':DV} {i:Nat} {v:V},Γ[i]?=some (some x')→σ[i]?=some (some v)→SpD x' x→Owns H' v x a→(Owns H v x' a∧F a=none)∨(∃ ds,x'=.tn (.list ds))∧F a≠none:=fun {x x' i v} hi hs m o=>by
      have ho':Owns H v x' a→F a=none:=fun o'=>by
        obtain ⟨u,hu,h⟩:=e.has i x' hi
        rw [hs] at hu
        cases hu
        obtain ⟨us,wo⟩:=h.owns o'
        exact wo.f
      cases m with
      | fz=>exact o.elim
      | im _=>exact o.elim
      | ow=>exact .inl ⟨o,ho' o⟩
      | oi _=>exact .inl ⟨o,ho' o⟩
      | ox=>exact .inl ⟨o,ho' o⟩
      | tn =>
        obtain ⟨b,vs,ws,eb,hb,_⟩:=tno' hi hs
        cases (show v=.ref a from o)
        cases eb
        exact .inr ⟨⟨_,rfl⟩,by rw [hb]; simp⟩
    rcases cs e1' g3 m1 o1 with ⟨p1,f1⟩ | ⟨⟨d1,rfl⟩,f1⟩
    · rcases cs e2' g4 m2 o2 with ⟨p2,f2⟩ | ⟨_,f2⟩
      · exact e.ne m n x' y' v w a e1' e2' g3 g4 p1 p2
      · exact absurd f1 f2
    · rcases cs e2' g4 m2 o2 with ⟨p2,f2⟩ | ⟨⟨d2,rfl⟩,f2⟩
      · exact absurd f2 f1
      · exact ho m n _ _ e1' e2'
theorem avoid_drop {T:Addr→Prop} {B F:Hp} (b:Same B F) (h:Avoid (.spoil T) B):Same B (drop T F):=fun a o z=>drop_some.mpr ⟨b _ _ z,fun c=>by
  cases o with
  | lst xs=>exact h T rfl a xs z c.1
  | _=>exact nomatch c.2⟩
theorem avoid_of {T:Addr→Prop} {B:Hp} (v:Sx.fresh=.spoil T∨Avoid (.spoil T) B):Avoid (.spoil T) B:=v.elim (fun z=>nomatch z) fun z=>z
end
end PD
namespace PD
open PySem L2
inductive SetC:Ctx→Nat→Option DV→Ctx→Prop
  | zero {a x:Option DV} {l:Ctx}:SetC (a :: l) 0 x (x :: l)
  | succ {a x:Option DV} {l l':Ctx} {i:Nat}:SetC l i x l'→SetC (a :: l) (i + 1) x (a :: l')
theorem SetC.eq {Γ Γ':Ctx} {i:Nat} {x:Option DV} (h:SetC Γ i x Γ'):Γ.set i x=Γ':=by
  induction h with
  | zero=>rfl
  | succ _ ih=>rw [List.set_cons_succ,ih]
inductive GetC:Ctx→Nat→DV→Prop
  | zero {x:DV} {l:Ctx}:GetC (some x :: l) 0 x
  | succ {a:Option DV} {x:DV} {l:Ctx} {i:Nat}:GetC l i x→GetC (a :: l) (i + 1) x
theorem GetC.eq {Γ:Ctx} {i:Nat} {x:DV} (h:GetC Γ i x):Γ[i]?=some (some x):=by
  induction h with
  | zero=>rfl
  | succ _ ih=>rw [List.getElem?_cons_succ,ih]
inductive CaptC:List (Option Nat)→Ctx→Ctx→Prop
  | nil {Γ:Ctx}:CaptC [] Γ []
  | no {js:List (Option Nat)} {Γ Γ':Ctx}:CaptC js Γ Γ'→CaptC (none :: js) Γ (none :: Γ')
  | got {js:List (Option Nat)} {Γ Γ':Ctx} {j:Nat} {x:DV}:GetC Γ j x→CaptC js Γ Γ'→CaptC (some j :: js) Γ (some x :: Γ')
theorem CaptC.eq {js:List (Option Nat)} {Γ Γ':Ctx} (h:CaptC js Γ Γ'):captG js Γ=Γ':=by
  induction h with
  | nil=>rfl
  | no _ ih =>
    unfold captG at ih ⊢
    rw [List.map_cons,ih]
  | got g _ ih =>
    unfold captG at ih ⊢
    rw [List.map_cons,ih]
    show (Option.join _ :: _)=_
    rw [g.eq]
    rfl
section
variable {K:PySem.W.Frag} {S S':Sx} {κ κ':Bool} {Γ Γ' Γ'':Ctx} {P:Post}
theorem evv {i:Nat} {d:PyData} (h:GetC Γ i (.fz κ' d)) (hk:κ=true→κ'=true):EvE K S κ (tVar i) Γ d:=(ev_var h.eq).weak hk
theorem evi {i:Nat} {d:PyData} (h:GetC Γ i (.fz κ' d)) (hk:imm d=true):EvE K S κ (tVar i) Γ d:=(ev_var h.eq).imm hk
theorem evtn {i:Nat} {d:PyData} (h:GetC Γ i (.tn d)):EvE K S false (tVar i) Γ d:=ev_tnt h.eq
theorem EvL.weak {t:TE} {ds:List PyData} (h:EvL K S κ' t Γ ds) (hk:κ=true→κ'=true):EvL K S κ t Γ ds:=fun H0 F0 H F σ e Q q=>h H0 F0 H F σ e Q fun a vs H' F' g p k=>q a vs H' F' g p (by
  cases κ with
  | false=>exact dpAll_rp (rpAll_dp k)
  | true=>rw [hk rfl] at k; exact k)
theorem evw {i:Nat} {ds:List PyData} (h:GetC Γ i (.ow κ' ds)) (hk:κ=true→κ'=true):EvL K S κ (tVar i) Γ ds:=(evl_own h.eq).weak hk
theorem exs {te:TE} {u:TS} {i:Nat} {d:PyData} (κ:Bool) (h:EvE K S κ te Γ d) (e:SetC Γ i (some (.fz κ d)) Γ') (k:ExT K S S' u Γ' P):ExT K S S' (tSeq (tAsg te (gName i)) u) Γ P:=ex_seq (·=Γ') (ex_set h e.eq) fun _ z=>z ▸ k
theorem exs1 {te:TE} {i:Nat} {d:PyData} (κ:Bool) (h:EvE K S κ te Γ d) (e:SetC Γ i (some (.fz κ d)) Γ') (k:P.nx Γ'):ExS K S (tAsg te (gName i)) Γ P:=ex_set h (e.eq ▸ k)
theorem exo {te:TE} {u:TS} {i:Nat} {ds:List PyData} (κ:Bool) (h:EvO K S κ te Γ ds) (e:SetC Γ i (some (.ow κ ds)) Γ') (k:ExT K S S' u Γ' P):ExT K S S' (tSeq (tAsg te (gName i)) u) Γ P:=ex_seq (·=Γ') (ex_setO h e.eq) fun _ z=>z ▸ k
theorem exa {te:TE} {u:TS} {i:Nat} {ds:List PyData} {d:PyData} (h:GetC Γ i (.ow κ ds)) (he:EvE K S κ te Γ d) (e:SetC Γ i (some (.ow κ (ds ++ [d]))) Γ') (hz:ds.length < sizeLine) (k:ExT K S S' u Γ' P):ExT K S S' (tSeq (tDrop (tBM K "list" rAppend (tVar i) (tCons te tNil))) u) Γ P:=ex_seq (·=Γ') (ex_append h.eq he hz e.eq) fun _ z=>z ▸ k
theorem exa1 {te:TE} {i:Nat} {ds:List PyData} {d:PyData} (h:GetC Γ i (.ow κ ds)) (he:EvE K S κ te Γ d) (e:SetC Γ i (some (.ow κ (ds ++ [d]))) Γ') (hz:ds.length < sizeLine) (k:P.nx Γ'):ExS K S (tDrop (tBM K "list" rAppend (tVar i) (tCons te tNil))) Γ P:=ex_append h.eq he hz (e.eq ▸ k)
theorem exi {te ti:TE} {u:TS} {i j:Nat} {m:Int} {ds:List PyData} {d:PyData} (h:GetC Γ i (.ow κ ds)) (he:EvE K S κ te Γ d) (hi:EvE K S false ti Γ (.int m)) (hm:ixN ds.length m=some j) (e:SetC Γ i (some (.ow κ (ds.set j d))) Γ') (k:ExT K S S' u Γ' P):ExT K S S' (tSeq (tAsg te (gSub (tVar i) ti rSetL)) u) Γ P:=ex_seq (·=Γ') (ex_setItem h.eq he hi hm e.eq) fun _ z=>z ▸ k
theorem exi1 {te ti:TE} {i j:Nat} {m:Int} {ds:List PyData} {d:PyData} (h:GetC Γ i (.ow κ ds)) (he:EvE K S κ te Γ d) (hi:EvE K S false ti Γ (.int m)) (hm:ixN ds.length m=some j) (e:SetC Γ i (some (.ow κ (ds.set j d))) Γ') (k:P.nx Γ'):ExS K S (tAsg te (gSub (tVar i) ti rSetL)) Γ P:=ex_setItem h.eq he hi hm (e.eq ▸ k)
theorem exfz {t:TS} (i:Nat) {ds:List PyData} (h:GetC Γ i (.ow κ ds)) (e:SetC Γ i (some (.fz κ (.list ds))) Γ') (k:ExT K S S' t Γ' P):ExT K S S' t Γ P:=ex_freeze i h.eq (by rw [e.eq]; exact k)
theorem egn {i:Nat} {d:PyData} {k:Ctx→Prop} (e:SetC Γ i (some (.fz κ d)) Γ') (h:k Γ'):ExG K S κ (gName i) [i] d Γ k:=eg_name (by rw [e.eq]; exact h)
theorem egt {i j:Nat} {x y:PyData} {k:Ctx→Prop} (e1:SetC Γ i (some (.fz κ x)) Γ') (e2:SetC Γ' j (some (.fz κ y)) Γ'') (h:k Γ''):ExG K S κ (gTup K 2 (gCons (gName i) (gCons (gName j) gNil))) [i,j] (.tuple [x,y]) Γ k:=eg_two (by rw [e1.eq,e2.eq]; exact h)
theorem exro {i:Nat} {ds:List PyData} (h:GetC Γ i (.ow κ ds)) (hr:P.rt (.list ds)) (hk:(S=S∧κ=P.kr)∨P.kr=false):ExT K S S' (tRet (tVar i)) Γ P:=ex_retO h.eq hr hk
theorem exif {c:TT} {t u v:TS} {b:Bool} (N:Ctx→Prop) (hc:EvT K S c Γ b) (h1:b=true→ExS K S t Γ { P with nx:=N,bk:=fun _=>False,ct:=fun _=>False }) (h2:b=false→ExS K S u Γ { P with nx:=N,bk:=fun _=>False,ct:=fun _=>False }) (k:∀ Γ',N Γ'→ExT K S S' v Γ' P):ExT K S S' (tSeq (tIfS c t u) v) Γ P:=ex_seq N (ex_if hc h1 h2) k
theorem exif2 {c:TT} {t u v:TS} {b:Bool} (hc:EvT K S c Γ b) (h1:b=true→ExT K S S' (tSeq t v) Γ P) (h2:b=false→ExT K S S' (tSeq u v) Γ P):ExT K S S' (tSeq (tIfS c t u) v) Γ P:=fun H0 F0 H F σ B e bb vv D I=>by
  refine hc H0 F0 H F σ e _ fun H' F' g=>?_
  cases b with
  | true=>exact iteT (h1 rfl H0 F0 H' F' σ B (e.mono g) (bb.trans g.f) vv D I)
  | false=>exact iteF (h2 rfl H0 F0 H' F' σ B (e.mono g) (bb.trans g.f) vv D I)
theorem exn {v:TS} (k:ExT K S S' v Γ P):ExT K S S' (tSeq tNext v) Γ P:=ex_seq (·=Γ) (ex_next rfl) fun _ z=>z ▸ k
theorem exifF {c:TT} {t v:TS} {b:Bool} (hc:EvT K S c Γ b) (hb:b=false) (k:ExT K S S' v Γ P):ExT K S S' (tSeq (tIfS c t tNext) v) Γ P:=exif2 hc (fun h=>by rw [hb] at h; cases h) fun _=>exn k
theorem exfor {wi:TI} {g:TG} {tb u:TS} {ds:List PyData} (κ:Bool) (Iv:Nat→Ctx→Prop) (hi:EvI K S κ wi Γ ds) (h0:Iv 0 Γ)
    (hs:∀ i d Γ',ds[i]?=some d→Iv i Γ'→∃ js,ExG K S κ g js d Γ' fun Γ''=>ExS K S tb Γ'' { nx:=Iv (i + 1),rt:=P.rt,bk:=Iv ds.length,ct:=Iv (i + 1),kr:=P.kr }) (hd:∀ Γ',Iv ds.length Γ'→ExT K S S' u Γ' P):ExT K S S' (tSeq (tFor wi g tb) u) Γ P:=ex_seq (Iv ds.length) (ex_for κ Iv hi h0 hs fun _ h=>h) hd
theorem exrs {te:TE} {v:TS} {d:PyData} (κ:Bool) (h:EvE K S κ te Γ d) (hr:P.rt d) (hk:(S=S∧κ=P.kr)∨P.kr=false):ExT K S S' (tSeq (tRet te) v) Γ P:=ex_seq (fun _=>False) (ex_ret κ h hr hk) fun _ z=>z.elim
theorem exmk {pre:List PyData→PyData→Prop} {E:XK} {ta:TA} {ds:List PyData} {d:PyData} {i:Nat} {u:TS} {Γ1 Γ2:Ctx} (h:EvA K .fresh false ta Γ ds) (hp:pre ds d) (hm:MarkC Γ Γ1) (hs:SetC Γ1 i (some (.tn d)) Γ2)
    (k:∀ T,ExT K (.spoil T) S' u Γ2 P):ExT K .fresh S' (tSeq (tAsg (tCall (spD K true pre) [] E ta) (gName i)) u) Γ P:=ex_mark h hp hm hs.eq k
theorem evo_comp' {js:List (Option Nat)} {Γc:Ctx} {wi:TI} {g:TG} {tt:TT} {te:TE} {is:List Nat} {ds:List PyData} (κ':Bool) (p:PyData→Bool) (f:PyData→PyData) (hi:EvI K S κ' wi Γ ds) (hc:CaptC js Γ Γc) (hjs:(is.all fun i=>js[i]? == some none)=true)
    (hj:(js.filterMap id).Nodup) (hz:ds.length≤sizeLine) (hb:∀ d∈ds,ExG K S κ' g is d Γc fun Γ'=>EvT K S tt Γ' (p d)∧(p d=true→EvE K S κ te Γ' (f d))):EvO K S κ (tComp js wi g tt te) Γ ((ds.filter p).map f):=by
  refine evo_comp p f hi (fun i hi=>?_) ?_ hz (by rw [hc.eq]; exact hb)
  · have:=List.all_eq_true.mp hjs i hi
    simpa using this
  · intro i j k h1 h2
    clear hc hjs hi hb
    induction js generalizing i j with
    | nil=>simp at h1
    | cons o js ih =>
      cases o with
      | none =>
        cases i with
        | zero=>simp at h1
        | succ i =>
          cases j with
          | zero=>simp at h2
          | succ j=>rw [ih (by simpa using hj) i j (by simpa using h1) (by simpa using h2)]
      | some m =>
        have hj':(m :: js.filterMap id).Nodup:=by simpa using hj
        have hm:=(List.nodup_cons.mp hj').1
        cases i with
        | zero =>
          cases j with
          | zero=>rfl
          | succ j =>
            have e1:m=k:=by simpa using h1
            subst e1
            have h2':js[j]?=some (some m):=by simpa using h2
            exact absurd (show m∈js.filterMap id from List.mem_filterMap.mpr ⟨some m,List.mem_of_getElem? h2',rfl⟩) hm
        | succ i =>
          cases j with
          | zero =>
            have e1:m=k:=by simpa using h2
            subst e1
            have h2':js[i]?=some (some m):=by simpa using h1
            exact absurd (show m∈js.filterMap id from List.mem_filterMap.mpr ⟨some m,List.mem_of_getElem? h2',rfl⟩) hm
          | succ j=>rw [ih (List.nodup_cons.mp hj').2 i j (by simpa using h1) (by simpa using h2)]
theorem evo_map {js:List (Option Nat)} {Γc:Ctx} {wi:TI} {g:TG} {te:TE} {is:List Nat} {ds:List PyData} (κ':Bool) (f:PyData→PyData) (hi:EvI K S κ' wi Γ ds) (hc:CaptC js Γ Γc) (hjs:(is.all fun i=>js[i]? == some none)=true)
    (hj:(js.filterMap id).Nodup) (hz:ds.length≤sizeLine) (hb:∀ d∈ds,ExG K S κ' g is d Γc fun Γ'=>EvE K S κ te Γ' (f d)):EvO K S κ (tComp js wi g tYes te) Γ (ds.map f):=by
  have h:=evo_comp' (K:=K) (S:=S) (κ:=κ) (g:=g) (tt:=tYes) (te:=te) (is:=is) κ' (fun _=>true) f hi hc hjs hj hz fun d hd H0 F0 H F σ v e p Q q=>hb d hd H0 F0 H F σ v e p Q fun Γ' σ' H' F' k=>q Γ' σ' H' F' ⟨et_yes,fun _=>k⟩
  rwa [List.filter_eq_self.mpr (fun _ _=>rfl)] at h
end
end PD
namespace PD
open PySem L2
inductive StartC:Nat→List PyData→Ctx→Prop
  | z:StartC 0 [] []
  | no {n:Nat} {Γ:Ctx}:StartC n [] Γ→StartC (n + 1) [] (none :: Γ)
  | got {n:Nat} {d:PyData} {ds:List PyData} {Γ:Ctx}:StartC n ds Γ→StartC (n + 1) (d :: ds) (some (.fz false d) :: Γ)
theorem StartC.eq {n:Nat} {ds:List PyData} {Γ:Ctx} (h:StartC n ds Γ):startG n ds=Γ:=by
  induction h with
  | z=>rfl
  | @no n Γ _ ih =>
    rw [← ih]
    unfold startG
    simp [List.replicate_succ]
  | @got n d ds Γ _ ih =>
    rw [← ih]
    unfold startG
    simp
theorem run_def {K:PySem.W.Frag} {κ:Bool} {t:TS} {N:List Str} {n:Nat} {H F:Hp} {vs:List V} {ds:List PyData} {d:PyData} {Q:VK} {Γ:Ctx} (le:Same F H) (k:DpAll K F vs ds) (q:∀ v H' F',Gr H F H' F'→Rp K κ .fresh H F' v d→Q v H') (hn:N.length=n) (hΓ:StartC n ds Γ)
    (h:ExS K .fresh t Γ { nx:=fun _=>d=.none,rt:=fun x=>x=d,kr:=κ }):t { nx:=fun _ H'=>Q .non H',rt:=Q } (L2.start N vs) H:=run_body (hn ▸ hΓ.eq) h le k q
end PD
namespace PD
open PySem L2
section
variable {K:PySem.W.Frag} {S:Sx} {κ:Bool} {Γ:Ctx}
end
theorem asm {p:Prop} (h:p):p:=h
theorem atI0 {α:Type} {a:α} {l:List α}:atI (a :: l) 0=some a:=by
  unfold atI ixN
  simp
theorem atI1 {α:Type} {a b:α} {l:List α}:atI (a :: b :: l) 1=some b:=by
  unfold atI ixN
  have h:(1:Int) < ((a :: b :: l).length:Int):=by simp; omega
  rw [if_pos (by decide),if_pos h]
  rfl
theorem kit_of {K:PySem.W.Frag} {t c:Value} {b:Bool} (h:PySem.W.kitOne K t c=some b):PySem.W.kitOne K t c=some b:=h
end PD
namespace L2
open PySem PySem.Spec PyProof.Rows
section
variable {X:Cx} {K:PySem.W.Frag}
theorem pi_listK {tg l:Expr} {tl:TE} (hK:X.K=K) (hl:PE X l tl):PI X tg l (iList K tl):=by subst hK; exact pi_list hl
theorem pi_zipK {a b:Expr} {ta:TA} {p pos:Pos} {es:List Expr} {k:Nat} {tpos:Pos} (hK:X.K=K) (hg:Gl X "zip") (hm:X.mg "zip" = none) (ha:PA X [a,b] ta) (he:starEach (a :: [b]) X.env=(false,eval a X.env) :: starEach [b] X.env:=by rfl)
    (hpl:(backTo pos (starEach [b] X.env)).any (·.1)=false:=by rfl):PI X (.Tuple es k tpos) (.Call (.Name "zip" p) [a,b] [] pos) (iZip K ta):=by subst hK; exact pi_zip hg hm ha he hpl
variable {o e:Expr} {es:List Expr} {to:TE} {t:TA} {name:Str} {apos cpos:Pos} {T id:String} {r:V→List V→Hp→VK→Prop}
theorem pe_bmK (hK:X.K=K) (pa:PlainAttrs T) (slot:Slot T name id) (hty:typeOf (.builtin id)=pure (.type "method_descriptor")) (hm:MtR X id r) (ho:PE X o to) (ha:PA X (e :: es) t)
    (hbase:attributeBase o name X.env (eval o X.env)=eval o X.env:=by rfl)
    (hfew:((backTo cpos (starEach (e :: es) X.env)).all (fun x=>!x.1) && (backToKw cpos (keywordEach [] X.env)).all (fun x=>x.1.isSome)
      && decide ((e :: es).length + ([]:List Keyword).length + (if ([]:List Keyword).isEmpty then 0 else 1) < 30))=true:=by rfl)
    (hline:(apos.endLine == cpos.line)=true:=by rfl) (hs:starEach (e :: es) X.env=(false,eval e X.env) :: starEach es X.env:=by rfl) (hplain:(backTo cpos (starEach es X.env)).any (·.1)=false:=by rfl):PE X (.Call (.Attribute o name apos) (e :: es) [] cpos) (tBM K T r to t):=by subst hK; exact pe_bm pa slot hty hm ho ha hbase hfew hline hs hplain
end
end L2
namespace PD
open PySem L2
abbrev il (ns:List Int):PyData:=.list (ns.map .int)
def optD:Option Int→PyData
  | none=>.none
  | some i=>.int i
abbrev vl (vw:List (Option Int)):PyData:=.list (vw.map optD)
abbrev lls (ws:List (List Int)):PyData:=.list (ws.map il)
theorem imm_ints (ns:List Int):∀ d∈ns.map PyData.int,imm d=true:=fun d hd=>by
  obtain ⟨n,_,rfl⟩:=List.mem_map.mp hd
  rfl
section
variable {K:PySem.W.Frag} {S:Sx} {κ:Bool} {Γ:Ctx}
theorem evl_ints {t:TE} {ns:List Int} (h:EvE K S false t Γ (.list (ns.map .int))):EvL K S κ t Γ (ns.map .int):=h.toL.imm (imm_ints ns)
end
theorem get_map {α:Type} {g:α→PyData} {ns:List α} {i:Nat} {d:PyData} (h:(ns.map g)[i]?=some d):∃ n,ns[i]?=some n∧d=g n:=by
  rw [List.getElem?_map] at h
  cases e:ns[i]? with
  | none=>rw [e] at h; cases h
  | some n=>rw [e] at h; exact ⟨n,rfl,(Option.some.inj h).symm⟩
theorem get_zw {α β:Type} {g:α→PyData} {h:β→PyData} {xs:List α} {ys:List β} {i:Nat} {d:PyData} (q:(List.zipWith (fun x y=>PyData.tuple [x,y]) (xs.map g) (ys.map h))[i]?=some d):∃ x y,xs[i]?=some x∧ys[i]?=some y∧d=.tuple [g x,h y]:=by
  rw [List.getElem?_zipWith,List.getElem?_map,List.getElem?_map] at q
  cases e1:xs[i]? with
  | none=>rw [e1] at q; cases q
  | some x =>
    cases e2:ys[i]? with
    | none=>rw [e1,e2] at q; cases q
    | some y=>rw [e1,e2] at q; exact ⟨x,y,rfl,rfl,(Option.some.inj q).symm⟩
theorem small_mul {i j:Int} (h0:-(2 ^ 64) < j) (h1:j < 2 ^ 64):IntMulOk i j:=.of_right (intBits_le_64 h0 h1)
theorem atI_map {α:Type} {g:α→PyData} {xs:List α} {i:Nat} {x:α} (h:xs[i]?=some x):atI (xs.map g) (i:Int)=some (g x):=atI_nat (by rw [List.getElem?_map,h]; rfl)
theorem ixN_nat {n i:Nat} (h:i < n):ixN n (i:Int)=some i:=by
  unfold ixN
  rw [if_pos (by omega),if_pos (by omega)]
  simp
theorem range_get {n i:Nat} {d:PyData} (h:((List.range n).map fun k:Nat=>PyData.int (k:Int))[i]?=some d):i < n∧d=.int i:=by
  rw [List.getElem?_map] at h
  by_cases hi:i < n
  · rw [List.getElem?_range hi] at h
    exact ⟨hi,(Option.some.inj h).symm⟩
  · rw [List.getElem?_eq_none (by simp; omega)] at h
    cases h
theorem range_len (n:Nat):((List.range n).map fun k:Nat=>PyData.int (k:Int)).length=n:=by rw [List.length_map,List.length_range]
theorem shaped_il (ns:List Int):SeqAt.shaped (il ns)=true:=Cm.shaped_ints ns
end PD
namespace PD
open PySem L2
end PD
namespace L2
open PySem PySem.Spec PyProof.Rows
section
variable {X:Cx} {CX:CXT} {k:Nat} {ps:List Str} {sp:Sp} {E:XK} {x:Str} {p pos:Pos} {e:Expr} {es:List Expr} {t:TA}
end
end L2
namespace PD
open PySem L2
section
variable {K:PySem.W.Frag} {S S':Sx} {κ:Bool} {Γ:Ctx} {P:Post}
end
end PD
namespace Sx2
open Sh Wd
def smT:List (Int×Int)→Int×Int→Int×Int
  | [],x=>x
  | y :: r,x=>smT r (x.1 * y.2 + y.1 * x.2,x.2 * y.2)
def sm (xs:List (Int×Int)):Int×Int:=smT xs (0,1)
def pk (ss:List Int) (ks:List Nat):List Int:=ks.map fun k=>ss.getD k 0
theorem rkf_bound:∀ (ss ws:List Int) (a A:Int),ss.length=ws.length→(∀ (i:Nat) s v,ss[i]?=some s→ws[i]?=some v→0≤v∧v < s)→0≤a→a < A→0≤(ss.zip ws).foldl (fun a x=>a * x.1 + x.2) a∧(ss.zip ws).foldl (fun a x=>a * x.1 + x.2) a < A * prod ss
  | [],[],a,A,_,_,h0,h1=>⟨h0,by show a < A * 1; omega⟩
  | [],_ :: _,_,_,h,_,_,_=>by cases h
  | _ :: _,[],_,_,h,_,_,_=>by cases h
  | s :: r,v :: e,a,A,h,hr,h0,h1=>by
    have hv:=hr 0 s v rfl rfl
    have g0:0≤a * s:=Int.mul_nonneg h0 (by omega)
    have g1:(a + 1) * s≤A * s:=Int.mul_le_mul_of_nonneg_right (by omega) (by omega)
    rw [Int.add_mul,Int.one_mul] at g1
    have ih:=rkf_bound r e (a * s + v) (A * s) (by simpa using h) (fun i s' v' h1 h2=>hr (i + 1) s' v' (by simpa using h1) (by simpa using h2)) (by omega) (by omega)
    rw [Int.mul_assoc] at ih
    exact ih
theorem rkF_bound {ss ws:List Int} (h:ss.length=ws.length) (hr:∀ (i:Nat) s v,ss[i]?=some s→ws[i]?=some v→0≤v∧v < s):0≤rkF ss ws∧rkF ss ws < prod ss:=by
  have:=rkf_bound ss ws 0 1 h hr (by decide) (by decide)
  rw [Int.one_mul] at this
  exact this
end Sx2
namespace PD
open PySem L2
section
variable {K:PySem.W.Frag} {S S':Sx} {κ:Bool} {Γ:Ctx} {P:Post}
end
theorem lay_map {α:Type} {g:α→PyData} (h:∀ x,PyData.canLay0 (g x)=true):∀ xs:List α,PyData.canLayAll0 (xs.map g)=true
  | []=>rfl
  | x :: r=>by
    show (PyData.canLay0 (g x) && PyData.canLayAll0 (r.map g))=true
    rw [h,lay_map h r]
    rfl
theorem depth_map {α:Type} {g:α→PyData} {n:Nat} (h:∀ x,PyData.depth (g x)≤n):∀ xs:List α,PyData.depthAll (xs.map g)≤n
  | []=>Nat.zero_le _
  | x :: r=>by
    show max (PyData.depth (g x)) (PyData.depthAll (r.map g))≤n
    have:=depth_map h r
    have:=h x
    omega
theorem shaped_of {d:PyData} (h1:PyData.canLay0 d=true) (h2:PyData.depth d≤50):SeqAt.shaped d=true:=by
  unfold SeqAt.shaped
  rw [h1]
  simp
  omega
end PD
namespace L2
open PySem PySem.Spec PyProof.Rows
def srt (ns:List Int):List Int:=ns.mergeSort fun a b=>decide (a≤b)
theorem perm_sorted:∀ {a b:List Int},a.Perm b→a.Pairwise (·≤·)→b.Pairwise (·≤·)→a=b
  | [],b,p,_,_=>p.nil_eq
  | x :: r,[],p,_,_=>absurd p.length_eq (by simp)
  | x :: r,y :: t,p,h1,h2=>by
    have a1:=List.pairwise_cons.mp h1
    have a2:=List.pairwise_cons.mp h2
    have hx:x∈y :: t:=p.mem_iff.mp List.mem_cons_self
    have hy:y∈x :: r:=p.mem_iff.mpr List.mem_cons_self
    have e:x=y:=by
      rcases List.mem_cons.mp hx with e | hx
      · exact e
      · rcases List.mem_cons.mp hy with e | hy
        · exact e.symm
        · have:=a2.1 x hx
          have:=a1.1 y hy
          omega
    subst e
    rw [perm_sorted p.cons_inv a1.2 a2.2]
theorem srt_perm (ns:List Int):(srt ns).Perm ns:=List.mergeSort_perm ns _
theorem srt_sorted (ns:List Int):(srt ns).Pairwise (·≤·):=by
  have:=List.pairwise_mergeSort (le:=fun a b:Int=>decide (a≤b)) (fun a b c h1 h2=>by simp at *; omega) (fun a b=>by simp; omega) ns
  exact this.imp fun h=>by simpa using h
theorem srt_eq {a ns:List Int} (p:a.Perm ns) (h:a.Pairwise (·≤·)):a=srt ns:=perm_sorted (p.trans (srt_perm ns).symm) h (srt_sorted ns)
section
variable {X:Cx} {K:PySem.W.Frag}
theorem vals_of_ints:∀ {ns:List Int} {us:List Value},IntsAre us ns→Vals (ns.map V.int) us
  | _,_,.nil=>.nil
  | _,_,.cons _ t r=>.cons ⟨t,rfl⟩ (vals_of_ints r)
def rSorted (K:PySem.W.Frag):List V→Hp→VK→Prop:=fun xs H Q=>∃ p ns,xs=[.ref p]∧SqL K H p (ns.map V.int)∧ns.length < 64∧∀ l,H l=none→Q (.ref l) (upd H l (.lst ((srt ns).map V.int)))
theorem call_sorted:CallR X (.builtin "sorted") (rSorted X.K):=by
  intro pins s σ H xs us Q I r h
  obtain ⟨p,ns,rfl,hq,h64,q⟩:=h
  obtain ⟨u,rfl,rx⟩:=vals1 r
  cases rx
  obtain ⟨its,r',pl,hz⟩:=I.list hq
  have hl:=r'.length
  rw [List.length_map] at hl hz
  refine sorted_ints (vs:=its) pl.isList (intsAre_of r') (by omega) fun out ns' a1 a2 a3=>?_
  have e:=srt_eq a2 a3
  subst e
  obtain ⟨c,hc⟩:=sortedAll_at s.heap its out
  exact ⟨.ref (s.heap.objs.size + 1),_,I.laid (t':=s.toks) (fun _ _=>sortedAll_old) (Nat.le_succ _) (show ObjOk X.prog X.w _ _ _ (.lst ((srt ns).map V.int)) from ⟨by rw [List.length_map,(srt_perm ns).length_eq]; exact hz,out.toList,c,vals_of_ints a1,by simpa using hc⟩),rfl,q _ (I.hok.fresh (Nat.le_succ _))⟩
theorem call_sortedK (hK:X.K=K):CallR X (.builtin "sorted") (rSorted K):=by subst hK; exact call_sorted
def low (d:PyData):Bool:=d.canLay0 && decide (d.depth≤50)
def rInsert:V→List V→Hp→VK→Prop:=fun x vs H Q=>∃ l xs j y,x=.ref l∧vs=[.int j,y]∧H l=some (.lst xs)∧0≤j∧j≤(xs.length:Int)∧xs.length < sizeLine∧Q .non (upd H l (.lst (xs.take j.toNat ++ y :: xs.drop j.toNat)))
theorem mt_insert:MtM X "list.insert" rInsert:=by
  intro pins s σ H x vs v us Q I rx rv h
  obtain ⟨l,xs,j,y,rfl,rfl,hH,h0,hj,hz,q⟩:=h
  cases rx
  cases rv with
  | cons ru rv' =>
    obtain ⟨t,rfl⟩:=ru
    obtain ⟨u,rfl,ry⟩:=Vals.one rv'
    obtain ⟨z,its,n,r,hl,e⟩:=I.lstM hH
    have hb:sizeLine < 2 ^ 62:=by decide
    have hf:Builtin.List.listFitsIndex j=true:=fitsIndex_both (by omega) (by omega)
    have hs:its.toArray.size≤sizeLine:=by rw [List.size_toArray]; omega
    have e1:¬ (j < 0):=by omega
    have e2:min j.toNat its.length=j.toNat:=by omega
    refine call_meets F.slot_list_insert ⟨_,e,rfl⟩ F.entry_list_insert (F.args_list_insert_3 _ _ _) (AutoSeq1.list_insert_list_int_val_1 l its.toArray n j t u (by rw [hf]; decide) hs) ⟨e,?_⟩
    refine ⟨.non,_,I.lset (its':=its.take j.toNat ++ u :: its.drop j.toNat) hH e ?_ ((r.take j.toNat).append (.cons ry (r.drop j.toNat))) ?_,rfl,q⟩
    · simp only [e1,if_false,List.size_toArray,e2]
      apply Array.toList_inj.mp
      simp
      exact List.take_of_length_le (by rw [List.length_drop]; exact Nat.le_refl _)
    · rw [List.length_append,List.length_cons,List.length_take,List.length_drop]
      omega
end
end L2
namespace PD
open PySem L2
section
variable {K:PySem.W.Frag} {S S':Sx} {κ κ':Bool} {Γ Γ' Γ'':Ctx} {P:Post}
theorem rpAll_ints {H0 F:Hp} (ns:List Int):RpAll K κ S H0 F (ns.map V.int) (ns.map .int):=dpAll_immL (imm_ints ns) (dpAll_ints ns)
theorem evo_sorted {ta:TE} {ns:List Int} (h:EvL K S false ta Γ (ns.map .int)) (h64:ns.length < 64):EvO K S κ (tCB (rSorted K) (tCons ta tNil)) Γ ((srt ns).map .int):=fun H0 F0 H F σ e Q q =>
  h H0 F0 H F σ e _ fun a vs H1 F1 g1 p1 k1=>by
    cases dpAll_of_ints (rpAll_dp k1)
    exact ⟨a,ns,rfl,p1,h64,fun p hp=>q p _ _ F1 (g1.trans (.newO g1.le hp _)) (g1.h.free hp) upd_same (g1.le.free hp) (rpAll_ints _)⟩
theorem ex_par {ta:TA} {i j:Nat} {x y:PyData} (h:EvA K S κ ta Γ [x,y]) (e1:SetC Γ i (some (.fz κ x)) Γ') (e2:SetC Γ' j (some (.fz κ y)) Γ'') (k:P.nx Γ''):ExS K S (tPar i j ta) Γ P:=fun H0 F0 H F σ B e b _ D I =>
  h H0 F0 H F σ e _ fun vs H' F' g p=>by
    cases p with
    | cons p1 p2=>cases p2 with
      | cons p2 p3 =>
        cases p3
        refine ⟨_,_,rfl,I.nx _ _ H' F' k (b.trans g.f) ?_⟩
        rw [← e2.eq,← e1.eq]
        exact ((e.mono g).setF p1).setF p2
theorem ex_insert {te ti:TE} {i:Nat} {m:Int} {ds:List PyData} {d:PyData} (h:Γ[i]?=some (some (.ow κ ds))) (hi:EvE K S false ti Γ (.int m)) (he:EvE K S κ te Γ d) (h0:0≤m) (h1:m≤ds.length) (hz:ds.length < sizeLine) (k:P.nx (Γ.set i (some (.ow κ (ds.take m.toNat ++ d :: ds.drop m.toNat))))) :
    ExS K S (tDrop (tBM K "list" rInsert (tVar i) (tCons ti (tCons te tNil)))) Γ P:=fun H0 F0 H F σ B e b _ D I=>by
  obtain ⟨v0,q1,a,vs,rfl,w,q5⟩:=e.has i _ h
  refine ⟨_,q1,.inl ⟨rfl,_,SqL.of w.h⟩,hi H0 F0 H F σ e _ fun v1 H1 F1 g1 p1=>he H0 F0 H1 F1 σ (e.mono g1) _ fun v H' F' g2 p=>?_⟩
  cases rp_int p1
  have g:=g1.trans g2
  have k':=rpAll_mono g.f q5
  have hl:=RpAll.length q5
  refine ⟨a,vs,m,v,rfl,rfl,g.h _ _ w.h,h0,by rw [hl]; exact h1,by rw [hl]; exact hz,?_⟩
  exact I.nx _ _ _ F' k (b.trans g.f) ((e.mono g).put (y:=.ow κ (ds.take m.toNat ++ d :: ds.drop m.toNat)) h q1 (show Owns H' (.ref a) (.ow κ ds) a from rfl) ⟨a,_,rfl,⟨upd_same,(w.mono g).f,w.n,w.s⟩,RpAll.append (RpAll.take _ k') (.cons p (RpAll.drop _ k'))⟩ fun _ z=>z)
theorem exin {te ti:TE} {i:Nat} {m:Int} {ds:List PyData} {d:PyData} (h:GetC Γ i (.ow κ ds)) (hi:EvE K S false ti Γ (.int m)) (he:EvE K S κ te Γ d) (h0:0≤m) (h1:m≤ds.length) (hz:ds.length < sizeLine) (e:SetC Γ i (some (.ow κ (ds.take m.toNat ++ d :: ds.drop m.toNat))) Γ') (k:P.nx Γ') :
    ExS K S (tDrop (tBM K "list" rInsert (tVar i) (tCons ti (tCons te tNil)))) Γ P:=ex_insert h.eq hi he h0 h1 hz (e.eq ▸ k)
theorem tup_drop {T:Addr→Prop} {F:Hp} {a:Addr} {xs:List V} (z:SqT K F a xs):SqT K (drop T F) a xs:=by
  rcases z with (z | ⟨o,z⟩) | z
  · exact .inl (.inl (drop_some.mpr ⟨z,fun c=>nomatch c.2⟩))
  · exact .inl (.inr ⟨o,drop_some.mpr ⟨z,fun c=>nomatch c.2⟩⟩)
  · exact .inr z
theorem drop_none {T:Addr→Prop} {F:Hp} {a:Addr} {xs:List V} (h:F a=some (.lst xs)) (t:T a):drop T F a=none:=by
  cases q:drop T F a with
  | none=>rfl
  | some o =>
    obtain ⟨q1,q2⟩:=drop_some.mp q
    rw [h] at q1
    cases q1
    exact absurd ⟨t,rfl⟩ q2
end
end PD
namespace L2
open PySem PySem.Spec PyProof.Rows
section
variable {X:Cx} {K:PySem.W.Frag}
def rSum (K:PySem.W.Frag):List V→Hp→VK→Prop:=fun xs H Q=>∃ p,∃ ns:List Int,xs=[.ref p]∧SqL K H p (ns.map V.int)∧Q (.int ns.sum) H
theorem call_sum (hc:X.calm=true):CallR X (.builtin "sum") (rSum X.K):=by
  intro pins s σ H xs us Q I r h
  obtain ⟨p,ns,rfl,hq,q⟩:=h
  obtain ⟨u,rfl,rx⟩:=vals1 r
  cases rx
  obtain ⟨its,r',pl,hz⟩:=I.list hq
  have hi:=intsAre_of r'
  obtain ⟨ys,e⟩:=hi.allInts.items
  have hns:ns=ys.toList.map (·.1):=by rw [← hi.numsOf,← nums_intItems,← e]
  have hl:=pl.isList
  rw [e] at hl
  refine sum_intListG (I.ok.hd hc) hl fun h' tk t' hk=>?_
  refine ⟨.int ns.sum,H,I.kept hk,⟨t',?_⟩,q⟩
  rw [preSum_eq,List.take_of_length_le (by simp),← hns]
theorem call_sumK (hK:X.K=K) (hc:X.calm=true):CallR X (.builtin "sum") (rSum K):=by subst hK; exact call_sum hc
theorem vals_bl:∀ {bs:List Bool} {us:List Value},Vals (bs.map V.bl) us→us=bs.map Value.bool
  | [],_,.nil=>rfl
  | _ :: _,_,.cons r t=>by rw [vals_bl t,show _=Value.bool _ from r]; rfl
theorem all_range:∀ (bs:List Bool) (f:Nat→Bool),(∀ i b,bs[i]?=some b→f i=b)→(List.range bs.length).all f=bs.all fun b=>b
  | [],_,_=>rfl
  | b :: r,f,h=>by
    have ih:=all_range r (fun i=>f (i + 1)) fun i b' hb=>h (i + 1) b' (by simpa using hb)
    rw [List.length_cons,List.range_succ_eq_map,List.all_cons,List.all_map,List.all_cons,h 0 b rfl,← ih]
    rfl
def rAll (K:PySem.W.Frag):List V→Hp→VK→Prop:=fun xs H Q=>∃ p,∃ bs:List Bool,xs=[.ref p]∧SqL K H p (bs.map V.bl)∧Q (.bl (bs.all fun b=>b)) H
theorem call_all (hc:X.calm=true):CallR X (.builtin "all") (rAll X.K):=by
  intro pins s σ H xs us Q I r h
  obtain ⟨p,bs,rfl,hq,q⟩:=h
  obtain ⟨u,rfl,rx⟩:=vals1 r
  cases rx
  obtain ⟨its,r',pl,hz⟩:=I.list hq
  have e:=vals_bl r'
  subst e
  have hl:=pl.isList
  refine call_all_walk (wpAny_pyIter_list hl ?_)
  have hne:p≠s.heap.objs.size:=by
    obtain ⟨o,ho,_⟩:=hl
    exact Nat.ne_of_lt (Heap.lt_size ho)
  refine ⟨s.heap.objs.size,_,_,_,_,_,fun i=>bs.getD i false,rfl,Walks.list (A:=X.A.in1) (I.ok.hd hc) _ p hne (bs.map Value.bool).toArray,⟨⟨_,Heap.get?_push_size _ rfl,rfl,rfl⟩,hl.push _⟩,fun i v s Q E hP hQ=>?_,fun h' tk hk=>?_⟩
  · have hP':(bs.map Value.bool)[i]?=some v:=by simpa using hP
    rw [List.getElem?_map] at hP'
    cases eb:bs[i]? with
    | none=>rw [eb] at hP'; cases hP'
    | some b =>
      rw [eb] at hP'
      cases hP'
      have:bs.getD i false=b:=by rw [List.getD_eq_getElem?_getD,eb]; rfl
      have hQ':Q (bs.getD i false) s:=hQ
      rw [this] at hQ'
      exact wpAny_truthy_bool hQ'
  · have e:(List.range (bs.map Value.bool).toArray.size).all (fun i=>bs.getD i false)=bs.all fun b=>b:=by
      rw [List.size_toArray,List.length_map]
      exact all_range bs _ fun i b hb=>by rw [List.getD_eq_getElem?_getD,hb]; rfl
    rw [e]
    exact ⟨.bl _,H,I.kept fun b o eb=>hk b o (by simpa using Nat.ne_of_lt (Heap.lt_size eb)) (Heap.get?_push_of_some _ eb),rfl,q⟩
theorem call_allK (hK:X.K=K) (hc:X.calm=true):CallR X (.builtin "all") (rAll K):=by subst hK; exact call_all hc
end
end L2
namespace PD
open PySem L2
section
variable {K:PySem.W.Frag} {S S':Sx} {κ κ':Bool} {Γ Γ' Γ'':Ctx} {P:Post}
theorem ev_sum {ta:TE} {ns:List Int} (h:EvL K S false ta Γ (ns.map .int)):EvE K S κ (tCB (rSum K) (tCons ta tNil)) Γ (.int ns.sum):=fun H0 F0 H F σ e Q q =>
  h H0 F0 H F σ e _ fun a vs H1 F1 g1 p1 k1=>by
    cases dpAll_of_ints (rpAll_dp k1)
    exact ⟨a,ns,rfl,p1,q _ H1 F1 g1 (.int _)⟩
theorem dpAll_of_bls {F:Hp}:∀ {vs:List V} {bs:List Bool},DpAll K F vs (bs.map PyData.bool)→vs=bs.map V.bl
  | _,[],.nil=>rfl
  | _,_ :: _,.cons h t=>by rw [dp_bl h,dpAll_of_bls t]; rfl
theorem ev_all {ta:TE} {bs:List Bool} (h:EvL K S false ta Γ (bs.map .bool)):EvE K S κ (tCB (rAll K) (tCons ta tNil)) Γ (.bool (bs.all fun b=>b)):=fun H0 F0 H F σ e Q q =>
  h H0 F0 H F σ e _ fun a vs H1 F1 g1 p1 k1=>by
    cases dpAll_of_bls (rpAll_dp k1)
    exact ⟨a,bs,rfl,p1,q _ H1 F1 g1 (.bl _)⟩
theorem ev_max2 {ta tb:TE} {i j:Int} (ha:EvE K S false ta Γ (.int i)) (hb:EvE K S false tb Γ (.int j)):EvE K S κ (tCB (fun xs H Q=>∃ i j,xs=[.int i,.int j]∧Q (.int (if j > i then j else i)) H) (tCons ta (tCons tb tNil))) Γ (.int (max i j)):=fun H0 F0 H F σ e Q q =>
  ha H0 F0 H F σ e _ fun v H1 F1 g1 p1=>hb H0 F0 H1 F1 σ (e.mono g1) _ fun w H2 F2 g2 p2=>by
    cases rp_int p1
    cases rp_int p2
    have e:(if j > i then j else i)=max i j:=by omega
    exact ⟨i,j,rfl,q _ H2 F2 (g1.trans g2) (by rw [e]; exact .int _)⟩
theorem ev_intB {ta:TE} {b:Bool} (h:EvE K S false ta Γ (.bool b)):EvE K S κ (tCB (fun xs H Q=>(∃ i,xs=[.int i]∧Q (.int i) H)∨∃ k,xs=[.bl k]∧Q (.int (if k then 1 else 0)) H) (tCons ta tNil)) Γ (.int (if b then 1 else 0)):=fun H0 F0 H F σ e Q q =>
  h H0 F0 H F σ e _ fun v H1 F1 g1 p1=>by
    cases rp_bl p1
    exact .inr ⟨b,rfl,q _ H1 F1 g1 (.int _)⟩
theorem rpAll_of {H0 F:Hp}:∀ {vs:List V} {ds:List PyData},vs.length=ds.length→(∀ (j:Nat) v d,vs[j]?=some v→ds[j]?=some d→Rp K κ S H0 F v d)→RpAll K κ S H0 F vs ds
  | [],[],_,_=>.nil
  | [],_ :: _,h,_=>by cases h
  | _ :: _,[],h,_=>by cases h
  | v :: vs,d :: ds,h,k=>.cons (k 0 v d rfl rfl) (rpAll_of (by simpa using h) fun j v' d' h1 h2=>k (j + 1) v' d' (by simpa using h1) (by simpa using h2))
theorem nodup_inj {α:Type}:∀ {l:List α},l.Nodup→∀ {i j:Nat} {x:α},l[i]?=some x→l[j]?=some x→i=j
  | [],_,i,j,x,h,_=>by simp at h
  | y :: r,n,0,0,x,_,_=>rfl
  | y :: r,n,0,j + 1,x,h1,h2=>by
    have e:y=x:=by simpa using h1
    exact absurd (List.mem_of_getElem? (show r[j]?=some x by simpa using h2)) (e ▸ (List.nodup_cons.mp n).1)
  | y :: r,n,i + 1,0,x,h1,h2=>by
    have e:y=x:=by simpa using h2
    exact absurd (List.mem_of_getElem? (show r[i]?=some x by simpa using h1)) (e ▸ (List.nodup_cons.mp n).1)
  | y :: r,n,i + 1,j + 1,x,h1,h2=>by rw [nodup_inj (List.nodup_cons.mp n).2 (show r[i]?=some x by simpa using h1) (show r[j]?=some x by simpa using h2)]
theorem exo2 {wi:TI} {i:Nat} {u:TS} {ds:List PyData} (hi:EvI K S κ' wi Γ ds) (hz:ds.length≤sizeLine) (es:SetC Γ i (some (.o2 none (List.replicate ds.length []))) Γ') (k:ExT K S S' u Γ' P) :
    ExT K S S' (tSeq (tAsg (tComp [none] wi (gName 0) tYes (tLst tNil)) (gName i)) u) Γ P:=fun H0 F0 H F σ B e bb vv D I =>
  hi H0 F0 H F σ e _ fun J H1 F1 g1 I1=>by
    intro L hL
    have sdm:∀ {H2 F2:Hp},Gr H1 F1 H2 F2→∀ a,S.has H0 a→∃ o,H2 a=some o:=fun g2 a c=>let ⟨o,z⟩:=(e.mono g1).sd a c; ⟨o,g2.h _ _ z⟩
    refine ⟨fun n m ys H2=>m=ds.length - n∧n≤ds.length∧∃ F2,Gr H1 F1 H2 F2∧H2 L=some (.lst ys)∧F2 L=none∧V.ref L∉ys∧ys.Nodup∧ys.length=n∧∀ (j:Nat) x,ys[j]?=some x→∃ c,x=.ref c∧H1 c=none∧H2 c=some (.lst [])∧F2 c=none,
      ⟨_,rfl,Nat.zero_le _,F1,.newO g1.le hL _,upd_same,g1.le.free hL,by simp,List.nodup_nil,rfl,by simp⟩,?_⟩
    rintro n m ys H2 ⟨rfl,hn,F2,g2,hl,fl,n1,n2,n3,hy⟩
    by_cases hlt:n < ds.length
    · refine .inr ⟨I1.go n H2 F2 g2.f g2.le hlt,fun zs H3=>n + 1≤ds.length∧∃ F2,Gr H1 F1 H3 F2∧H3 L=some (.lst zs)∧F2 L=none∧V.ref L∉zs∧zs.Nodup∧zs.length=n + 1∧∀ (j:Nat) x,zs[j]?=some x→∃ c,x=.ref c∧H1 c=none∧H3 c=some (.lst [])∧F2 c=none,fun zs H3 h3=>⟨ds.length - (n + 1),by omega,rfl,h3⟩,fun x H3 y=>?_⟩
      obtain ⟨d,F3,hd,g3,p3⟩:=I1.yld n H2 F2 x H3 g2.f g2.le (sdm g2) hlt y
      have g:=g2.trans g3
      have hl3:=g3.h _ _ hl
      have fl3:=g3.ap _ _ hl fl
      refine ⟨Sub.set rfl,?_⟩
      unfold tYes
      dsimp only
      refine iteT ⟨Nat.zero_le _,fun p hp=>?_⟩
      have npL:p≠L:=by rintro rfl; rw [hl3] at hp; cases hp
      have fp3:F3 p=none:=g3.le.free hp
      have hp1:H1 p=none:=g.h.free hp
      have np:V.ref p∉ys:=fun hm=>by
        obtain ⟨j,hj⟩:=List.mem_iff_getElem?.mp hm
        obtain ⟨c,ec,_,h2,_⟩:=hy j _ hj
        cases ec
        have:=g3.h _ _ h2
        rw [hp] at this; cases this
      refine ⟨by rw [upd_ne npL.symm]; exact hl3,by omega,hlt,F3,⟨fun b u z=>?_,g.f,fun b u z=>?_,g.ap⟩,upd_same,fl3,?_,?_,by rw [List.length_append,n3]; rfl,fun j x hx=>?_⟩
      · rw [upd_ne (ne_of_none z hL),upd_ne (ne_of_none z hp1)]
        exact g.h _ _ z
      · rw [upd_ne (by rintro rfl; rw [fl3] at z; cases z),upd_ne (by rintro rfl; rw [fp3] at z; cases z)]
        exact g3.le _ _ z
      · intro hm
        rcases List.mem_append.mp hm with hm | hm
        · exact n1 hm
        · have:V.ref L=.ref p:=by simpa using hm
          cases this
          exact npL rfl
      · refine List.nodup_append.mpr ⟨n2,by simp,fun a ha b hb=>?_⟩
        have:b=.ref p:=by simpa using hb
        rintro rfl
        exact np (this ▸ ha)
      · by_cases hj:j < ys.length
        · rw [List.getElem?_append_left hj] at hx
          obtain ⟨c,rfl,h1,h2,h3⟩:=hy j x hx
          have ncL:c≠L:=by rintro rfl; exact n1 (List.mem_of_getElem? hx)
          have ncp:c≠p:=by rintro rfl; exact np (List.mem_of_getElem? hx)
          exact ⟨c,rfl,h1,by rw [upd_ne ncL,upd_ne ncp]; exact g3.h _ _ h2,g3.ap _ _ h2 h3⟩
        · rw [List.getElem?_append_right (by omega)] at hx
          have:j - ys.length=0:=by
            have:=(List.getElem?_eq_some_iff.mp hx).1
            simp at this
            omega
          rw [this] at hx
          cases (show some (V.ref p)=some x from hx)
          exact ⟨p,rfl,hp1,by rw [upd_ne npL,upd_same],fp3⟩
    · have en:n=ds.length:=by omega
      subst en
      have g:=g1.trans g2
      have e2:=e.mono g
      have hHL:H L=none:=g1.h.free hL
      refine .inl ⟨I1.stop H2 F2 g2.f g2.le,?_⟩
      obtain rfl:=es.eq
      have hv:HasV K S H0 H2 F2 (.ref L) (.o2 none (List.replicate ds.length [])):=⟨L,ys,⟨rfl,fun _ z=>nomatch z⟩,⟨hl,fl,e.gr.h.free hHL,e.out hHL⟩,n1,n2,by rw [List.length_replicate]; exact n3,fun j x hx=>by
        obtain ⟨c,rfl,h1,h2,h3⟩:=hy j x hx
        have hHc:H c=none:=g1.h.free h1
        have hj:=(List.getElem?_eq_some_iff.mp hx).1
        exact ⟨c,[],[],rfl,⟨h2,h3,e.gr.h.free hHc,e.out hHc⟩,by rw [List.getElem?_replicate,if_pos (by omega)],.nil⟩⟩
      refine k H0 F0 H2 F2 _ B (e2.set hv fun a oa j y w hj z hw o=>?_) (bb.trans g.f) vv D I
      obtain ⟨v,q1,q2⟩:=e.has j y z
      rw [hw] at q1
      cases q1
      obtain ⟨us,w1⟩:=q2.owns (o.back q2 fun _ _ z=>g.h _ _ z.h)
      have ha:=w1.h
      rcases oa with oa | ⟨p,vs,ep,hp,hm⟩
      · cases oa
        rw [hHL] at ha; cases ha
      · cases ep
        rw [hl] at hp
        cases hp
        obtain ⟨j',hj'⟩:=List.mem_iff_getElem?.mp hm
        obtain ⟨c,ec,h1,_⟩:=hy j' _ hj'
        cases ec
        rw [g1.h.free h1] at ha; cases ha
theorem evl_o2 {r:Option Addr} {ti:TE} {i j:Nat} {m:Int} {dss:List (List PyData)} {ds:List PyData} (h:GetC Γ i (.o2 r dss)) (hi:EvE K S false ti Γ (.int m)) (hm:ixN dss.length m=some j) (hd:dss[j]?=some ds):EvL K S true (tOp (rIxL K) (tVar i) ti) Γ ds:=fun H0 F0 H F σ e Q q=>by
  obtain ⟨v0,q1,a,vs,⟨rfl,hid⟩,w,n1,n2,n3,hk⟩:=e.has i _ h.eq
  refine ⟨_,q1,hi H0 F0 H F σ e _ fun w' H1 F1 g1 p1=>?_⟩
  cases rp_int p1
  have hj:=(List.getElem?_eq_some_iff.mp hd).1
  have hx:vs[j]?=some (vs[j]'(by omega)):=List.getElem?_eq_getElem (by omega)
  obtain ⟨b,us,ds',ex,ow,hd',kk⟩:=hk j _ hx
  rw [hd] at hd'
  cases hd'
  have hat:atI vs m=some (.ref b):=by
    unfold atI
    rw [n3,hm]
    show vs[j]?=_
    rw [hx,ex]
  exact ⟨a,vs,m,_,rfl,rfl,SqL.of (g1.h _ _ w.h),hat,q b us H1 F1 g1 (SqL.of (g1.h _ _ ow.h)) (rpAll_mono g1.f kk)⟩
theorem ex_o2app {r:Option Addr} {ti te:TE} {i j:Nat} {m:Int} {dss:List (List PyData)} {ds:List PyData} {d:PyData} (h:GetC Γ i (.o2 r dss)) (hi:EvE K S false ti Γ (.int m)) (hm:ixN dss.length m=some j) (hd:dss[j]?=some ds) (he:EvE K S true te Γ d) (hz:ds.length < sizeLine)
    (es:SetC Γ i (some (.o2 r (dss.set j (ds ++ [d])))) Γ') (k:P.nx Γ'):ExS K S (tDrop (tBM K "list" rAppend (tOp (rIxL K) (tVar i) ti) (tCons te tNil))) Γ P:=fun H0 F0 H F σ B e bb _ D I=>by
  obtain ⟨v0,q1,a,vs,⟨rfl,hid⟩,w,n1,n2,n3,hk⟩:=e.has i _ h.eq
  refine ⟨_,q1,hi H0 F0 H F σ e _ fun w' H1 F1 g1 p1=>?_⟩
  cases rp_int p1
  have hj:=(List.getElem?_eq_some_iff.mp hd).1
  have hx:vs[j]?=some (vs[j]'(by omega)):=List.getElem?_eq_getElem (by omega)
  obtain ⟨b,us,ds',ex,ow,hd',kk⟩:=hk j _ hx
  rw [hd] at hd'
  cases hd'
  rw [ex] at hx
  have hat:atI vs m=some (.ref b):=by
    unfold atI
    rw [n3,hm]
    exact hx
  refine ⟨a,vs,m,_,rfl,rfl,SqL.of (g1.h _ _ w.h),hat,.inl ⟨rfl,_,SqL.of (g1.h _ _ ow.h)⟩,he H0 F0 H1 F1 σ (e.mono g1) _ fun v H2 F2 g2 p2=>?_⟩
  have g:=g1.trans g2
  have ow2:=ow.mono g
  have w2:=w.mono g
  have nba:b≠a:=by rintro rfl; exact n1 (List.mem_of_getElem? hx)
  refine ⟨b,us,v,rfl,rfl,ow2.h,by rw [RpAll.length kk]; exact hz,?_⟩
  obtain rfl:=es.eq
  refine I.nx _ _ _ F2 k (bb.trans g.f) ((e.mono g).put (y:=.o2 r (dss.set j (ds ++ [d]))) h.eq q1 (show Owns H2 (.ref a) (.o2 r dss) b from .inr ⟨a,vs,rfl,w2.h,List.mem_of_getElem? hx⟩) ?_ ?_)
  · refine ⟨a,vs,⟨rfl,hid⟩,w2.other nba.symm,n1,n2,by rw [List.length_set]; exact n3,fun j' x hx'=>?_⟩
    by_cases hjj:j'=j
    · subst hjj
      rw [hx] at hx'
      cases hx'
      exact ⟨b,us ++ [v],ds ++ [d],rfl,⟨upd_same,ow2.f,ow2.n,ow2.s⟩,by rw [List.getElem?_set_self hj],RpAll.append (rpAll_mono g.f kk) (.cons p2 .nil)⟩
    · obtain ⟨c,ws,ds',rfl,oc,hc,kc⟩:=hk j' x hx'
      have ncb:c≠b:=by
        rintro rfl
        exact hjj (nodup_inj n2 hx' hx)
      exact ⟨c,ws,ds',rfl,(oc.mono g).other ncb,by rw [List.getElem?_set_ne (Ne.symm hjj)]; exact hc,rpAll_mono g.f kc⟩
  · rintro c (oc | ⟨p,xs,ep,hp,hm'⟩)
    · exact .inl oc
    · cases ep
      rw [upd_ne nba.symm,w2.h] at hp
      cases hp
      exact .inr ⟨a,vs,rfl,w2.h,hm'⟩
theorem HasV.frzG {H0 H F F':Hp} {v:V} {x:DV} (h:HasV K S H0 H F v x) (s:Same F F') (n:∀ c,Owns H v x c→F' c=none):HasV K S H0 H F' v x:=by
  cases x with
  | fz κ d=>exact rp_mono s h
  | tn d=>obtain ⟨T,eT,k⟩:=h; exact ⟨T,eT,rp_mono s k⟩
  | ow κ ds=>obtain ⟨b,us,eb,wo,kk⟩:=h; exact ⟨b,us,eb,⟨wo.h,n b eb,wo.n,wo.s⟩,rpAll_mono s kk⟩
  | ox=>obtain ⟨b,us,eb,wo⟩:=h; exact ⟨b,us,eb,⟨wo.h,n b eb,wo.n,wo.s⟩⟩
  | o2 r dss =>
    obtain ⟨b,us,eb,wo,n1,n2,l,k⟩:=h
    refine ⟨b,us,eb,⟨wo.h,n b (.inl eb.eq),wo.n,wo.s⟩,n1,n2,l,fun j y hy=>?_⟩
    obtain ⟨c,ws,ds,e2,o2,h2,k2⟩:=k j y hy
    exact ⟨c,ws,ds,e2,⟨o2.h,n c (.inr ⟨b,us,eb.eq,wo.h,by rw [← e2]; exact List.mem_of_getElem? hy⟩),o2.n,o2.s⟩,h2,rpAll_mono s k2⟩
  | fn a=>exact h
  | xn φ=>obtain ⟨b,e,k⟩:=h; exact ⟨b,e,s _ _ k⟩
  | oa b κ ds=>obtain ⟨eb,us,wo,kk⟩:=h; exact ⟨eb,us,⟨wo.h,n b eb,wo.n,wo.s⟩,rpAll_mono s kk⟩
  | xp φ=>obtain ⟨F1,s1,k⟩:=h; exact ⟨F1,s1.trans s,k⟩
  | od u=>obtain ⟨b,eb,wo⟩:=h; exact ⟨b,eb,⟨wo.h,n b eb,wo.n,wo.s⟩⟩
  | og ad ψ =>
    obtain ⟨ok,w,p⟩:=h
    refine ⟨ok,fun b z=>?_,ok.ps S H0 H H F F' v (fun _ _=>rfl) s p⟩
    obtain ⟨o,y⟩:=w b z
    exact ⟨o,⟨y.h,n b z,y.n,y.s⟩⟩
open Classical in
noncomputable def frzF (F H:Hp) (a:Addr) (vs:List V):Hp:=fun c=>if c=a∨V.ref c∈vs then H c else F c
theorem DEnv.frz2 {r:Option Addr} {i:Nat} {dss:List (List PyData)} {H0 F0 H F:Hp} {σ:St} (e:DEnv K S H0 F0 H F σ Γ) (h:GetC Γ i (.o2 r dss)) (es:SetC Γ i (some (.fz true (.list (dss.map .list)))) Γ') :
    ∃ (Ff:Hp) (A:Addr→Prop),DEnv K S H0 F0 H Ff σ Γ'∧Same F Ff∧(∀ c,A c→F c=none∧∃ vs,Ff c=some (.lst vs))∧∀ c,¬ A c→Ff c=F c:=by
  have h':=h.eq
  obtain ⟨v0,q1,a,vs,⟨rfl,hid⟩,w,n1,n2,n3,hk⟩:=e.has i _ h'
  have inn:∀ {c:Addr},(c=a∨V.ref c∈vs)→∃ us,OwnAt S H0 H F c us:=fun {c} hc=>by
    rcases hc with rfl | hc
    · exact ⟨_,w⟩
    · obtain ⟨j,hj⟩:=List.mem_iff_getElem?.mp hc
      obtain ⟨b,us,ds,eb,ow,_⟩:=hk j _ hj
      cases eb
      exact ⟨us,ow⟩
  have Fin:∀ {c:Addr},(c=a∨V.ref c∈vs)→frzF F H a vs c=H c:=fun hc=>if_pos hc
  have Fout:∀ {c:Addr},¬ (c=a∨V.ref c∈vs)→frzF F H a vs c=F c:=fun hc=>if_neg hc
  have s:Same F (frzF F H a vs):=fun c o hc=>by
    rw [Fout fun z=>by obtain ⟨us,ow⟩:=inn z; rw [ow.f] at hc; cases hc]
    exact hc
  have le:Same (frzF F H a vs) H:=fun c o hc=>by
    by_cases z:c=a∨V.ref c∈vs
    · rw [Fin z] at hc; exact hc
    · rw [Fout z] at hc; exact e.le _ _ hc
  have li:=(List.getElem?_eq_some_iff.mp h').1
  have own:∀ {c:Addr},(c=a∨V.ref c∈vs)→Owns H (.ref a) (.o2 r dss) c:=fun {c} hc=>by
    rcases hc with rfl | hc
    · exact .inl rfl
    · exact .inr ⟨a,vs,rfl,w.h,hc⟩
  obtain rfl:=es.eq
  have hv:HasV K S H0 H (frzF F H a vs) (.ref a) (.fz true (.list (dss.map .list))):=by
    refine .lst ⟨by rw [Fin (.inl rfl)]; exact w.h,w.s⟩ (rpAll_of (by rw [List.length_map]; exact n3) fun j v d h1 h2=>?_)
    obtain ⟨b,us,ds,rfl,ow,hd,kk⟩:=hk j v h1
    rw [List.getElem?_map,hd] at h2
    cases h2
    exact .lst ⟨by rw [Fin (.inr (List.mem_of_getElem? h1))]; exact ow.h,ow.s⟩ (rpAll_mono s kk)
  have eF:DEnv K S H0 F0 H (frzF F H a vs) σ (Γ.set i (some (.fz true (.list (dss.map .list))))):=by
    refine ⟨⟨e.gr.h,e.gr.f.trans s,le,fun c o hc hn=>?_⟩,e.l0,e.sd,e.s0,by simp [e.len],fun j f z=>?_,fun j k' x1 y1 v1 w1 b g1 g2 g3 g4 o1 o2=>?_⟩
    · rw [Fout fun z=>by obtain ⟨us,ow⟩:=inn z; rw [ow.n] at hc; cases hc]
      exact e.gr.ap c o hc hn
    · by_cases hj:j=i
      · subst hj
        rw [List.getElem?_set_self li] at z
        cases z
        exact ⟨_,q1,hv⟩
      · rw [List.getElem?_set_ne (Ne.symm hj)] at z
        obtain ⟨u,r1,r2⟩:=e.has j f z
        refine ⟨u,r1,r2.frzG s fun c oc=>?_⟩
        by_cases zc:c=a∨V.ref c∈vs
        · exact absurd (e.ne j i f _ u _ c z h' r1 q1 oc (own zc)) hj
        · rw [Fout zc]
          obtain ⟨us,wo⟩:=r2.owns oc
          exact wo.f
    · by_cases hj:j=i
      · subst hj
        rw [List.getElem?_set_self li] at g1
        cases g1
        exact o1.elim
      · by_cases hk':k'=i
        · subst hk'
          rw [List.getElem?_set_self li] at g2
          cases g2
          exact o2.elim
        · rw [List.getElem?_set_ne (Ne.symm hj)] at g1
          rw [List.getElem?_set_ne (Ne.symm hk')] at g2
          exact e.ne j k' x1 y1 v1 w1 b g1 g2 g3 g4 o1 o2
  refine ⟨_,fun c=>c=a∨V.ref c∈vs,eF,s,fun c hc=>?_,fun c hc=>Fout hc⟩
  obtain ⟨us,ow⟩:=inn hc
  exact ⟨ow.f,us,by rw [Fin hc]; exact ow.h⟩
theorem exfz2 {r:Option Addr} {t:TS} (i:Nat) {dss:List (List PyData)} (h:GetC Γ i (.o2 r dss)) (es:SetC Γ i (some (.fz true (.list (dss.map .list)))) Γ') (k:ExT K S S' t Γ' P):ExT K S S' t Γ P:=fun H0 F0 H F σ B e bb vv D I=>by
  obtain ⟨Ff,A,eF,s,_⟩:=e.frz2 h es
  exact k H0 F0 H _ σ B eF (bb.trans s) vv D I
theorem imm_drop {H0 F:Hp} {T:Addr→Prop} {vs:List V} {ds:List PyData} (h:∀ d∈ds,imm d=true) (k:DpAll K F vs ds):RpAll K κ S H0 (drop T F) vs ds :=
  dpAll_immL h (rpAll_dp (rpAll_map (κ:=true) (κ':=true) (S:=.spoil T) (S':=.fresh) (H0:=fun _=>none) (H0':=fun _=>none) (F:=F) (F':=drop T F) (fun a xs z=>⟨drop_some.mpr ⟨z.1,fun c=>z.2 (.inr c.1)⟩,fun c=>z.2 (.inl c)⟩) (fun _ _ z=>tup_drop z) (dpAll_immL h k)))
theorem thaw {H0 F0 H F:Hp} {σ:St} {i:Nat} {ds:List PyData} {Γf:Ctx} (e:DEnv K S H0 F0 H F σ Γ) (h:GetC Γ i (.ow κ ds)) (es:SetC Γ i (some (.fz κ (.list ds))) Γf) :
    ∃ a Ff,DEnv K S H0 F0 H Ff σ Γf∧∀ H' F',Gr H Ff H' F'→Gr H F H' (drop (fun c=>c=a) F'):=by
  obtain ⟨v,q1,a,vs,rfl,w,q5⟩:=e.has i _ h.eq
  obtain ⟨s,e'⟩:=e.froz (y:=.fz κ (.list ds)) h.eq q1 rfl w (.lst (LN.new w.s) (rpAll_mono (Same.new w.f _) q5)) fun _ z=>z.elim
  rw [es.eq] at e'
  refine ⟨a,_,e',fun H' F' g=>⟨g.h,fun c o z=>drop_some.mpr ⟨g.f _ _ (s _ _ z),?_⟩,fun c o z=>g.le _ _ (drop_some.mp z).1,fun c o z n=>?_⟩⟩
  · rintro ⟨rfl,_⟩
    rw [w.f] at z; cases z
  · by_cases hc:c=a
    · subst hc
      exact drop_none (g.f _ _ upd_same) rfl
    · cases q':drop (fun c=>c=a) F' c with
      | none=>rfl
      | some o' =>
        have:=(drop_some.mp q').1
        rw [g.ap _ _ z (by rw [upd_ne hc]; exact n)] at this; cases this
theorem et_thaw (i:Nat) {t:TT} {b:Bool} {ds:List PyData} {Γf:Ctx} (h:GetC Γ i (.ow κ ds)) (es:SetC Γ i (some (.fz κ (.list ds))) Γf) (k:EvT K S t Γf b):EvT K S t Γ b:=fun H0 F0 H F σ e Q q=>by
  obtain ⟨a,Ff,e',g⟩:=thaw e h es
  exact k H0 F0 H Ff σ e' Q fun H' F' g'=>q H' _ (g H' F' g')
end
end PD
namespace PD
open PySem L2
section
variable {K:PySem.W.Frag} {S S':Sx} {κ κ':Bool} {Γ Γ' Γ'':Ctx} {P:Post}
theorem evo_each {α:Type} {js:List (Option Nat)} {Γc:Ctx} {wi:TI} {g:TG} {te:TE} {is:List Nat} {xs:List α} (κ':Bool) (u f:α→PyData) (hu:∀ x∈xs,∀ y∈xs,u x=u y→f x=f y) (hi:EvI K S κ' wi Γ (xs.map u)) (hc:CaptC js Γ Γc) (hjs:(is.all fun i=>js[i]? == some none)=true)
    (hj:(js.filterMap id).Nodup) (hz:xs.length≤sizeLine) (hb:∀ x∈xs,ExG K S κ' g is (u x) Γc fun Γ'=>EvE K S κ te Γ' (f x)):EvO K S κ (tComp js wi g tYes te) Γ (xs.map f):=by
  classical
  let F:PyData→PyData:=fun d=>if h:∃ x,x∈xs∧u x=d then f h.choose else .none
  have hF:∀ x∈xs,F (u x)=f x:=fun x hx=>by
    have h:∃ y,y∈xs∧u y=u x:=⟨x,hx,rfl⟩
    show (if h:∃ y,y∈xs∧u y=u x then f h.choose else .none)=_
    rw [dif_pos h]
    exact hu _ h.choose_spec.1 _ hx h.choose_spec.2
  refine EvO.eq (evo_map (κ:=κ) κ' F hi hc hjs hj (by rw [List.length_map]; exact hz) fun d hd=>?_) ?_
  · obtain ⟨x,hx,rfl⟩:=List.mem_map.mp hd
    rw [hF x hx]
    exact hb x hx
  · rw [List.map_map]
    exact List.map_congr_left fun x hx=>hF x hx
theorem line62:sizeLine < 2 ^ 62:=by decide
theorem evo_rng {js:List (Option Nat)} {Γc:Ctx} {ta:TA} {g:TG} {te:TE} {is:List Nat} {n:Nat} (f:Nat→PyData) (hi:EvA K S false ta Γ [.int n]) (hn:n≤sizeLine) (hc:CaptC js Γ Γc) (hjs:(is.all fun i=>js[i]? == some none)=true)
    (hj:(js.filterMap id).Nodup) (hb:∀ k:Nat,k < n→ExG K S true g is (.int k) Γc fun Γ'=>EvE K S κ te Γ' (f k)):EvO K S κ (tComp js (iRng1 ta) g tYes te) Γ ((List.range n).map f) :=
  evo_each true (fun k:Nat=>.int (k:Int)) f (fun x _ y _ h=>by cases Int.ofNat.inj (PyData.int.inj h); rfl) (ei_rng1 (n:=(n:Int)) hi (by omega) (by have:=line62; omega)) hc hjs hj (by rw [List.length_range]; exact hn) fun k hk=>hb k (List.mem_range.mp hk)
theorem rg_len {α:Type} {f:Nat→α} {n:Nat}:((List.range n).map f).length=n:=by rw [List.length_map,List.length_range]
end
end PD
namespace L2
open PySem PySem.Spec PyProof.Rows
section
variable {P:Program} {w:World} {H H':Hp} {h h':Heap}
end
section
variable {P:Program} {w:World} {outer:List Env} {H H':Hp} {s s':Shared} {C a:Addr} {B:Heap} {t:Value}
end
end L2
namespace L2
open PySem PySem.Spec PyProof.Rows
section
variable {X:Cx} {E:XK} {x:Str} {C:Addr} {e0:Expr} {es:List Expr} {ta:TA} {np cpos pos:Pos}
end
end L2
namespace L2
open PySem PySem.Spec PyProof.Rows PySem.W PySem.Builtin PySem.Builtin.ObjectAttr PySem.Builtin.Getset_descriptor
section
variable {prog:Program} {w:World} {A:Around} {E:Value→Shared→Prop} {s:Shared} {K:Frag} {a C:Addr} {o:Obj}
end
end L2
namespace L2
open PySem PySem.Spec PyProof.Rows PySem.W
section
variable {X:Cx} {K:Frag}
end
section
variable {M:Model} {A:Around} {E:Value→Shared→Prop} {s:Shared} {env:Env}
end
section
variable {X:Cx} {pins:List (Addr×Obj)} {σ:St} {H:Hp} {s:Shared}
end
section
variable {M:Model} {A:Around} {E:Value→Shared→Prop} {s:Shared} {K:Frag} {a C D:Addr}
end
end L2
namespace L2
open PySem PySem.Spec PyProof.Rows PySem.W
section
variable {X:Cx} {pins:List (Addr×Obj)} {σ:St} {H:Hp} {s:Shared}
end
section
variable {X:Cx} {k:Nat} {ps:List Str} {sp:Sp} {x y n:Str} {p np cpos epos hpos tpos:Pos} {e:Expr} {es:List Expr} {ta:TA} {C D:Addr} {i:Nat} {b0:Stmt} {suite:List Stmt} {th:TS}
end
end L2
namespace L2
open PySem PySem.Spec PyProof.Rows
section
variable {P:Program} {w:World} {K:PySem.W.Frag} {mg:Str→Option Value} {base:Heap}
end
end L2
namespace PD
open PySem L2
section
variable {K:PySem.W.Frag} {S S':Sx} {κ κ':Bool} {Γ Γ' Γ'':Ctx} {P:Post} {E:XK} {C:Addr}
end
end PD
namespace L2
open PySem PySem.Spec PyProof.Rows
section
variable {X:Cx} {K:PySem.W.Frag}
end
end L2
namespace PD
open PySem L2
section
variable {K:PySem.W.Frag} {S S':Sx} {κ κ':Bool} {Γ Γ' Γ'':Ctx} {P:Post} {E:XK} {C:Addr}
end
end PD
namespace L2
open PySem PySem.Spec PyProof.Rows
section
variable {P:Program} {w:World} {K:PySem.W.Frag} {mg:Str→Option Value} {base:Heap}
end
section
variable {X:Cx} {k:Nat} {ps:List Str} {sp:Sp} {x:Str} {p pos:Pos} {e:Expr} {es:List Expr} {t:TA}
end
end L2
namespace PD
open PySem L2
section
variable {K:PySem.W.Frag} {S S':Sx} {κ κ':Bool} {Γ Γ' Γ'':Ctx} {P:Post}
end
end PD
namespace PD
open PySem L2
section
variable {K:PySem.W.Frag} {S S':Sx} {κ κ':Bool} {Γ Γ' Γ'':Ctx} {P:Post}
end
end PD
namespace PD
open PySem L2
section
variable {K:PySem.W.Frag} {S S':Sx} {κ κ':Bool} {Γ Γ' Γ'':Ctx} {P:Post} {E:XK}
end
end PD
namespace PD
open PySem L2
section
variable {K:PySem.W.Frag} {S S':Sx} {κ κ':Bool} {Γ Γ' Γ'':Ctx} {P:Post} {E:XK}
end
end PD
namespace L2
open PySem PySem.Spec PyProof.Rows
section
variable {X:Cx}
end
end L2
namespace PD
open PySem L2
section
variable {K:PySem.W.Frag} {S S':Sx} {κ κ':Bool} {Γ Γ' Γ'' Γ3:Ctx} {P:Post}
theorem eg3 {i j m:Nat} {x y z:PyData} {k:Ctx→Prop} (e1:SetC Γ i (some (.fz κ x)) Γ') (e2:SetC Γ' j (some (.fz κ y)) Γ'') (e3:SetC Γ'' m (some (.fz κ z)) Γ3) (h:k Γ3):ExG K S κ (gTup K 3 (gCons (gName i) (gCons (gName j) (gCons (gName m) gNil)))) [i,j,m] (.tuple [x,y,z]) Γ k:=fun H0 F0 H F σ v e p Q q=>by
  obtain rfl:=e1.eq
  obtain rfl:=e2.eq
  obtain rfl:=e3.eq
  obtain ⟨a,vs,rfl,h1,h2⟩:=rp_tup p
  cases h2 with
  | cons px h2=>cases h2 with
    | cons py h2=>cases h2 with
      | cons pz h2 =>
        cases h2
        refine ⟨a,_,rfl,Same.seqT e.le h1,rfl,_,_,rfl,_,_,rfl,_,_,rfl,rfl,?_⟩
        refine q _ _ H F h (.refl e.le) (((e.setF px).setF py).setF pz) (by simp) fun n hn=>?_
        rw [List.getElem?_set_ne (by intro z; exact hn (by simp [z])),List.getElem?_set_ne (by intro z; exact hn (by simp [z])),List.getElem?_set_ne (by intro z; exact hn (by simp [z]))]
theorem evo_eachIf {α:Type} {js:List (Option Nat)} {Γc:Ctx} {wi:TI} {g:TG} {tt:TT} {te:TE} {is:List Nat} {xs:List α} (κ':Bool) (u f:α→PyData) (p:α→Bool) (hu:∀ x∈xs,∀ y∈xs,u x=u y→f x=f y∧p x=p y) (hi:EvI K S κ' wi Γ (xs.map u)) (hc:CaptC js Γ Γc) (hjs:(is.all fun i=>js[i]? == some none)=true)
    (hj:(js.filterMap id).Nodup) (hz:xs.length≤sizeLine) (hb:∀ x∈xs,ExG K S κ' g is (u x) Γc fun Γ'=>EvT K S tt Γ' (p x)∧(p x=true→EvE K S κ te Γ' (f x))):EvO K S κ (tComp js wi g tt te) Γ ((xs.filter p).map f):=by
  classical
  let F:PyData→PyData:=fun d=>if h:∃ x,x∈xs∧u x=d then f h.choose else .none
  let G:PyData→Bool:=fun d=>if h:∃ x,x∈xs∧u x=d then p h.choose else false
  have ex:∀ x∈xs,∃ y,y∈xs∧u y=u x:=fun x hx=>⟨x,hx,rfl⟩
  have hF:∀ x∈xs,F (u x)=f x:=fun x hx=>by
    show (if h:∃ y,y∈xs∧u y=u x then f h.choose else .none)=_
    rw [dif_pos (ex x hx)]
    exact (hu _ (ex x hx).choose_spec.1 _ hx (ex x hx).choose_spec.2).1
  have hG:∀ x∈xs,G (u x)=p x:=fun x hx=>by
    show (if h:∃ y,y∈xs∧u y=u x then p h.choose else false)=_
    rw [dif_pos (ex x hx)]
    exact (hu _ (ex x hx).choose_spec.1 _ hx (ex x hx).choose_spec.2).2
  refine EvO.eq (evo_comp' (κ:=κ) κ' G F hi hc hjs hj (by rw [List.length_map]; exact hz) fun d hd=>?_) ?_
  · obtain ⟨x,hx,rfl⟩:=List.mem_map.mp hd
    rw [hF x hx,hG x hx]
    exact hb x hx
  · rw [List.filter_map,List.map_map]
    have e1:xs.filter (G∘u)=xs.filter p:=List.filter_congr fun x hx=>hG x hx
    rw [e1]
    exact List.map_congr_left fun x hx=>hF x (List.mem_filter.mp hx).1
end
end PD
namespace L2
open PySem PySem.Spec PyProof.Rows
section
variable {X:Cx} {K:PySem.W.Frag}
def dd (ns:List Int):List Int:=ns.foldl step_dedup []
theorem firstMet_all (ns:List Int):firstMet (fun i=>ns.getD i 0) ns.length=dd ns:=by
  unfold firstMet dd
  congr 1
  refine List.ext_getElem? fun i=>?_
  rw [List.getElem?_map]
  by_cases h:i < ns.length
  · rw [List.getElem?_range h,List.getElem?_eq_getElem h]
    show some (ns.getD i 0)=_
    rw [List.getD_eq_getElem?_getD,List.getElem?_eq_getElem h]
    rfl
  · rw [List.getElem?_eq_none (by rw [List.length_range]; omega),List.getElem?_eq_none (by omega)]
    rfl
theorem dd_snoc (ns:List Int) (k:Int):dd (ns ++ [k])=step_dedup (dd ns) k:=by
  unfold dd
  rw [List.foldl_append]
  rfl
theorem dd_mem (ns:List Int):∀ k,k∈dd ns↔k∈ns:=by
  suffices h:∀ n,∀ k,k∈dd (ns.take n)↔k∈ns.take n by simpa using h ns.length
  intro n
  induction n with
  | zero=>intro k; rfl
  | succ n ih =>
    intro k
    by_cases hn:n < ns.length
    · have e:ns.take (n + 1)=ns.take n ++ [ns[n]]:=by rw [List.take_succ,List.getElem?_eq_getElem hn]; rfl
      rw [e,dd_snoc]
      unfold step_dedup
      split
      · rename_i h
        obtain ⟨x,hx,ex⟩:=List.any_eq_true.mp h
        have:=eq_of_beq ex
        subst this
        rw [ih,List.mem_append]
        refine ⟨.inl,fun z=>?_⟩
        rcases z with z | z
        · exact z
        · rw [List.mem_singleton.mp z]
          exact (ih _).mp hx
      · rw [List.mem_append,List.mem_append,ih]
    · rw [List.take_of_length_le (by omega)]
      have:=ih k
      rw [List.take_of_length_le (by omega)] at this
      exact this
theorem dd_len (ns:List Int):(dd ns).length≤ns.length:=by
  have:=length_foldl_step_dedup_le ns ([]:List Int)
  simpa [dd] using this
end
end L2
namespace PD
open PySem L2
section
variable {K:PySem.W.Frag} {S S':Sx} {κ κ':Bool} {Γ Γ' Γ'':Ctx} {P:Post}
end
end PD
namespace PD
open PySem L2
section
variable {K:PySem.W.Frag} {S S':Sx} {κ κ':Bool} {Γ Γ' Γ'':Ctx} {P:Post}
def EvG (K:PySem.W.Frag) (S:Sx) (κ:Bool) (t:TE) (Γ:Ctx) (G:PyData→Prop):Prop:=∀ (H0 F0 H F:Hp) (σ:St),DEnv K S H0 F0 H F σ Γ→∀ Q:VK,(∀ d v H' F',G d→Gr H F H' F'→Rp K κ S H0 F' v d→Q v H')→t σ H Q
def spW (K:PySem.W.Frag) (κ:Bool) (pre:List PyData→(PyData→Prop)→Prop):Sp:=fun vs H Q _=>∃ F ds G,Same F H∧DpAll K F vs ds∧pre ds G∧∀ d v H' F',G d→Gr H F H' F'→Rp K κ .fresh H F' v d→Q v H'
theorem spW_len {pre:List PyData→(PyData→Prop)→Prop} {n:Nat} (h:∀ ds G,pre ds G→ds.length=n) {vs:List V} {H:Hp} {Q:VK} {E:XK} (s:spW K κ pre vs H Q E):vs.length=n:=by
  obtain ⟨F,ds,d,_,k,p,_⟩:=s
  rw [DpAll.length k]
  exact h ds d p
theorem evg_call {pre:List PyData→(PyData→Prop)→Prop} {E:XK} {t:TA} {ds:List PyData} {G:PyData→Prop} (h:EvA K S false t Γ ds) (hp:pre ds G):EvG K S κ (tCall (spW K true pre) [] E t) Γ G:=fun H0 F0 H F σ e Q q =>
  h H0 F0 H F σ e _ fun vs H1 F1 g1 p1=>⟨F1,ds,G,g1.le,by rw [List.append_nil]; exact rpAll_dp p1,hp,fun d v H2 F2 hd g2 p2=>q d v H2 F2 hd (g1.trans g2) (rp_weak (κ:=true) (fun _=>rfl) (rp_map (κ:=true) (κ':=true) (S':=S) (H0':=H0) (fun a xs z=>⟨z.1,fun c=>by
    obtain ⟨u,hu⟩:=(e.mono g1).sd a c
    exact z.2 (by show H1 a≠none; rw [hu]; simp)⟩) (fun _ _ z=>z) p2))⟩
theorem exg {te:TE} {u:TS} {i:Nat} {G:PyData→Prop} {Γ':PyData→Ctx} (κ:Bool) (h:EvG K S κ te Γ G) (es:∀ d,SetC Γ i (some (.fz κ d)) (Γ' d)) (k:∀ d,G d→ExT K S S' u (Γ' d) P):ExT K S S' (tSeq (tAsg te (gName i)) u) Γ P :=
  ex_seq (fun Γ1=>∃ d,G d∧Γ1=Γ' d) (fun H0 F0 H F σ B e b _ D I=>h H0 F0 H F σ e _ fun d v H' F' hd g p=>I.nx _ _ H' F' ⟨d,hd,rfl⟩ (b.trans g.f) (by rw [← (es d).eq]; exact (e.mono g).setF p)) fun Γ1 ⟨d,hd,z⟩=>z ▸ k d hd
theorem run_defW {t:TS} {N:List Str} {n:Nat} {H F:Hp} {vs:List V} {ds:List PyData} {G:PyData→Prop} {Q:VK} {Γ:Ctx} (le:Same F H) (k:DpAll K F vs ds) (q:∀ d v H' F',G d→Gr H F H' F'→Rp K κ .fresh H F' v d→Q v H') (hn:N.length=n) (hΓ:StartC n ds Γ)
    (h:ExS K .fresh t Γ { nx:=fun _=>False,rt:=G,kr:=κ }):t { nx:=fun _ H'=>Q .non H',rt:=Q } (L2.start N vs) H:=by
  have e:=denv_start (N:=N) le k
  rw [hn,hΓ.eq] at e
  exact h H F H F _ F e (.refl _) (.inl rfl) _ ⟨fun _ _ _ _ z=>z.elim,fun d v H' F' r g p=>q d v H' F' r g p,fun _ _ _ _ z=>z.elim,fun _ _ _ _ z=>z.elim⟩
end
end PD
namespace L2
open PySem
def Rise (xs:Array Nat):Prop:=xs.toList.Pairwise (· < ·)
theorem Rise.lt {xs:Array Nat} (r:Rise xs) {i j:Nat} (h:i < j) (hj:j < xs.size):xs[i]'(by omega) < xs[j]:=by
  have:=List.pairwise_iff_getElem.mp r i j (by simp; omega) (by simpa using hj) h
  simpa using this
theorem below_go (xs:Array Nat) (r:Rise xs) (j:Nat):∀ (fuel lo hi:Nat),lo≤hi→hi≤xs.size→hi - lo≤fuel →
    (∀ i (h:i < xs.size),i < lo→xs[i] < j)→(∀ i (h:i < xs.size),hi≤i→j≤xs[i]) →
    SetTable.below.go xs j fuel lo hi≤xs.size∧(∀ i (h:i < xs.size),i < SetTable.below.go xs j fuel lo hi→xs[i] < j)∧∀ i (h:i < xs.size),SetTable.below.go xs j fuel lo hi≤i→j≤xs[i]
  | 0,lo,hi,h1,h2,h3,a,b=>by
    have:lo=hi:=by omega
    subst this
    exact ⟨h2,a,b⟩
  | f + 1,lo,hi,h1,h2,h3,a,b=>by
    unfold SetTable.below.go
    by_cases hl:lo < hi
    · rw [if_pos hl]
      dsimp only
      have hm:(lo + hi) / 2 < xs.size:=by omega
      have eg:xs.getD ((lo + hi) / 2) j=xs[(lo + hi) / 2]:=by simp [hm]
      rw [eg]
      by_cases hx:xs[(lo + hi) / 2] < j
      · rw [if_pos hx]
        refine below_go xs r j f _ _ (by omega) h2 (by omega) (fun i hi' hlt=>?_) b
        by_cases e:i=(lo + hi) / 2
        · subst e; exact hx
        · exact Nat.lt_trans (r.lt (show i < (lo + hi) / 2 by omega) hm) hx
      · rw [if_neg hx]
        refine below_go xs r j f _ _ (by omega) (by omega) (by omega) a fun i hi' hle=>?_
        by_cases e:i=(lo + hi) / 2
        · subst e; omega
        · have:=r.lt (show (lo + hi) / 2 < i by omega) hi'
          omega
    · rw [if_neg hl]
      have:lo=hi:=by omega
      subst this
      exact ⟨h2,a,b⟩
theorem below_ok (xs:Array Nat) (r:Rise xs) (j:Nat):SetTable.below xs j≤xs.size∧(∀ i (h:i < xs.size),i < SetTable.below xs j→xs[i] < j)∧∀ i (h:i < xs.size),SetTable.below xs j≤i→j≤xs[i] :=
  below_go xs r j _ _ _ (Nat.zero_le _) (Nat.le_refl _) (by omega) (fun _ _ h=>by omega) fun i h z=>by omega
theorem below_next {xs:Array Nat} (r:Rise xs) (i:Nat) (h:i < xs.size):SetTable.below xs (xs[i] + 1)=i + 1:=by
  obtain ⟨a,b,c⟩:=below_ok xs r (xs[i] + 1)
  have h1:¬ SetTable.below xs (xs[i] + 1)≤i:=fun z=>by have:=c i h z; omega
  have h2:¬ i + 1 < SetTable.below xs (xs[i] + 1):=fun z=>by
    have:=b (i + 1) (by omega) z
    have:=r.lt (Nat.lt_succ_self i) (show i + 1 < xs.size by omega)
    simp only [Nat.succ_eq_add_one] at this
    omega
  omega
theorem below_zero {xs:Array Nat} (r:Rise xs):SetTable.below xs 0=0:=by
  obtain ⟨a,b,c⟩:=below_ok xs r 0
  by_cases h:SetTable.below xs 0=0
  · exact h
  · have:=b 0 (by omega) (by omega); omega
structure TOk (b:Bool) (t:SetTable):Prop where
  led:t.led=b
  rise:Rise t.place
  dum:t.dummies=#[]
theorem TOk.fresh {b:Bool} {f m:Nat}:TOk b (.fresh f m b):=⟨rfl,List.Pairwise.nil,rfl⟩
theorem TOk.plain {b c:Bool} {t:SetTable} (h:TOk b t):TOk b { t with plain:=c }:=⟨h.led,h.rise,h.dum⟩
theorem TOk.standIn {b:Bool} {t:SetTable} (h:TOk b t) (n:Nat):TOk b (t.standIn n):=⟨h.led,by
  show (Array.range n).toList.Pairwise (· < ·)
  rw [Array.toList_range]
  exact List.pairwise_lt_range,rfl⟩
theorem TOk.orStandIn {b:Bool} {t:SetTable} (h:TOk b t) (n:Nat):TOk b (t.orStandIn n):=by
  unfold SetTable.orStandIn
  split
  · exact h
  · exact h.standIn n
theorem has_nil (j:Nat):SetTable.has #[] j=false:=rfl
theorem slot_ne {t:SetTable} {j:Nat} (h:t.slot j=.empty):t.place[SetTable.below t.place j]?≠some j:=by
  intro z
  unfold SetTable.slot at h
  simp [z] at h
theorem probe_empty {t:SetTable} {b:Bool} (ht:TOk b t) {g:Nat→Int} {h:Int}:∀ (n:Nat) (p:SetTable.Probe) {j:Nat} {d:Option Nat},p.dummy=none→SetTable.probe.go t g h n p=some (.empty j d)→d=none∧t.slot j=.empty
  | 0,p,j,d,_,e=>by cases e
  | n + 1,p,j,d,hp,e=>by
    unfold SetTable.probe.go at e
    split at e
    · rename_i hs
      injection e with e
      injection e with e1 e2
      subst e1
      exact ⟨e2 ▸ hp,hs⟩
    · rename_i hs
      exfalso
      unfold SetTable.slot at hs
      rw [ht.dum] at hs
      simp only [has_nil] at hs
      split at hs <;> simp at hs
    · split at e
      · cases e
      · refine probe_empty ht n _ ?_ e
        unfold SetTable.advance
        split
        · exact hp
        · exact hp
theorem put_ok {b:Bool} {t:SetTable} (h:TOk b t) {j:Nat} (hj:t.slot j=.empty):TOk b (t.put j).1:=by
  refine ⟨h.led,?_,by show (if SetTable.has t.dummies j=true then _ else _)=_; rw [h.dum,has_nil]; rfl⟩
  have hn:=slot_ne hj
  obtain ⟨a,b,c⟩:=below_ok t.place h.rise j
  show (SetTable.insertAt t.place (SetTable.below t.place j) j).toList.Pairwise (· < ·)
  generalize SetTable.below t.place j=p at *
  rw [SetTable.toList_insertAt,List.pairwise_append]
  have hr:t.place.toList.Pairwise (· < ·):=h.rise
  refine ⟨hr.sublist (List.take_sublist _ _),?_,?_⟩
  · rw [List.pairwise_cons]
    refine ⟨fun x hx=>?_,hr.sublist (List.drop_sublist _ _)⟩
    obtain ⟨i,hi,rfl⟩:=List.mem_iff_getElem.mp hx
    rw [List.length_drop,Array.length_toList] at hi
    rw [List.getElem_drop,Array.getElem_toList]
    have:=c (p + i) (by omega) (by omega)
    by_cases z:i=0
    · subst z
      have h2:t.place[p]≠j:=fun q=>hn (by rw [Array.getElem?_eq_getElem (by omega),q])
      simp only [Nat.add_zero] at this ⊢
      omega
    · have h3:=h.rise.lt (show p < p + i by omega) (show p + i < t.place.size by omega)
      have h4:=c p (by omega) (Nat.le_refl _)
      omega
  · intro x hx y hy
    obtain ⟨i,hi,rfl⟩:=List.mem_iff_getElem.mp hx
    rw [List.length_take,Array.length_toList] at hi
    rw [List.getElem_take,Array.getElem_toList]
    have h1:=b i (by omega) (by omega)
    rcases List.mem_cons.mp hy with rfl | hy
    · exact h1
    · obtain ⟨k,hk,rfl⟩:=List.mem_iff_getElem.mp hy
      rw [List.length_drop,Array.length_toList] at hk
      rw [List.getElem_drop,Array.getElem_toList]
      have:=c (p + k) (by omega) (by omega)
      omega
theorem layNew_ok {b:Bool} {t:SetTable} (h:TOk b t) (es:Array (Int×Value)) (k:Int) (x:Value):TOk b (layNew t es k x).2.1:=by
  unfold layNew
  split
  · rename_i slot wd e
    unfold SetTable.freeSlot at e
    split at e
    · rename_i j d e2
      obtain ⟨rfl,hs⟩:=probe_empty h _ _ rfl e2
      injection e with e
      injection e with e3 _
      have e3:j=slot:=e3
      subst e3
      exact (put_ok h hs).orStandIn _
    · cases e
  · exact h.standIn _
theorem relayAll_ok {b:Bool} {t:SetTable} (h:TOk b t) (es:Array (Int×Value)) (n:Nat):TOk b (relayAll t es n).2.1:=by
  unfold relayAll
  split
  · rename_i t' order e
    dsimp only
    split
    · unfold SetTable.relaid SetTable.laid at e
      simp only [Option.bind_eq_bind] at e
      obtain ⟨ow,_,e⟩:=Option.bind_eq_some_iff.mp e
      injection e with e
      injection e with e1 e2
      subst e1
      refine ⟨h.led,?_,rfl⟩
      show List.Pairwise (· < ·) _
      dsimp only
      rw [List.pairwise_map,List.pairwise_filterMap]
      refine List.pairwise_lt_range.imp fun {i j} hij x hx y hy=>?_
      obtain ⟨u,_,rfl⟩:=Option.map_eq_some_iff.mp hx
      obtain ⟨u',_,rfl⟩:=Option.map_eq_some_iff.mp hy
      exact hij
    · exact h.standIn _
  · exact h.standIn _
theorem pickOrder_perm {α:Type} (next:Nat→Nat) (xs:Array α):(pickOrder next xs).toList.Perm xs.toList:=by
  suffices h:∀ (n k:Nat) (l:List α) (out:Array α),l.length=n→(pickOrder.go next n k l out).toList.Perm (out.toList ++ l) by
    have:=h xs.size 0 xs.toList #[] (by simp)
    simpa [pickOrder] using this
  intro n
  induction n with
  | zero =>
    intro k l out hl
    have:l=[]:=List.length_eq_zero_iff.mp hl
    subst this
    simp [pickOrder.go]
  | succ n ih =>
    intro k l out hl
    unfold pickOrder.go
    have hm:next k % l.length < l.length:=Nat.mod_lt _ (by omega)
    rw [List.getElem?_eq_getElem hm]
    dsimp only
    refine (ih _ _ _ (by rw [List.length_eraseIdx_of_lt hm]; omega)).trans ?_
    rw [Array.toList_push,List.append_assoc]
    refine List.Perm.append_left _ ?_
    have e:l=l.take (next k % l.length) ++ l[next k % l.length] :: l.drop (next k % l.length + 1):=by
      rw [← List.drop_eq_getElem_cons hm,List.take_append_drop]
    conv=>rhs; rw [e]
    rw [List.eraseIdx_eq_take_drop_succ,List.singleton_append]
    exact List.perm_middle.symm
end L2
namespace L2
open PySem PySem.Spec PyProof.Rows
def IsE (e:Int×Value):Prop:=∃ k t,e=(hashInt k,.int k t)
def kOf (e:Int×Value):Int:=match e.2 with | .int k _=>k | _=>0
def SetI (b:Bool) (a:Addr) (l:List Int) (h:Heap):Prop :=
  ∃ o es ep t,h.get? a=some o∧o.ExactSet∧o.data=.set es ep t∧(∀ e∈es.toList,IsE e)∧(es.toList.map kOf).Perm l∧es.size < scanBound∧t.fits es.size=true∧TOk b t
section
variable {prog:Program} {w:World} {A:Around} {E:Value→Shared→Prop} {s:Shared} {b:Bool} {a:Addr} {l:List Int}
theorem SetI.at {h h':Heap} (x:SetI b a l h) (e:∀ o,h.get? a=some o→h'.get? a=some o):SetI b a l h' :=
  let ⟨o,es,ep,t,ho,r⟩:=x
  ⟨o,es,ep,t,e o ho,r⟩
theorem IsE.elems {es:List (Int×Value)} (h:∀ e∈es,IsE e):ElemsOf (intKind prog w) es:=fun e he=>by
  obtain ⟨k,t,rfl⟩:=h e he
  exact ⟨⟨k,intKind_is _ _ k t,rfl⟩,rfl⟩
theorem IsE.is {e:Int×Value} (h:IsE e) (k:Int):(intKind prog w).is k e.2=true↔kOf e=k:=by
  obtain ⟨j,t,rfl⟩:=h
  constructor
  · intro z
    exact ((intKind prog w).inj _ _ _ z (intKind_is _ _ j t)).symm
  · intro z
    have z:j=k:=z
    subst z
    exact intKind_is _ _ j t
theorem IsE.ints:∀ {es:List (Int×Value)},(∀ e∈es,IsE e)→IntsAre (es.map (·.2)) (es.map kOf)
  | [],_=>.nil
  | e :: es,h=>by
    obtain ⟨k,t,rfl⟩:=h e (.head _)
    exact .cons k t (IsE.ints fun x hx=>h x (.tail _ hx))
theorem storeI {o:Obj} {es:Array (Int×Value)} {ep:Nat} {t:SetTable} {h:Heap} (ho:h.get? a=some o) (hd:o.data=.set es ep t) (es':Array (Int×Value)) (t':SetTable) :
    (h.update a (Obj.putSet es' t')).get? a=some { o with data:=.set es' (ep + 1) t' }:=by
  have q:=Heap.get?_update_self (Obj.putSet es' t') ho (by rw [putSet_of _ _ hd]; rfl)
  rwa [putSet_of _ _ hd] at q
theorem tailI {g:Bool→Sem Unit} (hg:∀ (c:Bool) (s₁:Shared) (R:Unit→Shared→Prop),R () s₁→wpAny (model prog w) A (g c) R E s₁)
    {o:Obj} {es:Array (Int×Value)} {ep:Nat} {t:SetTable} (ho:s.heap.get? a=some o) (hex:o.ExactSet) (hd:o.data=.set es ep t)
    {es1:Array (Int×Value)} {t2:SetTable} (he:∀ e∈es1.toList,IsE e) (hp:(es1.toList.map kOf).Perm l) (hz:es1.size < scanBound) (hf:t2.fits es1.size=true) (ht:TOk b t2) {wd:Bool} {R:Option Bool→Shared→Prop}
    (k:∀ h',Heap.SameBut a s.heap h'→SetI b a l h'→R (some true) { s with heap:=h' }) :
    wpAny (model prog w) A (do
      storeSet a es1 t2
      if (!wd && t2.tooFull)=true then do
        g (relayAll t2 es1 (SetTable.grown es1.size)).2.2; storeSet a (relayAll t2 es1 (SetTable.grown es1.size)).1 (relayAll t2 es1 (SetTable.grown es1.size)).2.1; pure (some true)
      else pure (some true)) R E s:=by
  refine wpAny_bind (wpAny_storeSet_of ho hd ?_ (fits_of_scanBound hz))
  have g1:=storeI ho hd es1 t2
  have u1:=Heap.SameBut.update s.heap a (Obj.putSet es1 t2)
  split
  · have hr:=relayAll_perm t2 es1 (SetTable.grown es1.size)
    have hq:=relayAll_fits t2 es1 (SetTable.grown es1.size)
    have hk:=relayAll_ok ht es1 (SetTable.grown es1.size)
    generalize relayAll t2 es1 (SetTable.grown es1.size)=Z at hr hq hk ⊢
    obtain ⟨es2,t3,gv⟩:=Z
    dsimp only at hr hq hk ⊢
    have z2:es2.size=es1.size:=by have:=hr.length_eq; simpa using this
    refine wpAny_bind (hg _ _ _ ?_)
    refine wpAny_bind (wpAny_storeSet_of g1 rfl ?_ (fits_of_scanBound (by rw [z2]; exact hz)))
    exact wpAny_pure (k _ (u1.trans (Heap.SameBut.update _ a _)) ⟨_,es2,_,t3,storeI g1 rfl es2 t3,hex,rfl,fun e x=>he e (hr.mem_iff.mp x),(hr.map kOf).trans hp,by rw [z2]; exact hz,hq,hk⟩)
  · exact wpAny_pure (k _ u1 ⟨_,es1,_,t2,g1,hex,rfl,he,hp,hz,hf,ht⟩)
theorem addI {k:Int} {tk:Tok} {Q:Bool→Shared→Prop} (hS:SetI b a l s.heap) (hl:l.length + 1 < scanBound)
    (h:∀ (r:Bool) h',Heap.SameBut a s.heap h'→SetI b a (step_dedup l k) h'→Q r { s with heap:=h' }) :
    wpAny (model prog w) A (setAddHashed a (.int k tk) (hashInt k)) Q E s:=by
  obtain ⟨o,es,ep,t,ho,hex,hd,hE,hp,hz,hf,ht⟩:=hS
  have hel:ElemsOf (intKind prog w) es.toList:=IsE.elems hE
  have hn:es.size=l.length:=by have:=hp.length_eq; simpa using this
  have hm:∀ k',k'∈l↔∃ e∈es.toList,(intKind prog w).is k' e.2=true:=fun k'=>by
    rw [← hp.mem_iff,List.mem_map]
    exact ⟨fun ⟨e,x,y⟩=>⟨e,x,((hE e x).is k').mpr y⟩,fun ⟨e,x,y⟩=>⟨e,x,((hE e x).is k').mp y⟩⟩
  unfold setAddHashed setAddHashedIn
  refine wpAny_holding (wpAny_bind (wpAny_setState_of ho hd hf ?_))
  dsimp only
  rw [byScan_of (knd:=intKind prog w) (x:=.int k tk) rfl hz hel]
  simp only [↓reduceIte]
  unfold setAddByScan
  refine wpAny_bind (wpAny_bind (wpAny_rule ?_))
  refine wpAny_bind (wpAny_setScan_of (knd:=intKind prog w) (k:=k) (intKind_is _ _ k tk) ho hd hf hel ?_)
  cases hr:List.findIdx? (fun e=>(intKind prog w).is k e.2) es.toList with
  | some j =>
    dsimp only
    obtain ⟨hj,hpj,_⟩:=List.findIdx?_eq_some_iff_getElem.mp hr
    have hk:k∈l:=(hm k).mpr ⟨es.toList[j],List.getElem_mem hj,hpj⟩
    have e1:step_dedup l k=l:=by unfold step_dedup; rw [if_pos (List.any_eq_true.mpr ⟨k,hk,by simp⟩)]
    have q:=h false s.heap (Heap.SameBut.refl a s.heap) (e1.symm ▸ ⟨o,es,ep,t,ho,hex,hd,hE,hp,hz,hf,ht⟩)
    exact wpAny_pure (wpAny_pure q)
  | none =>
    dsimp only
    have hk:k∉l:=fun z=>by
      obtain ⟨e,he,hpe⟩:=(hm k).mp z
      have q:=List.findIdx?_eq_none_iff.mp hr e he
      rw [hpe] at q; cases q
    have e1:step_dedup l k=l ++ [k]:=by
      unfold step_dedup
      refine if_neg fun z=>?_
      obtain ⟨x,hx,ex⟩:=List.any_eq_true.mp z
      exact hk (eq_of_beq ex ▸ hx)
    have hgw:∀ (c:Bool) {s₁:Shared} {R:Unit→Shared→Prop},R () s₁→wpAny (model prog w) A (match c with | true=>rule "set.scan.the-table-gave-way" | false=>pure ()) R E s₁:=fun c s₁ R q=>by
      cases c
      · exact wpAny_pure q
      · exact wpAny_rule q
    have hperm:=layNew_perm t es (hashInt k) (.int k tk)
    have hfits:=layNew_fits t es (hashInt k) (.int k tk)
    have hok:=layNew_ok ht es (hashInt k) (.int k tk)
    show wpAny _ _ (let (es,t,wasDummy,gave):=layNew t es (hashInt k) (.int k tk); _) _ _ _
    generalize layNew t es (hashInt k) (.int k tk)=Z at hperm hfits hok ⊢
    obtain ⟨es1,t1,wd,gv⟩:=Z
    dsimp only at hperm hfits hok ⊢
    rw [Array.toList_push] at hperm
    have hE1:∀ e∈es1.toList,IsE e:=fun e he=>by
      rcases List.mem_append.mp (hperm.mem_iff.mp he) with z | z
      · exact hE e z
      · rw [List.mem_singleton.mp z]; exact ⟨k,tk,rfl⟩
    have hp1:(es1.toList.map kOf).Perm (l ++ [k]):=by
      refine (hperm.map kOf).trans ?_
      rw [List.map_append]
      exact hp.append_right _
    have hz1:es1.size < scanBound:=by
      have q:=hp1.length_eq
      rw [List.length_map,Array.length_toList,List.length_append] at q
      have:es1.size=l.length + 1:=q
      omega
    refine wpAny_bind (hgw _ ?_)
    have kk:∀ h',Heap.SameBut a s.heap h'→SetI b a (l ++ [k]) h'→Q true { s with heap:=h' }:=fun h' u v=>h true h' u (e1.symm ▸ v)
    split
    · refine wpAny_bind ?_
      rw [hashByValue_scannable 8 (x:=.int k tk) rfl]
      refine wpAny_pure ?_
      refine tailI ?_ ho hex hd hE1 hp1 hz1 ?_ ?_ fun h' u v=>wpAny_pure (kk h' u v)
      · exact fun c s₁ R q=>hgw c q
      · split
        · exact hfits
        · exact SetTable.fits_plain_off hfits
      · split
        · exact hok
        · exact hok.plain
    · refine wpAny_bind (wpAny_pure ?_)
      simp only [↓reduceIte]
      refine tailI ?_ ho hex hd hE1 hp1 hz1 hfits hok fun h' u v=>wpAny_pure (kk h' u v)
      exact fun c s₁ R q=>hgw c q
end
end L2
namespace L2
open PySem PySem.Spec PyProof.Rows
theorem setit_next:Slot "set_iterator" "__next__" "set_iterator.__next__" := .of (owner := "set_iterator") (n := "__next__")
  (by rw [typeLookup_type,builtinLookup_eq_fast]; kernel_rfl) (by decide +kernel) (by decide +kernel)
  (by decide +kernel) (by first | exact .inl (by decide +kernel) | exact .inr (by decide +kernel))
  (by rw [isSubtype_type]; kernel_rfl)
theorem setit_iter:Slot "set_iterator" "__iter__" "set_iterator.__iter__" := .of (owner := "set_iterator") (n := "__iter__")
  (by rw [typeLookup_type,builtinLookup_eq_fast]; kernel_rfl) (by decide +kernel) (by decide +kernel)
  (by decide +kernel) (by first | exact .inl (by decide +kernel) | exact .inr (by decide +kernel))
  (by rw [isSubtype_type]; kernel_rfl)
theorem setit_entry:entryFor table "set_iterator.__next__" = some Builtin.«set_iterator.__next__»:=entryFor_of_tree (by kernel_rfl)
theorem setit_entryI:entryFor table "set_iterator.__iter__" = some Builtin.«dict_keyiterator.__iter__»:=entryFor_alias (id' := "dict_keyiterator.__iter__") (by kernel_rfl) rfl (by decide +kernel) (by kernel_rfl)
theorem set_entryI:entryFor table "set.__iter__" = some Builtin.«frozenset.__iter__»:=entryFor_alias (id' := "frozenset.__iter__") (by kernel_rfl) rfl (by decide +kernel) (by kernel_rfl)
theorem setit_args (a:Value):argsOk "set_iterator.__next__" ⟨[a],[]⟩:=by
  unfold argsOk
  kernel_rfl
theorem setit_argsI (a:Value):argsOk "set_iterator.__iter__" ⟨[a],[]⟩:=by
  unfold argsOk
  kernel_rfl
end L2
namespace L2
open PySem PySem.Spec PyProof.Rows
def ItO (first:Value) (i:Nat) (a:Addr) (n ep:Nat):Obj:={ cls:=.type "set_iterator", data:=.fields #[first,.int i 0,.ref a,.int n 0,.int ep 0] }
section
variable {prog:Program} {w:World} {A:Around} {E:Value→Shared→Prop} {s:Shared} {b:Bool} {a I:Addr} {l:List Int}
theorem chooseI {n:Nat} {src:Source} {Q:Nat→Shared→Prop} (hn:n≠0) (h:∀ i,i < n→∀ d,Q i { s with drawn:=d }):wpAny (model prog w) A (choose src n) Q E s :=
  fun _ _ _=>⟨hn,h _ (Nat.mod_lt _ (Nat.pos_of_ne_zero hn)) _⟩
theorem drawI {α:Type}:∀ (n:Nat) (xs:List α) (s:Shared) {Q:List α→Shared→Prop},xs.length=n→(∀ ys d,ys.Perm xs→Q ys { s with drawn:=d })→wpAny (model prog w) A (drawOrder n xs) Q E s
  | 0,xs,s,Q,hl,h=>by
    have:xs=[]:=List.length_eq_zero_iff.mp hl
    subst this
    unfold drawOrder
    exact wpAny_pure (h [] s.drawn .nil)
  | n + 1,[],s,Q,hl,h=>by cases hl
  | n + 1,x :: xs,s,Q,hl,h=>by
    unfold drawOrder
    refine wpAny_bind (chooseI (by simp) fun i hi d=>?_)
    rw [List.getElem?_eq_getElem hi]
    dsimp only
    refine wpAny_bind (drawI n _ _ (by rw [List.length_eraseIdx_of_lt hi]; omega) fun ys d' hp=>wpAny_pure (h _ d' ?_))
    have e:(x :: xs)=(x :: xs).take i ++ (x :: xs)[i] :: (x :: xs).drop (i + 1):=by
      rw [← List.drop_eq_getElem_cons hi,List.take_append_drop]
    rw [List.eraseIdx_eq_take_drop_succ] at hp
    refine (hp.cons _).trans ?_
    conv=>rhs; rw [e]
    exact List.perm_middle.symm
theorem nextI {first x:Value} {slot i n ep nx:Nat} {o:Obj} {es:Array (Int×Value)} {t:SetTable} {Q:Option Value→Shared→Prop} (hI:s.heap.get? I=some (ItO (.int slot 0) i a n ep))
    (ho:s.heap.get? a=some o) (hd:o.data=.set es ep t) (hf:t.fits es.size=true) (hn:es.size=n)
    (hN:∀ (A:Around) (E:Value→Shared→Prop) (R:Option (Value×Nat)→Shared→Prop),R (some (x,nx)) s→wpAny (model prog w) A (setNext a slot i ep) R E s)
    (hQ:∀ h',h'.get? I=some (ItO (.int nx 0) (i + 1) a n ep)→Heap.SameBut I s.heap h'→Q (some x) { s with heap:=h' }):wpAny (model prog w) A (pyNext (.ref I)) Q E s:=by
  have hT:s.TypeIs (.ref I) "set_iterator" := ⟨_,hI,rfl⟩
  unfold pyNext
  refine wpAny_bind (wpAny_attempt (wpAny_callSpecial?_slot (name:=Str.ofString "__next__") hT setit_next (wpAny_call_entry setit_next hT setit_entry ?_ (setit_args _))))
  unfold Builtin.«set_iterator.__next__»
  refine wpAny_bind (wpAny_pure ?_)
  refine wpAny_bind (wpAny_fieldsOf hI rfl ?_)
  refine wpAny_bind (wpAny_setEntries_of ho hd hf ?_)
  rw [if_neg (by rw [hn]; simp)]
  dsimp only
  refine wpAny_bind (m:=setNext a _ _ _) ?_
  rw [Int.toNat_natCast,Int.toNat_natCast,Int.toNat_natCast]
  refine hN _ _ _ ?_
  dsimp only
  have g1:(s.heap.update I (Obj.mapFields (·.setIfInBounds 0 (rawInt nx)))).get? I=some (ItO (.int nx 0) i a n ep):=Heap.get?_update_self _ hI rfl
  refine wpAny_bind (wpAny_setField hI rfl (Nat.zero_lt_succ _) ?_)
  have g2:((s.heap.update I (Obj.mapFields (·.setIfInBounds 0 (rawInt nx)))).update I (Obj.mapFields (·.setIfInBounds 1 (rawInt ((i:Int) + 1))))).get? I=some (ItO (.int nx 0) (i + 1) a n ep):=Heap.get?_update_self _ g1 rfl
  refine wpAny_bind (wpAny_setField (s:={ s with heap:=_ }) g1 rfl (Nat.succ_lt_succ (Nat.zero_lt_succ _)) ?_)
  exact wpAny_pure ⟨_,rfl,wpAny_pure (hQ _ g2 ((Heap.SameBut.update ..).trans (Heap.SameBut.update ..)))⟩
theorem stopI {h:Heap} {Q:Option Value→Shared→Prop} (hh:A.handled=none) (k:∀ h',Heap.ExtBut I h h'→Q none { s with heap:=h' }) :
    wpAny (model prog w) A.in1 (newExc (.type "StopIteration") [] >>= fun e=>(raiseNew e:Sem Fin)) (fun fin s'=>∃ r,fin=.done (.ret r)∧False) (fun e s'=>∃ T,s'.TypeIs e T∧T = "StopIteration" ∧ Q none s') { s with heap:=h }:=by
  refine wpAny_bind ?_
  simp only [newExc,newTuple]
  refine wpAny_bind (wpAny_newObj_type (hd:=by size_fits) (wpAny_bind (m:=firstArgMember _ _) ?_))
  refine wpAny_of_eq (a:=Value.none) (by first | rfl | (simp only [firstArgMember]; rfl)) (wpAny_newObj_type (hd:=by size_fits) ?_)
  simp only [raiseNew]
  have h0:A.in1.handled=none:=hh
  apply wpAny_bind
  apply wpAny_handled
  rw [h0]
  exact wpAny_bind (wpAny_pure (wpAny_throw ⟨_,⟨_,Heap.get?_push_size _ rfl,rfl⟩,rfl,k _ (((show Heap.ExtBut I h h from fun _ _ _ z=>z).push _).push _)⟩))
theorem endI {first:Value} {slot i n ep:Nat} {o:Obj} {es:Array (Int×Value)} {t:SetTable} {Q:Option Value→Shared→Prop} (hh:A.handled=none) (hI:s.heap.get? I=some (ItO (.int slot 0) i a n ep))
    (ho:s.heap.get? a=some o) (hd:o.data=.set es ep t) (hf:t.fits es.size=true) (hn:es.size=n)
    (hN:∀ (A:Around) (E:Value→Shared→Prop) (R:Option (Value×Nat)→Shared→Prop),R none s→wpAny (model prog w) A (setNext a slot i ep) R E s)
    (hQ:∀ h',Heap.ExtBut I s.heap h'→Q none { s with heap:=h' }):wpAny (model prog w) A (pyNext (.ref I)) Q E s:=by
  have hT:s.TypeIs (.ref I) "set_iterator" := ⟨_,hI,rfl⟩
  unfold pyNext
  refine wpAny_bind (wpAny_attempt (wpAny_callSpecial?_slot (name:=Str.ofString "__next__") hT setit_next (wpAny_call_entry setit_next hT setit_entry ?_ (setit_args _))))
  unfold Builtin.«set_iterator.__next__»
  refine wpAny_bind (wpAny_pure ?_)
  refine wpAny_bind (wpAny_fieldsOf hI rfl ?_)
  refine wpAny_bind (wpAny_setEntries_of ho hd hf ?_)
  rw [if_neg (by rw [hn]; simp)]
  dsimp only
  refine wpAny_bind (m:=setNext a _ _ _) ?_
  rw [Int.toNat_natCast,Int.toNat_natCast,Int.toNat_natCast]
  refine hN _ _ _ ?_
  dsimp only
  refine wpAny_bind (wpAny_setField hI rfl (Nat.succ_lt_succ (Nat.succ_lt_succ (Nat.zero_lt_succ _))) ?_)
  refine wpAny_mono (stopI (I:=I) (s:=s) hh fun h' u=>hQ h' fun c o' n' z=>u c o' n' ((Heap.SameBut.update ..).extBut c o' n' z)) (fun _ _ z=>?_) fun e s' z=>?_
  · obtain ⟨_,_,z⟩:=z; exact z.elim
  · obtain ⟨T,x1,rfl,x2⟩:=z
    exact wpAny_bind (wpAny_isInstance (T := "StopIteration") (b:=true) x1 isSubtype_stop (wpAny_pure x2))
end
end L2
namespace L2
open PySem PySem.Spec PyProof.Rows
section
variable {prog:Program} {w:World} {A:Around} {E:Value→Shared→Prop} {s:Shared} {b:Bool} {a I:Addr} {l:List Int}
theorem goText {i ep:Nat} {o:Obj} {es:Array (Int×Value)} {t:SetTable} {R:Option (Value×Nat)→Shared→Prop} (hb:w.params.followText "set-order" = true)
    (ho:s.heap.get? a=some o) (hd:o.data=.set es ep t) (hf:t.fits es.size=true)
    (k:R (((pickOrder (w.params.setOrder a ep) es).toList.map (·.2))[i]?.map fun x=>(x,0)) s):wpAny (model prog w) A (setNext a 0 i ep) R E s:=by
  unfold setNext
  refine wpAny_bind (wpAny_setState_of ho hd hf ?_)
  dsimp only
  unfold setsByText
  refine wpAny_bind (wpAny_bind (wpAny_askSetting (wpAny_pure ?_)))
  rw [show (model prog w).w.params.followText "set-order" = true from hb]
  simp only [↓reduceIte]
  rw [if_neg (by simp)]
  unfold setWalk
  refine wpAny_bind (wpAny_bind (wpAny_setState_of ho hd hf ?_))
  dsimp only
  unfold setsByText
  refine wpAny_bind (wpAny_bind (wpAny_askSetting (wpAny_pure ?_)))
  rw [show (model prog w).w.params.followText "set-order" = true from hb]
  simp only [↓reduceIte]
  refine wpAny_bind (wpAny_askSetting (wpAny_pure (wpAny_pure ?_)))
  rw [List.getElem?_map,Option.map_map,Array.getElem?_toList] at k
  exact k
def slP (t:SetTable):Nat→Nat
  | 0=>0
  | j + 1=>t.place.getD j 0 + 1
theorem slP_below {t:SetTable} {c:Bool} (ht:TOk c t) {i:Nat} (hi:i≤t.place.size):SetTable.below t.place (slP t i)=i:=by
  cases i with
  | zero=>exact below_zero ht.rise
  | succ j =>
    have:t.place.getD j 0=t.place[j]:=by simp [show j < t.place.size by omega]
    show SetTable.below t.place (t.place.getD j 0 + 1)=_
    rw [this]
    exact below_next ht.rise j (by omega)
theorem goPlace {i ep:Nat} {o:Obj} {es:Array (Int×Value)} {t:SetTable} {R:Option (Value×Nat)→Shared→Prop} (hb:w.params.followText "set-order" = false)
    (ho:s.heap.get? a=some o) (hd:o.data=.set es ep t) (hf:t.fits es.size=true) (ht:TOk true t) (hp:(!t.plain && decide (es.size > 1))=false) (hi:i≤es.size)
    (k:R ((es.toList.map (·.2))[i]?.map fun x=>(x,slP t (i + 1))) s):wpAny (model prog w) A (setNext a (slP t i) i ep) R E s:=by
  have hz:t.place.size=es.size:=by
    simp only [SetTable.fits,Bool.and_eq_true,beq_iff_eq] at hf
    exact hf.1
  unfold setNext
  refine wpAny_bind (wpAny_setState_of ho hd hf ?_)
  dsimp only
  unfold setsByText
  refine wpAny_bind (wpAny_bind (wpAny_askSetting (wpAny_pure ?_)))
  rw [show (model prog w).w.params.followText "set-order" = false from hb]
  simp only [Bool.false_eq_true,↓reduceIte]
  split
  · rename_i z
    exact absurd (hp.symm.trans z) (by decide)
  refine wpAny_bind (wpAny_of_eq (a:=()) ?_ ?_)
  · show (if (!t.led && !es.isEmpty)=true then _ else _)=_
    rw [ht.led]
    rfl
  rw [slP_below ht (by omega)]
  refine wpAny_pure ?_
  rw [List.getElem?_map,Array.getElem?_toList] at k
  by_cases hl:i < es.size
  · rw [Array.getElem?_eq_getElem hl] at k ⊢
    rw [Array.getElem?_eq_getElem (by omega)]
    have:slP t (i + 1)=t.place[i]'(by omega) + 1:=by
      show t.place.getD i 0 + 1=_
      simp [show i < t.place.size by omega]
    rw [this] at k
    exact k
  · rw [Array.getElem?_eq_none (by omega)] at k ⊢
    exact k
theorem walkAB {ep:Nat} {o:Obj} {es:Array (Int×Value)} {t:SetTable} {us:List Value} {sl:Nat→Nat} (hd:o.data=.set es ep t) (hf:t.fits es.size=true) (hu:us.length=es.size) (hne:I≠a)
    (hN:∀ (i:Nat) (s:Shared) (A:Around) (E:Value→Shared→Prop) (R:Option (Value×Nat)→Shared→Prop),s.heap.get? a=some o→i≤es.size→R (us[i]?.map fun x=>(x,sl (i + 1))) s→wpAny (model prog w) A (setNext a (sl i) i ep) R E s)
    (hh:A.handled=none):WalksS prog w A I [I,a] [I] (fun x y=>y=x) es.size (fun i v=>us[i]?=some v) (fun i s=>s.heap.get? I=some (ItO (.int (sl i) 0) i a es.size ep)∧s.heap.get? a=some o) where
  sub:=fun c hc=>by rw [List.mem_singleton.mp hc]; exact .head _
  grefl:=fun _=>rfl
  gtrans:=fun _ _ _ x y=>y.trans x
  frame:=fun i s h' tk st _ hk=>⟨hk I (.head _) _ st.1,hk a (.tail _ (.head _)) _ st.2⟩
  item:=fun i s Q E hi st hQ=>by
    refine nextI (first:=.none) (x:=us[i]'(by omega)) (nx:=sl (i + 1)) st.1 st.2 hd hf rfl (fun A E R r=>hN i s A E R st.2 (by omega) (by rw [List.getElem?_eq_getElem (by omega)]; exact r)) fun h' g u=>?_
    refine hQ _ _ (List.getElem?_eq_getElem (by omega)) ⟨g,u.extBut a _ (Ne.symm hne) st.2⟩ ⟨fun c o' hc z=>u.extBut c o' (fun q=>hc (by rw [q]; exact .head _)) z,rfl,rfl,rfl,Nat.le_refl _⟩
  done:=fun s Q E st hQ=>by
    refine endI (first:=.none) hh st.1 st.2 hd hf rfl (fun A E R r=>hN es.size s A E R st.2 (Nat.le_refl _) (by rw [List.getElem?_eq_none (by omega)]; exact r)) fun h' u=>?_
    exact hQ _ ⟨fun c o' hc z=>u c o' (fun q=>hc (by rw [q]; exact .head _)) z,rfl,rfl,rfl,Nat.le_refl _⟩
  self:=fun i s Q E st hQ=>by
    have hT:s.TypeIs (.ref I) "set_iterator" := ⟨_,st.1,rfl⟩
    refine wpAny_pyIter_slot hT setit_iter (wpAny_call_entry setit_iter hT setit_entryI ?_ (setit_argsI _))
    show wpAny _ _ (ret (.ref I)) _ _ s
    exact wpAny_pure ⟨_,rfl, "set_iterator", _,hT,setit_next.lookup,hQ⟩
end
end L2
namespace L2
open PySem PySem.Spec PyProof.Rows
section
variable {prog:Program} {w:World} {A:Around} {E:Value→Shared→Prop} {s:Shared} {b:Bool} {a I T:Addr} {l:List Int}
theorem nextD {i n ep p:Nat} {x:Value} {oT o:Obj} {xs:Array Value} {m:Nat} {es:Array (Int×Value)} {t:SetTable} {Q:Option Value→Shared→Prop} (hI:s.heap.get? I=some (ItO (.ref T) i a n ep))
    (hT:s.heap.get? T=some oT) (hx:oT.data=.seq xs m) (hp:xs[i]?=some (.int p 0)) (he:(es.toList.map (·.2))[p]?=some x)
    (ho:s.heap.get? a=some o) (hd:o.data=.set es ep t) (hf:t.fits es.size=true) (hn:es.size=n)
    (hQ:∀ h',h'.get? I=some (ItO (.ref T) (i + 1) a n ep)→Heap.SameBut I s.heap h'→Q (some x) { s with heap:=h' }):wpAny (model prog w) A (pyNext (.ref I)) Q E s:=by
  have hT':s.TypeIs (.ref I) "set_iterator" := ⟨_,hI,rfl⟩
  unfold pyNext
  refine wpAny_bind (wpAny_attempt (wpAny_callSpecial?_slot (name:=Str.ofString "__next__") hT' setit_next (wpAny_call_entry setit_next hT' setit_entry ?_ (setit_args _))))
  unfold Builtin.«set_iterator.__next__»
  refine wpAny_bind (wpAny_pure ?_)
  refine wpAny_bind (wpAny_fieldsOf hI rfl ?_)
  refine wpAny_bind (wpAny_setEntries_of ho hd hf ?_)
  rw [if_neg (by rw [hn]; simp)]
  dsimp only
  refine wpAny_bind (wpAny_seqItems hT hx ?_)
  dsimp only
  rw [Int.toNat_natCast,hp]
  dsimp only
  rw [Int.toNat_natCast,Int.toNat_natCast]
  refine wpAny_bind ?_
  unfold setNextDrawn
  refine wpAny_bind (wpAny_setState_of ho hd hf ?_)
  dsimp only
  rw [if_neg (by simp)]
  rw [List.getElem?_map,Array.getElem?_toList] at he
  obtain ⟨e,q1,q2⟩:=Option.map_eq_some_iff.mp he
  rw [q1]
  obtain ⟨e1,e2⟩:=e
  have q2:e2=x:=q2
  subst q2
  refine wpAny_pure ?_
  have g2:(s.heap.update I (Obj.mapFields (·.setIfInBounds 1 (rawInt ((i:Int) + 1))))).get? I=some (ItO (.ref T) (i + 1) a n ep):=Heap.get?_update_self _ hI rfl
  refine wpAny_bind (wpAny_setField hI rfl (Nat.succ_lt_succ (Nat.zero_lt_succ _)) ?_)
  exact wpAny_pure ⟨_,rfl,wpAny_pure (hQ _ g2 (Heap.SameBut.update ..))⟩
theorem endD {i n ep:Nat} {oT o:Obj} {xs:Array Value} {m:Nat} {es:Array (Int×Value)} {t:SetTable} {Q:Option Value→Shared→Prop} (hh:A.handled=none) (hI:s.heap.get? I=some (ItO (.ref T) i a n ep))
    (hT:s.heap.get? T=some oT) (hx:oT.data=.seq xs m) (hp:xs[i]?=none)
    (ho:s.heap.get? a=some o) (hd:o.data=.set es ep t) (hf:t.fits es.size=true) (hn:es.size=n)
    (hQ:∀ h',Heap.ExtBut I s.heap h'→Q none { s with heap:=h' }):wpAny (model prog w) A (pyNext (.ref I)) Q E s:=by
  have hT':s.TypeIs (.ref I) "set_iterator" := ⟨_,hI,rfl⟩
  unfold pyNext
  refine wpAny_bind (wpAny_attempt (wpAny_callSpecial?_slot (name:=Str.ofString "__next__") hT' setit_next (wpAny_call_entry setit_next hT' setit_entry ?_ (setit_args _))))
  unfold Builtin.«set_iterator.__next__»
  refine wpAny_bind (wpAny_pure ?_)
  refine wpAny_bind (wpAny_fieldsOf hI rfl ?_)
  refine wpAny_bind (wpAny_setEntries_of ho hd hf ?_)
  rw [if_neg (by rw [hn]; simp)]
  dsimp only
  refine wpAny_bind (wpAny_seqItems hT hx ?_)
  dsimp only
  rw [Int.toNat_natCast,hp]
  dsimp only
  have g1:(s.heap.update I (Obj.mapFields (·.setIfInBounds 0 (rawInt 0)))).get? I=some (ItO (.int 0 0) i a n ep):=Heap.get?_update_self _ hI rfl
  refine wpAny_bind (wpAny_setField hI rfl (Nat.zero_lt_succ _) ?_)
  refine wpAny_bind (wpAny_setField (s:={ s with heap:=_ }) g1 rfl (Nat.succ_lt_succ (Nat.succ_lt_succ (Nat.zero_lt_succ _))) ?_)
  refine wpAny_mono (stopI (I:=I) (s:=s) hh fun h' u=>hQ h' fun c o' n' z=>u c o' n' ((Heap.SameBut.update ..).extBut c o' n' ((Heap.SameBut.update ..).extBut c o' n' z))) (fun _ _ z=>?_) fun e s' z=>?_
  · obtain ⟨_,_,z⟩:=z; exact z.elim
  · obtain ⟨T,x1,rfl,x2⟩:=z
    exact wpAny_bind (wpAny_isInstance (T := "StopIteration") (b:=true) x1 isSubtype_stop (wpAny_pure x2))
theorem walkD {ep m:Nat} {o oT:Obj} {es:Array (Int×Value)} {t:SetTable} {us:List Value} {js:List Nat} (hd:o.data=.set es ep t) (hf:t.fits es.size=true) (hne:I≠a) (hnT:I≠T)
    (hx:oT.data=.seq ((js.map fun (j:Nat)=>rawInt j).toArray) m) (hjs:js.length=es.size) (hus:us=js.filterMap fun j=>(es.toList.map (·.2))[j]?) (hlt:∀ j∈js,j < es.size)
    (hh:A.handled=none):WalksS prog w A I [I,a,T] [I] (fun x y=>y=x) es.size (fun i v=>us[i]?=some v) (fun i s=>s.heap.get? I=some (ItO (.ref T) i a es.size ep)∧s.heap.get? a=some o∧s.heap.get? T=some oT) where
  sub:=fun c hc=>by rw [List.mem_singleton.mp hc]; exact .head _
  grefl:=fun _=>rfl
  gtrans:=fun _ _ _ x y=>y.trans x
  frame:=fun i s h' tk st _ hk=>⟨hk I (.head _) _ st.1,hk a (.tail _ (.head _)) _ st.2.1,hk T (.tail _ (.tail _ (.head _))) _ st.2.2⟩
  item:=fun i s Q E hi st hQ=>by
    have hj:i < js.length:=by omega
    have hz:js[i] < es.size:=hlt _ (List.getElem_mem hj)
    have hz':js[i] < (es.toList.map (·.2)).length:=by rw [List.length_map,Array.length_toList]; exact hz
    have hm:us=js.map fun j=>(es.toList.map (·.2)).getD j .none:=by
      rw [hus]
      have:∀ (js:List Nat),(∀ j∈js,j < es.size)→(js.filterMap fun j=>(es.toList.map (·.2))[j]?)=js.map fun j=>(es.toList.map (·.2)).getD j .none:=by
        intro js
        induction js with
        | nil=>intro _; rfl
        | cons j r ih =>
          intro h
          have h1:j < (es.toList.map (·.2)).length:=by rw [List.length_map,Array.length_toList]; exact h j (.head _)
          rw [List.filterMap_cons_some (b:=(es.toList.map (·.2))[j]) (List.getElem?_eq_getElem h1),List.map_cons,ih fun k hk=>h k (.tail _ hk),List.getD_eq_getElem?_getD,List.getElem?_eq_getElem h1]
          rfl
      exact this js hlt
    have hu:us[i]?=some ((es.toList.map (·.2))[js[i]]):=by
      rw [hm,List.getElem?_map,List.getElem?_eq_getElem hj]
      show some ((es.toList.map (·.2)).getD js[i] .none)=_
      rw [List.getD_eq_getElem?_getD,List.getElem?_eq_getElem hz']
      rfl
    refine nextD (p:=js[i]) (x:=(es.toList.map (·.2))[js[i]]) st.1 st.2.2 hx ?_ (List.getElem?_eq_getElem hz') st.2.1 hd hf rfl fun h' g u=>?_
    · simp [List.getElem?_map,List.getElem?_eq_getElem hj,rawInt]
    · exact hQ _ _ hu ⟨g,u.extBut a _ (Ne.symm hne) st.2.1,u.extBut T _ (Ne.symm hnT) st.2.2⟩ ⟨fun c o' hc z=>u.extBut c o' (fun q=>hc (by rw [q]; exact .head _)) z,rfl,rfl,rfl,Nat.le_refl _⟩
  done:=fun s Q E st hQ=>by
    refine endD hh st.1 st.2.2 hx ?_ st.2.1 hd hf rfl fun h' u=>?_
    · simp [hjs]
    · exact hQ _ ⟨fun c o' hc z=>u c o' (fun q=>hc (by rw [q]; exact .head _)) z,rfl,rfl,rfl,Nat.le_refl _⟩
  self:=fun i s Q E st hQ=>by
    have hT:s.TypeIs (.ref I) "set_iterator" := ⟨_,st.1,rfl⟩
    refine wpAny_pyIter_slot hT setit_iter (wpAny_call_entry setit_iter hT setit_entryI ?_ (setit_argsI _))
    show wpAny _ _ (ret (.ref I)) _ _ s
    exact wpAny_pure ⟨_,rfl, "set_iterator", _,hT,setit_next.lookup,hQ⟩
theorem ints_perm {us vs:List Value} (p:us.Perm vs):∀ {ns:List Int},IntsAre vs ns→∃ ms,IntsAre us ms∧ms.Perm ns:=by
  have key:∀ {vs:List Value} {ns:List Int},IntsAre vs ns→(∀ v∈vs,∃ k t,v=.int k t)∧ns=vs.map fun v=>kOf (0,v):=fun {vs ns} h=>by
    induction h with
    | nil=>exact ⟨fun _ z=>(nomatch z),rfl⟩
    | cons n t _ ih =>
      refine ⟨fun v hv=>?_,?_⟩
      · rcases List.mem_cons.mp hv with rfl | hv
        · exact ⟨n,t,rfl⟩
        · exact ih.1 v hv
      · rw [List.map_cons,← ih.2]; rfl
  have back:∀ us:List Value,(∀ v∈us,∃ k t,v=.int k t)→IntsAre us (us.map fun v=>kOf (0,v)):=fun us=>by
    induction us with
    | nil=>exact fun _=>.nil
    | cons v r ih =>
      intro h
      obtain ⟨k,t,rfl⟩:=h v (.head _)
      exact .cons k t (ih fun x hx=>h x (.tail _ hx))
  intro ns h
  obtain ⟨h1,rfl⟩:=key h
  exact ⟨_,back us fun v hv=>h1 v (p.mem_iff.mp hv),p.map _⟩
theorem iterI {Q:Value→Shared→Prop} (hb:w.params.followText "set-order" = b) (hS:SetI (!b) a l s.heap)
    (k:∀ (us:List Value) (ns:List Int) (I:Addr) (fp:List Addr) (St:Nat→Shared→Prop) (h':Heap) (d:Drawn),IntsAre us ns→ns.Perm l→us.length < scanBound→(∀ c o,s.heap.get? c=some o→h'.get? c=some o)→s.heap.objs.size≤I→(∀ c∈fp,c=a∨s.heap.objs.size≤c) →
      (∀ A:Around,A.handled=none→WalksS prog w A I fp [I] (fun x y=>y=x) us.length (fun i v=>us[i]?=some v) St)→St 0 { s with heap:=h',drawn:=d }→Q (.ref I) { s with heap:=h',drawn:=d }) :
    wpAny (model prog w) A (pyIter (.ref a)) Q E s:=by
  obtain ⟨o,es,ep,t,ho,hex,hd,hE,hp,hz,hf,ht⟩:=hS
  have hT:s.TypeIs (.ref a) "set" := ⟨o,ho,hex.1⟩
  have ha:a < s.heap.objs.size:=Heap.lt_size ho
  have hi0:IntsAre (es.toList.map (·.2)) (es.toList.map kOf):=IsE.ints hE
  refine wpAny_pyIter_slot hT F.slot_set_iter (wpAny_call_entry F.slot_set_iter hT set_entryI ?_ (F.args_set_iter_1 _))
  unfold Builtin.«frozenset.__iter__» Builtin.Frozenset.slot0
  refine wpAny_bind (wpAny_bind (wpAny_pure ?_))
  unfold Builtin.Frozenset.addrOf Builtin.Frozenset.sizeOf
  refine wpAny_pure ?_
  refine wpAny_bind (wpAny_bind (wpAny_setEntries_of ho hd hf (wpAny_pure ?_)))
  unfold setDrawn
  refine wpAny_bind (wpAny_bind (wpAny_setState_of ho hd hf ?_))
  dsimp only
  unfold setsByText
  refine wpAny_bind (wpAny_bind (wpAny_askSetting (wpAny_pure (wpAny_pure ?_))))
  have fin:∀ (first:Value) (hp1:Heap) (d:Drawn) (o1:hp1.get? a=some o),(∀ v s',s'={ s with heap:=hp1.push (ItO first 0 a es.size ep),drawn:=d }→v=.ref hp1.objs.size→Q v s') →
      wpAny (model prog w) A.in1 (do
        let __do_lift ← setEpoch a
        let __do_lift ← newFields "set_iterator" [first,rawInt 0,Value.ref a,rawInt ↑es.size,rawInt ↑__do_lift]
        ret __do_lift) (fun fin s'=>∃ v,fin=Fin.done (Flow.ret v)∧∃ T' r,s'.TypeIs v T'∧typeLookup (Value.type T') (Str.ofString "__next__")=pure (some r)∧Q v s') E { s with heap:=hp1,drawn:=d }:=fun first hp1 d o1 q=>by
    refine wpAny_bind (wpAny_setEpoch_of o1 hd hf ?_)
    refine wpAny_bind (wpAny_newObj_type (hd:=by size_fits) (wpAny_pure ⟨_,rfl, "set_iterator", _,⟨_,Heap.get?_push_size _ rfl,rfl⟩,setit_next.lookup,q _ _ rfl rfl⟩))
  cases b with
  | true =>
    rw [show (model prog w).w.params.followText "set-order" = true from hb]
    simp only [Bool.not_true,Bool.false_and,Bool.false_eq_true,↓reduceIte]
    refine wpAny_bind (wpAny_pure (fin (rawInt 0) s.heap s.drawn ho ?_))
    rintro _ _ rfl rfl
    have pm:=pickOrder_perm (w.params.setOrder a ep) es
    obtain ⟨ms,im,pp⟩:=ints_perm (pm.map (·.2)) hi0
    have hu:((pickOrder (w.params.setOrder a ep) es).toList.map (·.2)).length=es.size:=by rw [(pm.map _).length_eq,List.length_map,Array.length_toList]
    refine k _ ms s.heap.objs.size [s.heap.objs.size,a] (fun i s'=>s'.heap.get? s.heap.objs.size=some (ItO (.int ((fun _=>0) i:Nat) 0) i a es.size ep)∧s'.heap.get? a=some o) _ s.drawn im (pp.trans hp) (by rw [hu]; exact hz)
      (fun c o' z=>Heap.get?_push_of_some _ z) (Nat.le_refl _) (fun c hc=>?_) (fun A' h'=>by rw [hu]; exact walkAB (sl:=fun _=>0) hd hf hu (Nat.ne_of_gt ha) (fun i s' A'' E' R z _ r=>goText hb z hd hf r) h') ⟨Heap.get?_push_size _ rfl,Heap.get?_push_of_some _ ho⟩
    rcases List.mem_cons.mp hc with rfl | hc
    · exact .inr (Nat.le_refl _)
    · exact .inl (List.mem_singleton.mp hc)
  | false =>
    rw [show (model prog w).w.params.followText "set-order" = false from hb]
    simp only [Bool.not_false,Bool.true_and]
    split
    · rename_i hdr
      refine wpAny_bind (drawI es.size _ _ List.length_range fun js d hj=>?_)
      refine wpAny_bind (wpAny_newTuple ?_ (by rw [List.length_map,hj.length_eq,List.length_range]; exact fits_of_scanBound hz))
      refine fin _ _ d (Heap.get?_push_of_some _ ho) ?_
      rintro _ _ rfl rfl
      have hlt:∀ j∈js,j < es.size:=fun j z=>List.mem_range.mp (hj.mem_iff.mp z)
      have pm:(js.filterMap fun j=>(es.toList.map (·.2))[j]?).Perm (es.toList.map (·.2)):=by
        refine (hj.filterMap _).trans ?_
        have q:=filterMap_getElem?_range (es.toList.map (·.2)).toArray
        simp only [List.size_toArray,List.length_map,Array.length_toList,List.getElem?_toArray] at q
        rw [q]
      obtain ⟨ms,im,pp⟩:=ints_perm pm hi0
      have hu:(js.filterMap fun j=>(es.toList.map (·.2))[j]?).length=es.size:=by rw [pm.length_eq,List.length_map,Array.length_toList]
      have z1:(s.heap.push { cls:=.type "tuple", data:=.seq (js.map fun (i:Nat)=>rawInt i).toArray }).objs.size=s.heap.objs.size + 1:=Heap.size_push _ _
      refine k _ ms _ [_,a,s.heap.objs.size] (fun i s'=>s'.heap.get? _=some (ItO (.ref s.heap.objs.size) i a es.size ep)∧s'.heap.get? a=some o∧s'.heap.get? s.heap.objs.size=some { cls:=.type "tuple", data:=.seq (js.map fun (i:Nat)=>rawInt i).toArray }) _ d im (pp.trans hp) (by rw [hu]; exact hz)
        (fun c o' z=>Heap.get?_push_of_some _ (Heap.get?_push_of_some _ z)) (by rw [z1]; exact Nat.le_succ _) (fun c hc=>?_) (fun A' h'=>by rw [hu]; exact walkD hd hf (by rw [z1]; exact Nat.ne_of_gt (Nat.lt_succ_of_lt ha)) (by rw [z1]; exact Nat.succ_ne_self _) rfl (by rw [hj.length_eq,List.length_range]) rfl hlt h')
        ⟨Heap.get?_push_size _ rfl,Heap.get?_push_of_some _ (Heap.get?_push_of_some _ ho),Heap.get?_push_of_some _ (Heap.get?_push_size _ rfl)⟩
      rcases List.mem_cons.mp hc with rfl | hc
      · exact .inr (by rw [z1]; omega)
      · rcases List.mem_cons.mp hc with rfl | hc
        · exact .inl rfl
        · exact .inr (by rw [List.mem_singleton.mp hc]; exact Nat.le_refl _)
    · rename_i hdr
      have hdr:(!t.plain && decide (es.size > 1))=false:=by
        cases q:(!t.plain && decide (es.size > 1)) with
        | false=>rfl
        | true=>exact absurd q hdr
      refine wpAny_bind (wpAny_pure (fin (rawInt 0) s.heap s.drawn ho ?_))
      rintro _ _ rfl rfl
      have hu:(es.toList.map (·.2)).length=es.size:=by rw [List.length_map,Array.length_toList]
      refine k _ _ s.heap.objs.size [s.heap.objs.size,a] (fun i s'=>s'.heap.get? s.heap.objs.size=some (ItO (.int (slP t i) 0) i a es.size ep)∧s'.heap.get? a=some o) _ s.drawn hi0 hp (by rw [hu]; exact hz)
        (fun c o' z=>Heap.get?_push_of_some _ z) (Nat.le_refl _) (fun c hc=>?_) (fun A' h'=>by rw [hu]; exact walkAB (sl:=slP t) hd hf hu (Nat.ne_of_gt ha) (fun i s' A'' E' R z hi r=>goPlace hb z hd hf ht hdr hi r) h') ⟨Heap.get?_push_size _ rfl,Heap.get?_push_of_some _ ho⟩
      rcases List.mem_cons.mp hc with rfl | hc
      · exact .inr (Nat.le_refl _)
      · exact .inl (List.mem_singleton.mp hc)
end
end L2
namespace L2
open PySem PySem.Spec PyProof.Rows
theorem set_len_look:typeLookup (.type "set") "__len__" = pure (some (.builtin "set.__len__")):=by
  rw [typeLookup_type,builtinLookup_eq_fast]
  kernel_rfl
section
variable {prog:Program} {w:World} {A:Around} {E:Value→Shared→Prop} {s:Shared} {b:Bool} {a I T:Addr} {l:List Int}
theorem wiT {α:Type} {c:Prop} [Decidable c] {x y:Sem α} {Q:α→Shared→Prop} (hc:c) (h:wpAny (model prog w) A x Q E s):wpAny (model prog w) A (if c then x else y) Q E s:=by
  rw [if_pos hc]
  exact h
theorem collectI {Q:List Value→Shared→Prop} (hh:A.handled=none) (hb:w.params.followText "set-order" = b) (hS:SetI (!b) a l s.heap)
    (k:∀ (us:List Value) (ns:List Int) (h':Heap) (d:Drawn) (tk:Nat),IntsAre us ns→ns.Perm l→(∀ c o,s.heap.get? c=some o→h'.get? c=some o)→s.heap.objs.size≤h'.objs.size→Q us { s with heap:=h',drawn:=d,toks:=tk }) :
    wpAny (model prog w) A (collect (.ref a)) Q E s:=by
  obtain ⟨oa,_,_,_,hoa,hxa,_⟩:=id hS
  have ha:a < s.heap.objs.size:=Heap.lt_size hoa
  unfold collect
  refine wpAny_bind (wpAny_runValue (codeAny_builtin F.entry_proto_collect ?_))
  rw [Around.under_plainId F.plain_proto_collect _]
  show wpAny _ A.in1 (newList [] >>= fun l=>again (.builtin "list.__iadd__" ⟨[l,.ref a],[]⟩)) _ _ s
  refine wpAny_bind (wpAny_newObj_type (wpAny_pure ⟨plainId_quiet F.plain_list_iadd _,codeAny_builtin F.entry_list_iadd ?_⟩))
  rw [Around.under_plainId F.plain_list_iadd _]
  have hL:(s.heap.push { cls:=.type "list", data:=.seq ([]:List Value).toArray }).get? s.heap.objs.size=some { cls:=.type "list", data:=.seq ([]:List Value).toArray }:=Heap.get?_push_size _ rfl
  have z1:(s.heap.push { cls:=.type "list", data:=.seq ([]:List Value).toArray }).objs.size=s.heap.objs.size + 1:=Heap.size_push _ _
  have hS1:SetI (!b) a l (s.heap.push { cls:=.type "list", data:=.seq ([]:List Value).toArray }):=hS.at fun o z=>Heap.get?_push_of_some _ z
  have hT1:Shared.TypeIs { s with heap:=s.heap.push { cls:=.type "list", data:=.seq ([]:List Value).toArray } } (.ref a) "set" := ⟨oa,Heap.get?_push_of_some _ hoa,hxa.1⟩
  show wpAny _ A.in1 (Builtin.List.listExtendWith (.ref s.heap.objs.size) (.ref a) (.ref s.heap.objs.size)) _ _ _
  unfold Builtin.List.listExtendWith
  refine wpAny_bind (wpAny_typeOf hT1 ?_)
  have h1:Builtin.List.listSameRef (.ref s.heap.objs.size) (.ref a)=false:=by simp [Builtin.List.listSameRef,Nat.ne_of_gt ha]
  rw [if_neg (by rw [h1]; decide)]
  refine wpAny_bind (iterI hb hS1 fun us ns I fp St h2 d hi hp hz hk hIz hfp W st=>?_)
  refine wpAny_bind (wpAny_holding ?_)
  unfold Builtin.List.listLengthHint
  have hT2:Shared.TypeIs { s with heap:=h2,drawn:=d } (.ref a) "set" := ⟨oa,hk _ _ (Heap.get?_push_of_some _ hoa),hxa.1⟩
  refine wpAny_bind (wpAny_specialOf hT2 set_len_look ?_)
  dsimp only
  rw [show splitId "set.__len__" = some ("set", "__len__") from by decide +kernel]
  dsimp only
  refine wpAny_bind (wpAny_isInstance (b:=true) hT2 (by rw [isSubtype_type]; kernel_rfl) ?_)
  rw [if_neg (by decide)]
  refine wiT (by decide +kernel) ?_
  refine wpAny_bind (wpAny_typeOf hT2 (wpAny_pure ?_))
  refine wiT (by decide +kernel) ?_
  refine wpAny_bind (wpAny_rule ?_)
  have hLf:s.heap.objs.size∉fp:=fun z=>by
    rcases hfp _ z with q | q
    · exact Nat.ne_of_gt ha q
    · have q:(s.heap.push { cls:=.type "list", data:=.seq ([]:List Value).toArray }).objs.size≤s.heap.objs.size:=q
      rw [z1] at q
      exact Nat.not_succ_le_self _ q
  have hS2:=hk _ _ hL
  refine wpAny_bind ?_
  show wpAny _ A.in1 (updateSeq s.heap.objs.size (·.push .none) >>= fun _=>updateSeq s.heap.objs.size (·.pop)) _ _ _
  refine wpAny_bind (wpAny_updateSeq (s:={ s with heap:=h2,drawn:=d }) hS2 rfl ?_)
  have hS3:=Heap.get?_update_self (Obj.mapSeq (·.push Value.none)) hS2 rfl
  refine wpAny_updateSeq (s:={ s with heap:=_,drawn:=d }) hS3 rfl ?_
  have hS4:=Heap.get?_update_self (Obj.mapSeq (·.pop)) hS3 rfl
  have oth:∀ c o,c≠s.heap.objs.size→h2.get? c=some o→((h2.update s.heap.objs.size (Obj.mapSeq (·.push Value.none))).update s.heap.objs.size (Obj.mapSeq (·.pop))).get? c=some o :=
    fun c o n z=>(Heap.get?_update_other _ _ (Ne.symm n)).trans ((Heap.get?_update_other _ _ (Ne.symm n)).trans z)
  have hA:A.in1.handled=none:=hh
  have W1:=W A.in1 hA
  refine wpAny_pure ⟨plainId_quiet F.plain_extend_loop _,codeAny_extend_loopS W1 (fits_of_scanBound hz) _ hLf _ us.length 0 _ _ _ rfl (Nat.zero_le _)
    (W1.frame 0 { s with heap:=h2,drawn:=d } _ s.toks st (Nat.le_refl _) fun c hc o z=>oth c o (fun q=>hLf (q ▸ hc)) z) hS4 (ItemsOf.nil _) fun s' acc c' hm hS' ha'=>?_⟩
  show wpAny _ A (load s.heap.objs.size >>= _) _ _ s'
  refine wpAny_bind (wpAny_load hS' (wpAny_pure ?_))
  have e:acc.toList=us:=by
    refine List.ext_getElem? fun i=>?_
    rw [Array.getElem?_toList]
    by_cases hi':i < acc.size
    · rw [Array.getElem?_eq_getElem hi']
      exact (ha'.2 i _ (Array.getElem?_eq_getElem hi')).symm
    · rw [Array.getElem?_eq_none (by omega),List.getElem?_eq_none (by have:=ha'.1; omega)]
  rw [e]
  obtain ⟨hx,gx,dx,tx,ox⟩:=s'
  have eg:gx=s.gens:=hm.gens
  have ed:dx=d:=hm.drawn
  have eo:ox=s.os:=hm.os
  subst eg; subst ed; subst eo
  refine k us ns hx dx tx hi hp (fun c o z=>?_) (Nat.le_of_lt (Heap.lt_size hS'))
  have c1:c < s.heap.objs.size:=Heap.lt_size z
  refine hm.heap c o (fun q=>?_) (oth c o (Nat.ne_of_lt c1) (hk _ _ (Heap.get?_push_of_some _ z)))
  rcases List.mem_cons.mp q with q | q
  · exact Nat.ne_of_lt c1 q
  · have q:=List.mem_singleton.mp q
    subst q
    have y:(s.heap.push { cls:=.type "list", data:=.seq ([]:List Value).toArray }).objs.size≤c:=hIz
    rw [z1] at y
    exact Nat.not_lt.mpr (Nat.le_of_succ_le y) c1
end
end L2
namespace L2
open PySem PySem.Spec PyProof.Rows
section
variable {prog:Program} {w:World} {A:Around} {E:Value→Shared→Prop} {s:Shared} {b:Bool} {a I T:Addr} {l:List Int}
theorem sortedI {Q:Value→Shared→Prop} (hh:A.handled=none) (hb:w.params.followText "set-order" = b) (hS:SetI (!b) a l s.heap) (h64:l.length < 64)
    (k:∀ (out:Array Value) (ns:List Int) (c:Addr) (e:Nat) (h':Heap) (d:Drawn) (tk:Nat),IntsAre out.toList ns→ns.Perm l→ns.Pairwise (·≤·)→(∀ c o,s.heap.get? c=some o→h'.get? c=some o)→s.heap.objs.size≤c→h'.get? c=some (seqObj "list" out e) →
      Q (.ref c) { s with heap:=h',drawn:=d,toks:=tk }):wpAny (model prog w) A (call (.builtin "sorted") [.ref a]) Q E s:=by
  refine Calls.call_function_entry kind_sorted plain_sorted entry_sorted (args_sorted1 _) ?_
  unfold Builtin.«sorted»
  refine wpAny_bind (m:=checkCount "sorted" 1 1 _) (wpAny_pure ?_)
  refine wpAny_bind (collectI (A:=A.in1) hh hb hS fun us ns h2 d tk hi hp hk le=>?_)
  have hz:us.length=l.length:=by rw [IntsAre.length hi,hp.length_eq]
  refine wpAny_bind (wpAny_newList ?_ (by have:=fits_of_scanBound (n:=us.length) (by unfold scanBound; omega); exact this))
  have hL:(h2.push (seqObj "list" us.toArray 0)).get? h2.objs.size=some (seqObj "list" us.toArray 0):=Heap.get?_push_size _ rfl
  have hsz:(h2.push (seqObj "list" us.toArray 0)).objs.size=h2.objs.size + 1:=Heap.size_push _ _
  refine wpAny_bind (wpAny_holding (wpAny_call_entry (s:={ s with heap:=h2.push (seqObj "list" us.toArray 0),drawn:=d,toks:=tk }) slot_list_sort ⟨_,hL,rfl⟩ entry_list_sort (list_sort_tree hL hi (by omega) fun out ns' a1 a2 a3=>⟨_,rfl,?_⟩) (args_list_sort _)))
  obtain ⟨e,he⟩:=sortedHeap_at (out:=out) hL
  refine wpAny_pure ⟨_,rfl,k out ns' h2.objs.size e _ d tk a1 (a2.trans hp) a3 (fun c o z=>?_) le he⟩
  have z2:=hk c o z
  rw [sortedHeap_old (Nat.ne_of_lt (Heap.lt_size z2)) (by rw [hsz]; exact Nat.lt_succ_of_lt (Heap.lt_size z2))]
  exact Heap.get?_push_of_some _ z2
theorem updateI {R:Result→Shared→Prop} {fp wr:List Addr} {G:Array GenState→Array GenState→Prop} {n:Nat} {P:Nat→Value→Prop} {St:Nat→Shared→Prop} (W:WalksS prog w A.in1 I fp wr G n P St) (S:Addr) (hSf:S∉fp)
    (val:Nat→Int) (hval:∀ i v,P i v→∃ t,v=.int (val i) t) (hz:n + 1 < scanBound) :
    ∀ (k i:Nat) (s:Shared),n - i=k→i≤n→St i s→SetI b S (firstMet val i) s.heap→(∀ s',Moved (S :: wr) G s s'→SetI b S (firstMet val n) s'.heap→R (.ok (.ret .none)) s') →
      codeAny (model prog w) A (.builtin "set.update.loop" ⟨[.ref S,.ref I],[]⟩) R s:=by
  have hSw:S∉wr:=fun h=>hSf (W.sub _ h)
  have sb:∀ c∈wr,c∈S :: wr:=fun c=>List.mem_cons_of_mem _
  intro k
  induction k with
  | zero =>
    intro i s hk hi st hS hR
    obtain rfl:i=n:=by omega
    refine codeAny_builtin F.entry_set_update_loop ?_
    rw [Around.under_plainId F.plain_set_update_loop _]
    show wpAny _ A.in1 (pyNext (.ref I) >>= _) _ _ s
    refine wpAny_bind (W.done s _ _ st fun s' hm=>wpAny_pure (hR s' (hm.mono sb) (hS.at fun o z=>hm.heap S o hSw z)))
  | succ k ih =>
    intro i s hk hi st hS hR
    have hlt:i < n:=by omega
    refine codeAny_builtin F.entry_set_update_loop ?_
    rw [Around.under_plainId F.plain_set_update_loop _]
    show wpAny _ A.in1 (pyNext (.ref I) >>= _) _ _ s
    refine wpAny_bind (W.item i s _ _ hlt st fun v s' hP st' hm=>?_)
    obtain ⟨t,rfl⟩:=hval i v hP
    have hS':SetI b S (firstMet val i) s'.heap:=hS.at fun o z=>hm.heap S o hSw z
    show wpAny _ A.in1 (holding [Value.int (val i) t] (setAdd S (.int (val i) t)) >>= _) _ _ s'
    refine wpAny_bind (wpAny_holding ?_)
    unfold setAdd
    refine wpAny_holding (wpAny_bind ((intKind prog w).pyHash (k:=val i) (intKind_is _ _ _ _) ?_))
    have room:(firstMet val i).length + 1 < scanBound:=by have:=firstMet_length_le val i; omega
    refine addI (s:={ s' with toks:=s'.toks + 1 }) hS' room fun r h' u hS2=>?_
    rw [← firstMet_succ] at hS2
    refine wpAny_pure ⟨plainId_quiet F.plain_set_update_loop _,ih (i + 1) _ (by omega) hlt (W.frame _ s' _ _ st' (Nat.le_succ _) fun c hc o z=>?_) hS2 fun s'' hm'' hS''=>?_⟩
    · rw [u.2 c fun q:c=S=>hSf (by rw [← q]; exact hc)]; exact z
    · refine hR s'' (Moved.trans W.gtrans ((hm.mono sb).then_heap (Nat.le_succ _) fun c o hc z=>?_) hm'') hS''
      rw [u.2 c fun q:c=S=>hc (by rw [q]; exact .head _)]; exact z
theorem newI (x:Value) {Q₁:Value→Shared→Prop} (hb:w.params.followText "set-order" = b)
    (h:Q₁ (.ref s.heap.objs.size) { s with heap:=s.heap.push { cls:=.type "set", dict:=none,data:=.set #[] 0 (.fresh 0 0 (!b)) } }) :
    codeAny (model prog w) A (.call (.builtin "set.__new__") ⟨[.type "set", x],[]⟩) (wants Q₁ E) s:=by
  refine codeAny_of_tree ?_
  show wpAny _ A.in1 (do checkBuiltinCall "set.__new__" ⟨[.type "set", x],[]⟩; again (.builtin "set.__new__" ⟨[.type "set", x],[]⟩)) _ _ s
  refine wpAny_bind (wpAny_of_eq (F.newCall_set_1 x) (wpAny_pure ⟨plainId_quiet F.plain_set_new _,codeAny_builtin F.entry_set_new ?_⟩))
  rw [Around.under_plainId F.plain_set_new _]
  unfold Builtin.«set.__new__» Builtin.Frozenset.newClass
  have hsub:=sub_set_self
  obtain ⟨hp,g,d,tk,os⟩:=s
  dsimp only
  wp_walk
  refine wpAny_askSetting (wpAny_pure ?_)
  dsimp only
  simp only [newObj]
  refine wpAny_bind (wpAny_alloc (wpAny_pure (wpAny_pure ?_)))
  rw [show (model prog w).w.params.followText "set-order" = b from hb]
  exact h
end
end L2
namespace L2
open PySem PySem.Spec PyProof.Rows
section
variable {prog:Program} {w:World} {A:Around} {E:Value→Shared→Prop} {s:Shared} {b:Bool} {a I T:Addr} {l:List Int}
set_option maxHeartbeats 3200000 in
theorem setOfI {L:Addr} {items:Array Value} {ns:List Int} {Q:Value→Shared→Prop} (hh:A.handled=none) (hb:w.params.followText "set-order" = b) (hl:s.heap.IsList L items) (hi:IntsAre items.toList ns) (hz:items.size + 1 < scanBound)
    (k:∀ (h':Heap) (tk:Nat),SetI (!b) s.heap.objs.size (firstMet (fun i=>ns.getD i 0) items.size) h'→(∀ c o,s.heap.get? c=some o→h'.get? c=some o)→Q (.ref s.heap.objs.size) { s with heap:=h',toks:=tk }) :
    wpAny (model prog w) A (call (.type "set") [.ref L]) Q E s:=by
  obtain ⟨c,tl,hmro⟩:=F.called_set.mro
  have hmade:=F.called_set.made
  have hsub:=F.called_set.sub
  refine wpAny_call (codeAny_of_tree ?_)
  show wpAny _ _ (callAny (.type "set") _) _ _ _
  refine wpAny_pure ⟨Code.quiet_builtin _ (by decide +kernel),codeAny_builtin F.entry_type_call ?_⟩
  rw [Around.under_plain (weight_type_call_type "set" [.ref L] []) rfl]
  have h1:=F.called_set.notType
  have h2:=F.called_set.canCreate
  have hct:=F.typeCall_set_1 (.ref L)
  repeat (any_goals (first | assumption | wp_step))
  refine codeAny_mono (newI (.ref L) (E:=E) hb (Q₁:=fun x s₁=>x=.ref s.heap.objs.size∧s₁={ s with heap:=s.heap.push { cls:=.type "set", dict:=none,data:=.set #[] 0 (.fresh 0 0 (!b)) } }) ⟨rfl,rfl⟩) fun r s₁ hr=>?_
  cases r with
  | error e=>exact hr
  | ok fl =>
    cases fl with
    | ret obj =>
      obtain ⟨rfl,rfl⟩:=hr
      generalize ho0:({ cls:=.type "set", dict:=none,data:=.set #[] 0 (.fresh 0 0 (!b)) }:Obj)=o0
      have hS:(s.heap.push o0).get? s.heap.objs.size=some o0:=Heap.get?_push_size _ (by rw [← ho0]; rfl)
      have hS0:SetI (!b) s.heap.objs.size [] (s.heap.push o0):=⟨o0,#[],0,_,hS,by rw [← ho0]; exact ⟨rfl,rfl,rfl⟩,by rw [← ho0],(fun e z=>by simp at z),.nil,by decide,by rfl,TOk.fresh⟩
      have hT:Shared.TypeIs { s with heap:=s.heap.push o0 } (.ref s.heap.objs.size) "set" := ⟨_,hS,by rw [← ho0]⟩
      have hli:=F.called_set.init.lookup
      have hbi:=F.called_set.init.bind (.ref s.heap.objs.size)
      repeat (any_goals (first | assumption | wp_step))
      refine codeAny_mono (codeAny_call_builtin (R:=wants (fun r s₂=>r=.none∧∃ h' tk,s₂={ s with heap:=h',toks:=tk }∧SetI (!b) s.heap.objs.size (firstMet (fun i=>ns.getD i 0) items.size) h' ∧
          (∀ c o,s.heap.get? c=some o→h'.get? c=some o)) E) F.called_set.init.plain F.entry_set_init (check_set_init_1 hT ?_)) fun r₂ s₂ hr₂=>?_
      · obtain ⟨ol,hol,hcl,nl,hdl⟩:=hl
        obtain ⟨oc,od,odt,osl⟩:=ol
        simp only at hcl hdl
        subst hcl; subst hdl
        have hol':(s.heap.push o0).get? L=some { cls:=.type "list", dict:=od,data:=.seq items nl,slots:=osl }:=Heap.get?_push_of_some _ hol
        have e1:=F.sub_list_set
        have e2:=F.sub_list_frozenset
        have hne:(Value.type "list" == Value.type "dict")=false:=by decide
        have hl1:(s.heap.push o0).IsList L items:=⟨_,hol',rfl,nl,rfl⟩
        have hz0:(s.heap.push o0).objs.size=s.heap.objs.size + 1:=Heap.size_push _ _
        subst ho0
        unfold Builtin.«set.__init__» noKeywords Builtin.Frozenset.updateFrom
        generalize hPI:pyIter=PI
        wp_walk
        subst hPI
        refine wpAny_pyIter_list hl1 ?_
        refine wpAny_bind (wpAny_runValue ?_)
        have hlS:L < s.heap.objs.size:=Heap.lt_size hol
        have hh3:A.in1.in1.in1.handled=none:=hh
        have hneI:L≠(s.heap.push { cls:=.type "set", dict:=none,data:=.set #[] 0 (.fresh 0 0 (!b)) }).objs.size:=by rw [hz0]; exact Nat.ne_of_lt (Nat.lt_succ_of_lt hlS)
        have hSf:s.heap.objs.size∉[(s.heap.push { cls:=.type "set", dict:=none,data:=.set #[] 0 (.fresh 0 0 (!b)) }).objs.size,L]:=by
          rw [hz0]
          intro z
          rcases List.mem_cons.mp z with z | z
          · exact Nat.ne_of_lt (Nat.lt_succ_self _) z
          · exact Nat.ne_of_gt hlS (List.mem_singleton.mp z)
        have hval:∀ (i:Nat) (v:Value),items[i]?=some v→∃ t,v=.int ((fun i=>ns.getD i 0) i) t:=fun i v hv=>IntsAre.int_at hi i v (by rw [Array.getElem?_toList]; exact hv)
        refine updateI (b:=!b) ((Walks.list hh3 _ L hneI items).toS) s.heap.objs.size hSf (fun i=>ns.getD i 0) hval hz (items.size - 0) 0 _ (by omega) (Nat.zero_le _) ⟨⟨_,Heap.get?_push_size _ rfl,rfl,rfl⟩,(hl1.push _)⟩ ?hS0 ?hR
        case hS0=>exact hS0.at fun o z=>Heap.get?_push_of_some _ z
        case hR =>
          intro s' hm hS'
          obtain ⟨h',g',d',tk',os'⟩:=s'
          have eg:g'=s.gens:=hm.gens
          have ed:d'=s.drawn:=hm.drawn
          have eo:os'=s.os:=hm.os
          subst eg; subst ed; subst eo
          show wpAny _ _ _ _ _ _
          refine wpAny_pure ?_
          show wpAny _ _ (ret Value.none) _ _ _
          refine wpAny_pure ⟨rfl,h',tk',rfl,hS',fun c o z=>?_⟩
          have hc:c < s.heap.objs.size:=Heap.lt_size z
          refine hm.heap c o (fun q=>?_) (Heap.get?_push_of_some _ (Heap.get?_push_of_some _ z))
          rcases List.mem_cons.mp q with q | q
          · exact Nat.ne_of_lt hc q
          · have q:=List.mem_singleton.mp q
            rw [hz0] at q
            exact Nat.ne_of_lt (Nat.lt_succ_of_lt hc) q
      · cases r₂ with
        | error e=>exact hr₂
        | ok fl₂ =>
          cases fl₂ with
          | ret r =>
            obtain ⟨rfl,h',tk,rfl,hS',hk'⟩:=hr₂
            repeat (any_goals (first | assumption | wp_step))
            exact k _ _ hS' hk'
          | _=>exact hr₂.elim
    | _=>exact hr.elim
end
end L2
namespace L2
open PySem PySem.Spec PyProof.Rows
section
variable {X:Cx} {K:PySem.W.Frag} {b:Bool}
def SetB (b:Bool) (a:Addr) (l:List Int):HO:=.ext (SetI (!b) a l)
theorem setB_ok {P:Program} {w:World} {H:Hp} {h:Heap} {a:Addr} {l:List Int} (x:SetI (!b) a l h):ObjOk P w H h a (SetB b a l) :=
  ⟨x,(let ⟨o,_,_,_,ho,_⟩:=x; ⟨o,ho⟩),fun _ _ x1 k=>x1.at k⟩
def rSetB (K:PySem.W.Frag) (b:Bool):List V→Hp→VK→Prop:=fun xs H Q=>∃ p ns,xs=[.ref p]∧SqL K H p (ns.map V.int)∧ns.length < 4000∧∀ l,H l=none→Q (.ref l) (upd H l (SetB b l (dd ns)))
theorem call_setB (hK:X.K=K) (hc:X.calm=true) (hb:X.w.params.followText "set-order" = b):CallR X (.type "set") (rSetB K b):=by
  subst hK
  intro pins s σ H xs us Q I r h
  obtain ⟨p,ns,rfl,hq,hz,q⟩:=h
  obtain ⟨u,rfl,rx⟩:=vals1 r
  cases rx
  obtain ⟨its,r',pl,hy⟩:=I.list hq
  have hl:=r'.length
  rw [List.length_map] at hl hy
  refine setOfI (ns:=ns) (I.ok.hd hc) hb pl.isList (by simpa using intsAre_of r') (by rw [List.size_toArray]; unfold scanBound; omega) fun h' tk hS hk=>?_
  have z2:its.toArray.size=ns.length:=by rw [List.size_toArray,hl]
  rw [z2,firstMet_all] at hS
  exact ⟨.ref s.heap.objs.size,_,I.laid (t':=tk) hk (Nat.le_refl _) (setB_ok hS),rfl,q _ (I.hok.fresh (Nat.le_refl _))⟩
def rSortedB (b:Bool):List V→Hp→VK→Prop:=fun xs H Q=>∃ p l,xs=[.ref p]∧H p=some (SetB b p l)∧l.length < 64∧∀ c,H c=none→Q (.ref c) (upd H c (.lst ((srt l).map V.int)))
theorem call_sortedB (hc:X.calm=true) (hb:X.w.params.followText "set-order" = b):CallR X (.builtin "sorted") (rSortedB b):=by
  intro pins s σ H xs us Q I r h
  obtain ⟨p,l,rfl,hH,h64,q⟩:=h
  obtain ⟨u,rfl,rx⟩:=vals1 r
  cases rx
  have hS:SetI (!b) p l s.heap:=(I.hok p _ hH).1
  refine sortedI (I.ok.hd hc) hb hS h64 fun out ns c e h' d tk a1 a2 a3 hk hle he=>?_
  have e1:=srt_eq a2 a3
  subst e1
  have I1:Inv X pins σ (upd H c (.lst ((srt l).map V.int))) { s with heap:=h',toks:=tk }:=I.laid (t':=tk) hk hle (show ObjOk X.prog X.w _ _ _ (.lst ((srt l).map V.int)) from ⟨by rw [List.length_map,(srt_perm l).length_eq,sizeLine_eq]; omega,out.toList,e,vals_of_ints a1,by simpa using he⟩)
  have I2:=I1.call (ch:=[]) (h':=h') (g':=s.gens) (d':=d) (t':=tk) Un.refl I1.hok I1.bare (fun _ z=>nomatch z)
  exact ⟨.ref c,_,I2,rfl,q _ (I.hok.fresh hle)⟩
def rLenB (b:Bool):List V→Hp→VK→Prop:=fun xs H Q=>∃ p l,xs=[.ref p]∧H p=some (SetB b p l)∧Q (.int l.length) H
theorem call_lenB:CallR X (.builtin "len") (rLenB b):=by
  intro pins s σ H xs us Q I r h
  obtain ⟨p,l,rfl,hH,q⟩:=h
  obtain ⟨u,rfl,rx⟩:=vals1 r
  cases rx
  obtain ⟨o,es,ep,t,ho,hex,hd,_,hp,hz,hf,_⟩:SetI (!b) p l s.heap:=(I.hok p _ hH).1
  have e:es.size=l.length:=by have:=hp.length_eq; simpa using this
  exact PySem.call_len_set ho hex hd hf (by unfold scanBound at hz; omega) ⟨.int l.length,H,I.tok _,⟨_,by rw [e]⟩,q⟩
end
end L2
namespace PD
open PySem L2
section
variable {K:PySem.W.Frag} {S S':Sx} {κ κ' b:Bool} {Γ Γ' Γ'':Ctx} {P:Post}
theorem evo_sortedSet {ta:TE} {ns:List Int} (h:EvL K S false ta Γ (ns.map .int)) (hz:ns.length < 64):EvO K S κ (tCB (rSortedB b) (tCons (tCB (rSetB K b) (tCons ta tNil)) tNil)) Γ ((srt (dd ns)).map .int):=fun H0 F0 H F σ e Q q =>
  h H0 F0 H F σ e _ fun a vs H1 F1 g1 p1 k1=>by
    cases dpAll_of_ints (rpAll_dp k1)
    refine ⟨a,ns,rfl,p1,by omega,fun p hp=>⟨p,dd ns,rfl,upd_same,Nat.lt_of_le_of_lt (dd_len ns) hz,fun c hc=>?_⟩⟩
    have g2:=g1.trans (.newO g1.le hp (SetB b p (dd ns)))
    exact q c _ _ F1 (g2.trans (.newO g2.le hc _)) (g2.h.free hc) upd_same (g2.le.free hc) (rpAll_ints _)
end
end PD
namespace L2
open PySem PySem.Spec PyProof.Rows
section
variable {X:Cx} {K:PySem.W.Frag}
end
end L2
namespace PD
open PySem L2
section
variable {K:PySem.W.Frag} {S S':Sx} {κ κ':Bool} {Γ Γ' Γ'':Ctx} {P:Post}
end
end PD
namespace L2
open PySem PySem.Spec PyProof.Rows
section
variable {X:Cx} {K:PySem.W.Frag} {e:Expr} {te:TE} {lo hi:Option Expr} {st:Expr} {tl th ts:TO} {p2 pos:Pos}
end
end L2
namespace PD
open PySem L2
section
variable {K:PySem.W.Frag} {S S':Sx} {κ κ':Bool} {Γ Γ' Γ'':Ctx} {P:Post}
end
end PD
namespace PD
open PySem L2
section
variable {K:PySem.W.Frag} {S S':Sx} {κ κ':Bool} {Γ Γ' Γ'':Ctx} {P:Post}
end
end PD
namespace PD
open PySem L2
section
variable {K:PySem.W.Frag} {S S':Sx} {κ κ':Bool} {Γ Γ' Γ'':Ctx} {P:Post}
end
end PD
namespace L2
open PySem
end L2
namespace L2
open PySem
end L2
namespace L2
open PySem PySem.Spec PyProof.Rows
theorem set_entryAnd:entryFor table "set.__and__" = some Builtin.«frozenset.__and__»:=entryFor_alias (id' := "frozenset.__and__") (by kernel_rfl) rfl (by decide +kernel) (by kernel_rfl)
def FreshI (b:Bool) (m:Nat) (a:Addr) (h:Heap):Prop:=∃ o ep t,h.get? a=some o∧o.ExactSet∧o.data=.set #[] ep t∧TOk b t∧t.place=#[]∧(∃ k,t.mask + 1=2 ^ k)∧m≤t.mask
theorem FreshI.fits {t:SetTable} {b:Bool} (h:TOk b t) (e:t.place=#[]):t.fits (#[]:Array (Int×Value)).size=true:=by
  unfold SetTable.fits SetTable.fill
  rw [e,h.dum]
  simp
theorem FreshI.set {b:Bool} {m:Nat} {a:Addr} {h:Heap} (x:FreshI b m a h):SetI b a [] h:=by
  obtain ⟨o,ep,t,ho,hx,hd,ht,hp,_⟩:=x
  exact ⟨o,#[],ep,t,ho,hx,hd,(fun e z=>by simp at z),.nil,by decide,FreshI.fits ht hp,ht⟩
section
variable {prog:Program} {w:World} {A:Around} {E:Value→Shared→Prop} {s:Shared} {b:Bool} {a r o:Addr} {l l1 l2:List Int} {m:Nat}
end
end L2
namespace L2
open PySem PySem.Spec PyProof.Rows
section
variable {prog:Program} {w:World} {A:Around} {E:Value→Shared→Prop} {s:Shared} {bt:Bool} {a r o:Addr} {l l1 l2:List Int} {m:Nat}
theorem newSetI {Q:Value→Shared→Prop} (hb:w.params.followText "set-order" = bt)
    (k:∀ ob,FreshI (!bt) 7 s.heap.objs.size (s.heap.push ob)→Q (.ref s.heap.objs.size) { s with heap:=s.heap.push ob }):wpAny (model prog w) A (newSet (.type "set")) Q E s:=by
  unfold newSet setsByText
  refine wpAny_bind (wpAny_bind (wpAny_askSetting (wpAny_pure ?_)))
  rw [show (model prog w).w.params.followText "set-order" = bt from hb]
  dsimp only
  simp only [newObj]
  exact wpAny_bind (wpAny_alloc (wpAny_pure (k _ ⟨_,0,_,Heap.get?_push_size _ rfl,⟨rfl,rfl,rfl⟩,rfl,TOk.fresh,rfl,⟨3,rfl⟩,Nat.le_refl _⟩)))
theorem quietI {sets:List Addr} {Q:Bool→Shared→Prop} (h:∀ a∈sets,∃ b l,SetI b a l s.heap) (k:Q true s):wpAny (model prog w) A (setsQuiet sets) Q E s:=by
  unfold setsQuiet
  refine wpAny_bind (wpAny_forIn_list _ (fun rest r s'=>r.1=none∧s'=s∧∀ a∈rest,∃ b l,SetI b a l s.heap) _ ?_ ?_ _ _ ⟨rfl,rfl,h⟩)
  · rintro x rest ⟨r1,r2⟩ s' ⟨e1,rfl,hr⟩
    obtain ⟨b,l,ob,es,ep,t,ho,hex,hd,hE,hp,hz,hf,ht⟩:=hr x (.head _)
    refine wpAny_bind (wpAny_setEntries_of ho hd hf ?_)
    refine wpAny_bind (wpAny_forIn_array' _ (fun rest r s''=>r.1=none∧s''=s'∧∀ e∈rest,IsE e) _ ?_ ?_ _ _ ⟨rfl,rfl,hE⟩)
    · rintro e rest2 ⟨q1,q2⟩ s'' ⟨e2,rfl,h2⟩
      obtain ⟨k',t',rfl⟩:=h2 e (.head _)
      exact wpAny_pure ⟨rfl,rfl,fun y hy=>h2 y (.tail _ hy)⟩
    · rintro ⟨q1,q2⟩ s'' ⟨e2,rfl,_⟩
      have e2:q1=none:=e2
      subst e2
      exact wpAny_pure ⟨rfl,rfl,fun y hy=>hr y (.tail _ hy)⟩
  · rintro ⟨r1,r2⟩ s' ⟨e1,rfl,_⟩
    have e1:r1=none:=e1
    subst e1
    exact wpAny_pure k
end
end L2
namespace L2
open PySem PySem.Spec PyProof.Rows
section
variable {prog:Program} {w:World} {A:Around} {E:Value→Shared→Prop} {s:Shared} {bt:Bool} {a r o p q:Addr} {l l1 l2:List Int} {m:Nat}
theorem anySetI {h:Heap} {Q:Bool→Shared→Prop} {b:Bool} (hS:SetI b a l s.heap) (k:Q true s):wpAny (model prog w) A (Builtin.Frozenset.isAnySet (.ref a)) Q E s:=by
  obtain ⟨ob,_,_,_,ho,hx,_⟩:=hS
  unfold Builtin.Frozenset.isAnySet
  refine wpAny_bind (wpAny_isInstance (b:=true) ⟨ob,ho,hx.1⟩ sub_set_self (wpAny_pure k))
end
end L2
namespace L2
open PySem PySem.Spec PyProof.Rows
section
variable {X:Cx} {K:PySem.W.Frag} {b:Bool}
theorem dd_nd (ns:List Int):(dd ns).Nodup:=by
  suffices z:∀ n,(dd (ns.take n)).Nodup by simpa using z ns.length
  intro n
  induction n with
  | zero=>exact List.nodup_nil
  | succ n ih =>
    by_cases hn:n < ns.length
    · have e:ns.take (n + 1)=ns.take n ++ [ns[n]]:=by rw [List.take_succ,List.getElem?_eq_getElem hn]; rfl
      rw [e,dd_snoc]
      unfold step_dedup
      split
      · exact ih
      · rename_i h
        rw [List.nodup_append]
        refine ⟨ih,by simp,fun x hx y hy=>?_⟩
        rw [List.mem_singleton.mp hy]
        rintro rfl
        exact h (List.any_eq_true.mpr ⟨_,hx,by simp⟩)
    · have e1:ns.take (n + 1)=ns.take n:=by rw [List.take_of_length_le (by omega),List.take_of_length_le (by omega)]
      rw [e1]
      exact ih
end
end L2
namespace PD
open PySem L2
section
variable {K:PySem.W.Frag} {S S':Sx} {κ κ' b:Bool} {Γ Γ' Γ'':Ctx} {P:Post}
end
end PD
namespace PD
open PySem L2
section
variable {K:PySem.W.Frag} {S S':Sx} {κ κ':Bool} {Γ Γ' Γ'':Ctx} {P:Post}
end
end PD
namespace L2
open PySem PySem.Spec PyProof.Rows
section
variable {prog:Program} {w:World} {A:Around} {E:Value→Shared→Prop} {s:Shared}
end
section
variable {X:Cx} {K:PySem.W.Frag} {pos:Pos}
end
section
variable {P:Program} {w:World} {K:PySem.W.Frag} {mg:Str→Option Value} {base:Heap}
end
section
variable {X:Cx} {CX:CXT} {k:Nat} {ps:List Str} {sp:Sp} {E:XK} {x:Str} {p pos:Pos} {e:Expr} {es:List Expr} {t:TA}
end
end L2
namespace Cm
open PySem L2
end Cm
namespace PD
open PySem L2
section
variable {K:PySem.W.Frag} {S S':Sx} {κ κ':Bool} {Γ Γ' Γ'':Ctx} {P:Post}
end
end PD
namespace El
open Wd Sh Sx2
def vr (ss:List Int) (k:Nat):List Int:=rng (ss.getD k 0).toNat
theorem low_eq {x y u v:Int} (h1:Low x y) (h2:Low u v) (h:x * v=u * y):(x,y)=(u,v):=by
  have p1:=h1.pos
  have p2:=h2.pos
  have c1:Nat.Coprime y.natAbs x.natAbs:=by have:=h1.co; rw [Int.gcd_comm] at this; exact this
  have c2:Nat.Coprime v.natAbs u.natAbs:=by have:=h2.co; rw [Int.gcd_comm] at this; exact this
  have hn:x.natAbs * v.natAbs=u.natAbs * y.natAbs:=by rw [← Int.natAbs_mul,h,Int.natAbs_mul]
  have d1:y.natAbs ∣ v.natAbs:=c1.dvd_of_dvd_mul_left (hn ▸ Nat.dvd_mul_left ..)
  have d2:v.natAbs ∣ y.natAbs:=c2.dvd_of_dvd_mul_left (hn ▸ Nat.dvd_mul_left ..)
  have e:=Nat.dvd_antisymm d1 d2
  have e':y=v:=by omega
  subst e'
  have:x=u:=Int.eq_of_mul_eq_mul_right (by omega) h
  rw [this]
theorem mk_uniq {x y a b:Int} (h:Low x y) (hb:0 < b) (e:x * b=a * y):(x,y)=mk a b:=by
  have hc:=mk_cross (a:=a) hb
  have hl:=mk_low (a:=a) hb
  refine low_eq h hl ?_
  have:x * (mk a b).2 * b=(mk a b).1 * y * b:=by
    calc x * (mk a b).2 * b=x * b * (mk a b).2:=by rw [Int.mul_assoc,Int.mul_comm (mk a b).2,← Int.mul_assoc]
      _=a * y * (mk a b).2:=by rw [e]
      _=a * (mk a b).2 * y:=by rw [Int.mul_assoc,Int.mul_comm y,← Int.mul_assoc]
      _=(mk a b).1 * b * y:=by rw [hc]
      _=(mk a b).1 * y * b:=by rw [Int.mul_assoc,Int.mul_comm b,← Int.mul_assoc]
  exact Int.eq_of_mul_eq_mul_right (by omega) this
theorem tm_mk {a b c d:Int} (hb:0 < b) (hd:0 < d):tm (mk a b).1 (mk a b).2 (mk c d).1 (mk c d).2=mk (a * c) (b * d):=by
  obtain ⟨l,e⟩:=tm_all (mk_low (a:=a) hb) (mk_low (a:=c) hd)
  have h1:=mk_cross (a:=a) hb
  have h2:=mk_cross (a:=c) hd
  have p1:=(mk_low (a:=a) hb).pos
  have p2:=(mk_low (a:=c) hd).pos
  generalize mk a b=x at *
  generalize mk c d=y at *
  generalize tm x.1 x.2 y.1 y.2=t at *
  refine mk_uniq l (Int.mul_pos hb hd) ?_
  have:t.1 * (b * d) * (x.2 * y.2)=a * c * t.2 * (x.2 * y.2):=by
    calc t.1 * (b * d) * (x.2 * y.2)=t.1 * (x.2 * y.2) * (b * d):=by rw [Int.mul_assoc,Int.mul_comm (b * d),← Int.mul_assoc]
      _=(x.1 * y.1 * t.2) * (b * d):=by rw [e]
      _=(x.1 * b) * (y.1 * d) * t.2:=by grind
      _=(a * x.2) * (c * y.2) * t.2:=by rw [h1,h2]
      _=a * c * t.2 * (x.2 * y.2):=by grind
  exact Int.eq_of_mul_eq_mul_right (Int.ne_of_gt (Int.mul_pos p1 p2)) this
theorem mk_one:mk 1 1=(1,1):=by decide
def oth (ks:List Nat) (k:Nat):List Nat:=ks.filter fun x=>x≠k
def pAll (g:Nat→Int) (n:Nat):Int:=(List.range n).foldl (fun p k=>p * g k) 1
theorem pAll_succ (g:Nat→Int) (n:Nat):pAll g (n + 1)=pAll g n * g n:=by
  unfold pAll
  rw [List.range_succ,List.foldl_append]
  rfl
end El
namespace PD
open PySem L2
section
variable {K:PySem.W.Frag} {S S':Sx} {κ:Bool} {Γ:Ctx} {P:Post}
end
end PD
namespace L2
open PySem PySem.Spec PyProof.Rows
section
variable {P:Program} {w:World} {K:PySem.W.Frag} {mg:Str→Option Value} {base:Heap}
end
end L2
namespace PD
open PySem L2
section
variable {K:PySem.W.Frag} {S S':Sx} {κ κ':Bool} {Γ Γ' Γ'':Ctx} {P:Post} {E:XK} {C:Addr}
end
end PD
namespace PD
open PySem L2
section
variable {K:PySem.W.Frag} {S S':Sx} {κ κ':Bool} {Γ Γ' Γ'':Ctx} {P:Post} {E:XK} {C:Addr}
theorem ev_ifE {c:TT} {t u:TE} {b:Bool} {d:PyData} (hc:EvT K S c Γ b) (h1:b=true→EvE K S κ t Γ d) (h2:b=false→EvE K S κ u Γ d):EvE K S κ (tIf c t u) Γ d:=fun H0 F0 H F σ e Q q =>
  hc H0 F0 H F σ e _ fun H1 F1 g=>by
    cases b with
    | true=>exact iteT (h1 rfl H0 F0 H1 F1 σ (e.mono g) Q fun v H2 F2 g2 p=>q v H2 F2 (g.trans g2) p)
    | false=>exact iteF (h2 rfl H0 F0 H1 F1 σ (e.mono g) Q fun v H2 F2 g2 p=>q v H2 F2 (g.trans g2) p)
end
end PD
namespace PD
open PySem L2
section
variable {K:PySem.W.Frag} {S S':Sx} {κ κ':Bool} {Γ Γ' Γ'':Ctx} {P:Post}
end
end PD
namespace PD
open PySem L2
section
variable {K:PySem.W.Frag} {S S':Sx} {κ κ':Bool} {Γ Γ' Γ'':Ctx} {P:Post} {xs ys zs:List PyData}
structure T3 (K:PySem.W.Frag) (H0 H F:Hp) (p a b c:Addr) (us vs ws:List V) (xs ys zs:List PyData):Prop where
  hp:F p=some (.tup [.ref a,.ref b,.ref c])
  oa:OwnAt .fresh H0 H F a us
  ob:OwnAt .fresh H0 H F b vs
  oc:OwnAt .fresh H0 H F c ws
  ab:a≠b
  ac:a≠c
  bc:b≠c
  ra:RpAll K true .fresh H0 F us xs
  rb:RpAll K true .fresh H0 F vs ys
  rc:RpAll K true .fresh H0 F ws zs
def spT3 (K:PySem.W.Frag) (pre:List PyData→List PyData→List PyData→List PyData→Prop):Sp:=fun vs H Q _=>∃ F ds xs ys zs,Same F H∧DpAll K F vs ds∧pre ds xs ys zs∧∀ p a b c us vs' ws H' F',Gr H F H' F'→T3 K H H' F' p a b c us vs' ws xs ys zs→Q (.ref p) H'
theorem spT3_len {pre:List PyData→List PyData→List PyData→List PyData→Prop} {n:Nat} (h:∀ ds xs ys zs,pre ds xs ys zs→ds.length=n) {vs:List V} {H:Hp} {Q:VK} {E:XK} (s:spT3 K pre vs H Q E):vs.length=n:=by
  obtain ⟨F,ds,xs,ys,zs,_,k,p,_⟩:=s
  rw [DpAll.length k]
  exact h _ _ _ _ p
def ExT3 (K:PySem.W.Frag) (xs ys zs:List PyData) (t:TS) (Γ:Ctx):Prop:=∀ (H0 F0 H F:Hp) (σ:St),DEnv K .fresh H0 F0 H F σ Γ→∀ D:Ends,(∀ p a b c us vs ws H' F',Gr H0 F0 H' F'→T3 K H0 H' F' p a b c us vs ws xs ys zs→D.rt (.ref p) H')→t D σ H
theorem ext3_seq {t u:TS} (N:Ctx→Prop) (h1:ExS K .fresh t Γ { nx:=N,rt:=fun _=>False }) (h2:∀ Γ',N Γ'→ExT3 K xs ys zs u Γ'):ExT3 K xs ys zs (tSeq t u) Γ:=fun H0 F0 H F σ e D q =>
  h1 H0 F0 H F σ F e (.refl _) (.inl rfl) _ ⟨fun Γ' σ' H' F' n _ e'=>h2 Γ' n H0 F0 H' F' σ' e' D q,fun _ _ _ _ z=>z.elim,fun _ _ _ _ z=>z.elim,fun _ _ _ _ z=>z.elim⟩
theorem ext3_ret {ta tb:TE} {i:Nat} (h1:EvO K .fresh true ta Γ xs) (h2:EvO K .fresh true tb Γ ys) (h3:GetC Γ i (.ow true zs)):ExT3 K xs ys zs (tRet (tTup (tCons ta (tCons tb (tCons (tVar i) tNil))))) Γ:=fun H0 F0 H F σ e D q =>
  h1 H0 F0 H F σ e _ fun a us H1 F1 g1 na ha fa ra=>h2 H0 F0 H1 F1 σ (e.mono g1) _ fun b vs H2 F2 g2 nb hb fb rb=>by
    obtain ⟨v0,q1,c,ws,rfl,w,rc⟩:=e.has i _ h3.eq
    have w2:=(w.mono g1).mono g2
    have e2:=(e.mono g1).mono g2
    refine ⟨_,q1,by show 3≤sizeLine; decide,fun p hp=>?_⟩
    have g3:Gr H2 F2 (upd H2 p (.tup [.ref a,.ref b,.ref c])) (upd F2 p (.tup [.ref a,.ref b,.ref c])):=.new e2.le hp _
    have oa:OwnAt .fresh H0 H2 F2 a us:=⟨g2.h _ _ ha,g2.ap _ _ ha fa,e.gr.h.free na,fun z=>z (e.gr.h.free na)⟩
    have ob:OwnAt .fresh H0 H2 F2 b vs:=⟨hb,fb,(e.mono g1).gr.h.free nb,fun z=>z ((e.mono g1).gr.h.free nb)⟩
    refine q p a b c us vs ws _ _ (e2.gr.trans g3) ⟨upd_same,oa.mono g3,ob.mono g3,w2.mono g3,?_,?_,?_,rpAll_mono (g2.f.trans g3.f) ra,rpAll_mono g3.f rb,rpAll_mono ((g1.f.trans g2.f).trans g3.f) rc⟩
    · rintro rfl; rw [ha] at nb; cases nb
    · rintro rfl; rw [w.h] at na; cases na
    · rintro rfl; rw [(w.mono g1).h] at nb; cases nb
theorem run_T3 {t:TS} {N:List Str} {n:Nat} {H F:Hp} {vs:List V} {ds:List PyData} {Q:VK} (le:Same F H) (k:DpAll K F vs ds) (q:∀ p a b c us vs' ws H' F',Gr H F H' F'→T3 K H H' F' p a b c us vs' ws xs ys zs→Q (.ref p) H') (hn:N.length=n) (hΓ:StartC n ds Γ)
    (h:ExT3 K xs ys zs t Γ):t { nx:=fun _ H'=>Q .non H',rt:=Q } (L2.start N vs) H:=by
  have e:=denv_start (N:=N) le k
  rw [hn,hΓ.eq] at e
  exact h H F H F _ e _ q
def PureC (Γ:Ctx):Prop:=∀ (j:Nat) (x:DV),Γ[j]?=some (some x)→∃ κ d,x=.fz κ d
theorem DEnv.any {H0 F0 H F:Hp} {σ:St} {i:Nat} {v:Option V} (e:DEnv K S H0 F0 H F σ Γ) (hi:∀ x,Γ[i]?≠some (some x)):DEnv K S H0 F0 H F (σ.set i v) Γ:=by
  have ne:∀ {j:Nat} {x:DV},Γ[j]?=some (some x)→i≠j:=fun h z=>hi _ (z ▸ h)
  refine ⟨e.gr,e.l0,e.sd,e.s0,by rw [List.length_set]; exact e.len,fun j x h=>?_,fun j k x y v w a h1 h2 h3 h4 o1 o2=>?_⟩
  · rw [List.getElem?_set_ne (ne h)]
    exact e.has j x h
  · rw [List.getElem?_set_ne (ne h1)] at h3
    rw [List.getElem?_set_ne (ne h2)] at h4
    exact e.ne j k x y v w a h1 h2 h3 h4 o1 o2
theorem DEnv.pureU {H0 F0 H F:Hp} {σ:St} {a:Addr} {o:HO} (e:DEnv K .fresh H0 F0 H F σ Γ) (hΓ:PureC Γ) (n:H0 a=none) (f:F a=none):DEnv K .fresh H0 F0 (upd H a o) F σ Γ:=by
  have g:Gr H0 F0 (upd H a o) F:=⟨fun b u z=>by rw [upd_ne (ne_of_none z n)]; exact e.gr.h _ _ z,e.gr.f,fun b u z=>by rw [upd_ne (ne_of_none z f)]; exact e.le _ _ z,e.gr.ap⟩
  refine ⟨g,e.l0,fun b z=>?_,(fun T z=>by cases z),e.len,fun j x h=>?_,fun j k x y v w b h1 h2 h3 h4 o1 o2=>?_⟩
  · obtain ⟨u,hu⟩:=e.sd b z
    by_cases c:b=a
    · subst c; exact absurd n z
    · exact ⟨u,by rw [upd_ne c]; exact hu⟩
  · obtain ⟨κ,d,rfl⟩:=hΓ j x h
    exact e.has j _ h
  · obtain ⟨κ,d,rfl⟩:=hΓ j x h1
    exact o1.elim
theorem ex_setT3 {pre:List PyData→List PyData→List PyData→List PyData→Prop} {E:XK} {ta:TA} {te2 te3:TE} {i j k:Nat} {ds:List PyData} {d2 d3:PyData} (hΓ:PureC Γ) (hi:∀ x,Γ[i]?≠some (some x)) (hl:i < Γ.length)
    (ha:EvA K .fresh false ta Γ ds) (hp:pre ds xs ys zs) (h2:EvE K .fresh true te2 Γ d2) (h3:EvE K .fresh true te3 Γ d3) (hj:GetC Γ j (.fz false (.int (k:Int)))) (hy:k < ys.length) (hz:k < zs.length)
    (hr:P.rt (.tuple [.list xs,.list (ys.set k d2),.list (zs.set k d3)])) (hk:P.kr=true) :
    ExT K .fresh S' (tSeq (tAsg (tCall (spT3 K pre) [] E ta) (gName i)) (tSeq (tAsg te2 (gSub (tOp (rIxT K) (tVar i) (tC (.int 1))) (tVar j) rSetL)) (tSeq (tAsg te3 (gSub (tOp (rIxT K) (tVar i) (tC (.int 2))) (tVar j) rSetL)) (tRet (tVar i))))) Γ P:=fun H0 F0 H F σ B e bb _ D I =>
  ha H0 F0 H F σ e _ fun as H1 F1 g1 p1=>⟨F1,ds,xs,ys,zs,g1.le,by rw [List.append_nil]; exact rpAll_dp p1,hp,fun p a b c us vs ws H2 F2 g2 t3=>by
    have g12:=g1.trans g2
    have e2:=(e.mono g12).any (i:=i) (v:=some (V.ref p)) hi
    have n0:∀ {x:Addr},H1 x=none→H0 x=none:=fun z=>(e.mono g1).gr.h.free z
    have li:i < σ.length:=by rw [e.len]; exact hl
    have qi:(σ.set i (some (V.ref p)))[i]?=some (some (V.ref p)):=List.getElem?_set_self li
    have up:∀ {x:Addr} {y:List V} {F':Hp},LN K true .fresh H1 F' x y→LN K true .fresh H0 F' x y:=fun z=>⟨z.1,fun c=>z.2 (by
      obtain ⟨u,hu⟩:=(e.mono g1).sd _ c
      show H1 _≠none
      rw [hu]; simp)⟩
    have lift:∀ {y:List V} {d:List PyData} {F':Hp},RpAll K true .fresh H1 F' y d→RpAll K true .fresh H0 F' y d:=fun z=>rpAll_map (fun _ _ q=>up q) (fun _ _ q=>q) z
    show tSeq _ _ D (σ.set i (some (V.ref p))) H2
    refine h2 H0 F0 H2 F2 _ e2 _ fun v2 H3 F3 g3 r2=>?_
    have e3:=e2.mono g3
    obtain ⟨vj,qj,rj⟩:=e3.has j _ hj.eq
    cases rp_int rj
    have ob3:=t3.ob.mono g3
    have sq3:SqT K H3 p [.ref a,.ref b,.ref c]:=SqT.of (g3.le _ _ (g3.f _ _ t3.hp))
    refine ⟨_,qi,p,_,1,_,rfl,rfl,sq3,rfl,_,qj,b,vs,k,k,rfl,rfl,ob3.h,?_,?_⟩
    · exact ixN_nat (by rw [RpAll.length t3.rb]; exact hy)
    have e4:=e3.pureU (o:=.lst (vs.set k v2)) hΓ (n0 t3.ob.n) ob3.f
    refine h3 H0 F0 _ F3 _ e4 _ fun v3 H5 F5 g5 r3=>?_
    have e5:=e4.mono g5
    have ow3:=t3.oc.mono g3
    have hc4:upd H3 b (.lst (vs.set k v2)) c=some (.lst ws):=by rw [upd_ne (Ne.symm t3.bc)]; exact ow3.h
    have sq5:SqT K H5 p [.ref a,.ref b,.ref c]:=SqT.of (g5.le _ _ (g5.f _ _ (g3.f _ _ t3.hp)))
    refine ⟨_,qi,p,_,2,_,rfl,rfl,sq5,rfl,_,qj,c,ws,k,k,rfl,rfl,g5.h _ _ hc4,?_,?_⟩
    · exact ixN_nat (by rw [RpAll.length t3.rc]; exact hz)
    refine ⟨_,qi,?_⟩
    have fa5:F5 a=none:=g5.ap _ (.lst us) (by rw [upd_ne t3.ab]; exact (t3.oa.mono g3).h) (t3.oa.mono g3).f
    have fb5:F5 b=none:=g5.ap _ _ upd_same ob3.f
    have fc5:F5 c=none:=g5.ap _ _ hc4 ow3.f
    have e6:=e5.pureU (o:=.lst (ws.set k v3)) hΓ (n0 t3.oc.n) fc5
    let F6:Hp:=upd (upd (upd F5 a (.lst us)) b (.lst (vs.set k v2))) c (.lst (ws.set k v3))
    have ha5:H5 a=some (.lst us):=g5.h _ _ (by rw [upd_ne t3.ab]; exact (t3.oa.mono g3).h)
    have hb5:H5 b=some (.lst (vs.set k v2)):=g5.h _ _ upd_same
    have s56:Same F5 F6:=((Same.new fa5 _).trans (Same.new (by rw [upd_ne (Ne.symm t3.ab)]; exact fb5) _)).trans (Same.new (by rw [upd_ne (Ne.symm t3.bc),upd_ne (Ne.symm t3.ac)]; exact fc5) _)
    have le6:Same F6 (upd H5 c (.lst (ws.set k v3))):=fun x o (z:upd (upd (upd F5 a (.lst us)) b (.lst (vs.set k v2))) c (.lst (ws.set k v3)) x=some o)=>by
      by_cases xc:x=c
      · subst xc; rw [upd_same] at z ⊢; exact z
      · rw [upd_ne xc] at z ⊢
        by_cases xb:x=b
        · subst xb; rw [upd_same] at z; rw [hb5]; exact z
        · rw [upd_ne xb] at z
          by_cases xa:x=a
          · subst xa; rw [upd_same] at z; rw [ha5]; exact z
          · rw [upd_ne xa] at z
            exact e5.le _ _ z
    have g6:Gr H0 F0 (upd H5 c (.lst (ws.set k v3))) F6:=⟨e6.gr.h,e6.gr.f.trans s56,le6,fun x o z f=>by
      have xa:x≠a:=ne_of_none z (n0 t3.oa.n)
      have xb:x≠b:=ne_of_none z (n0 t3.ob.n)
      have xc:x≠c:=ne_of_none z (n0 t3.oc.n)
      show upd _ _ _ x=none
      rw [upd_ne xc,upd_ne xb,upd_ne xa]
      exact e5.gr.ap _ _ z f⟩
    refine I.rt _ _ _ F6 hr g6 (ret_kind (S:=.fresh) (κ:=true) (.inl ⟨rfl,hk.symm⟩) (.tup (SqT.of (s56 _ _ (g5.f _ _ (g3.f _ _ t3.hp)))) (.cons (.lst (xs:=us) ⟨?_,?_⟩ ?_) (.cons (.lst (xs:=vs.set k v2) ⟨?_,?_⟩ ?_) (.cons (.lst (xs:=ws.set k v3) ⟨?_,?_⟩ ?_) .nil)))))
    · show upd _ _ _ a=_
      rw [upd_ne t3.ac,upd_ne t3.ab,upd_same]
    · exact fun z=>z (n0 t3.oa.n)
    · exact rpAll_mono ((g3.f.trans g5.f).trans s56) (lift t3.ra)
    · show upd _ _ _ b=_
      rw [upd_ne t3.bc,upd_same]
    · exact fun z=>z (n0 t3.ob.n)
    · exact RpAll.set (rp_mono (g5.f.trans s56) r2) _ (rpAll_mono ((g3.f.trans g5.f).trans s56) (lift t3.rb))
    · show upd _ _ _ c=_
      rw [upd_same]
    · exact fun z=>z (n0 t3.oc.n)
    · exact RpAll.set (rp_mono s56 r3) _ (rpAll_mono ((g3.f.trans g5.f).trans s56) (lift t3.rc))⟩
end
end PD
namespace Pb
open Wd Sh Sx2 El
theorem prod_snoc' (l:List Int) (x:Int):prod (l ++ [x])=prod l * x:=by
  rw [prod_append]
  show prod l * (x * 1)=_
  rw [Int.mul_one]
theorem pAll_prod (g:Nat→Int):∀ n,pAll g n=prod ((List.range n).map g)
  | 0=>rfl
  | n + 1=>by rw [pAll_succ,pAll_prod g n,List.range_succ,List.map_append]; exact (prod_snoc' _ _).symm
theorem prod_pw {b:Nat}:∀ (l:List Int),(∀ x∈l,1≤x∧x≤2 ^ b)→1≤prod l∧prod l≤2 ^ (b * l.length)
  | [],_=>⟨by show (1:Int)≤1; decide,by show (1:Int)≤_; simp⟩
  | x :: r,h=>by
    have ih:=prod_pw r fun y hy=>h y (List.mem_cons_of_mem _ hy)
    have hx:=h x List.mem_cons_self
    show 1≤x * prod r∧x * prod r≤_
    rw [List.length_cons,Nat.mul_succ,Nat.add_comm,Int.pow_add]
    refine ⟨?_,Int.mul_le_mul hx.2 ih.2 (by omega) (by have:=hx.1; have:=hx.2; omega)⟩
    have:=Int.mul_le_mul hx.1 ih.1 (by decide) (by omega)
    omega
theorem prod_pw0 {b:Nat}:∀ (l:List Int),(∀ x∈l,0≤x∧x≤2 ^ b)→0≤prod l∧prod l≤2 ^ (b * l.length)
  | [],_=>⟨by show (0:Int)≤1; decide,by show (1:Int)≤_; simp⟩
  | x :: r,h=>by
    have ih:=prod_pw0 r fun y hy=>h y (List.mem_cons_of_mem _ hy)
    have hx:=h x List.mem_cons_self
    show 0≤x * prod r∧x * prod r≤_
    rw [List.length_cons,Nat.mul_succ,Nat.add_comm,Int.pow_add]
    exact ⟨Int.mul_nonneg hx.1 ih.1,Int.mul_le_mul hx.2 ih.2 ih.1 (by have:=hx.1; have:=hx.2; omega)⟩
theorem pw_lt {x:Int} {m n:Nat} (h0:0≤x) (h:x≤2 ^ m) (hm:m < n):x.natAbs < 2 ^ n:=by
  have e:((2 ^ m:Nat):Int)=(2:Int) ^ m:=by rw [Int.natCast_pow]; rfl
  have:x.natAbs≤2 ^ m:=by omega
  exact Nat.lt_of_le_of_lt this (Nat.pow_lt_pow_right (by decide) hm)
end Pb
namespace Pb
open Wd Sh Sx2 El
end Pb
namespace PD
open PySem L2
section
variable {K:PySem.W.Frag} {S S':Sx} {κ κ':Bool} {Γ Γ' Γ'':Ctx} {P:Post} {E:XK}
end
end PD
namespace PD
open PySem L2
section
variable {K:PySem.W.Frag} {S S':Sx} {κ κ':Bool} {Γ Γ' Γ'':Ctx} {P:Post}
end
end PD
namespace PD
open PySem L2
section
variable {K:PySem.W.Frag} {S S':Sx} {κ κ':Bool} {Γ Γ' Γ'':Ctx} {P:Post}
end
end PD
namespace L2
open PySem PySem.Spec PyProof.Rows
section
variable {prog:Program} {w:World} {A:Around} {E:Value→Shared→Prop} {s:Shared} {b bt:Bool} {a r o p q:Addr} {l l1 l2:List Int}
theorem findI {k:Int} {tk:Tok} {Q:Option Nat→Shared→Prop} (hS:SetI b a l s.heap) (h:∀ x:Option Nat,(x.isSome=true↔k∈l)→Q x s):wpAny (model prog w) A (setFind a (.int k tk) (hashInt k)) Q E s:=by
  obtain ⟨ob,es,ep,t,ho,hex,hd,hE,hp,hz,hf,ht⟩:=hS
  have hel:ElemsOf (intKind prog w) es.toList:=IsE.elems hE
  have hm:k∈l↔∃ e∈es.toList,(intKind prog w).is k e.2=true:=by
    rw [← hp.mem_iff,List.mem_map]
    exact ⟨fun ⟨e,x,y⟩=>⟨e,x,((hE e x).is k).mpr y⟩,fun ⟨e,x,y⟩=>⟨e,x,((hE e x).is k).mp y⟩⟩
  unfold setFind setFindIn
  refine wpAny_bind (wpAny_setState_of ho hd hf ?_)
  dsimp only
  rw [byScan_of (knd:=intKind prog w) (x:=.int k tk) rfl hz hel]
  simp only [↓reduceIte]
  refine wpAny_bind (wpAny_rule ?_)
  refine wpAny_bind (wpAny_setScan_of (knd:=intKind prog w) (k:=k) (intKind_is _ _ k tk) ho hd hf hel ?_)
  cases hr:List.findIdx? (fun e=>(intKind prog w).is k e.2) es.toList with
  | none =>
    dsimp only
    refine wpAny_pure (h none ⟨fun z=>(by cases z),fun z=>?_⟩)
    obtain ⟨e,he,hpe⟩:=hm.mp z
    have q:=List.findIdx?_eq_none_iff.mp hr e he
    rw [hpe] at q; cases q
  | some j =>
    dsimp only
    obtain ⟨hj,hpj,_⟩:=List.findIdx?_eq_some_iff_getElem.mp hr
    exact wpAny_pure (h (some (0 + j)) ⟨fun _=>hm.mpr ⟨es.toList[j],List.getElem_mem hj,hpj⟩,fun _=>rfl⟩)
theorem walkA {also:List Addr} {Q:Array (Int×Value)→Shared→Prop} (hb:w.params.followText "set-order" = bt) (hR:SetI (!bt) r l1 s.heap) (hO:SetI (!bt) o l2 s.heap) (hA:∀ x∈also,∃ c l,SetI c x l s.heap)
    (k:∀ (ws:Array (Int×Value)) h',(∀ e∈ws.toList,IsE e)→(ws.toList.map kOf).Perm l2→Heap.SameBut r s.heap h'→SetI (!bt) r l1 h'→Q ws { s with heap:=h' }):wpAny (model prog w) A (setWalkUnseen o also (some r)) Q E s:=by
  obtain ⟨ob,es,ep,t,ho,hex,hd,hE,hp,hz,hf,ht⟩:=id hO
  have ks:∀ ws:Array (Int×Value),ws.toList.Perm es.toList→Q ws s:=fun ws pm=>k ws s.heap (fun e x=>hE e (pm.mem_iff.mp x)) ((pm.map kOf).trans hp) (Heap.SameBut.refl _ _) hR
  unfold setWalkUnseen
  refine wpAny_bind (wpAny_setState_of ho hd hf ?_)
  dsimp only
  unfold setsByText
  refine wpAny_bind (wpAny_bind (wpAny_askSetting (wpAny_pure ?_)))
  rw [show (model prog w).w.params.followText "set-order" = bt from hb]
  cases bt with
  | true =>
    simp only [Bool.true_or,↓reduceIte]
    unfold setWalk
    refine wpAny_bind (wpAny_setState_of ho hd hf ?_)
    dsimp only
    unfold setsByText
    refine wpAny_bind (wpAny_bind (wpAny_askSetting (wpAny_pure ?_)))
    rw [show (model prog w).w.params.followText "set-order" = true from hb]
    simp only [↓reduceIte]
    exact wpAny_bind (wpAny_askSetting (wpAny_pure (ks _ (pickOrder_perm _ _))))
  | false =>
    have led:t.led=true:=ht.led
    by_cases c:(false || (t.led && t.plain) || decide (es.size≤1))=true
    · rw [if_pos c]
      unfold setWalk
      refine wpAny_bind (wpAny_setState_of ho hd hf ?_)
      dsimp only
      unfold setsByText
      refine wpAny_bind (wpAny_bind (wpAny_askSetting (wpAny_pure ?_)))
      rw [show (model prog w).w.params.followText "set-order" = false from hb]
      simp only [Bool.false_eq_true,↓reduceIte]
      split
      · rename_i z
        have z:(!t.plain && decide (es.size > 1))=true:=z
        rw [led] at c
        simp at c z
        have y:¬ 1 < es.size:=by
          rcases c with c | c
          · rw [c] at z
            exact absurd z.1 (by decide)
          · omega
        exact absurd z.2 y
      · refine wpAny_bind (wpAny_of_eq (a:=()) ?_ ?_)
        · show (if (!t.led && decide (es.size > 1))=true then _ else _)=_
          rw [led]
          rfl
        · exact wpAny_pure (ks es (.refl _))
    · rw [if_neg c]
      refine wpAny_bind (quietI (fun x hx=>?_) ?_)
      · rcases List.mem_cons.mp hx with rfl | hx
        · exact ⟨_,_,hO⟩
        · exact hA x hx
      rw [if_neg (by decide)]
      refine wpAny_bind (wpAny_rule ?_)
      obtain ⟨ob1,es1,ep1,t1,ho1,hex1,hd1,hE1,hp1,hz1,hf1,ht1⟩:=id hR
      refine wpAny_bind (wpAny_setState_of ho1 hd1 hf1 ?_)
      dsimp only
      split
      · refine wpAny_bind (wpAny_storeSet_of ho1 hd1 ?_ (fits_of_scanBound hz1))
        refine wpAny_pure (k es _ hE hp (Heap.SameBut.update ..) ⟨_,es1,_,_,storeI ho1 hd1 _ _,hex1,rfl,hE1,hp1,hz1,hf1,⟨?_,ht1.rise,ht1.dum⟩⟩)
        show (t1.led && t.led)=_
        rw [ht1.led,led]
        rfl
      · exact wpAny_pure (ks es (.refl _))
theorem sizeI {Q:Nat→Shared→Prop} (hS:SetI b a l s.heap) (k:Q l.length s):wpAny (model prog w) A (Builtin.Frozenset.sizeOf a) Q E s:=by
  obtain ⟨ob,es,ep,t,ho,hex,hd,hE,hp,hz,hf,ht⟩:=hS
  have hn:es.size=l.length:=by have:=hp.length_eq; simpa using this
  unfold Builtin.Frozenset.sizeOf
  refine wpAny_bind (wpAny_setEntries_of ho hd hf (wpAny_pure ?_))
  rw [hn]
  exact k
theorem dd_step {l:List Int} {k:Int} (nd:l.Nodup):(step_dedup l k).Nodup∧(∀ x,x∈step_dedup l k↔x∈l∨x=k)∧(step_dedup l k).length≤l.length + 1:=by
  unfold step_dedup
  split
  · rename_i z
    obtain ⟨y,hy,ey⟩:=List.any_eq_true.mp z
    have ey:=eq_of_beq ey
    subst ey
    exact ⟨nd,fun x=>⟨.inl,fun z=>z.elim id fun z=>z ▸ hy⟩,by omega⟩
  · rename_i z
    refine ⟨?_,fun x=>by rw [List.mem_append,List.mem_singleton],by rw [List.length_append]; exact Nat.le_refl _⟩
    rw [List.nodup_append]
    refine ⟨nd,by simp,fun x hx y hy=>?_⟩
    rw [List.mem_singleton.mp hy]
    rintro rfl
    exact z (List.any_eq_true.mpr ⟨_,hx,by simp⟩)
theorem andI {Q:Value→Shared→Prop} (hb:w.params.followText "set-order" = bt) (hP:SetI (!bt) p l1 s.heap) (hR:SetI (!bt) q l2 s.heap) (hne:p≠q) (hl:l1.length + l2.length < 2000)
    (k:∀ h' l3,SetI (!bt) s.heap.objs.size l3 h'→(∀ c ob,s.heap.get? c=some ob→h'.get? c=some ob)→(∀ x,x∈l3↔x∈l1∧x∈l2)→l3.Nodup→l3.length≤l1.length + l2.length→Q (.ref s.heap.objs.size) { s with heap:=h' }) :
    wpAny (model prog w) A (binaryOp .BitAnd (.ref p) (.ref q)) Q E s:=by
  obtain ⟨op,_,_,_,hop,hxp,_⟩:=id hP
  obtain ⟨oq,_,_,_,hoq,hxq,_⟩:=id hR
  have hp:p < s.heap.objs.size:=Heap.lt_size hop
  have hq:q < s.heap.objs.size:=Heap.lt_size hoq
  have hT:s.TypeIs (.ref p) "set" := ⟨op,hop,hxp.1⟩
  refine wpAny_binaryOp_same hT ⟨oq,hoq,hxq.1⟩ F.fills_set_and F.slot_set_and (wpAny_call_entry F.slot_set_and hT set_entryAnd ?_ (F.args_set_and_2 _ _))
  unfold Builtin.«frozenset.__and__»
  show wpAny _ _ (do
    if !(← Builtin.Frozenset.isAnySet (.ref p) <&&> Builtin.Frozenset.isAnySet (.ref q)) then rule s!"frozenset.{"__and__"}.declined"; return ← ret .notImplemented
    ret (← Builtin.Frozenset.intersection s!"frozenset.{"__and__"}" p (.ref q))) _ _ _
  refine wpAny_bind (wpAny_bind (anySetI (h:=s.heap) hP ?_))
  show wpAny _ _ (Builtin.Frozenset.isAnySet (Value.ref q)) _ _ _
  refine anySetI (h:=s.heap) hR ?_
  simp only [Bool.not_true,Bool.false_eq_true,↓reduceIte]
  refine wpAny_bind ?_
  unfold Builtin.Frozenset.intersection
  rw [if_neg (by simpa using Ne.symm hne)]
  unfold Builtin.Frozenset.baseOf
  refine wpAny_bind (wpAny_bind (wpAny_isInstance (b:=true) ⟨op,hop,hxp.1⟩ sub_set_self (wpAny_pure ?_)))
  simp only [↓reduceIte]
  refine wpAny_bind (newSetI hb fun o1 f1=>?_)
  unfold Builtin.Frozenset.addrOf
  refine wpAny_bind (wpAny_pure ?_)
  have up:∀ c ob,s.heap.get? c=some ob→(s.heap.push o1).get? c=some ob:=fun c ob z=>Heap.get?_push_of_some _ z
  have hP1:SetI (!bt) p l1 (s.heap.push o1):=hP.at fun _ z=>up _ _ z
  have hR1:SetI (!bt) q l2 (s.heap.push o1):=hR.at fun _ z=>up _ _ z
  refine wpAny_bind (wpAny_holding ?_)
  refine wpAny_bind (anySetI (s:={ s with heap:=s.heap.push o1 }) (h:=s.heap) hR1 ?_)
  rw [if_pos rfl]
  refine wpAny_bind (wpAny_pure ?_)
  refine wpAny_bind (sizeI (s:={ s with heap:=s.heap.push o1 }) hR1 ?_)
  refine wpAny_bind (sizeI (s:={ s with heap:=s.heap.push o1 }) hP1 ?_)
  obtain ⟨⟨ak,wk⟩,ep,la,lw,hA,hW,na,nw,hiff,hlw⟩:∃ pr:Addr×Addr,(if l2.length > l1.length then (q,p) else (p,q))=pr∧∃ la lw,SetI (!bt) pr.1 la (s.heap.push o1)∧SetI (!bt) pr.2 lw (s.heap.push o1)∧s.heap.objs.size≠pr.1∧s.heap.objs.size≠pr.2∧(∀ x,x∈la∧x∈lw↔x∈l1∧x∈l2)∧lw.length≤l1.length + l2.length:=by
    by_cases c:l2.length > l1.length
    · exact ⟨_,if_pos c,l2,l1,hR1,hP1,Nat.ne_of_gt hq,Nat.ne_of_gt hp,fun x=>And.comm,by omega⟩
    · exact ⟨_,if_neg c,l1,l2,hP1,hR1,Nat.ne_of_gt hp,Nat.ne_of_gt hq,fun x=>Iff.rfl,by omega⟩
  rw [ep]
  dsimp only at hA hW na nw ⊢
  obtain ⟨ob2,es2,ep2,t2,ho2,hx2,hd2,hE2,hp2,hz2,hf2,ht2⟩:=id hW
  refine wpAny_bind (wpAny_setEpoch_of (s:={ s with heap:=s.heap.push o1 }) ho2 hd2 hf2 ?_)
  refine wpAny_bind (walkA (s:={ s with heap:=s.heap.push o1 }) hb f1.set hW (fun x hx=>?_) fun ws h2 wE wp u2 f2=>?_)
  · rcases List.mem_cons.mp hx with rfl | hx
    · exact ⟨_,_,hA⟩
    · rw [List.mem_singleton.mp hx]; exact ⟨_,_,f1.set⟩
  refine wpAny_bind (wpAny_forIn_array' _ (fun rest _ s'=>∃ l h',s'={ s with heap:=h' }∧Heap.SameBut s.heap.objs.size (s.heap.push o1) h'∧SetI (!bt) s.heap.objs.size l h'∧(∀ e∈rest,IsE e)∧(∀ x,(x∈l∨(x∈la∧x∈rest.map kOf))↔x∈la∧x∈lw)∧l.Nodup∧l.length + rest.length≤lw.length) _ ?_ ?_ _ _ ⟨[],h2,rfl,u2,f2,wE,fun x=>by rw [wp.mem_iff]; simp,List.nodup_nil,by have:=wp.length_eq; rw [List.length_map] at this; simpa using Nat.le_of_eq this⟩)
  · rintro e rest _ s' ⟨l,h',rfl,u,f,hE',hm,hnd,hlen⟩
    obtain ⟨kk,tk,rfl⟩:=hE' e (.head _)
    rw [List.length_cons] at hlen
    have hA':SetI (!bt) ak la h':=hA.at fun ob z=>by rw [u.2 ak (Ne.symm na)]; exact z
    have un:∀ (h3:Heap) (Q':Unit→Shared→Prop),Heap.SameBut s.heap.objs.size h' h3→Q' () { s with heap:=h3 }→wpAny (model prog w) A.in1 (Builtin.Frozenset.unchanged s!"frozenset.{"__and__"}" wk ep2) Q' E { s with heap:=h3 }:=fun h3 Q' u3 qq=>by
      unfold Builtin.Frozenset.unchanged
      refine wpAny_bind (wpAny_setEpoch_of (s:={ s with heap:=h3 }) ?_ hd2 hf2 ?_)
      · show h3.get? wk=some ob2
        rw [u3.2 wk (Ne.symm nw),u.2 wk (Ne.symm nw)]
        exact ho2
      · rw [if_neg (by simp)]
        exact wpAny_pure qq
    refine wpAny_bind (wpAny_holding (wpAny_bind (findI (s:={ s with heap:=h' }) hA' fun x hx=>?_)))
    by_cases c:x.isSome=true
    · rw [if_pos c]
      refine wpAny_bind (addI (s:={ s with heap:=h' }) f (by unfold scanBound; omega) fun rr h3 u3 f3=>wpAny_pure ?_)
      refine wpAny_bind (un h3 _ u3 (wpAny_pure ?_))
      obtain ⟨d1,d2,d3⟩:=dd_step (k:=kk) hnd
      refine ⟨_,h3,rfl,u.trans u3,f3,fun y hy=>hE' y (.tail _ hy),fun y=>?_,d1,by omega⟩
      rw [← hm y,d2 y,List.map_cons]
      show _↔_∨(_∧y∈kk :: _)
      rw [List.mem_cons]
      have ka:=hx.mp c
      constructor
      · rintro ((z | rfl) | z)
        · exact .inl z
        · exact .inr ⟨ka,.inl rfl⟩
        · exact .inr ⟨z.1,.inr z.2⟩
      · rintro (z | ⟨z1,z | z⟩)
        · exact .inl (.inl z)
        · exact .inl (.inr z)
        · exact .inr ⟨z1,z⟩
    · rw [if_neg c]
      refine wpAny_pure (wpAny_bind (un h' _ (Heap.SameBut.refl _ _) (wpAny_pure ?_)))
      refine ⟨l,h',rfl,u,f,fun y hy=>hE' y (.tail _ hy),fun y=>?_,hnd,by omega⟩
      rw [← hm y,List.map_cons]
      show _↔_∨(_∧y∈kk :: _)
      rw [List.mem_cons]
      have ka:kk∉la:=fun z=>c (hx.mpr z)
      constructor
      · rintro (z | z)
        · exact .inl z
        · exact .inr ⟨z.1,.inr z.2⟩
      · rintro (z | ⟨z1,rfl | z⟩)
        · exact .inl z
        · exact absurd z1 ka
        · exact .inr ⟨z1,z⟩
  · rintro _ s' ⟨l,h',rfl,u,f,_,hm,hnd,hlen⟩
    refine wpAny_pure (wpAny_pure ?_)
    exact wpAny_pure ⟨_,rfl,by simp,k h' l f (fun c ob z=>by rw [u.2 c (Nat.ne_of_lt (Heap.lt_size z))]; exact up c ob z) (fun x=>by rw [← hiff x,← hm x]; simp) hnd (by simp at hlen; omega)⟩
end
end L2
namespace L2
open PySem PySem.Spec PyProof.Rows
section
variable {X:Cx} {K:PySem.W.Frag} {b:Bool}
def rAndB (b:Bool):R2:=fun x y H Q=>∃ p q l1 l2,x=.ref p∧y=.ref q∧p≠q∧H p=some (SetB b p l1)∧H q=some (SetB b q l2)∧l1.length + l2.length < 2000 ∧
  ∀ c l3,H c=none→(∀ k,k∈l3↔k∈l1∧k∈l2)→l3.Nodup→l3.length≤l1.length + l2.length→Q (.ref c) (upd H c (SetB b c l3))
theorem op_andB (hc:X.calm=true) (hb:X.w.params.followText "set-order" = b):OpR X (binaryOp .BitAnd) (rAndB b):=by
  intro pins s σ H x y v u Q I rx ry h
  obtain ⟨p,q,l1,l2,rfl,rfl,hne,hp,hq,hz,k⟩:=h
  cases rx
  cases ry
  exact andI hb (I.hok p _ hp).1 (I.hok q _ hq).1 hne hz fun h' l3 f kk a1 a2 a3=>⟨.ref s.heap.objs.size,_,I.laid (t':=s.toks) kk (Nat.le_refl _) (setB_ok f),rfl,k _ l3 (I.hok.fresh (Nat.le_refl _)) a1 a2 a3⟩
end
end L2
namespace PD
open PySem L2
section
variable {K:PySem.W.Frag} {S S':Sx} {κ κ' b:Bool} {Γ Γ' Γ'':Ctx} {P:Post}
theorem ev_lenAnd {ta tc:TE} {ns ms:List Int} (h1:EvL K S false ta Γ (ns.map .int)) (h2:EvL K S false tc Γ (ms.map .int)) (hz:ns.length + ms.length < 2000) :
    EvE K S κ (tCB (rLenB b) (tCons (tOp (rAndB b) (tCB (rSetB K b) (tCons ta tNil)) (tCB (rSetB K b) (tCons tc tNil))) tNil)) Γ (.int ((dd ns).filter fun k=>decide (k∈ms)).length):=fun H0 F0 H F σ e Q q =>
  h1 H0 F0 H F σ e _ fun a vs H1 F1 g1 p1 k1=>by
    cases dpAll_of_ints (rpAll_dp k1)
    refine ⟨a,ns,rfl,p1,by omega,fun p hp=>?_⟩
    have g2:=g1.trans (.newO g1.le hp (SetB b p (dd ns)))
    refine h2 H0 F0 _ F1 σ (e.mono g2) _ fun c ws H3 F3 g3 p3 k3=>?_
    cases dpAll_of_ints (rpAll_dp k3)
    refine ⟨c,ms,rfl,p3,by omega,fun r hr=>?_⟩
    have g4:=(g2.trans g3).trans (.newO g3.le hr (SetB b r (dd ms)))
    have hpH:H3 p=some (SetB b p (dd ns)):=g3.h _ _ upd_same
    have hne:p≠r:=fun z=>by rw [z,hr] at hpH; cases hpH
    have d1:=dd_len ns
    have d2:=dd_len ms
    refine ⟨p,r,dd ns,dd ms,rfl,rfl,hne,by rw [upd_ne hne]; exact hpH,upd_same,by omega,fun t l3 ht m3 n3 z3=>?_⟩
    have g5:=g4.trans (.newO g4.le ht (SetB b t l3))
    have el:l3.length=((dd ns).filter fun k=>decide (k∈ms)).length:=by
      refine List.Perm.length_eq ?_
      rw [List.perm_ext_iff_of_nodup n3 ((dd_nd ns).sublist List.filter_sublist)]
      intro k
      rw [m3 k,List.mem_filter,dd_mem ms k,decide_eq_true_eq]
    refine ⟨t,l3,rfl,upd_same,?_⟩
    rw [el]
    exact q _ _ F3 g5 (.int _)
theorem meet_pos (ns ms:List Int):decide (((((dd ns).filter fun k=>decide (k∈ms)).length:Nat):Int) > 0)=ns.any fun k=>decide (k∈ms):=by
  rw [Bool.eq_iff_iff,decide_eq_true_eq,List.any_eq_true]
  constructor
  · intro h
    obtain ⟨k,hk⟩:=List.exists_mem_of_length_pos (l:=(dd ns).filter fun k=>decide (k∈ms)) (by omega)
    obtain ⟨h1,h2⟩:=List.mem_filter.mp hk
    exact ⟨k,(dd_mem ns k).mp h1,h2⟩
  · rintro ⟨k,h1,h2⟩
    have hk:k∈(dd ns).filter fun k=>decide (k∈ms):=List.mem_filter.mpr ⟨(dd_mem ns k).mpr h1,h2⟩
    have:=List.length_pos_of_mem hk
    omega
end
end PD
namespace L2
open PySem PySem.Spec PyProof.Rows
section
variable {X:Cx} {K:PySem.W.Frag}
theorem Vals.ofGet:∀ (xs:List V) (us:List Value),xs.length=us.length→(∀ (i:Nat) x u,xs[i]?=some x→us[i]?=some u→RelV x u)→Vals xs us
  | [],[],_,_=>.nil
  | [],_ :: _,h,_=>by cases h
  | _ :: _,[],h,_=>by cases h
  | x :: xs,u :: us,h,k=>.cons (k 0 x u rfl rfl) (Vals.ofGet xs us (Nat.succ.inj h) fun i y v h1 h2=>k (i + 1) y v h1 h2)
def rRngO:List V→Hp→VK→Prop:=fun xs H Q=>∃ n:Int,xs=[.int n]∧∀ l,H l=none→Q (.ref l) (upd H l (.rng 0 n))
theorem call_rngO:CallR X (.type "range") rRngO:=by
  intro pins s σ H xs us Q I r h
  obtain ⟨n,rfl,q⟩:=h
  obtain ⟨u,rfl,rx⟩:=vals1 r
  obtain ⟨t,rfl⟩:=rx
  exact call_range_1 ⟨.ref s.heap.objs.size,_,I.laid (t':=s.toks + 1 + 1) (fun b u e=>Heap.get?_push_of_some _ e) (Nat.le_refl _) (show ObjOk X.prog X.w _ _ _ (.rng 0 n) from ⟨_,_,_,Heap.get?_push_size _ rfl⟩),rfl,q _ (I.hok.fresh (Nat.le_refl _))⟩
def rListRng:List V→Hp→VK→Prop:=fun xs H Q=>∃ (p:Addr) (n:Nat),xs=[.ref p]∧H p=some (.rng 0 n)∧n≤1000000∧∀ l,H l=none→Q (.ref l) (upd H l (.lst ((List.range n).map fun i:Nat=>V.int (i:Int))))
theorem call_listRng (hc:X.calm=true):CallR X (.type "list") rListRng:=by
  intro pins s σ H xs us Q I r h
  obtain ⟨p,n,rfl,hp,hn,q⟩:=h
  obtain ⟨u,rfl,rx⟩:=vals1 r
  cases rx
  obtain ⟨t,u,v,ho⟩:∃ t u v,s.heap.get? p=some { cls:=.type "range", data:=.fields #[.int 0 t,.int n u,.int 1 v] }:=I.hok p _ hp
  have rs:Builtin.Range.rangeSize 0 n 1=(n:Int):=by
    unfold Builtin.Range.rangeSize
    simp
    omega
  refine call_list_range (n:=n) (I.ok.hd hc) ho ?_ ?_ (by omega) fun h' tk acc' c' hk hS hacc=>?_
  · exact small_one (by omega) (by omega) (by omega) (by omega)
  · exact rs
  · have hl:acc'.toList.length=n:=by rw [Array.length_toList]; exact hacc.1
    refine ⟨.ref s.heap.objs.size,_,I.laid (t':=tk) hk (Nat.le_refl _) (show ObjOk X.prog X.w _ h' _ (.lst ((List.range n).map fun i:Nat=>V.int (i:Int))) from ⟨by rw [List.length_map,List.length_range,sizeLine_eq]; omega,acc'.toList,c',Vals.ofGet _ _ (by rw [List.length_map,List.length_range,hl]) fun i x u h1 h2=>?_,hS⟩),rfl,q _ (I.hok.fresh (Nat.le_refl _))⟩
    have hi:i < n:=by
      have:=(List.getElem?_eq_some_iff.mp h2).1
      omega
    rw [List.getElem?_map,List.getElem?_range hi] at h1
    cases h1
    obtain ⟨t',rfl⟩:=hacc.2 i u (by rw [← Array.getElem?_toList]; exact h2)
    exact ⟨t',by rw [Int.mul_one,Int.zero_add]⟩
end
end L2
namespace PD
open PySem L2
section
variable {K:PySem.W.Frag} {S S':Sx} {κ κ':Bool} {Γ Γ' Γ'':Ctx} {P:Post}
theorem evo_listRng {ta:TE} {n:Nat} (h:EvE K S false ta Γ (.int (n:Int))) (hn:n≤1000000):EvO K S κ (tCB rListRng (tCons (tCB rRngO (tCons ta tNil)) tNil)) Γ ((List.range n).map fun i:Nat=>.int (i:Int)):=fun H0 F0 H F σ e Q q =>
  h H0 F0 H F σ e _ fun v H1 F1 g1 p1=>by
    cases rp_int p1
    refine ⟨n,rfl,fun p hp=>⟨p,n,rfl,upd_same,hn,fun l hl=>?_⟩⟩
    have g2:=g1.trans (.newO g1.le hp (.rng 0 n))
    have hr:RpAll K κ S H0 F1 ((List.range n).map fun i:Nat=>V.int (i:Int)) ((List.range n).map fun i:Nat=>.int (i:Int)):=by
      have:=rpAll_ints (K:=K) (κ:=κ) (S:=S) (H0:=H0) (F:=F1) ((List.range n).map fun i:Nat=>(i:Int))
      rw [List.map_map,List.map_map] at this
      exact this
    exact q l _ _ F1 (g2.trans (.newO g2.le hl _)) (g2.h.free hl) upd_same (g2.le.free hl) hr
theorem ev_chain {ta tb tc:TE} {f g:Int→Int→Bool} {i j m:Int} (ha:EvE K S false ta Γ (.int i)) (hb:EvE K S false tb Γ (.int j)) (hc:f i j=true→EvE K S false tc Γ (.int m)) :
    EvE K S κ (tChain (rI0 fun i j=>.bl (f i j)) (rI0 fun i j=>.bl (g i j)) ta tb tc) Γ (.bool (f i j && g j m)):=fun H0 F0 H F σ e Q q =>
  ha H0 F0 H F σ e _ fun v H1 F1 g1 p1=>hb H0 F0 H1 F1 σ (e.mono g1) _ fun u H2 F2 g2 p2=>by
    cases rp_int p1
    cases rp_int p2
    refine ⟨i,j,rfl,rfl,f i j,rfl,?_⟩
    cases hf:f i j with
    | true=>exact iteT (hc hf H0 F0 H2 F2 σ ((e.mono g1).mono g2) _ fun w H3 F3 g3 p3=>by
        cases rp_int p3
        exact ⟨j,m,rfl,rfl,q _ H3 F3 ((g1.trans g2).trans g3) (by rw [hf,Bool.true_and]; exact .bl _)⟩)
    | false=>exact iteF (q _ H2 F2 (g1.trans g2) (by rw [hf,Bool.false_and]; exact .bl _))
end
end PD
namespace L2
open PySem PySem.Spec PyProof.Rows
section
variable {X:Cx} {K:PySem.W.Frag}
def rm (k:Int) (ns:List Int):List Int:=ns.take (ns.idxOf k) ++ ns.drop (ns.idxOf k + 1)
def rRemove:V→List V→Hp→VK→Prop:=fun x vs H Q=>∃ l,∃ ns:List Int,∃ k,x=.ref l∧vs=[.int k]∧H l=some (.lst (ns.map V.int))∧k∈ns∧Q .non (upd H l (.lst ((rm k ns).map V.int)))
theorem mt_remove:MtM X "list.remove" rRemove:=by
  intro pins s σ H x vs v us Q I rx rv h
  obtain ⟨l,ns,k,rfl,rfl,hH,hk,q⟩:=h
  cases rx
  obtain ⟨u,rfl,ru⟩:=rv.one
  obtain ⟨t,rfl⟩:=ru
  obtain ⟨z,its,n,r,hl,e⟩:=I.lstM hH
  have hi:=intsAre_of r
  have hj:ns.idxOf k < ns.length:=List.idxOf_lt_length_iff.mpr hk
  have hl':=r.length
  rw [List.length_map] at hl' z
  refine call_meets F.slot_list_remove ⟨_,e,rfl⟩ F.entry_list_remove (F.args_list_remove_2 _ _) (MeetsSeq.list_remove l its.toArray n (.int k t) (isInt k) (fun y hy=>eq_isInt k t hi y (by simpa using hy)) (ns.idxOf k) (by rw [List.size_toArray]; omega) ?_ (fun m hm lt=>?_) (by rw [List.size_toArray]; omega)) ⟨e,?_⟩
  · show isInt k its[ns.idxOf k]=true
    rw [isInt_at k hi (ns.idxOf k) (by omega) hj]
    simp
  · show isInt k its[m]=false
    rw [List.size_toArray] at hm
    rw [isInt_at k hi m hm (by omega)]
    exact ne_of_lt_idxOf lt (by omega)
  · refine ⟨.non,_,I.lset (its':=its.take (ns.idxOf k) ++ its.drop (ns.idxOf k + 1)) hH e ?_ (by unfold rm; rw [List.map_append,List.map_take,List.map_drop]; exact (r.take _).append (r.drop _)) ?_,rfl,q⟩
    · apply Array.toList_inj.mp
      rw [List.eraseIdxIfInBounds_toArray,List.eraseIdx_eq_take_drop_succ]
    · unfold rm
      rw [List.length_map,List.length_append,List.length_take,List.length_drop]
      omega
end
end L2
namespace PD
open PySem L2
section
variable {K:PySem.W.Frag} {S S':Sx} {κ κ':Bool} {Γ Γ' Γ'':Ctx} {P:Post}
theorem exrm {te:TE} {i:Nat} {ns:List Int} {k:Int} (h:GetC Γ i (.ow κ (ns.map .int))) (he:EvE K S false te Γ (.int k)) (hk:k∈ns) (es:SetC Γ i (some (.ow κ ((rm k ns).map .int))) Γ') (kk:P.nx Γ') :
    ExS K S (tDrop (tBM K "list" rRemove (tVar i) (tCons te tNil))) Γ P:=fun H0 F0 H F σ B e b _ D I=>by
  have h:=h.eq
  obtain ⟨v0,q1,a,vs,rfl,w,q5⟩:=e.has i _ h
  refine ⟨_,q1,.inl ⟨rfl,_,SqL.of w.h⟩,he H0 F0 H F σ e _ fun v1 H1 F1 g1 p1=>?_⟩
  cases rp_int p1
  cases dpAll_of_ints (rpAll_dp q5)
  refine ⟨a,ns,k,rfl,rfl,g1.h _ _ w.h,hk,?_⟩
  have:=(e.mono g1).put (vs:=(rm k ns).map V.int) (y:=.ow κ ((rm k ns).map .int)) h q1 (show Owns H1 (.ref a) (.ow κ (ns.map .int)) a from rfl) ⟨a,_,rfl,⟨upd_same,(w.mono g1).f,w.n,w.s⟩,rpAll_ints _⟩ fun _ z=>z
  rw [es.eq] at this
  exact I.nx _ _ _ F1 kk (b.trans g1.f) this
end
end PD
namespace PD
open PySem L2
section
variable {K:PySem.W.Frag} {S S' S1 S2:Sx} {κ κ':Bool} {Γ Γ' Γ'':Ctx} {P:Post} {C:List PyData→Prop}
mutual
inductive Tn (C:List PyData→Prop):PyData→PyData→Prop
  | same {d:PyData}:Tn C d d
  | rev {ds:List PyData}:C ds→Tn C (.list ds) (.list ds.reverse)
  | lst {ds es:List PyData}:TnA C ds es→Tn C (.list ds) (.list es)
  | tup {ds es:List PyData}:TnA C ds es→Tn C (.tuple ds) (.tuple es)
inductive TnA (C:List PyData→Prop):List PyData→List PyData→Prop
  | nil:TnA C [] []
  | cons {d e:PyData} {ds es:List PyData}:Tn C d e→TnA C ds es→TnA C (d :: ds) (e :: es)
end
theorem rpAll_ints' {S:Sx} {H0 F:Hp}:∀ {ns:List Int} {ds:List PyData},RpAll K κ S H0 F (ns.map V.int) ds→ds=ns.map PyData.int
  | [],_,h=>by cases h; rfl
  | n :: r,_,h=>by
    cases h with
    | cons h1 h2=>cases h1; rw [rpAll_ints' h2]; rfl
section
variable {H1 H2 F:Hp} {b:Addr} {ns:List Int}
mutual
theorem rp_turn (hb:F b=some (.lst (ns.map V.int))) (hC:C (ns.map PyData.int)):∀ {v:V} {d:PyData},Rp K true S1 H1 F v d→∃ d',Tn C d d'∧Rp K true S1 H1 (upd F b (.lst (ns.map V.int).reverse)) v d'
  | _,_,.non=>⟨_,.same,.non⟩
  | _,_,.bl x=>⟨_,.same,.bl x⟩
  | _,_,.int x=>⟨_,.same,.int x⟩
  | _,_,.str x=>⟨_,.same,.str x⟩
  | _,_,@Rp.lst _ _ _ _ _ a xs ds h k=>by
    by_cases e:a=b
    · subst e
      have h1:=h.1
      rw [hb] at h1
      cases h1
      cases rpAll_ints' k
      exact ⟨_,.rev hC,.lst ⟨upd_same,h.2⟩ (RpAll.reverse (dpAll_immL (fun d hd=>by obtain ⟨i,_,rfl⟩:=List.mem_map.mp hd; rfl) (dpAll_ints ns)))⟩
    · obtain ⟨es,t,q⟩:=rpAll_turn hb hC k
      exact ⟨_,.lst t,.lst ⟨by rw [upd_ne e]; exact h.1,h.2⟩ q⟩
  | _,_,@Rp.tup _ _ _ _ _ a xs ds h k=>by
    obtain ⟨es,t,q⟩:=rpAll_turn hb hC k
    refine ⟨_,.tup t,.tup ?_ q⟩
    have ne:∀ {o:HO},F a=some o→isLst (some o)=false→upd F b (.lst (ns.map V.int).reverse) a=some o:=fun {o} z n=>by
      rw [upd_ne fun c=>by rw [c,hb] at z; cases z; cases n]
      exact z
    rcases h with (z | ⟨o,z⟩) | z
    · exact .inl (.inl (ne z rfl))
    · exact .inl (.inr ⟨o,ne z rfl⟩)
    · exact .inr z
theorem rpAll_turn (hb:F b=some (.lst (ns.map V.int))) (hC:C (ns.map PyData.int)):∀ {vs:List V} {ds:List PyData},RpAll K true S1 H1 F vs ds→∃ es,TnA C ds es∧RpAll K true S1 H1 (upd F b (.lst (ns.map V.int).reverse)) vs es
  | _,_,.nil=>⟨_,.nil,.nil⟩
  | _,_,.cons h k=>by
    obtain ⟨d,t,q⟩:=rp_turn hb hC h
    obtain ⟨es,t',q'⟩:=rpAll_turn hb hC k
    exact ⟨_,.cons t t',.cons q q'⟩
end
end
end
end PD
namespace L2
open PySem PySem.Spec PyProof.Rows PySem.W
section
variable {X:Cx} {k:Nat} {ps:List Str} {sp:Sp} {x:Str} {p cpos pos:Pos} {e:Expr} {es:List Expr} {ta:TA} {te:TE}
end
section
variable {X:Cx} {k:Nat} {y n:Str} {np epos hpos tpos:Pos} {e:Expr} {te:XK→TE} {C D:Addr} {i:Nat} {b0:Stmt} {suite:List Stmt} {th:TS}
end
end L2
namespace L2
open PySem PySem.Spec PyProof.Rows PySem.W
section
variable {X:Cx} {k k2:Nat} {ps:List Str} {sp sp2:Sp} {x:Str} {p cpos pos:Pos} {e:Expr} {es:List Expr} {ta:TA}
end
end L2
namespace L2
open PySem PySem.Spec PyProof.Rows PySem.W
section
variable {X:Cx} {K:PySem.W.Frag}
end
end L2
namespace PD
open PySem L2
section
variable {K:PySem.W.Frag} {S S':Sx} {κ κ':Bool} {Γ Γ' Γ'':Ctx} {P:Post} {E:XK} {C:Addr}
end
end PD
namespace L2
open PySem PySem.Spec PyProof.Rows PySem.W
section
variable {P:Program} {w:World} {K:PySem.W.Frag} {mg:Str→Option Value} {base:Heap} {x:Str} {ys:List Str} {va:Str→V} {qual:Str} {scope:Scope} {f:Addr} {cd:Value} {cl:List (Str×Addr)} {A:Around} {outer:List Env} {s:Shared} {H:Hp}
end
end L2
namespace L2
open PySem PySem.Spec PyProof.Rows PySem.W
section
variable {X:Cx} {pins:List (Addr×Obj)} {σ:St} {H:Hp} {s:Shared}
end
end L2
namespace L2
open PySem PySem.Spec PyProof.Rows PySem.W
section
variable {X:Cx} {k:Nat} {ps:List Str} {sp:Sp} {g:Str} {p cpos lpos:Pos} {e:Expr} {te:TE} {params:Arguments} {body:Expr} {lsc:Scope} {q:Str} {c P:Addr} {clos:List (Str×Addr)} {caps:List (Str×Nat)}
end
end L2
namespace L2
open PySem PySem.Spec PyProof.Rows PySem.W
section
variable {X:Cx} {k:Nat} {ps:List Str} {sp:Sp} {x:Str} {p pos:Pos} {e:Expr} {es:List Expr} {t:TA}
end
end L2
namespace PD
open PySem L2 PySem.W
section
variable {P:Program} {w:World} {K:PySem.W.Frag} {mg:Str→Option Value} {base:Heap} {S S':Sx} {κ κ':Bool} {Γ Γ' Γ'':Ctx}
end
end PD
namespace L2
open PySem PySem.Spec PyProof.Rows PySem.W
section
variable {P:Program} {w:World} {K:PySem.W.Frag} {mg:Str→Option Value} {base:Heap}
end
end L2
namespace Cm
open PySem L2
end Cm
namespace L2
open PySem
theorem tabs_no {K:PySem.W.Frag} {h:Heap} (e:(tabsOf K).isEmpty=true):∀ p∈tabsOf K,h.get? p.1=some (PySem.W.tabObj #[]):=fun p hp=>by
  rw [List.isEmpty_iff.mp e] at hp
  cases hp
end L2
namespace L2
open PySem
end L2
namespace PD
open PySem L2
end PD
namespace L2
open PySem PySem.Spec PyProof.Rows PySem.AutoSeq1
section
variable {X:Cx} {K:PySem.W.Frag}
end
end L2
namespace PD
open PySem L2
section
variable {K:PySem.W.Frag} {S S':Sx} {κ κ':Bool} {Γ Γ' Γ'':Ctx} {P:Post}
end
end PD
namespace L2
open PySem PySem.Spec PyProof.Rows
section
variable {X:Cx} {K:PySem.W.Frag}
end
end L2
namespace PD
open PySem L2
section
variable {K:PySem.W.Frag} {S S':Sx} {κ κ':Bool} {Γ Γ' Γ'':Ctx} {P:Post} {E:XK}
end
end PD
namespace PD
open PySem L2
section
variable {K:PySem.W.Frag} {S S':Sx} {κ κ':Bool} {Γ Γ' Γ'':Ctx} {P:Post} {E:XK}
def Rows (xs:List PyData):Prop:=∀ d∈xs,∃ ns:List Int,d=.list (ns.map .int)
end
end PD
namespace L2
open PySem PySem.Spec PyProof.Rows
section
variable {X:Cx} {K:PySem.W.Frag}
end
end L2
namespace PD
open PySem L2
section
variable {K:PySem.W.Frag} {S S':Sx} {κ κ':Bool} {Γ Γ' Γ'':Ctx} {P:Post}
end
end PD
namespace L2
open PySem PySem.Spec PyProof.Rows PySem.Calls
section
variable {κ:Type} [DecidableEq κ]
theorem RelO.getD {o:Option V} {u:Option Value} {d:V} {d':Value} (r:RelO o u) (rd:RelV d d'):RelV (o.getD d) (u.getD d'):=by
  cases o with
  | none=>cases u with
    | none=>exact rd
    | some _=>exact (show False from r).elim
  | some _=>cases u with
    | none=>exact (show False from r).elim
    | some _=>exact r
end
section
variable {P:Program} {w:World} {H:Hp} {h:Heap} {a:Addr}
end
section
variable {X:Cx} {pins:List (Addr×Obj)} {σ:St} {H:Hp} {s:Shared} {a:Addr} {y v:V} {u r:Value} {o:Option V} {A:Around} {E:Value→Shared→Prop}
end
section
variable {X:Cx} {pins:List (Addr×Obj)} {σ:St} {H:Hp} {s:Shared} {a:Addr} {kvs:List (Key×V)} {k:Key} {u:Value} {A:Around} {E:Value→Shared→Prop}
end
section
variable {X:Cx} {o i e value:Expr} {pos pos' tpos:Pos} {td ty tv:TE}
end
section
variable {X:Cx} {pos:Pos}
end
section
variable {X:Cx} {pins:List (Addr×Obj)} {σ:St} {H:Hp} {s:Shared} {a:Addr} {y d:V} {u r:Value} {o:Option V} {A:Around} {E:Value→Shared→Prop}
end
section
variable {X:Cx} {o e f:Expr} {apos cpos:Pos} {td ty tx:TE}
end
section
variable {X:Cx} {pins:List (Addr×Obj)} {σ:St} {H:Hp} {s:Shared} {a:Addr} {kvs:List (Key×V)} {A:Around} {E:Value→Shared→Prop}
end
section
variable {X:Cx} {pins:List (Addr×Obj)} {σ:St} {H:Hp} {s:Shared} {a:Addr} {y:V} {u:Value} {A:Around} {E:Value→Shared→Prop}
end
end L2
namespace PD
open PySem L2
section
variable {K:PySem.W.Frag} {S S':Sx} {κ κ':Bool} {Γ Γ' Γ'':Ctx} {P:Post} {E:XK}
end
end PD
namespace L2
open PySem PySem.Spec PyProof.Rows PySem.W
end L2
namespace PD
open PySem L2
section
variable {K:PySem.W.Frag} {S S':Sx} {κ κ':Bool} {Γ Γ' Γ'':Ctx} {P:Post} {E:XK}
end
end PD
namespace PD
open PySem L2
section
variable {K:PySem.W.Frag} {S S':Sx} {κ κ':Bool} {Γ Γ' Γ'':Ctx} {P:Post} {E:XK}
end
end PD
namespace PD
open PySem L2
section
variable {K:PySem.W.Frag} {S S':Sx} {κ κ':Bool} {Γ Γ' Γ'':Ctx} {P:Post} {E:XK}
end
end PD
namespace So
open PySem PySem.W PyProof.Rows
section
variable {α β:Type} {lt:Nat→Nat→Bool} {n:Nat} {key:Nat→Int}
def ev (lt:Nat→Nat→Bool):KasT α→α
  | .ret a=>a
  | .ask i j k=>ev lt (k (lt i j))
end
section
variable {n:Nat} {key:Nat→Int}
end
end So
namespace L2
open PySem PySem.Spec PySem.W PyProof.Rows
section
variable {prog:Program} {w:World} {A:Around} {E:Value→Shared→Prop} {s:Shared} {vs:List Value} {ps:List (Int×Int)}
end
end L2
namespace L2
open PySem PySem.Spec PySem.W PyProof.Rows
section
variable {X:Cx} {K:PySem.W.Frag}
end
end L2
namespace PD
open PySem L2
section
variable {K:PySem.W.Frag} {S S':Sx} {κ κ':Bool} {Γ Γ':Ctx}
end
end PD
namespace Dsp
section
variable {pa:Nat→Nat→Prop} {Z:Nat→Prop} {x y:Nat} {rk:Nat→Nat}
end
section
variable {pa:Nat→Nat→Prop} {Z:Nat→Prop} {x y:Nat} {rk:Nat→Nat}
end
end Dsp
namespace PD
open PySem L2
section
variable {K:PySem.W.Frag} {S S':Sx} {κ κ':Bool} {Γ Γ' Γ'' Γ3 Γ4:Ctx} {P:Post}
end
end PD
namespace L2
open PySem PySem.Spec PyProof.Rows
section
variable {X:Cx} {y:Str} {N:List Str} {scope:Scope} {cl:List (Str×Addr)} {js:List (Option Nat)} {pins:List (Addr×Obj)} {σ:St} {H:Hp} {s:Shared} {fp:List Addr}
end
section
variable {X:Cx} {y:Str} {N:List Str} {scope:Scope} {cl:List (Str×Addr)} {js:List (Option Nat)} {pins:List (Addr×Obj)} {σ:St} {H:Hp} {s:Shared}
end
end L2
namespace L2
open PySem PySem.Spec PyProof.Rows
section
variable {X:Cx} {K:PySem.W.Frag}
end
end L2
namespace PD
open PySem L2
section
variable {K:PySem.W.Frag} {S S':Sx} {κ κ':Bool} {Γ Γ' Γ'':Ctx} {P:Post}
end
section
open PySem.W PyProof.Rows
variable {K:PySem.W.Frag} {P:Program} {w:World} {mg:Str→Option Value} {base:Heap} {S:Sx} {κ:Bool} {Γ:Ctx}
end
end PD
namespace L2
open PySem PySem.Spec PyProof.Rows PySem.Calls
end L2
namespace PD
open PySem L2
section
variable {K:PySem.W.Frag} {S S':Sx} {κ κ':Bool} {Γ Γ' Γ'':Ctx} {P:Post}
end
end PD
namespace PD
open PySem L2
section
open PySem.W PyProof.Rows
variable {K:PySem.W.Frag} {P:Program} {w:World} {mg:Str→Option Value} {base:Heap} {S S':Sx} {κ:Bool} {Γ Γ':Ctx} {Po:Post}
end
end PD
namespace L2
open PySem PySem.Spec PyProof.Rows PySem.Calls
section
variable {prog:Program} {w:World} {κ:Type} [DecidableEq κ] {kd:HeapKind prog w κ} {A:Around} {E:Value→Shared→Prop} {s:Shared}
end
section
variable {X:Cx} {o e f:Expr} {apos cpos:Pos} {td ty tx:TE}
end
end L2
namespace PD
open PySem L2
section
variable {K:PySem.W.Frag} {S S':Sx} {κ κ':Bool} {Γ Γ' Γ'':Ctx} {P:Post} {E:XK}
theorem DEnv.forget {H0 F0 H F:Hp} {σ:St} (i:Nat) (e:DEnv K S H0 F0 H F σ Γ):DEnv K S H0 F0 H F σ (Γ.set i none):=by
  have bk:∀ (j:Nat) (d:DV),(Γ.set i none)[j]?=some (some d)→Γ[j]?=some (some d):=fun j d h=>by
    by_cases hj:j=i
    · subst hj; rw [List.getElem?_set] at h; simp at h
    · rw [List.getElem?_set_ne (Ne.symm hj)] at h; exact h
  exact ⟨e.gr,e.l0,e.sd,e.s0,by simp [e.len],fun j d h=>e.has j d (bk j _ h),fun m n x y v w a h1 h2=>e.ne m n x y v w a (bk m _ h1) (bk n _ h2)⟩
end
end PD
namespace L2
open PySem PySem.Spec PyProof.Rows PySem.SeqAt PySem.MeetsSeq PySem.MeetsSeq2 PySem.MeetsSeq3
open AutoSeq1 (wpAny_loadPart')
section
variable {prog:Program} {w:World} {A:Around} {E:Value→Shared→Prop} {s:Shared}
end
section
variable {prog:Program} {w:World} {A:Around} {E:Value→Shared→Prop} {s:Shared}
end
section
variable {prog:Program} {w:World} {A:Around} {R:Result→Shared→Prop} {T S l:Addr} {xs:Array Value} {bt:Nat→Nat→Bool} {h0:Heap}
end
section
variable {prog:Program} {w:World} {A:Around} {E:Value→Shared→Prop} {s:Shared}
end
end L2
namespace L2
open PySem PySem.Spec PyProof.Rows
section
variable {X:Cx} {K:PySem.W.Frag}
end
end L2
namespace PD
open PySem L2
section
variable {K:PySem.W.Frag} {S S':Sx} {κ κ':Bool} {Γ Γ' Γ'':Ctx} {P:Post}
end
end PD
namespace PD
open PySem L2
section
variable {K:PySem.W.Frag} {S S':Sx} {κ κ':Bool} {Γ Γ' Γ'':Ctx} {P:Post} {E:XK}
end
end PD
namespace PD
open PySem L2
section
variable {K:PySem.W.Frag} {S S':Sx} {κ κ':Bool} {Γ Γ' Γ'' Γ3:Ctx} {P:Post} {E:XK}
end
end PD
namespace PD
open PySem L2
section
variable {K:PySem.W.Frag} {S S':Sx} {κ κ':Bool} {Γ Γ' Γ'' Γ3:Ctx} {P:Post} {E:XK}
end
end PD
namespace PD
open PySem L2
section
variable {K:PySem.W.Frag} {S S':Sx} {κ κ':Bool} {Γ Γ' Γ'' Γ3:Ctx} {P:Post} {E:XK}
end
end PD
namespace Dsp
variable {pa:Nat→Nat→Prop} {Z:Nat→Prop} {rk:Nat→Nat} {q:Nat→Nat→Nat→Bool} {x y:Nat}
def vv (q:Nat→Nat→Nat→Bool):Option Nat→Nat→Option Nat→Nat
  | some a,v,some b=>if q a v b=true then 1 else 0
  | _,_,_=>0
section
variable (dag:∀ a b,pa a b→rk a < rk b) (hq:∀ a v b,q a v b=true↔pa a v∧pa b v)
include dag hq
end
end Dsp
namespace PD
open PySem L2
section
variable {K:PySem.W.Frag} {S S':Sx} {κ κ':Bool} {Γ Γ' Γ'' Γ3:Ctx} {P:Post}
theorem ex_dropE {te:TE} {u:TS} {d:PyData} (h:EvE K S false te Γ d) (k:ExT K S S' u Γ P):ExT K S S' (tSeq (tDrop te) u) Γ P:=ex_seq (·=Γ) (ex_drop h rfl) fun _ z=>z ▸ k
end
end PD
namespace PD
open PySem L2
section
variable {K:PySem.W.Frag} {S S':Sx} {κ κ':Bool} {Γ Γ' Γ'' Γ3:Ctx} {P:Post}
end
end PD
namespace L2
open PySem
end L2
namespace L2
open PySem PySem.Spec PyProof.Rows
section
variable {prog:Program} {w:World} {A:Around} {E:Value→Shared→Prop} {s:Shared} {b:Bool} {a:Addr} {l:List (Int×Value)}
end
end L2
namespace L2
open PySem PySem.Spec PySem.W PyProof.Rows
section
variable {prog:Program} {w:World} {A:Around} {E:Value→Shared→Prop} {s:Shared} {b:Bool} {a I T:Addr} {l:List (Int×Value)}
end
end L2
namespace L2
open PySem PySem.Spec PySem.W PyProof.Rows
def hP (q:Int×Int):Int:=reduceHash (Builtin.Tuple.tupleHashOf [hashInt q.1,hashInt q.2])
section
variable {prog:Program} {w:World} {A:Around} {E:Value→Shared→Prop} {s:Shared} {b:Bool} {a I T:Addr}
end
end L2
namespace L2
open PySem PySem.Spec PySem.W PyProof.Rows
section
variable {prog:Program} {w:World} {A:Around} {E:Value→Shared→Prop} {s:Shared} {b:Bool} {a I T:Addr}
end
end L2
namespace L2
open PySem PySem.Spec PySem.W PyProof.Rows
def vv:V→Value
  | .ref a=>.ref a
  | _=>.none
section
variable {X:Cx} {K:PySem.W.Frag} {b:Bool}
end
end L2
namespace PD
open PySem L2
section
variable {K:PySem.W.Frag} {S S':Sx} {κ κ' b:Bool} {Γ Γ' Γ'':Ctx}
end
end PD
namespace L2
open PySem
section
variable {X:Cx} {es xs:List Expr} {te:TE} {t:TA} {p:Pos}
end
end L2
namespace L2
open PySem PySem.Spec PyProof.Rows
abbrev At3 (h:Heap) (T:Addr) (a b c:Value):Prop:=h.get? T=some { cls:=.type "tuple", data:=.seq #[a,b,c] }
section
variable {prog:Program} {w:World} {A:Around} {E:Value→Shared→Prop} {s:Shared}
theorem put3 {T:Addr} {a b c x:Value} {k:Nat} {Q:Unit→Shared→Prop} (t3:At3 s.heap T a b c)
    (go:∀ h2,h2.get? T=some { cls:=.type "tuple", data:=.seq ((#[a,b,c]:Array Value).setIfInBounds k x) }→Heap.SameBut T s.heap h2→Q () { s with heap:=h2 }) :
    wpAny (model prog w) A (updateSeq T (·.setIfInBounds k x)) Q E s:=by
  refine wpAny_updateSeq t3 rfl (go _ ?_ (Heap.SameBut.update ..))
  rw [Heap.get?_update_self _ t3 rfl]
  simp [Obj.mapSeq]
structure Z3 (h:Heap) (n a b c:Addr) (f0:Value) (i:Nat) (x y z:Value):Prop where
  zo:IsZip h (n + 5) (n + 3) (n + 4) f0
  ti:At3 h (n + 3) (.ref n) (.ref (n + 1)) (.ref (n + 2))
  to:At3 h (n + 4) x y z
  i1:h.IsListIter n a i
  i2:h.IsListIter (n + 1) b i
  i3:h.IsListIter (n + 2) c i
abbrev zf (n:Addr):List Addr:=[n + 5,n + 3,n + 4,n,n + 1,n + 2]
theorem z3_next {n a b c:Addr} {i:Nat} {xs ys zs:Array Value} {x y z u v t:Value} {Q:Value→Shared→Prop} (Z:Z3 s.heap n a b c .none i u v t)
    (na:∀ d∈zf n,a≠d) (nb:∀ d∈zf n,b≠d) (nc:∀ d∈zf n,c≠d) (la:s.heap.IsList a xs) (lb:s.heap.IsList b ys) (lc:s.heap.IsList c zs)
    (hx:xs[i]?=some x) (hy:ys[i]?=some y) (hz:zs[i]?=some z)
    (go:∀ h2,IsZip h2 (n + 5) (n + 3) (n + 4) (rawInt s.heap.objs.size)→At3 h2 (n + 4) x y z→h2.IsListIter n a (i + 1)→h2.IsListIter (n + 1) b (i + 1)→h2.IsListIter (n + 2) c (i + 1)→At3 h2 s.heap.objs.size x y z →
      (∀ d o,d≠n + 5→d≠n + 4→d≠n→d≠n + 1→d≠n + 2→s.heap.get? d=some o→h2.get? d=some o)→Q (.ref s.heap.objs.size) { s with heap:=h2 }) :
    wpAny (model prog w) A (Builtin.«zip.__next__» ⟨[.ref (n + 5)],[]⟩) (fun r s2=>∃ k,r=.done (.ret k)∧Q k s2) E s:=by
  obtain ⟨zo,ti,to,j1,j2,j3⟩:=Z
  have e05:(n:Addr)≠n + 5:=ad (by omega)
  have e15:(n + 1:Addr)≠n + 5:=ad (by omega)
  have e25:(n + 2:Addr)≠n + 5:=ad (by omega)
  have e45:(n + 4:Addr)≠n + 5:=ad (by omega)
  have e04:(n:Addr)≠n + 4:=ad (by omega)
  have e14:(n + 1:Addr)≠n + 4:=ad (by omega)
  have e24:(n + 2:Addr)≠n + 4:=ad (by omega)
  have e01:(n:Addr)≠n + 1:=ad (by omega)
  have e02:(n:Addr)≠n + 2:=ad (by omega)
  have e12:(n + 1:Addr)≠n + 2:=ad (by omega)
  have a5:=na (n + 5) (by simp)
  have b5:=nb (n + 5) (by simp)
  have b4:=nb (n + 4) (by simp)
  have b0:=nb n (by simp)
  have c5:=nc (n + 5) (by simp)
  have c4:=nc (n + 4) (by simp)
  have c0:=nc n (by simp)
  have c1:=nc (n + 1) (by simp)
  show wpAny _ _ (field (.ref (n + 5)) 2 >>= _) _ _ _
  refine wpAny_bind (wpAny_field zo rfl (x:=.bool false) rfl ?_)
  show wpAny _ _ (field (.ref (n + 5)) 3 >>= _) _ _ _
  refine wpAny_bind (wpAny_field zo rfl (x:=.ref (n + 3)) rfl (wpAny_bind (wpAny_seqItems ti rfl ?_)))
  show wpAny _ _ (Builtin.SmallTypes.ownedTupleIsFree (.ref (n + 5)) >>= _) _ _ _
  refine wpAny_bind ?_
  unfold Builtin.SmallTypes.ownedTupleIsFree
  refine wpAny_bind (wpAny_field zo rfl (x:=.none) rfl (wpAny_pure ?_))
  simp only [if_true]
  refine wpAny_bind (wpAny_rule (wpAny_bind (wpAny_field zo rfl (x:=.ref (n + 4)) rfl (wpAny_bind (wpAny_setField_rec zo (by simp) fun g1 z1 s1=>?_)))))
  replace z1:IsZip g1 (n + 5) (n + 3) (n + 4) .ellipsis:=z1
  refine wpAny_bind ?_
  simp only [List.zipIdx_cons,List.zipIdx_nil,List.forIn_cons,List.forIn_nil]
  refine wpAny_bind (wpAny_bind (wpAny_onRaise ?_))
  show wpAny _ _ (Builtin.SmallTypes.nextOf (.ref n) >>= _) _ _ _
  refine wpAny_bind (wpAny_nextOf_list_item (j1.extBut s1.extBut e05) (la.extBut s1.extBut a5) hx fun g2 k1 s2=>wpAny_pure ?_)
  have t2:At3 g2 (n + 4) u v t:=s2.extBut _ _ e04.symm (s1.extBut _ _ e45 to)
  refine wpAny_bind (wpAny_seqItems t2 rfl (wpAny_bind (put3 t2 fun g3 t3 s3=>?_)))
  replace t3:At3 g3 (n + 4) x v t:=t3
  refine wpAny_bind (wpAny_letGo (wpAny_pure ?_))
  refine wpAny_bind (wpAny_bind (wpAny_onRaise ?_))
  show wpAny _ _ (Builtin.SmallTypes.nextOf (.ref (n + 1)) >>= _) _ _ _
  have k2:=((j2.extBut s1.extBut e15).extBut s2.extBut e01.symm).extBut s3.extBut e14
  have m2:=((lb.extBut s1.extBut b5).extBut s2.extBut b0).extBut s3.extBut b4
  refine wpAny_bind (wpAny_nextOf_list_item k2 m2 hy fun g4 k2 s4=>wpAny_pure ?_)
  have t4:At3 g4 (n + 4) x v t:=s4.extBut _ _ e14.symm t3
  refine wpAny_bind (wpAny_seqItems t4 rfl (wpAny_bind (put3 t4 fun g5 t5 s5=>?_)))
  replace t5:At3 g5 (n + 4) x y t:=t5
  refine wpAny_bind (wpAny_letGo (wpAny_pure ?_))
  refine wpAny_bind (wpAny_bind (wpAny_onRaise ?_))
  show wpAny _ _ (Builtin.SmallTypes.nextOf (.ref (n + 2)) >>= _) _ _ _
  have k3:=((((j3.extBut s1.extBut e25).extBut s2.extBut e02.symm).extBut s3.extBut e24).extBut s4.extBut e12.symm).extBut s5.extBut e24
  have m3:=((((lc.extBut s1.extBut c5).extBut s2.extBut c0).extBut s3.extBut c4).extBut s4.extBut c1).extBut s5.extBut c4
  refine wpAny_bind (wpAny_nextOf_list_item k3 m3 hz fun g6 k3 s6=>wpAny_pure ?_)
  have t6:At3 g6 (n + 4) x y t:=s6.extBut _ _ e24.symm t5
  refine wpAny_bind (wpAny_seqItems t6 rfl (wpAny_bind (put3 t6 fun g7 t7 s7=>?_)))
  replace t7:At3 g7 (n + 4) x y z:=t7
  refine wpAny_bind (wpAny_letGo (wpAny_pure (wpAny_pure ?_)))
  refine wpAny_bind (wpAny_seqItems t7 rfl (wpAny_bind (wpAny_newTuple ?_)))
  have sz:g7.objs.size=s.heap.objs.size:=by rw [s7.1,s6.1,s5.1,s4.1,s3.1,s2.1,s1.1]
  have z7:IsZip g7 (n + 5) (n + 3) (n + 4) .ellipsis:=s7.extBut _ _ e45.symm (s6.extBut _ _ e25.symm (s5.extBut _ _ e45.symm (s4.extBut _ _ e15.symm (s3.extBut _ _ e45.symm (s2.extBut _ _ e05.symm z1)))))
  have kp:∀ d o,d≠n + 5→d≠n + 4→d≠n→d≠n + 1→d≠n + 2→s.heap.get? d=some o→g7.get? d=some o:=fun d o d5 d4 d0 d1 d2 e =>
    s7.extBut _ _ d4 (s6.extBut _ _ d2 (s5.extBut _ _ d4 (s4.extBut _ _ d1 (s3.extBut _ _ d4 (s2.extBut _ _ d0 (s1.extBut _ _ d5 e))))))
  have q1:g7.IsListIter n a (i + 1):=((((k1.extBut s3.extBut e04).extBut s4.extBut e01).extBut s5.extBut e04).extBut s6.extBut e02).extBut s7.extBut e04
  have q2:g7.IsListIter (n + 1) b (i + 1):=((k2.extBut s5.extBut e14).extBut s6.extBut e12).extBut s7.extBut e14
  have q3:g7.IsListIter (n + 2) c (i + 1):=k3.extBut s7.extBut e24
  have zlt:n + 5 < g7.objs.size:=Heap.lt_size z7
  show wpAny _ _ (Builtin.SmallTypes.ownedTupleHandOut (.ref (n + 5)) (.ref g7.objs.size) >>= _) _ _ _
  refine wpAny_bind ?_
  unfold Builtin.SmallTypes.ownedTupleHandOut
  have z8:IsZip (g7.push { cls:=.type "tuple", data:=.seq #[x,y,z] }) (n + 5) (n + 3) (n + 4) .ellipsis:=Heap.get?_push_of_some _ z7
  refine wpAny_bind (wpAny_setField_rec z8 (by simp) fun g9 z9 s9=>?_)
  replace z9:IsZip g9 (n + 5) (n + 3) (n + 4) (rawInt g7.objs.size):=z9
  refine wpAny_setField_rec z9 (by simp) fun g10 z10 s10=>?_
  replace z10:IsZip g10 (n + 5) (n + 3) (n + 4) (rawInt g7.objs.size):=z10
  have up:∀ d o,d≠n + 5→g7.get? d=some o→g10.get? d=some o:=fun d o d5 e=>s10.extBut _ _ d5 (s9.extBut _ _ d5 (Heap.get?_push_of_some _ e))
  have tn:At3 g10 g7.objs.size x y z:=s10.extBut _ _ (Nat.ne_of_gt zlt) (s9.extBut _ _ (Nat.ne_of_gt zlt) (Heap.get?_push_size _ rfl))
  rw [sz] at z10 tn
  refine wpAny_pure ⟨_,rfl,?_⟩
  show Q (.ref g7.objs.size) _
  rw [sz]
  exact go g10 z10 (up _ _ e45 t7) (q1.at fun o e=>up _ o e05 e) (q2.at fun o e=>up _ o e15 e) (q3.at fun o e=>up _ o e25 e) tn fun d o d5 d4 d0 d1 d2 e=>up d o d5 (kp d o d5 d4 d0 d1 d2 e)
theorem z3_end {n a b c:Addr} {i:Nat} {xs:Array Value} {u v t:Value} {Q:Fin→Shared→Prop} (hh:A.handled=none) (Z:Z3 s.heap n a b c .none i u v t)
    (na:∀ d∈zf n,a≠d) (la:s.heap.IsList a xs) (hx:xs[i]?=none)
    (out:∀ h2 e,(∀ d o,d≠n + 5→d≠n→s.heap.get? d=some o→h2.get? d=some o)→(∃ o,h2.get? e=some o∧o.cls=.type "StopIteration")→E (.ref e) { s with heap:=h2 }) :
    wpAny (model prog w) A (Builtin.«zip.__next__» ⟨[.ref (n + 5)],[]⟩) Q E s:=by
  obtain ⟨zo,ti,to,j1,j2,j3⟩:=Z
  have e05:(n:Addr)≠n + 5:=ad (by omega)
  have a5:=na (n + 5) (by simp)
  show wpAny _ _ (field (.ref (n + 5)) 2 >>= _) _ _ _
  refine wpAny_bind (wpAny_field zo rfl (x:=.bool false) rfl ?_)
  show wpAny _ _ (field (.ref (n + 5)) 3 >>= _) _ _ _
  refine wpAny_bind (wpAny_field zo rfl (x:=.ref (n + 3)) rfl (wpAny_bind (wpAny_seqItems ti rfl ?_)))
  show wpAny _ _ (Builtin.SmallTypes.ownedTupleIsFree (.ref (n + 5)) >>= _) _ _ _
  refine wpAny_bind ?_
  unfold Builtin.SmallTypes.ownedTupleIsFree
  refine wpAny_bind (wpAny_field zo rfl (x:=.none) rfl (wpAny_pure ?_))
  simp only [if_true]
  refine wpAny_bind (wpAny_rule (wpAny_bind (wpAny_field zo rfl (x:=.ref (n + 4)) rfl (wpAny_bind (wpAny_setField_rec zo (by simp) fun g1 z1 s1=>?_)))))
  replace z1:IsZip g1 (n + 5) (n + 3) (n + 4) .ellipsis:=z1
  refine wpAny_bind ?_
  simp only [List.zipIdx_cons,List.zipIdx_nil,List.forIn_cons,List.forIn_nil]
  refine wpAny_bind (wpAny_bind (wpAny_onRaise ?_))
  show wpAny _ _ (Builtin.SmallTypes.nextOf (.ref n) >>= _) _ _ _
  refine wpAny_bind (wpAny_nextOf_list_end hh (j1.extBut s1.extBut e05) (la.extBut s1.extBut a5) hx fun g2 e s2 he=>?_)
  obtain ⟨oe,hoe,ce⟩:=he
  have z2:IsZip g2 (n + 5) (n + 3) (n + 4) .ellipsis:=s2 _ _ e05.symm z1
  have ez:e≠n + 5:=fun x=>by subst x; rw [z2] at hoe; cases hoe; simp at ce
  exact wpAny_setField_rec z2 (by simp) fun g3 _ s3=>out g3 e (fun d o d5 d0 x=>s3.extBut _ _ d5 (s2 _ _ d0 (s1.extBut _ _ d5 x))) ⟨oe,s3.extBut _ _ ez hoe,ce⟩
theorem next3 {n a b c:Addr} {i:Nat} {xs ys zs:Array Value} {x y z u v t:Value} {Q:Option Value→Shared→Prop} (Z:Z3 s.heap n a b c .none i u v t)
    (na:∀ d∈zf n,a≠d) (nb:∀ d∈zf n,b≠d) (nc:∀ d∈zf n,c≠d) (la:s.heap.IsList a xs) (lb:s.heap.IsList b ys) (lc:s.heap.IsList c zs)
    (hx:xs[i]?=some x) (hy:ys[i]?=some y) (hz:zs[i]?=some z)
    (go:∀ h2,IsZip h2 (n + 5) (n + 3) (n + 4) (rawInt s.heap.objs.size)→At3 h2 (n + 4) x y z→h2.IsListIter n a (i + 1)→h2.IsListIter (n + 1) b (i + 1)→h2.IsListIter (n + 2) c (i + 1)→At3 h2 s.heap.objs.size x y z →
      (∀ d o,d≠n + 5→d≠n + 4→d≠n→d≠n + 1→d≠n + 2→s.heap.get? d=some o→h2.get? d=some o)→Q (some (.ref s.heap.objs.size)) { s with heap:=h2 }) :
    wpAny (model prog w) A (pyNext (.ref (n + 5))) Q E s:=by
  have ty:s.TypeIs (.ref (n + 5)) "zip" := ⟨_,Z.zo,rfl⟩
  unfold pyNext
  refine wpAny_bind (wpAny_attempt (wpAny_callSpecial?_slot (name:=Str.ofString "__next__") ty F.slot_zip_next (wpAny_call_entry F.slot_zip_next ty F.entry_zip_next ?_ (F.args_zip_next_1 _))))
  refine z3_next Z na nb nc la lb lc hx hy hz fun h2 a1 a2 a3 a4 a5 a6 a7=>wpAny_pure (go h2 a1 a2 a3 a4 a5 a6 a7)
theorem stop3 {n a b c:Addr} {i:Nat} {xs:Array Value} {u v t:Value} {Q:Option Value→Shared→Prop} (hh:A.handled=none) (Z:Z3 s.heap n a b c .none i u v t)
    (na:∀ d∈zf n,a≠d) (la:s.heap.IsList a xs) (hx:xs[i]?=none)
    (out:∀ h2,(∀ d o,d≠n + 5→d≠n→s.heap.get? d=some o→h2.get? d=some o)→Q none { s with heap:=h2 }) :
    wpAny (model prog w) A (pyNext (.ref (n + 5))) Q E s:=by
  have ty:s.TypeIs (.ref (n + 5)) "zip" := ⟨_,Z.zo,rfl⟩
  unfold pyNext
  refine wpAny_bind (wpAny_attempt (wpAny_callSpecial?_slot (name:=Str.ofString "__next__") ty F.slot_zip_next (wpAny_call_entry F.slot_zip_next ty F.entry_zip_next ?_ (F.args_zip_next_1 _))))
  refine z3_end hh Z na la hx fun h2 e kp he=>?_
  obtain ⟨o,ho,hc⟩:=he
  exact wpAny_bind (wpAny_isInstance (T := "StopIteration") (b:=true) ⟨o,ho,hc⟩ isSubtype_stop (wpAny_pure (out _ kp)))
abbrev zA1 (h:Heap) (a:Addr):Heap:=h.push { cls:=.type "list_iterator", data:=.fields #[.ref a,.int 0 0] }
abbrev zA2 (h:Heap) (a b:Addr):Heap:=zA1 (zA1 h a) b
abbrev zA3 (h:Heap) (a b c:Addr):Heap:=zA1 (zA2 h a b) c
abbrev zA4 (h:Heap) (a b c:Addr):Heap:=(zA3 h a b c).push { cls:=.type "tuple", data:=.seq #[.ref h.objs.size,.ref (zA1 h a).objs.size,.ref (zA2 h a b).objs.size] }
abbrev zA5 (h:Heap) (a b c:Addr):Heap:=(zA4 h a b c).push { cls:=.type "tuple", data:=.seq #[.none,.none,.none] }
abbrev zA6 (h:Heap) (a b c:Addr):Heap:=(zA5 h a b c).push { cls:=.type "zip", data:=.fields #[.none,.bool false,.bool false,.ref (zA3 h a b c).objs.size,.ref (zA4 h a b c).objs.size] }
theorem new3 (a b c:Addr) (xs ys zs:Array Value) :
    Meets (Builtin.«zip.__new__» ⟨[.type "zip", .ref a,.ref b,.ref c],[]⟩) (fun _ R s=>s.heap.IsList a xs∧s.heap.IsList b ys∧s.heap.IsList c zs ∧
      R (.ok (.ret (.ref (zA5 s.heap a b c).objs.size))) { s with heap:=zA6 s.heap a b c }) :=
  .of_wp fun prog w A R s h=>by
    obtain ⟨hp,g,d,tk,os⟩:=s
    obtain ⟨la,lb,lc,h⟩:=h
    have hsub:=sub_zip
    have m1:Heap.IsList (Shared.heap ⟨hp,g,d,tk,os⟩) a xs:=la
    have m2:Heap.IsList (Shared.heap ⟨zA1 hp a,g,d,tk,os⟩) b ys:=lb.push _
    have m3:Heap.IsList (Shared.heap ⟨zA2 hp a b,g,d,tk,os⟩) c zs:=(lc.push _).push _
    wp_walk using wpAny_pyIter_list m1,wpAny_pyIter_list m2,wpAny_pyIter_list m3
    exact ⟨_,rfl,h⟩
theorem typeCall_zip_3 (a b c:Value):checkTypeCall "zip" ⟨[a,b,c],[]⟩=pure ():=by kernel_rfl
theorem newCall_zip_3 (a b c:Value):checkBuiltinCall "zip.__new__" ⟨[.type "zip", a,b,c],[]⟩=pure ():=by kernel_rfl
theorem args_init_4 (a b c d:Value):argsOk "object.__init__" ⟨[a,b,c,d],[]⟩:=by
  unfold argsOk; rw [signature?_of (id := "object.__init__") (n:=['_','_','t','i','n','i','_','_']) (o:=['t','c','e','j','b','o'])
    (by kernel_rfl) F.owner_object]
  kernel_rfl
theorem call_zip3 {a b c:Addr} {xs ys zs:Array Value} {Q:Value→Shared→Prop} (la:s.heap.IsList a xs) (lb:s.heap.IsList b ys) (lc:s.heap.IsList c zs)
    (go:∀ h2,Z3 h2 s.heap.objs.size a b c .none 0 .none .none .none→(∀ d o,s.heap.get? d=some o→h2.get? d=some o)→Q (.ref (s.heap.objs.size + 5)) { s with heap:=h2 }) :
    wpAny (model prog w) A (call (.type "zip") [.ref a,.ref b,.ref c]) Q E s:=by
  refine callType_new F.called_zip (by decide) (typeCall_zip_3 _ _ _) (newCall_zip_3 _ _ _) (fun obj=>args_init_4 obj _ _ _) F.entry_zip_new (new3 a b c xs ys zs) ⟨la,lb,lc,?_⟩
  have z1:(zA1 s.heap a).objs.size=s.heap.objs.size + 1:=Heap.size_push ..
  have z2:(zA2 s.heap a b).objs.size=s.heap.objs.size + 2:=by rw [Heap.size_push,z1]
  have z3:(zA3 s.heap a b c).objs.size=s.heap.objs.size + 3:=by rw [Heap.size_push,z2]
  have z4:(zA4 s.heap a b c).objs.size=s.heap.objs.size + 4:=by rw [Heap.size_push,z3]
  have z5:(zA5 s.heap a b c).objs.size=s.heap.objs.size + 5:=by rw [Heap.size_push,z4]
  have p1:(zA1 s.heap a).get? s.heap.objs.size=some _:=Heap.get?_push_size _ rfl
  have p2:(zA2 s.heap a b).get? (zA1 s.heap a).objs.size=some _:=Heap.get?_push_size _ rfl
  have p3:(zA3 s.heap a b c).get? (zA2 s.heap a b).objs.size=some _:=Heap.get?_push_size _ rfl
  have p4:(zA4 s.heap a b c).get? (zA3 s.heap a b c).objs.size=some _:=Heap.get?_push_size _ rfl
  have p5:(zA5 s.heap a b c).get? (zA4 s.heap a b c).objs.size=some _:=Heap.get?_push_size _ rfl
  have p6:(zA6 s.heap a b c).get? (zA5 s.heap a b c).objs.size=some _:=Heap.get?_push_size _ rfl
  have u3:∀ d o,(zA3 s.heap a b c).get? d=some o→(zA6 s.heap a b c).get? d=some o:=fun d o e=>Heap.get?_push_of_some _ (Heap.get?_push_of_some _ (Heap.get?_push_of_some _ e))
  have g1:=u3 _ _ (Heap.get?_push_of_some _ (Heap.get?_push_of_some _ p1))
  have g2:=u3 _ _ (Heap.get?_push_of_some _ p2)
  have g3:=u3 _ _ p3
  have g4:(zA6 s.heap a b c).get? (zA3 s.heap a b c).objs.size=some _:=Heap.get?_push_of_some _ (Heap.get?_push_of_some _ p4)
  have g5:(zA6 s.heap a b c).get? (zA4 s.heap a b c).objs.size=some _:=Heap.get?_push_of_some _ p5
  show _∧_
  rw [z3,z4,z5] at p6
  rw [z1,z2,z3] at g4
  rw [z4] at g5
  rw [z1] at g2
  rw [z2] at g3
  rw [z5]
  exact ⟨⟨_,p6,rfl⟩,go _ ⟨p6,g4,g5,⟨_,g1,rfl,rfl⟩,⟨_,g2,rfl,rfl⟩,⟨_,g3,rfl,rfl⟩⟩ fun d o e=>u3 _ _ (Heap.get?_push_of_some _ (Heap.get?_push_of_some _ (Heap.get?_push_of_some _ e)))⟩
end
def It3 (K:PySem.W.Frag) (a b c:Addr):It :=
  ⟨fun i H=>∃ xs x ys y zs z,SqL K H a xs∧xs[i]?=some x∧SqL K H b ys∧ys[i]?=some y∧SqL K H c zs∧zs[i]?=some z,
   fun i H x H'=>∃ T u v t,H T=none∧x=.ref T∧H'=upd H T (.tup [u,v,t])∧(∀ xs,SqL K H a xs→xs[i]?=some u)∧(∀ ys,SqL K H b ys→ys[i]?=some v)∧∀ zs,SqL K H c zs→zs[i]?=some t,
   fun i H=>∃ xs,SqL K H a xs∧xs.length≤i⟩
theorem nofp3 {X:Cx} {n:Addr} {pins:List (Addr×Obj)} {s:Shared} {σ:St} {H:Hp} (I:Inv X pins σ H s) (hf:∀ b∈zf n,FpOk X pins H b) {c:Addr} {zs:List V} (hq:SqL X.K H c zs):∀ d∈zf n,c≠d:=fun d hd e=>by
  subst e
  have hn:=(hf c hd).1
  rcases hq with (q | ⟨o,q⟩) | ⟨o,its,m,q,_⟩
  · rw [hn] at q; cases q
  · rw [hn] at q; cases q
  · have hb:X.base.get? c=some o:=I.ok.mod.kin c o q
    rcases (hf c hd).2.2.2.1 with z | z
    · exact I.ok.noex c o hb z
    · exact absurd (Nat.lt_of_lt_of_le (Heap.lt_size hb) (Nat.le_trans I.ok.bsz z)) (Nat.lt_irrefl _)
theorem zf_cases {n c:Addr} {R:Addr→Prop} (hc:c∈zf n) (h5:R (n + 5)) (h3:R (n + 3)) (h4:R (n + 4)) (h0:R n) (h1:R (n + 1)) (h2:R (n + 2)):R c:=by
  simp only [List.mem_cons,List.not_mem_nil,or_false] at hc
  rcases hc with rfl | rfl | rfl | rfl | rfl | rfl <;> assumption
theorem turn_zip3 {P:Program} {w:World} {K:PySem.W.Frag} {es:List Expr} {k:Nat} {tpos:Pos} (a b c n:Addr) :
    Turn P w K (.Tuple es k tpos) (It3 K a b c) (zf n) (n + 5) (fun i h=>∃ x y z,Z3 h n a b c .none i x y z) where
  mem:=by simp
  obj:=fun i h st d hd=>by
    obtain ⟨x,y,z,zo,ti,to,⟨o1,e1,_,d1⟩,⟨o2,e2,_,d2⟩,⟨o3,e3,_,d3⟩⟩:=st
    refine zf_cases (R:=fun d=>∃ o,h.get? d=some o∧∀ v,o.data≠.cell v) hd ?_ ?_ ?_ ?_ ?_ ?_
    · exact ⟨_,zo,fun v z=>by have y:Data.fields _=Data.cell v:=z; cases y⟩
    · exact ⟨_,ti,fun v z=>by have y:Data.seq _ _=Data.cell v:=z; cases y⟩
    · exact ⟨_,to,fun v z=>by have y:Data.seq _ _=Data.cell v:=z; cases y⟩
    · exact ⟨_,e1,fun v z=>by rw [d1] at z; cases z⟩
    · exact ⟨_,e2,fun v z=>by rw [d2] at z; cases z⟩
    · exact ⟨_,e3,fun v z=>by rw [d3] at z; cases z⟩
  keep:=fun i h h' st k=>by
    obtain ⟨x,y,z,zo,ti,to,j1,j2,j3⟩:=st
    exact ⟨x,y,z,k _ (by simp) _ zo,k _ (by simp) _ ti,k _ (by simp) _ to,j1.at fun o e=>k _ (by simp) o e,j2.at fun o e=>k _ (by simp) o e,j3.at fun o e=>k _ (by simp) o e⟩
  item:=by
    intro X hP hw hK hc i pins s σ H E I hf st hg
    subst hP hw hK
    obtain ⟨u0,v0,t0,Z⟩:=st
    obtain ⟨xs,x,ys,y,zs,z,hxs,hx,hys,hy,hzs,hz⟩:=hg
    obtain ⟨its,rx,px,zx⟩:=I.list hxs
    obtain ⟨jts,ry,py,zy⟩:=I.list hys
    obtain ⟨kts,rz,pz,zz⟩:=I.list hzs
    obtain ⟨u,hu,ru⟩:=rx.get hx
    obtain ⟨v,hv,rv⟩:=ry.get hy
    obtain ⟨t,ht,rt⟩:=rz.get hz
    refine next3 Z (nofp3 I hf hxs) (nofp3 I hf hys) (nofp3 I hf hzs) px.isList py.isList pz.isList (x:=u) (y:=v) (z:=t) (by simpa using hu) (by simpa using hv) (by simpa using ht) fun h' z' o' i1' i2' i3' t' kp=>?_
    refine ⟨_,rfl,wpAny_letOwnedTupleGo_zip z' fun h'' z'' sb=>?_⟩
    have kp2:∀ d o,d∉zf n→s.heap.get? d=some o→h''.get? d=some o:=fun d o hd e =>
      (sb.2 d (fun z=>hd (by simp [z]))).trans (kp d o (fun z=>hd (by simp [z])) (fun z=>hd (by simp [z])) (fun z=>hd (by simp [z])) (fun z=>hd (by simp [z])) (fun z=>hd (by simp [z])) e)
    have lts:∀ d∈zf n,d < s.heap.objs.size:=fun d hd=>by
      obtain ⟨_,e1,_⟩:=Z.i1
      obtain ⟨_,e2,_⟩:=Z.i2
      obtain ⟨_,e3,_⟩:=Z.i3
      exact zf_cases (R:=fun d=>d < s.heap.objs.size) hd (Heap.lt_size Z.zo) (Heap.lt_size Z.ti) (Heap.lt_size Z.to) (Heap.lt_size e1) (Heap.lt_size e2) (Heap.lt_size e3)
    have tz:s.heap.objs.size≠n + 5:=Nat.ne_of_gt (lts _ (by simp))
    have e05:(n:Addr)≠n + 5:=ad (by omega)
    have e15:(n + 1:Addr)≠n + 5:=ad (by omega)
    have e25:(n + 2:Addr)≠n + 5:=ad (by omega)
    have e35:(n + 3:Addr)≠n + 5:=ad (by omega)
    have e45:(n + 4:Addr)≠n + 5:=ad (by omega)
    refine ⟨.ref s.heap.objs.size,upd H s.heap.objs.size (.tup [x,y,z]),I.turnNew (t':=s.toks) hf kp2 (Nat.le_refl _) ?_,rfl,⟨_,x,y,z,I.hok.fresh (Nat.le_refl _),rfl,rfl,fun zs hq=>by rw [I.list_inj hq hxs]; exact hx,fun zs hq=>by rw [I.list_inj hq hys]; exact hy,fun zs hq=>by rw [I.list_inj hq hzs]; exact hz⟩,?_,fun d hd=>?_⟩
    · exact ⟨by show 3≤sizeLine; decide,[u,v,t],.cons ru (.cons rv (.cons rt .nil)),⟨_,(sb.2 _ tz).trans t',rfl,_,rfl⟩⟩
    · exact ⟨_,_,_,z'',(sb.2 _ e35).trans (kp _ _ e35 (ad (by omega)) (ad (by omega)) (ad (by omega)) (ad (by omega)) Z.ti),(sb.2 _ e45).trans o',i1'.at fun o e=>(sb.2 _ e05).trans e,i2'.at fun o e=>(sb.2 _ e15).trans e,i3'.at fun o e=>(sb.2 _ e25).trans e⟩
    · rw [upd_ne (Nat.ne_of_lt (lts d hd))]
      exact (hf d hd).1
  done:=by
    intro X hP hw hK hc i pins s σ H E I hf st hg
    subst hP hw hK
    obtain ⟨u0,v0,t0,Z⟩:=st
    obtain ⟨xs,hxs,hl⟩:=hg
    obtain ⟨its,rx,px,zx⟩:=I.list hxs
    have l1:=rx.length
    have hend:its.toArray[i]?=none:=by simp; omega
    exact stop3 (I.ok.hd hc) Z (nofp3 I hf hxs) px.isList hend fun h' kp=>⟨rfl,I.turnAll (t':=s.toks) hf fun d o hd e=>kp d o (fun z=>hd (by simp [z])) (fun z=>hd (by simp [z])) e⟩
  self:=fun _ _ _ _ _ ⟨_,_,_,st⟩ h=>wpAny_pyIter_zip st.zo h
section
variable {X:Cx}
def iZip3 (K:PySem.W.Frag) (ta:TA):TI:=fun σ H R=>ta σ H fun vs H1=>∃ a b c,vs=[.ref a,.ref b,.ref c]∧(∃ xs,SqL K H1 a xs)∧(∃ ys,SqL K H1 b ys)∧(∃ zs,SqL K H1 c zs)∧R (It3 K a b c) H1
theorem pi_zip3 {K:PySem.W.Frag} {a b c:Expr} {ta:TA} {p pos:Pos} {es:List Expr} {k:Nat} {tpos:Pos} (hK:X.K=K) (hg:Gl X "zip") (hm:X.mg "zip" = none) (ha:PA X [a,b,c] ta) (he:starEach (a :: [b,c]) X.env=(false,eval a X.env) :: starEach [b,c] X.env:=by rfl)
    (hpl:(backTo pos (starEach [b,c] X.env)).any (·.1)=false:=by rfl):PI X (.Tuple es k tpos) (.Call (.Name "zip" p) [a,b,c] [] pos) (iZip3 K ta):=by
  subst hK
  intro pins s σ H R I h
  refine wpAny_Call_Name_kw (ld_blt I hg hm (u:=.type "zip") (by decide +kernel) ?_ (by decide) (by decide))
  refine PyProof.Rows.callWith_type1 (thn (ha pos pins s σ H _ I h) fun us s1 ⟨vs,H1,I1,r1,q1⟩=>?_) he hpl
  obtain ⟨a1,b1,c1,rfl,⟨xs,hx⟩,⟨ys,hy⟩,⟨zs,hz⟩,q⟩:=q1
  cases r1 with
  | cons ru r1 =>
    cases r1 with
    | cons rv r1 =>
      cases r1 with
      | cons rt r1 =>
        cases r1
        cases (show _=Value.ref a1 from ru)
        cases (show _=Value.ref b1 from rv)
        cases (show _=Value.ref c1 from rt)
        obtain ⟨its,rx,px,zx⟩:=I1.list hx
        obtain ⟨jts,ry,py,zy⟩:=I1.list hy
        obtain ⟨kts,rz,pz,zz⟩:=I1.list hz
        refine call_zip3 px.isList py.isList pz.isList fun h' Z kp=>?_
        refine wpAny_pyIter_zip Z.zo ?_
        refine ⟨s1.heap.objs.size + 5,_,_,_,H1,rfl,I1.kept (t':=s1.toks) kp,turn_zip3 a1 b1 c1 s1.heap.objs.size,⟨_,_,_,Z⟩,fun c hc=>?_,q⟩
        have hc':s1.heap.objs.size≤c:=zf_cases (R:=fun c=>s1.heap.objs.size≤c) hc (Nat.le_add_right _ _) (Nat.le_add_right _ _) (Nat.le_add_right _ _) (Nat.le_refl _) (Nat.le_add_right _ _) (Nat.le_add_right _ _)
        exact I1.fpOk hc' (I1.hok.fresh hc')
end
end L2
namespace PD
open PySem L2
section
variable {K:PySem.W.Frag} {S:Sx} {κ:Bool} {Γ:Ctx}
def zip3 (xs ys zs:List PyData):List PyData:=List.zipWith (fun x (p:PyData×PyData)=>.tuple [x,p.1,p.2]) xs (List.zip ys zs)
theorem zip3_get {xs ys zs:List PyData} {i:Nat} {x y z:PyData} (h1:xs[i]?=some x) (h2:ys[i]?=some y) (h3:zs[i]?=some z):(zip3 xs ys zs)[i]?=some (.tuple [x,y,z]):=by
  unfold zip3
  rw [List.getElem?_zipWith,h1,(List.getElem?_zip_eq_some (z:=(y,z))).mpr ⟨h2,h3⟩]
theorem zip3_len {xs ys zs:List PyData} (e1:ys.length=xs.length) (e2:zs.length=xs.length):(zip3 xs ys zs).length=xs.length:=by
  unfold zip3
  rw [List.length_zipWith,List.length_zip]
  omega
theorem ei_zip3 {t:TA} {xs ys zs:List PyData} (e1:ys.length=xs.length) (e2:zs.length=xs.length) (h:EvA K S κ t Γ [.list xs,.list ys,.list zs]):EvI K S κ (iZip3 K t) Γ (zip3 xs ys zs):=fun H0 F0 H F σ e R q =>
  h H0 F0 H F σ e _ fun vs H1 F1 g1 p1=>by
    cases p1 with
    | cons p p1 =>
      cases p1 with
      | cons p' p1 =>
        cases p1 with
        | cons p'' p1 =>
          cases p1
          obtain ⟨a,us,rfl,h1,h2⟩:=rp_lst p
          obtain ⟨b,ws,rfl,h3,h4⟩:=rp_lst p'
          obtain ⟨c,ts,rfl,h5,h6⟩:=rp_lst p''
          have l1:=RpAll.length h2
          have l2:=RpAll.length h4
          have l3:=RpAll.length h6
          have up:∀ {F' H':Hp},Same F1 F'→Same F' H'→SqL K H' a us:=fun s1 s2=>(s1.trans s2).seq h1.sq
          have uq:∀ {F' H':Hp},Same F1 F'→Same F' H'→SqL K H' b ws:=fun s1 s2=>(s1.trans s2).seq h3.sq
          have ur:∀ {F' H':Hp},Same F1 F'→Same F' H'→SqL K H' c ts:=fun s1 s2=>(s1.trans s2).seq h5.sq
          refine ⟨a,b,c,rfl,⟨us,up (.refl _) g1.le⟩,⟨ws,uq (.refl _) g1.le⟩,⟨ts,ur (.refl _) g1.le⟩,q _ H1 F1 g1 ⟨fun i H' F' s1 s2 hi=>?_,fun i H' F' x H'' s1 s2 sd hi y=>?_,fun H' F' s1 s2=>?_⟩⟩
          · rw [zip3_len e1 e2] at hi
            exact ⟨us,us[i]'(by omega),ws,ws[i]'(by omega),ts,ts[i]'(by omega),up s1 s2,by simp,uq s1 s2,by simp,ur s1 s2,by simp⟩
          · obtain ⟨T,u,v,t,hT,rfl,rfl,y1,y2,y3⟩:=y
            obtain ⟨d,hd,hp⟩:=RpAll.get' h2 (y1 us (up s1 s2))
            obtain ⟨f,hf,hq⟩:=RpAll.get' h4 (y2 ws (uq s1 s2))
            obtain ⟨g,hg,hr⟩:=RpAll.get' h6 (y3 ts (ur s1 s2))
            have s3:Same F' (upd F' T (.tup [u,v,t])):=Same.new (s2.free hT) _
            have s13:=s1.trans s3
            exact ⟨.tuple [d,f,g],_,zip3_get hd hf hg,.new s2 hT _,.tup (SqT.of upd_same) (.cons (rp_mono s13 hp) (.cons (rp_mono s13 hq) (.cons (rp_mono s13 hr) .nil)))⟩
          · refine ⟨us,up s1 s2,?_⟩
            rw [zip3_len e1 e2]
            omega
end
end PD
namespace PD
open PySem L2
section
variable {K:PySem.W.Frag} {S S':Sx} {κ κ':Bool} {Γ Γ' Γ'':Ctx} {P:Post}
theorem ev_callT3 {pre:List PyData→List PyData→List PyData→List PyData→Prop} {E:XK} {ta:TA} {ds xs ys zs:List PyData} (h:EvA K S false ta Γ ds) (hp:pre ds xs ys zs):EvE K S true (tCall (spT3 K pre) [] E ta) Γ (.tuple [.list xs,.list ys,.list zs]):=fun H0 F0 H F σ e Q q =>
  h H0 F0 H F σ e _ fun vs H1 F1 g1 p1=>⟨F1,ds,xs,ys,zs,g1.le,by rw [List.append_nil]; exact rpAll_dp p1,hp,fun p a b c us vs' ws H2 F2 g2 t=>by
    have e1:=e.mono g1
    have s3:Same F2 (upd (upd (upd F2 a (.lst us)) b (.lst vs')) c (.lst ws)):=((Same.new t.oa.f _).trans (Same.new (by rw [upd_ne t.ab.symm]; exact t.ob.f) _)).trans (Same.new (by rw [upd_ne t.bc.symm,upd_ne t.ac.symm]; exact t.oc.f) _)
    generalize hF:upd (upd (upd F2 a (.lst us)) b (.lst vs')) c (.lst ws)=F3 at s3
    have ha:F3 a=some (.lst us):=by rw [← hF,upd_ne t.ac,upd_ne t.ab,upd_same]
    have hb:F3 b=some (.lst vs'):=by rw [← hF,upd_ne t.bc,upd_same]
    have hc:F3 c=some (.lst ws):=by rw [← hF,upd_same]
    have g3:Gr H1 F1 H2 F3:=⟨g2.h,g2.f.trans s3,fun x o z=>by
      by_cases xc:x=c
      · subst xc; rw [hc] at z; cases z; exact t.oc.h
      · by_cases xb:x=b
        · subst xb; rw [hb] at z; cases z; exact t.ob.h
        · by_cases xa:x=a
          · subst xa; rw [ha] at z; cases z; exact t.oa.h
          · rw [← hF,upd_ne xc,upd_ne xb,upd_ne xa] at z
            exact g2.le _ _ z,fun x o z n=>by
      rw [← hF,upd_ne (ne_of_none z t.oc.n),upd_ne (ne_of_none z t.ob.n),upd_ne (ne_of_none z t.oa.n)]
      exact g2.ap _ _ z n⟩
    have mp:∀ {us:List V} {xs:List PyData},RpAll K true .fresh H1 F2 us xs→RpAll K true S H0 F3 us xs:=fun r=>rpAll_map (κ:=true) (κ':=true) (S:=.fresh) (H0:=H1) (S':=S) (H0':=H0) (fun q vs z=>⟨s3 _ _ z.1,e1.out (Classical.byContradiction fun w=>z.2 w)⟩) (fun _ _ z=>Same.seqT s3 z) r
    exact q _ H2 F3 (g1.trans g3) (.tup (SqT.of (s3 _ _ t.hp)) (.cons (.lst ⟨ha,e1.out t.oa.n⟩ (mp t.ra)) (.cons (.lst ⟨hb,e1.out t.ob.n⟩ (mp t.rb)) (.cons (.lst ⟨hc,e1.out t.oc.n⟩ (mp t.rc)) .nil))))⟩
def IsI (xs:List V):Prop:=∀ x∈xs,∃ i,x=.int i
def IsR (xs:List V):Prop:=∀ x∈xs,∃ c,x=.ref c
theorem i_r {xs:List V} (h1:IsI xs) (h2:IsR xs) (n:xs≠[]):False:=by
  cases xs with
  | nil=>exact n rfl
  | cons x r =>
    obtain ⟨i,e⟩:=h1 x List.mem_cons_self
    obtain ⟨c,e'⟩:=h2 x List.mem_cons_self
    rw [e] at e'
    cases e'
def FrT (T:Addr→Prop) (H H':Hp):Prop:=∀ b o,H b=some o→(isLst (some o)=false∨¬ T b→H' b=some o)∧H' b≠none
theorem FrT.put {T:Addr→Prop} {H H':Hp} {c:Addr} {us ws:List V} (h:FrT T H H') (hc:T c∨H c=none) (e:H' c=some (.lst us)):FrT T H (upd H' c (.lst ws)):=fun b o z=>by
  by_cases bc:b=c
  · subst bc
    refine ⟨fun q=>?_,by rw [upd_same]; exact fun w=>nomatch w⟩
    rcases hc with hc | hc
    · have:=(h b o z).1 q
      rw [e] at this
      cases this
      rcases q with q | q
      · cases q
      · exact absurd hc q
    · rw [hc] at z; cases z
  · rw [upd_ne bc]; exact h b o z
theorem FrT.new {T:Addr→Prop} {H H':Hp} {p:Addr} {ws:List V} (h:FrT T H H') (hp:H' p=none):FrT T H (upd H' p (.lst ws))∧H p=none:=by
  have:H p=none:=by
    cases q:H p with
    | none=>rfl
    | some o=>exact absurd hp (h p o q).2
  refine ⟨fun b o z=>?_,this⟩
  rw [upd_ne (ne_of_none z this)]
  exact h b o z
structure GR (T:Addr→Prop) (H H':Hp) (c:Addr) (us:List V):Prop where
  t:T c∨H c=none
  h:H' c=some (.lst us)
  i:IsI us
def Rw (T:Addr→Prop) (H H':Hp) (x:V):Prop:=∃ c us,x=.ref c∧GR T H H' c us∧us≠[]
def Ow (T:Addr→Prop) (H:Hp) (n:Nat) (H':Hp) (x:V):Prop:=∃ c us,x=.ref c∧GR T H H' c us∧us.length≤3000 + n
def Tb (T:Addr→Prop) (H:Hp) (n:Nat) (H':Hp) (x:V):Prop:=∃ b ws,x=.ref b∧(T b∨H b=none)∧H' b=some (.lst ws)∧ws≠[]∧ws.length≤3000 + n∧∀ y∈ws,Rw T H H' y
theorem Rw.r {T:Addr→Prop} {H H':Hp} {ws:List V} (h:∀ y∈ws,Rw T H H' y):IsR ws:=fun y hy=>by
  obtain ⟨c,_,e,_⟩:=h y hy
  exact ⟨c,e⟩
section
variable {T:Addr→Prop} {H H':Hp} {a0 a1 a2 c:Addr} {vs2 us us' ws:List V} {n:Nat} {x:V}
def SpB (d:PyData):Prop:=∃ (ss:List Int) (cs:List (List Int)) (ts:List (List (List Int))),d=.tuple [.list (ss.map .int),.list (cs.map fun r=>.list (r.map .int)),.list (ts.map fun t=>.list (t.map fun r=>.list (r.map .int)))]∧ss.length≤1000∧cs.length≤1000∧(∀ r∈cs,r.length≤1000)∧ts.length≤1000∧∀ t∈ts,t≠[]∧t.length≤2000∧∀ r∈t,r≠[]
theorem rp_il {K:PySem.W.Frag} {T:Addr→Prop} {F:Hp} {x:V} {ns:List Int} (h:Rp K true (.spoil fun a=>¬ T a) (fun _=>none) F x (.list (ns.map .int))):∃ c us,x=.ref c∧T c∧F c=some (.lst us)∧IsI us∧us.length=ns.length:=by
  obtain ⟨c,us,rfl,hl,hk⟩:=rp_lst h
  have e:=dpAll_of_ints (rpAll_dp hk)
  refine ⟨c,us,rfl,Classical.byContradiction fun z=>hl.2 (.inr z),hl.1,fun x hx=>?_,by rw [e,List.length_map]⟩
  rw [e] at hx
  obtain ⟨i,_,rfl⟩:=List.mem_map.mp hx
  exact ⟨i,rfl⟩
variable {K:PySem.W.Frag}
end
end
end PD
namespace PD
open PySem L2
section
variable {K:PySem.W.Frag} {S S':Sx} {κ κ':Bool} {Γ Γ' Γ'':Ctx} {P:Post}
theorem evo_thaw (i:Nat) {κ0:Bool} {t:TE} {xs ds0:List PyData} {Γf:Ctx} (h:GetC Γ i (.ow κ0 ds0)) (es:SetC Γ i (some (.fz κ0 (.list ds0))) Γf) (k:EvO K S κ t Γf xs) (him:∀ d∈xs,imm d=true):EvO K S κ t Γ xs:=fun H0 F0 H F σ e Q q=>by
  obtain ⟨a,Ff,e',g⟩:=thaw e h es
  refine k H0 F0 H Ff σ e' Q fun b vs H' F' g' n p f q'=>q b vs H' _ (g H' F' g') n p ?_ (imm_drop him (rpAll_dp q'))
  cases z:drop (fun c=>c=a) F' b with
  | none=>rfl
  | some o=>rw [(drop_some.mp z).1] at f; cases f
theorem ex_dropG {te:TE} {G:PyData→Prop} (h:EvG K S false te Γ G) (k:P.nx Γ):ExS K S (tDrop te) Γ P:=fun H0 F0 H F σ B e b _ D I =>
  h H0 F0 H F σ e _ fun d v H' F' _ g p=>I.nx _ _ H' F' k (b.trans g.f) (e.mono g)
end
end PD
namespace PD
open PySem L2
section
variable {K:PySem.W.Frag} {S S':Sx} {κ κ':Bool} {Γ Γ' Γ'':Ctx} {P:Post}
inductive Mk2:DV→DV→Prop
  | of {x y:DV}:MkD x y→Mk2 x y
  | tn {d:PyData}:Mk2 (.tn d) (.tn d)
inductive Mk2C:Ctx→Ctx→Prop
  | nil:Mk2C [] []
  | no {x:Option DV} {Γ Γ':Ctx}:Mk2C Γ Γ'→Mk2C (x :: Γ) (none :: Γ')
  | got {x y:DV} {Γ Γ':Ctx}:Mk2 x y→Mk2C Γ Γ'→Mk2C (some x :: Γ) (some y :: Γ')
theorem Mk2C.len (h:Mk2C Γ Γ'):Γ.length=Γ'.length:=by
  induction h with
  | nil=>rfl
  | no _ ih=>exact congrArg (· + 1) ih
  | got _ _ ih=>exact congrArg (· + 1) ih
theorem Mk2C.get (h:Mk2C Γ Γ'):∀ {i:Nat} {x:DV},Γ'[i]?=some (some x)→∃ y,Γ[i]?=some (some y)∧Mk2 y x:=by
  induction h with
  | nil=>intro i x e; simp at e
  | no _ ih =>
    intro i x e
    cases i with
    | zero=>simp at e
    | succ i=>exact ih (i:=i) (by simpa using e)
  | @got a b _ _ m _ ih =>
    intro i x e
    cases i with
    | zero =>
      have e':b=x:=by simpa using e
      subst e'
      exact ⟨a,rfl,m⟩
    | succ i=>exact ih (i:=i) (by simpa using e)
theorem Mk2.owns {x y:DV} {H H':Hp} {v:V} {a:Addr} (h:Mk2 y x) (o:Owns H' v x a):Owns H v y a:=by
  cases h with
  | of m=>exact m.owns o
  | tn=>exact o.elim
theorem ex_mark2 {T:Addr→Prop} {pre:List PyData→PyData→Prop} {E:XK} {ta:TA} {ds:List PyData} {d:PyData} {i:Nat} {u:TS} {Γ1 Γ2:Ctx} (h:EvA K (.spoil T) false ta Γ ds) (hp:pre ds d) (hm:Mk2C Γ Γ1) (hs:SetC Γ1 i (some (.tn d)) Γ2)
    (k:∀ T',ExT K (.spoil T') .fresh u Γ2 P):ExT K (.spoil T) .fresh (tSeq (tAsg (tCall (spD K true pre) [] E ta) (gName i)) u) Γ P:=fun H0 F0 H F σ B e b v0 D I =>
  h H0 F0 H F σ e _ fun vs H1 F1 g1 p1=>⟨F1,ds,d,g1.le,by rw [List.append_nil]; exact rpAll_dp p1,hp,fun v H2 F2 g2 p2=>by
    have e1:=e.mono g1
    let T':Addr→Prop:=fun a=>T a∨F2 a≠none∧H1 a=none
    have nT:∀ {a:Addr} {o:HO},H1 a=some o→¬ T a→¬ T' a:=fun {a o} z w c=>by
      rcases c with c | c
      · exact w c
      · have:H1 a=none:=c.2
        rw [z] at this; cases this
    have keep:∀ (a:Addr) (xs:List V),LN K true (.spoil T) H0 F1 a xs→LN K true (.spoil T') H0 F2 a xs:=fun a xs z=>⟨g2.f _ _ z.1,fun c=>c.elim (fun q=>z.2 (.inl q)) (nT (g1.le _ _ z.1) fun q=>z.2 (.inr q))⟩
    have ownS:∀ {a:Addr} {us:List V},OwnAt (.spoil T) H0 H1 F1 a us→OwnAt (.spoil T') H0 H2 F2 a us:=fun {a us} w=>⟨g2.h _ _ w.h,g2.ap _ _ w.h w.f,w.n,fun c=>c.elim (fun q=>w.s (.inl q)) (nT w.h fun q=>w.s (.inr q))⟩
    have em:DEnv K (.spoil T') H0 F0 H2 F2 σ Γ1:=by
      refine ⟨e1.gr.trans g2,e1.l0,fun a c=>?_,fun T0 eT a c=>?_,by rw [e.len,hm.len],fun j x hx=>?_,fun m n x y v w a h1 h2 h3 h4 o1 o2=>?_⟩
      · rcases c with c | c | c
        · obtain ⟨o,q⟩:=e1.sd a (.inl c)
          exact ⟨o,g2.h _ _ q⟩
        · obtain ⟨o,q⟩:=e1.sd a (.inr c)
          exact ⟨o,g2.h _ _ q⟩
        · cases q:F2 a with
          | none=>exact absurd q c.1
          | some o=>exact ⟨o,g2.le _ _ q⟩
      · cases eT
        rcases c with c | c
        · exact e.s0 T rfl a c
        · exact e1.gr.h.free c.2
      · obtain ⟨y,hy,my⟩:=hm.get hx
        obtain ⟨w,hw,hv⟩:=e1.has j y hy
        refine ⟨w,hw,?_⟩
        cases my with
        | tn =>
          obtain ⟨T0,eT,hv⟩:=hv
          cases eT
          exact ⟨T',rfl,rp_map (κ:=true) (κ':=true) (S:=.spoil fun a=>¬ T a) (S':=.spoil fun a=>¬ T' a) (H0:=fun _=>none) (H0':=fun _=>none) (fun a xs z=>⟨g2.f _ _ z.1,fun c=>c.elim (fun w=>w rfl) fun w=>z.2 (.inr fun q=>w (.inl q))⟩) (fun _ _ z=>Same.seqT g2.f z) hv⟩
        | of my =>
          cases my with
          | fz=>exact rp_map keep (fun _ _ z=>Same.seqT g2.f z) hv
          | im hi=>exact dp_imm hi (dp_same g2.f (rp_dp hv))
          | ow=>obtain ⟨a,us,ea,wo,kk⟩:=hv; exact ⟨a,us,ea,ownS wo,rpAll_map keep (fun _ _ z=>Same.seqT g2.f z) kk⟩
          | oi hi=>obtain ⟨a,us,ea,wo,kk⟩:=hv; exact ⟨a,us,ea,ownS wo,dpAll_immL hi (dpAll_same g2.f (rpAll_dp kk))⟩
          | ox=>obtain ⟨a,us,ea,wo⟩:=hv; exact ⟨a,us,ea,ownS wo⟩
          | fn=>exact hv
      · obtain ⟨x',e1',m1⟩:=hm.get h1
        obtain ⟨y',e2',m2⟩:=hm.get h2
        exact e1.ne m n x' y' v w a e1' e2' h3 h4 (m1.owns o1) (m2.owns o2)
    obtain rfl:=hs.eq
    refine k T' H0 F0 H2 F2 _ B (em.set (x:=.tn d) ⟨T',rfl,?_⟩ fun _ z=>z.elim) (b.trans (g1.f.trans g2.f)) (.inr fun T0 eT a xs z=>?_) D I
    · refine rp_map (κ:=true) (κ':=true) (S:=.fresh) (H0:=H1) (S':=.spoil fun a=>¬ T' a) (H0':=fun _=>none) (fun a xs z=>⟨z.1,fun c=>c.elim (fun w=>w rfl) fun w=>w (.inr ⟨by rw [z.1]; simp,?_⟩)⟩) (fun _ _ z=>z) p2
      cases q:H1 a with
      | none=>rfl
      | some o=>exact absurd (show H1 a≠none by rw [q]; simp) z.2
    · cases eT
      exact nT (g1.le _ _ (g1.f _ _ (b _ _ z))) (avoid_of v0 T rfl a xs z)⟩
theorem ex_asgT3 {pre:List PyData→List PyData→List PyData→List PyData→Prop} {E:XK} {ta:TA} {u:TS} {i j l:Nat} {ds xs ys zs:List PyData} {Γ1 Γ2 Γ3:Ctx} (ha:EvA K S false ta Γ ds) (hp:pre ds xs ys zs) (s1:SetC Γ i (some (.ow true xs)) Γ1) (s2:SetC Γ1 j (some (.ow true ys)) Γ2) (s3:SetC Γ2 l (some (.ow true zs)) Γ3) (hij:i≠j) (hil:i≠l) (hjl:j≠l)
    (k:ExT K S S' u Γ3 P):ExT K S S' (tSeq (tAsg (tCall (spT3 K pre) [] E ta) (gTup K 3 (gCons (gName i) (gCons (gName j) (gCons (gName l) gNil))))) u) Γ P:=fun H0 F0 H F σ B e bb v0 D I =>
  ha H0 F0 H F σ e _ fun as H1 F1 g1 p1=>⟨F1,ds,xs,ys,zs,g1.le,by rw [List.append_nil]; exact rpAll_dp p1,hp,fun p a b c us vs ws H2 F2 g2 t=>by
    have e1:=e.mono g1
    have e2:=e1.mono g2
    have mp:∀ {us:List V} {xs:List PyData},RpAll K true .fresh H1 F2 us xs→RpAll K true S H0 F2 us xs:=fun r=>rpAll_map (κ:=true) (κ':=true) (S:=.fresh) (H0:=H1) (S':=S) (H0':=H0) (fun q vs z=>⟨z.1,e1.out (Classical.byContradiction fun w=>z.2 w)⟩) (fun _ _ z=>z) r
    have own:∀ {a:Addr} {us:List V},OwnAt .fresh H1 H2 F2 a us→OwnAt S H0 H2 F2 a us:=fun o=>⟨o.h,o.f,e1.gr.h.free o.n,e1.out o.n⟩
    have old:∀ (m:Nat) (y:DV) (w:V) (x:Addr),Γ[m]?=some (some y)→σ[m]?=some (some w)→Owns H2 w y x→H1 x≠none:=fun m y w x hy hw o=>by
      obtain ⟨v,q1,q2⟩:=e1.has m y hy
      rw [hw] at q1
      cases q1
      obtain ⟨us,w1⟩:=q2.owns (o.back q2 fun _ _ z=>g2.h _ _ z.h)
      rw [w1.h]
      exact fun z=>nomatch z
    refine ⟨p,_,rfl,SqT.of (g2.le _ _ t.hp),rfl,_,_,rfl,_,_,rfl,_,_,rfl,rfl,?_⟩
    have f1:=e2.set (i:=i) (v:=.ref a) (x:=.ow true xs) ⟨a,us,rfl,own t.oa,mp t.ra⟩ fun x ox m y w hm hy hw o=>by
      cases (show V.ref a=.ref x from ox)
      exact old m y w _ hy hw o t.oa.n
    have f2:=f1.set (i:=j) (v:=.ref b) (x:=.ow true ys) ⟨b,vs,rfl,own t.ob,mp t.rb⟩ fun x ox m y w hm hy hw o=>by
      cases (show V.ref b=.ref x from ox)
      by_cases hi:m=i
      · subst hi
        have lm:=(List.getElem?_eq_some_iff.mp hy).1
        rw [List.length_set] at lm
        rw [List.getElem?_set_self lm] at hy
        rw [List.getElem?_set_self (by rw [e.len]; exact lm)] at hw
        cases hy
        cases hw
        exact t.ab (by cases (show V.ref a=.ref b from o); rfl)
      · rw [List.getElem?_set_ne (Ne.symm hi)] at hy hw
        exact old m y w _ hy hw o t.ob.n
    have f3:=f2.set (i:=l) (v:=.ref c) (x:=.ow true zs) ⟨c,ws,rfl,own t.oc,mp t.rc⟩ fun x ox m y w hm hy hw o=>by
      cases (show V.ref c=.ref x from ox)
      by_cases hj:m=j
      · subst hj
        have lm:=(List.getElem?_eq_some_iff.mp hy).1
        rw [List.length_set,List.length_set] at lm
        rw [List.getElem?_set_self (by rw [List.length_set]; exact lm)] at hy
        rw [List.getElem?_set_self (by rw [List.length_set,e.len]; exact lm)] at hw
        cases hy
        cases hw
        exact t.bc (by cases (show V.ref b=.ref c from o); rfl)
      · rw [List.getElem?_set_ne (Ne.symm hj)] at hy hw
        by_cases hi:m=i
        · subst hi
          have lm:=(List.getElem?_eq_some_iff.mp hy).1
          rw [List.length_set] at lm
          rw [List.getElem?_set_self lm] at hy
          rw [List.getElem?_set_self (by rw [e.len]; exact lm)] at hw
          cases hy
          cases hw
          exact t.ac (by cases (show V.ref a=.ref c from o); rfl)
        · rw [List.getElem?_set_ne (Ne.symm hi)] at hy hw
          exact old m y w _ hy hw o t.oc.n
    rw [s1.eq,s2.eq,s3.eq] at f3
    exact k H0 F0 H2 F2 _ B f3 (bb.trans (g1.f.trans g2.f)) v0 D I⟩
structure SpK (T:Addr→Prop) (H:Hp) (a0 a1 a2:Addr) (vs1 vs2:List V) (n:Nat) (H':Hp):Prop where
  fr:FrT T H H'
  g0:Ow T H n H' (.ref a0)
  e1:H' a1=some (.lst vs1)
  n1:vs1≠[]
  l1:vs1.length≤3000 + n
  g1:∀ x∈vs1,Ow T H n H' x
  e2:H' a2=some (.lst vs2)
  n2:vs2≠[]
  g2:∀ x∈vs2,Tb T H n H' x
section
variable {T:Addr→Prop} {H H':Hp} {a0 a1 a2 c:Addr} {vs1 vs2 us us' ws:List V} {n:Nat} {x:V}
theorem Ow.put (h:Ow T H n H' x) (g:GR T H H' c us) (i':IsI us') (l':us'.length≤us.length + 1):Ow T H (n + 1) (upd H' c (.lst us')) x:=by
  obtain ⟨d,ws,rfl,k,m⟩:=h
  by_cases e:d=c
  · subst e
    have:=k.h
    rw [g.h] at this
    cases this
    exact ⟨d,us',rfl,⟨k.t,upd_same,i'⟩,by omega⟩
  · exact ⟨d,ws,rfl,⟨k.t,by rw [upd_ne e]; exact k.h,k.i⟩,by omega⟩
theorem Rw.put (h:Rw T H H' x) (g:GR T H H' c us) (i':IsI us') (n':us'≠[]):Rw T H (upd H' c (.lst us')) x:=by
  obtain ⟨d,ws,rfl,k,m⟩:=h
  by_cases e:d=c
  · subst e
    exact ⟨d,us',rfl,⟨k.t,upd_same,i'⟩,n'⟩
  · exact ⟨d,ws,rfl,⟨k.t,by rw [upd_ne e]; exact k.h,k.i⟩,m⟩
theorem SpK.put (s:SpK T H a0 a1 a2 vs1 vs2 n H') (g:GR T H H' c us) (i':IsI us') (n':us'≠[]) (l':us'.length≤us.length + 1):SpK T H a0 a1 a2 vs1 vs2 (n + 1) (upd H' c (.lst us')):=by
  have ne:∀ {d:Addr} {ws:List V},H' d=some (.lst ws)→ws≠[]→IsR ws→d≠c:=fun {d ws} h m r e=>by
    subst e
    rw [g.h] at h
    cases h
    exact i_r g.i r m
  have r1:IsR vs1:=fun x hx=>by obtain ⟨d,_,e,_⟩:=s.g1 x hx; exact ⟨d,e⟩
  have r2:IsR vs2:=fun x hx=>by obtain ⟨d,_,e,_⟩:=s.g2 x hx; exact ⟨d,e⟩
  have l1:=s.l1
  refine ⟨s.fr.put g.t g.h,s.g0.put g i' l',by rw [upd_ne (ne s.e1 s.n1 r1)]; exact s.e1,s.n1,by omega,fun x hx=>(s.g1 x hx).put g i' l',by rw [upd_ne (ne s.e2 s.n2 r2)]; exact s.e2,s.n2,fun x hx=>?_⟩
  obtain ⟨b,ws,rfl,tb,hb,nb,lb,rb⟩:=s.g2 x hx
  exact ⟨b,ws,rfl,tb,by rw [upd_ne (ne hb nb (Rw.r rb))]; exact hb,nb,by omega,fun y hy=>(rb y hy).put g i' n'⟩
theorem SpK.app (s:SpK T H a0 a1 a2 vs1 vs2 n H') {b p:Addr} (m:Tb T H n H' (.ref b)) (hp:H' p=none) (hb:H' b=some (.lst ws)):∃ vs1',SpK T H a0 a1 a2 vs1' vs2 (n + 1) (upd (upd H' p (.lst [.int 1])) b (.lst (ws ++ [.ref p]))):=by
  obtain ⟨b',ws',e,tb,hb',nb,lb,rb⟩:=m
  cases e
  rw [hb] at hb'
  cases hb'
  obtain ⟨f1,hHp⟩:=s.fr.new (ws:=[.int 1]) hp
  have bp:b≠p:=fun e=>by rw [e,hp] at hb; cases hb
  have ib:∀ {d:Addr} {us:List V},GR T H H' d us→d≠b:=fun {d us} g e=>by
    subst e
    have:=g.h
    rw [hb] at this
    cases this
    exact i_r g.i (Rw.r rb) nb
  have ip:∀ {d:Addr} {us:List V},H' d=some (.lst us)→d≠p:=fun {d us} g e=>by rw [e,hp] at g; cases g
  have up:∀ {d:Addr} {us:List V},GR T H H' d us→GR T H (upd (upd H' p (.lst [.int 1])) b (.lst (ws ++ [.ref p]))) d us:=fun {d us} g=>⟨g.t,by rw [upd_ne (ib g),upd_ne (ip g.h)]; exact g.h,g.i⟩
  have gp:GR T H (upd (upd H' p (.lst [.int 1])) b (.lst (ws ++ [.ref p]))) p [.int 1]:=⟨.inr hHp,by rw [upd_ne bp.symm,upd_same],fun x hx=>⟨1,List.mem_singleton.mp hx⟩⟩
  have uo:∀ {x:V},Ow T H n H' x→Ow T H (n + 1) (upd (upd H' p (.lst [.int 1])) b (.lst (ws ++ [.ref p]))) x:=fun {x} h=>by
    obtain ⟨d,us,rfl,k,l⟩:=h
    exact ⟨d,us,rfl,up k,by omega⟩
  have ur:∀ {x:V},Rw T H H' x→Rw T H (upd (upd H' p (.lst [.int 1])) b (.lst (ws ++ [.ref p]))) x:=fun {x} h=>by
    obtain ⟨d,us,rfl,k,l⟩:=h
    exact ⟨d,us,rfl,up k,l⟩
  have h3:=s.g1
  have h1:=s.e1
  have h2:=s.l1
  have n2:a2≠b:=fun e=>by
    subst e
    have ew:ws=vs2:=by
      have z:=s.e2
      rw [hb] at z
      cases z
      rfl
    cases hw:ws with
    | nil=>exact nb hw
    | cons y r =>
      have my:y∈ws:=by rw [hw]; exact List.mem_cons_self
      obtain ⟨d,us,e,k,l⟩:=rb y my
      obtain ⟨d',ws',e',_,hd,nd,_,rd⟩:=s.g2 y (ew ▸ my)
      rw [e] at e'
      cases e'
      have:=k.h
      rw [hd] at this
      cases this
      exact i_r k.i (Rw.r rd) nd
  have fin:∀ w1,upd (upd H' p (.lst [.int 1])) b (.lst (ws ++ [.ref p])) a1=some (.lst w1)→w1≠[]→w1.length≤3000 + (n + 1)→(∀ x∈w1,Ow T H (n + 1) (upd (upd H' p (.lst [.int 1])) b (.lst (ws ++ [.ref p]))) x)→SpK T H a0 a1 a2 w1 vs2 (n + 1) (upd (upd H' p (.lst [.int 1])) b (.lst (ws ++ [.ref p]))):=fun w1 q1 q2 q3 q4=>by
    refine ⟨f1.put tb (by rw [upd_ne bp]; exact hb),uo s.g0,q1,q2,q3,q4,by rw [upd_ne n2,upd_ne (ip s.e2)]; exact s.e2,s.n2,fun x hx=>?_⟩
    obtain ⟨d,wd,rfl,td,hd,nd,ld,rd⟩:=s.g2 x hx
    by_cases e1:d=b
    · subst e1
      refine ⟨d,_,rfl,td,upd_same,fun z=>nb (List.append_eq_nil_iff.mp z).1,by rw [List.length_append]; show _ + 1≤_; omega,fun y hy=>?_⟩
      rcases List.mem_append.mp hy with hy | hy
      · exact ur (rb y hy)
      · rw [List.mem_singleton.mp hy]
        exact ⟨p,_,rfl,gp,fun z=>nomatch z⟩
    · exact ⟨d,wd,rfl,td,by rw [upd_ne e1,upd_ne (ip hd)]; exact hd,nd,by omega,fun y hy=>ur (rd y hy)⟩
  by_cases e1:a1=b
  · subst e1
    have ew:ws=vs1:=by
      rw [hb] at h1
      cases h1
      rfl
    refine ⟨_,fin _ upd_same (fun z=>nb (List.append_eq_nil_iff.mp z).1) (by rw [List.length_append]; show _ + 1≤_; omega) fun x hx=>?_⟩
    rcases List.mem_append.mp hx with hx | hx
    · exact uo (h3 x (ew ▸ hx))
    · rw [List.mem_singleton.mp hx]
      exact ⟨p,_,rfl,gp,by show 1≤_; omega⟩
  · exact ⟨vs1,fin vs1 (by rw [upd_ne e1,upd_ne (ip h1)]; exact h1) s.n1 (by omega) fun x hx=>uo (h3 x hx)⟩
end
inductive NoT:Ctx→Prop
  | nil:NoT []
  | no {Γ:Ctx}:NoT Γ→NoT (none :: Γ)
  | fz {κ:Bool} {d:PyData} {Γ:Ctx}:NoT Γ→NoT (some (.fz κ d) :: Γ)
theorem NoT.tn (h:NoT Γ):∀ (i:Nat) d,Γ[i]?≠some (some (.tn d)):=by
  induction h with
  | nil=>intro i d e; simp at e
  | no _ ih =>
    intro i d e
    cases i with
    | zero=>simp at e
    | succ i=>exact ih i d (by simpa using e)
  | fz _ ih =>
    intro i d e
    cases i with
    | zero=>simp at e
    | succ i=>exact ih i d (by simpa using e)
theorem sp_look {T:Addr→Prop} {F H:Hp} {v:V} {d:PyData} (le:Same F H) (p:Rp K true (.spoil fun a=>¬ T a) (fun _=>none) F v d) (s:SpB d):∃ (t a0 a1 a2:Addr) (vs1 vs2:List V) (xs ys zs:List PyData),d=.tuple [.list xs,.list ys,.list zs]∧v=.ref t∧SqT K F t [.ref a0,.ref a1,.ref a2]∧T a0∧T a1∧T a2∧Ow T H 0 H (.ref a0)∧H a1=some (.lst vs1)∧vs1.length=ys.length∧vs1.length≤1000∧(∀ x∈vs1,Ow T H 0 H x)∧H a2=some (.lst vs2)∧vs2.length=zs.length∧vs2.length≤1000∧∀ x∈vs2,Tb T H 0 H x:=by
  obtain ⟨ss,cs,ts,rfl,zs,zc,zr,zt,tt⟩:=s
  obtain ⟨t,vs,rfl,ht,hk⟩:=rp_tup p
  cases hk with
  | cons hx hk =>
  cases hk with
  | cons hy hk =>
  cases hk with
  | cons hz hk =>
  cases hk
  obtain ⟨a0,us0,rfl,T0,h0,i0,l0⟩:=rp_il hx
  obtain ⟨a1,us1,rfl,hl1,hk1⟩:=rp_lst hy
  obtain ⟨a2,us2,rfl,hl2,hk2⟩:=rp_lst hz
  have T1:T a1:=Classical.byContradiction fun z=>hl1.2 (.inr z)
  have T2:T a2:=Classical.byContradiction fun z=>hl2.2 (.inr z)
  have n1:=RpAll.length hk1
  have n2:=RpAll.length hk2
  have rw0:∀ {x:V} {r:List Int},Rp K true (.spoil fun a=>¬ T a) (fun _=>none) F x (.list (r.map .int))→∃ c us,x=.ref c∧GR T H H c us∧us.length=r.length:=fun {x r} h=>by
    obtain ⟨c,us,rfl,Tc,hc,ic,lc⟩:=rp_il h
    exact ⟨c,us,rfl,⟨.inl Tc,le _ _ hc,ic⟩,lc⟩
  refine ⟨t,a0,a1,a2,us1,us2,_,_,_,rfl,rfl,ht,T0,T1,T2,⟨a0,us0,rfl,⟨.inl T0,le _ _ h0,i0⟩,by omega⟩,le _ _ hl1.1,n1,by rw [n1,List.length_map]; exact zc,fun x hx=>?_,le _ _ hl2.1,n2,by rw [n2,List.length_map]; exact zt,fun x hx=>?_⟩
  · obtain ⟨j,hj⟩:=List.mem_iff_getElem?.mp hx
    obtain ⟨d,hd,hp⟩:=RpAll.get' hk1 hj
    rw [List.getElem?_map] at hd
    obtain ⟨r,hr,rfl⟩:=Option.map_eq_some_iff.mp hd
    obtain ⟨c,us,e,g,l⟩:=rw0 hp
    have:=zr r (List.mem_of_getElem? hr)
    exact ⟨c,us,e,g,by omega⟩
  · obtain ⟨j,hj⟩:=List.mem_iff_getElem?.mp hx
    obtain ⟨d,hd,hp⟩:=RpAll.get' hk2 hj
    rw [List.getElem?_map] at hd
    obtain ⟨tb,htb,rfl⟩:=Option.map_eq_some_iff.mp hd
    obtain ⟨b,ws,rfl,hlb,hkb⟩:=rp_lst hp
    obtain ⟨m1,m2,m3⟩:=tt tb (List.mem_of_getElem? htb)
    have lb:=RpAll.length hkb
    rw [List.length_map] at lb
    refine ⟨b,ws,rfl,.inl (Classical.byContradiction fun z=>hlb.2 (.inr z)),le _ _ hlb.1,fun z=>m1 (by rw [z] at lb; exact List.length_eq_zero_iff.mp lb.symm),by omega,fun y hy=>?_⟩
    obtain ⟨i,hi⟩:=List.mem_iff_getElem?.mp hy
    obtain ⟨d,hd,hp⟩:=RpAll.get' hkb hi
    rw [List.getElem?_map] at hd
    obtain ⟨r,hr,rfl⟩:=Option.map_eq_some_iff.mp hd
    obtain ⟨c,us,e,g,l⟩:=rw0 hp
    exact ⟨c,us,e,g,fun z=>m3 r (List.mem_of_getElem? hr) (by rw [z] at l; exact List.length_eq_zero_iff.mp l.symm)⟩
abbrev spoil2 (K:PySem.W.Frag) (ib im ik j1 j2:Nat) (u:TS):TS :=
  tSeq (tDrop (tBM K "list" rAppend (tOp (rIxL K) (tOp (rIxT K) (tVar ib) (tC (.int 2))) (tVar ik)) (tCons (tLst (tCons (tC (.int 1)) tNil)) tNil)))
    (tSeq (tDrop (tBM K "list" rAppend (tOp (rIxT K) (tVar im) (tC (.int 0))) (tCons (tC (.int 2)) tNil)))
      (tSeq (tFor (iList K (tOp (rIxT K) (tVar im) (tC (.int 1)))) (gName j1) (tDrop (tBM K "list" rAppend (tVar j1) (tCons (tC (.int 0)) tNil))))
        (tSeq (tFor (iList K (tOp (rIxT K) (tVar im) (tC (.int 2)))) (gName j2) (tAsg (tOp (rI0 fun i j=>.int (i + j)) (tOp (rIxL K) (tOp (rIxL K) (tVar j2) (tC (.int 0))) (tC (.int 0))) (tC (.int 1))) (gSub (tOp (rIxL K) (tVar j2) (tC (.int 0))) (tC (.int 0)) rSetL))) u)))
theorem ex_spoil2 {T:Addr→Prop} {ib im ik j1 j2 k:Nat} {u:TS} {x y:PyData} {zs xs' ys' zs':List PyData} {Γ1 Γ2 Γ3 Γ4 Γ5:Ctx} (big:200000 < sizeLine) (hb:GetC Γ ib (.tn (.tuple [x,y,.list zs]))) (hm:GetC Γ im (.tn (.tuple [.list xs',.list ys',.list zs']))) (hk:GetC Γ ik (.fz κ (.int (k:Int))))
    (pb:SpB (.tuple [x,y,.list zs])) (pm:SpB (.tuple [.list xs',.list ys',.list zs'])) (kz:k < zs.length) (ny:ys'≠[]) (nz:zs'≠[]) (d1:im≠j1) (d2:im≠j2) (l1:j1 < Γ.length) (l2:j2 < Γ.length)
    (s1:SetC Γ ib none Γ1) (s2:SetC Γ1 im none Γ2) (s3:SetC Γ2 j1 none Γ3) (s4:SetC Γ3 j2 none Γ4) (nt:NoT Γ4) (hsp:SpC Γ4 Γ5) (kk:ExT K .fresh .fresh u Γ5 P):ExT K (.spoil T) .fresh (spoil2 K ib im ik j1 j2 u) Γ P:=fun H0 F0 H F σ B e bb v0 D I=>by
  obtain ⟨vb,qb,Tb',eb,rb⟩:=e.has ib _ hb.eq
  cases eb
  obtain ⟨vm,qm,Tm',em,rm⟩:=e.has im _ hm.eq
  cases em
  obtain ⟨vk,qk,rk⟩:=e.has ik _ hk.eq
  cases rp_int rk
  obtain ⟨tb,b0,b1,b2,bs1,bs2,_,_,_,eb,rfl,sqb,_,_,_,_,_,_,_,_,hb2,lb2,_,gb2⟩:=sp_look e.le rb pb
  cases eb
  obtain ⟨tm,a0,a1,a2,vs1,vs2,_,_,_,em,rfl,sqm,T0,T1,T2,g0,h1,e1,z1,g1,h2,e2,z2,g2⟩:=sp_look e.le rm pm
  cases em
  have f0:FrT T H H:=fun b o z=>⟨fun _=>z,by rw [z]; exact fun w=>nomatch w⟩
  have S0:SpK T H a0 a1 a2 vs1 vs2 0 H:=⟨f0,g0,h1,fun z=>ny (by rw [z] at e1; exact List.length_eq_zero_iff.mp e1.symm),by omega,g1,h2,fun z=>nz (by rw [z] at e2; exact List.length_eq_zero_iff.mp e2.symm),g2⟩
  have tu:∀ {t:Addr} {vs:List V} {H':Hp},SqT K F t vs→FrT T H H'→SqT K H' t vs:=fun {t vs H'} ht f=>by
    rcases ht with (z | ⟨o,z⟩) | z
    · exact .inl (.inl ((f _ _ (e.le _ _ z)).1 (.inl rfl)))
    · exact .inl (.inr ⟨o,(f _ _ (e.le _ _ z)).1 (.inl rfl)⟩)
    · exact .inr z
  have kb:k < bs2.length:=by omega
  have gk:bs2[k]?=some bs2[k]:=List.getElem?_eq_getElem kb
  obtain ⟨c,wc,ec,tc,hc,nc,lc,rc⟩:=gb2 _ (List.mem_of_getElem? gk)
  rw [ec] at gk
  refine ⟨_,qb,tb,_,2,_,rfl,rfl,tu sqb f0,atI_nat (j:=2) rfl,_,qk,b2,bs2,k,_,rfl,rfl,SqL.of hb2,atI_nat gk,.inl ⟨rfl,_,SqL.of hc⟩,by show 1≤sizeLine; omega,fun p hp=>?_⟩
  have cp:c≠p:=ne_of_none hc hp
  refine ⟨c,wc,.ref p,rfl,rfl,by rw [upd_ne cp]; exact hc,by omega,?_⟩
  obtain ⟨vs1,S1⟩:=S0.app (b:=c) ⟨c,wc,rfl,tc,hc,nc,lc,rc⟩ hp hc
  generalize upd (upd H p (.lst [.int 1])) c (.lst (wc ++ [.ref p]))=H1 at S1
  obtain ⟨_,us,e0,gr,lr⟩:=S1.g0
  cases e0
  refine ⟨_,qm,tm,_,0,_,rfl,rfl,tu sqm S1.fr,atI0,.inl ⟨rfl,_,SqL.of gr.h⟩,a0,us,_,rfl,rfl,gr.h,by omega,?_⟩
  have S2:=S1.put (us':=us ++ [.int 2]) gr (fun x hx=>(List.mem_append.mp hx).elim (gr.i x) fun z=>⟨2,List.mem_singleton.mp z⟩) (fun z=>nomatch (List.append_eq_nil_iff.mp z).2) (by rw [List.length_append]; exact Nat.le_refl _)
  generalize upd H1 a0 (.lst (us ++ [.int 2]))=H2 at S2
  have sl:=e.len
  refine ⟨_,qm,tm,_,1,_,rfl,rfl,tu sqm S2.fr,atI1,a1,rfl,⟨vs1,SqL.of S2.e1⟩,?_⟩
  have lv:=S1.l1
  refine for_list (K:=K) (a:=a1) (xs:=vs1) (fun m σ' H'=>σ'.length=σ.length∧(∀ q,q≠j1→σ'[q]?=σ[q]?)∧SpK T H a0 a1 a2 vs1 vs2 (2 + m) H') ⟨rfl,fun _ _=>rfl,S2⟩ (fun m σ' H' _ h=>SqL.of h.2.2.e1) ?_ ?_
  · rintro m v σ' H' hv ⟨w1,w2,S3⟩
    have hm':=List.mem_of_getElem? hv
    have ml:m < vs1.length:=(List.getElem?_eq_some_iff.mp hv).1
    obtain ⟨d,ud,rfl,gd,ld⟩:=S3.g1 v hm'
    have y3:(σ'.set j1 (some (.ref d)))[j1]?=some (some (.ref d)):=List.getElem?_set_self (by omega)
    have S4:=S3.put (us':=ud ++ [.int 0]) gd (fun x hx=>(List.mem_append.mp hx).elim (gd.i x) fun z=>⟨0,List.mem_singleton.mp z⟩) (fun z=>nomatch (List.append_eq_nil_iff.mp z).2) (by rw [List.length_append]; exact Nat.le_refl _)
    exact ⟨_,y3,.inl ⟨rfl,_,SqL.of gd.h⟩,d,ud,_,rfl,rfl,gd.h,by omega,by simpa using w1,fun q hq=>by rw [List.getElem?_set_ne (Ne.symm hq)]; exact w2 q hq,S4⟩
  rintro σ2 H3 ⟨w1,w2,S3⟩
  have qm2:σ2[im]?=some (some (.ref tm)):=by rw [w2 im d1]; exact qm
  refine ⟨_,qm2,tm,_,2,_,rfl,rfl,tu sqm S3.fr,atI_nat (j:=2) rfl,a2,rfl,⟨vs2,SqL.of S3.e2⟩,?_⟩
  refine for_list (K:=K) (a:=a2) (xs:=vs2) (fun m σ' H'=>σ'.length=σ.length∧(∀ q,q≠j1→q≠j2→σ'[q]?=σ[q]?)∧∃ n,SpK T H a0 a1 a2 vs1 vs2 n H') ⟨w1,fun q h _=>w2 q h,_,S3⟩ (fun m σ' H' _ h=>by obtain ⟨_,_,_,z⟩:=h; exact SqL.of z.e2) ?_ ?_
  · rintro m v σ' H' hv ⟨w1,w2,n,S4⟩
    obtain ⟨d,wd,rfl,td,hd,nd,ld,rd⟩:=S4.g2 v (List.mem_of_getElem? hv)
    have y3:(σ'.set j2 (some (.ref d)))[j2]?=some (some (.ref d)):=List.getElem?_set_self (by omega)
    cases hw:wd with
    | nil=>exact absurd hw nd
    | cons r rr =>
      obtain ⟨f,uf,rfl,gf,nf⟩:=rd r (by rw [hw]; exact List.mem_cons_self)
      cases hu:uf with
      | nil=>exact absurd hu nf
      | cons w ur =>
        obtain ⟨i,rfl⟩:=gf.i w (by rw [hu]; exact List.mem_cons_self)
        have hd':H' d=some (.lst (.ref f :: rr)):=by rw [← hw]; exact hd
        have hf':H' f=some (.lst (.int i :: ur)):=by rw [← hu]; exact gf.h
        refine ⟨_,y3,d,_,0,_,rfl,rfl,SqL.of hd',atI0,f,_,0,_,rfl,rfl,SqL.of hf',atI0,i,1,rfl,rfl,_,y3,d,_,0,_,rfl,rfl,SqL.of hd',atI0,f,_,0,0,rfl,rfl,hf',by simp [ixN],?_⟩
        refine ⟨by simpa using w1,fun q h1 h2=>by rw [List.getElem?_set_ne (Ne.symm h2)]; exact w2 q h1 h2,_,S4.put gf (fun x hx=>?_) (fun z=>nomatch z) (by rw [hu]; exact Nat.le_succ _)⟩
        rcases List.mem_cons.mp hx with rfl | hx
        · exact ⟨_,rfl⟩
        · exact gf.i x (by rw [hu]; exact List.mem_cons_of_mem _ hx)
  rintro σ3 H4 ⟨w1,w2,n,S4⟩
  have e4:DEnv K (.spoil T) H0 F0 H F σ Γ4:=by
    have:=(((e.forget ib).forget im).forget j1).forget j2
    rw [s1.eq,s2.eq,s3.eq,s4.eq] at this
    exact this
  have l4:Γ4.length=Γ.length:=by rw [← e4.len]; exact e.len
  have out:∀ (m:Nat) (d:DV),Γ4[m]?=some (some d)→m≠j1∧m≠j2:=fun m d h=>by
    rw [← s4.eq] at h
    have n2:m≠j2:=fun z=>by subst z; rw [List.getElem?_set] at h; simp at h
    rw [List.getElem?_set_ne (Ne.symm n2),← s3.eq] at h
    exact ⟨fun z=>by subst z; rw [List.getElem?_set] at h; simp at h,n2⟩
  have e5:DEnv K (.spoil T) H0 F0 H F σ3 Γ4:=by
    refine ⟨e4.gr,e4.l0,e4.sd,e4.s0,by rw [w1]; exact e4.len,fun m d h=>?_,fun m n x y v w b h1 h2 g3 g4 p1 p2=>?_⟩
    · obtain ⟨c1,c2⟩:=out m d h
      rw [w2 m c1 c2]
      exact e4.has m d h
    · obtain ⟨c1,c2⟩:=out m _ h1
      obtain ⟨c3,c4⟩:=out n _ h2
      rw [w2 m c1 c2] at g3
      rw [w2 n c3 c4] at g4
      exact e4.ne m n x y v w b h1 h2 g3 g4 p1 p2
  exact kk H0 F0 H4 _ σ3 B (e5.spoilt (fun b o hb hq=>(S4.fr b o hb).1 hq) hsp (fun i j d f h _=>absurd h (nt.tn i d)) fun m es d us' h _ _=>absurd h (nt.tn m _)) (avoid_drop bb (avoid_of v0)) (.inl rfl) D I
end
end PD
open PySem L2 PD
local macro_rules | `(tactic| walk_at"comp_ok")=>`(tactic| (refine CompOk.of (by with_unfolding_all rfl) (by decide +kernel) rfl (by decide +kernel) ?_ (by with_unfolding_all rfl) rfl (by with_unfolding_all rfl); (repeat (with_unfolding_all refine List.forall_mem_cons.mpr ⟨by with_unfolding_all rfl,?_⟩)); exact List.forall_mem_nil _))
local macro_rules | `(tactic| walk_at"comp_okC")=>`(tactic| (refine CompOkC.of (by with_unfolding_all rfl) (fun _ _=>by with_unfolding_all rfl) (by decide +kernel) rfl rfl rfl (by decide +kernel) ?_ (by with_unfolding_all rfl) rfl (by with_unfolding_all rfl); (repeat (with_unfolding_all refine List.forall_mem_cons.mpr ⟨by with_unfolding_all rfl,?_⟩)); exact List.forall_mem_nil _))
local macro_rules | `(tactic| walk_at"comp_lam")=>`(tactic| exact CompOk.lam (by assumption) (by decide +kernel) rfl (by decide +kernel) (by decide +kernel) rfl (by with_unfolding_all rfl))
local macro_rules | `(tactic| walk_at"gc")=>`(tactic| ((repeat ((with_reducible apply GetC.succ))) ; (with_reducible exact GetC.zero)))
local macro_rules | `(tactic| walk_at"sc")=>`(tactic| ((repeat ((with_reducible apply SetC.succ))) ; (with_reducible exact SetC.zero)))
local macro_rules | `(tactic| walk_at"st")=>`(tactic| ((repeat (first | (with_reducible apply StartC.got) | ((with_reducible apply StartC.no)))) ; (with_reducible exact StartC.z)))
local macro_rules | `(tactic| walk_at"cc")=>`(tactic| ((repeat (first | (with_reducible apply CaptC.no) | ((with_reducible apply CaptC.got) ; focus walk_at"gc"))); (with_reducible exact CaptC.nil)))
local macro_rules | `(tactic| walk_at"mk")=>`(tactic| ((repeat (first | ((with_reducible apply MarkC.got); focus (first | exact MkD.fz | exact MkD.ow | exact MkD.im rfl | exact MkD.ox)) | (with_reducible apply MarkC.no))); (with_reducible exact MarkC.nil)))
local macro_rules | `(tactic| walk_at"sp")=>`(tactic| ((repeat (first | ((with_reducible apply SpC.got); focus (first | exact SpD.fz | exact SpD.ow | exact SpD.im rfl | exact SpD.ox | exact SpD.tn)) | (with_reducible apply SpC.no))); (with_reducible exact SpC.nil)))
local macro_rules | `(tactic| walk_at"sd")=>`(tactic| first | ((with_reducible apply asm) ; assumption) | decide | omega | skip)
local macro_rules | `(tactic| walk_at"ln")=>`(tactic| (simp only [List.length_cons,List.length_nil]; decide))
local macro_rules | `(tactic| walk_at"ev")=>`(tactic| first
  | (with_reducible exact ev_int)
  | (with_reducible exact ev_non)
  | (with_reducible exact ev_bl)
  | (with_reducible exact ev_str)
  | (with_reducible exact et_yes)
  | (with_reducible exact ea_nil)
  | (with_reducible exact ep_none)
  | ((with_reducible apply asm) ; (with_reducible assumption))
  | ((with_reducible apply evv) ; walk_at"gc"; decide)
  | ((with_reducible apply evi) ; walk_at"gc"; rfl)
  | ((with_reducible apply evtn) ; walk_at"gc"; done)
  | ((with_reducible apply evw) ; walk_at"gc"; decide)
  | ((with_reducible apply ev_add) <;> walk_at"ev")
  | ((with_reducible apply ev_sub) <;> walk_at"ev")
  | ((with_reducible apply ev_lt) <;> walk_at"ev")
  | ((with_reducible apply ev_le) <;> walk_at"ev")
  | ((with_reducible apply ev_gt) <;> walk_at"ev")
  | ((with_reducible apply ev_ge) <;> walk_at"ev")
  | ((with_reducible apply ev_mul) <;> walk_at"ev")
  | ((with_reducible apply ev_fdiv) <;> walk_at"ev")
  | ((with_reducible apply ev_fdivB) <;> walk_at"ev")
  | ((with_reducible apply ev_mod) <;> walk_at"ev")
  | ((with_reducible apply ev_pow) <;> walk_at"ev")
  | ((with_reducible apply ev_neg) <;> walk_at"ev")
  | ((with_reducible refine' ev_isN (EvE.toD (κ:=false) ?_)) <;> walk_at"ev")
  | ((with_reducible refine' ev_notN (EvE.toD (κ:=false) ?_)) <;> walk_at"ev")
  | ((with_reducible apply ev_ixL) <;> walk_at"ev")
  | ((with_reducible apply ev_ixT) <;> walk_at"ev")
  | ((with_reducible apply ev_eqI) <;> walk_at"ev" <;> done)
  | ((with_reducible apply ev_neI) <;> walk_at"ev" <;> done)
  | ((with_reducible apply ev_eqB) <;> walk_at"ev" <;> done)
  | ((with_reducible apply ev_neB) <;> walk_at"ev" <;> done)
  | ((with_reducible apply ev_eqS) <;> walk_at"ev" <;> done)
  | ((with_reducible apply ev_neS) <;> walk_at"ev" <;> done)
  | ((with_reducible apply ev_and) <;> (try (with_reducible intro _)) <;> walk_at"ev")
  | ((with_reducible apply ev_or) <;> (try (with_reducible intro _)) <;> walk_at"ev")
  | ((with_reducible apply ev_not) <;> walk_at"ev")
  | ((with_reducible apply et_test) <;> walk_at"ev")
  | ((with_reducible apply et_B) <;> walk_at"ev")
  | ((with_reducible apply et_and) <;> (try (with_reducible intro _)) <;> walk_at"ev")
  | ((with_reducible apply et_or) <;> (try (with_reducible intro _)) <;> walk_at"ev")
  | ((with_reducible apply et_not) <;> walk_at"ev")
  | ((with_reducible apply ea_cons) <;> walk_at"ev")
  | ((with_reducible apply ev_tup) <;> walk_at"ev")
  | ((with_reducible apply EvO.toE) ; ((with_reducible apply evo_lst)) <;> walk_at"ev")
  | ((with_reducible apply evo_lst) <;> walk_at"ev")
  | ((with_reducible apply ev_len) <;> walk_at"ev" <;> done)
  | ((with_reducible apply ev_lenT) <;> walk_at"ev")
  | ((with_reducible apply EvO.toE) ; ((with_reducible apply evo_list)) <;> walk_at"ev")
  | ((with_reducible apply evo_list) <;> walk_at"ev")
  | ((with_reducible apply ev_abs) <;> walk_at"ev")
  | ((with_reducible apply ep_some) <;> walk_at"ev")
  | ((with_reducible apply EvO.toE) ; ((with_reducible apply evo_slice)) <;> walk_at"ev")
  | ((with_reducible apply evo_slice) <;> walk_at"ev")
  | ((with_reducible apply EvO.toE) ; ((with_reducible apply evo_cat)) <;> walk_at"ev")
  | ((with_reducible apply evo_cat) <;> walk_at"ev")
  | ((with_reducible apply EvO.toE) ; ((with_reducible apply evo_rep)) <;> walk_at"ev")
  | ((with_reducible apply evo_rep) <;> walk_at"ev")
  | ((with_reducible apply EvO.toE) ; ((with_reducible apply evo_listRev)) <;> walk_at"ev")
  | ((with_reducible apply evo_listRev) <;> walk_at"ev")
  | ((with_reducible refine' ev_isi (EvE.toD (κ:=false) ?_) ?_) <;> walk_at"ev")
  | ((with_reducible apply ev_callF) <;> walk_at"ev")
  | ((with_reducible apply ev_callN) <;> walk_at"ev")
  | ((with_reducible apply evl_ints) ; walk_at"ev"; done)
  | ((with_reducible apply evl_opts) ; walk_at"ev"; done)
  | ((with_reducible apply EvE.toL) ; walk_at"ev"; done)
  | ((with_reducible apply EvO.toL) ; walk_at"ev"; done)
  | (with_reducible apply isE)
  | (with_reducible apply isL)
  | (with_reducible apply isT)
  | (with_reducible apply isA)
  | (with_reducible apply isO)
  | (with_reducible apply isD)
  | (with_reducible apply isI)
  | (with_reducible exact atI0)
  | (with_reducible exact atI1)
  | ((with_reducible apply asm) ; (with_reducible assumption))
  | ((with_reducible apply kit_of) ; with_unfolding_all rfl)
  | (simp only [List.length_cons,List.length_nil]; decide)
  | decide
  | omega
  | skip)
local macro_rules | `(tactic| walk_at"go")=>`(tactic| repeat (first
  | ((with_reducible apply exo (te:=tLst tNil) true) ; (focus (walk_at"ev"; done)); (focus walk_at"sc"))
  | ((with_reducible apply exs true) ; (focus (walk_at"ev"; done)); (focus walk_at"sc"))
  | ((with_reducible apply exs false) ; (focus (walk_at"ev"; done)); (focus walk_at"sc"))
  | ((with_reducible apply exa) ; (focus walk_at"gc"); (focus (walk_at"ev"; done)); (focus walk_at"sc"); (focus (walk_at"sd"; done)))
  | (with_reducible apply exn)))
local macro_rules | `(tactic| walk_at"run")=>`(tactic| (apply run_def; assumption; assumption; assumption; assumption; focus walk_at"st"))
local macro_rules | `(tactic| walk_at"ot")=>`(tactic| first | exact oneT_of (Nat.le_refl 1) | exact oneT_of (Nat.zero_le 1))
local macro_rules | `(tactic| walk_at"sv")=>`(tactic| ((repeat (first | (with_reducible apply StartV.got) | ((with_reducible apply StartV.no)))) ; (with_reducible exact StartV.z)))
local macro_rules | `(tactic| walk_at"runv")=>`(tactic| (apply run_defV; assumption; assumption; assumption; assumption; focus walk_at"sv"))
namespace K19
open PySem L2 PD Cm
def top (i:Nat):Stmt:=PySem.Challenge.pw_causebook_k19_whole_set_by_hand.main.body.getD i (.Pass ⟨0,0,0,0⟩)
structure Bs (mg:Str→Option Value):Prop where
  len:mg "len" = none
  set:mg "set" = none
  list:mg "list" = none
  range:mg "range" = none
  reversed:mg "reversed" = none
  min:mg "min" = none
  isinstance:mg "isinstance" = none
  int:mg "int" = none
  bool:mg "bool" = none
  zip:mg "zip" = none
  all:mg "all" = none
  sorted:mg "sorted" = none
  sum:mg "sum" = none
  max:mg "max" = none
  tuple:mg "tuple" = none
structure Cs (K:PySem.W.Frag) (mg:Str→Option Value) (t_MOST_THINGS t_MOST_CAUSES t_LEAST_SIZE t_GREATEST_SIZE:Tok):Prop where
  n_MOST_THINGS:mg "MOST_THINGS" = some (.int 12 t_MOST_THINGS)
  n_MOST_CAUSES:mg "MOST_CAUSES" = some (.int 5 t_MOST_CAUSES)
  n_LEAST_SIZE:mg "LEAST_SIZE" = some (.int 2 t_LEAST_SIZE)
  n_GREATEST_SIZE:mg "GREATEST_SIZE" = some (.int 4 t_GREATEST_SIZE)
section
variable {P:Program} {w:World} {K:PySem.W.Frag} {mg:Str→Option Value} {base:Heap} {f:Addr} {fd:FuncData} {t_MOST_THINGS t_MOST_CAUSES t_LEAST_SIZE t_GREATEST_SIZE:Tok}
seal PE PA PS PSs PT PG PI
open Wd Sh Sx2
theorem line_big:200000 < sizeLine:=by decide
def pre_is_whole (ds:List PyData) (d:PyData):Prop:=∃ i:Int,ds=[.int i]∧d=.bool true
theorem len_is_whole (ds:List PyData) (d:PyData) (h:pre_is_whole ds d):ds.length=1:=by obtain ⟨ss,rfl,_⟩:=h; rfl
theorem sc_is_whole:FnScope ["thing"] ["thing"] (defScope (top 11)):=⟨rfl,rfl,rfl,by decide +kernel,rfl,by decide +kernel,by decide +kernel⟩
theorem ok_is_whole (F:Fun K "is_whole" "is_whole" (top 11) f fd) (B:Bs mg) (Z:Cs K mg t_MOST_THINGS t_MOST_CAUSES t_LEAST_SIZE t_GREATEST_SIZE)  : FnOk P w K mg base CX0 1 f fd ["thing"] (spD K true pre_is_whole):=by
  have sc:=sc_is_whole
  refine F.ok sc (fun vs H Q E h=>spD_len len_is_whole h) (fun cdv A outer s H vs Q E hr h=>?_)
  obtain ⟨Fh,ds,d,le,dp,p,q⟩:=h
  refine ⟨_,(pss_one (ps_ret (pe_and (pe_callB (call_isiDK (K:=K) rfl) rfl B.isinstance (by decide +kernel) (pa_cons (pv 0) (pa_cons (pe_bltn (v:=.ty "int") rfl B.int (by decide +kernel) rfl) pa_nil))) (pe_one (pe_not (pe_callB (call_isiDK (K:=K) rfl) rfl B.isinstance (by decide +kernel) (pa_cons (pv 0) (pa_cons (pe_bltn (v:=.ty "bool") rfl B.bool (by decide +kernel) rfl) pa_nil)))))))),?_⟩
  have hN:(["thing"]:List Str).length=1:=rfl
  obtain ⟨i,rfl,rfl⟩:=p
  walk_at"run"
  exact ex_ret (d:=.bool (true && !false)) true (by walk_at"ev") rfl (.inl ⟨rfl,rfl⟩)
structure Shr (n:Nat) (a b:Int):Prop where
  low:Low a b
  ba:a.natAbs < 2 ^ n
  bb:b.natAbs < 2 ^ n
abbrev shD (x:Int×Int):PyData:=.tuple [.int x.1,.int x.2]
def pre_common_divisor (ds:List PyData) (d:PyData):Prop:=∃ a b:Int,ds=[.int a,.int b]∧1≤b∧d=.int (Int.gcd a b:Nat)
theorem len_common_divisor (ds:List PyData) (d:PyData) (h:pre_common_divisor ds d):ds.length=2:=by obtain ⟨a,b,rfl,_⟩:=h; rfl
theorem sc_common_divisor:FnScope ["number", "bottom", "greater", "less", "rest"] ["number", "bottom"] (defScope (top 12)):=⟨rfl,rfl,rfl,by decide +kernel,rfl,by decide +kernel,by decide +kernel⟩
theorem ok_common_divisor (F:Fun K "common_divisor" "common_divisor" (top 12) f fd) (B:Bs mg) (Z:Cs K mg t_MOST_THINGS t_MOST_CAUSES t_LEAST_SIZE t_GREATEST_SIZE)  : FnOk P w K mg base CX0 1 f fd ["number", "bottom"] (spD K true pre_common_divisor):=by
  have sc:=sc_common_divisor
  refine F.ok sc (fun vs H Q E h=>spD_len len_common_divisor h) (fun cdv A outer s H vs Q E hr h=>?_)
  obtain ⟨Fh,ds,d,le,dp,p,q⟩:=h
  refine ⟨_,(pss_cons (ps_set (i:=2) sc.nd rfl (Or.inl rfl) (pv 0))
      (pss_cons (ps_set (i:=3) sc.nd rfl (Or.inl rfl) (pv 1))
      (pss_cons (ps_while PassesOwn.never (pt_cmpR op_ne (pv 3) pe_int (nomark _)) (pss_cons (ps_set (i:=4) sc.nd rfl (Or.inl rfl) (pe_op op_mod (pv 2) (pv 3)))
      (pss_cons (ps_set (i:=2) sc.nd rfl (Or.inl rfl) (pv 3))
      (pss_one (ps_set (i:=3) sc.nd rfl (Or.inl rfl) (pv 4))))))
      (pss_one (ps_ret (pv 2)))))),?_⟩
  have hN:(["number", "bottom", "greater", "less", "rest"]:List Str).length=5:=rfl
  obtain ⟨a,b,rfl,hb,rfl⟩:=p
  walk_at"run"
  walk_at"go"
  refine ex_seq (fun Γ=>∃ y z,Γ=[some (.fz false (.int a)),some (.fz false (.int b)),some (.fz true (.int (Int.gcd a b:Nat))),y,z]) (ex_while (fun m Γ=>∃ x y z,Γ=[some (.fz false (.int a)),some (.fz false (.int b)),some (.fz true (.int x)),some (.fz true (.int y)),z]∧0≤y∧(y=0→0 < x)∧Int.gcd x y=Int.gcd a b∧m=y.toNat) b.toNat ⟨a,b,none,rfl,by omega,by omega,rfl,rfl⟩ ?_) ?_
  · rintro m Γ' ⟨x,y,z,rfl,hy,hx,hg,rfl⟩
    refine ⟨!decide (y=0),by walk_at"ev", fun c=>?_,fun c=>?_⟩
    · have y0:y≠0:=by simpa using c
      have yp:0 < y:=by omega
      refine exs true (by walk_at"ev") (by walk_at"sc") ?_
      refine exs true (by walk_at"ev") (by walk_at"sc") ?_
      refine exs1 true (by walk_at"ev") (by walk_at"sc") ?_
      have h1:=Int.emod_lt_of_pos x yp
      have h2:=Int.emod_nonneg x y0
      exact ⟨_,by omega,y,x % y,_,rfl,h2,fun _=>yp,by rw [gcd_step]; exact hg,rfl⟩
    · have y0:y=0:=by simpa using c
      subst y0
      rw [Int.gcd_zero_right] at hg
      have e:x=((Int.gcd a b:Nat):Int):=by have:=hx rfl; omega
      rw [e]
      exact ⟨_,_,rfl⟩
  · rintro Γ' ⟨y,z,rfl⟩
    exact ex_ret true (by walk_at"ev") rfl (.inl ⟨rfl,rfl⟩)
theorem cdiv_gcd {a b:Int} {n:Nat} {x:Int} (h:1≤b) (hb:b.natAbs < 2 ^ n) (hn:n≤9000):CDivB x ((Int.gcd a b:Nat):Int):=⟨gcd_pos h,up (dn (gcd_le h) hb) hn⟩
theorem Shr.up {m n:Nat} {a b:Int} (h:Shr m a b) (hn:m≤n):Shr n a b:=⟨h.low,Sh.up h.ba hn,Sh.up h.bb hn⟩
theorem mk_shr {a b:Int} {n:Nat} (hb:1≤b) (h1:a.natAbs < 2 ^ n) (h2:b.natAbs < 2 ^ n):Shr n (mk a b).1 (mk a b).2 :=
  ⟨mk_low hb,dn (div_le (Int.gcd_dvd_left a b)) h1,dn (div_le (Int.gcd_dvd_right a b)) h2⟩
def pre_share (ds:List PyData) (d:PyData):Prop:=∃ a b:Int,ds=[.int a,.int b]∧1≤b∧b.natAbs < 2 ^ 1000∧d=shD (mk a b)
theorem len_share (ds:List PyData) (d:PyData) (h:pre_share ds d):ds.length=2:=by obtain ⟨a,b,rfl,_⟩:=h; rfl
theorem sc_share:FnScope ["top", "bottom", "divisor"] ["top", "bottom"] (defScope (top 13)):=⟨rfl,rfl,rfl,by decide +kernel,rfl,by decide +kernel,by decide +kernel⟩
theorem ok_share (F:Fun K "share" "share" (top 13) f fd) (B:Bs mg) (Z:Cs K mg t_MOST_THINGS t_MOST_CAUSES t_LEAST_SIZE t_GREATEST_SIZE) (c_is_whole:Callee P w K mg base CX0 "is_whole" ["thing"] 1 (spD K true pre_is_whole)) (c_common_divisor:Callee P w K mg base CX0 "common_divisor" ["number", "bottom"] 1 (spD K true pre_common_divisor)):FnOk P w K mg base CX0 2 f fd ["top", "bottom"] (spD K true pre_share):=by
  have sc:=sc_share
  refine F.ok sc (fun vs H Q E h=>spD_len len_share h) (fun cdv A outer s H vs Q E hr h=>?_)
  obtain ⟨Fh,ds,d,le,dp,p,q⟩:=h
  refine ⟨_,(pss_cons (ps_if (PW.pt (pw_or (pt_not (pt_val (pe_fn c_is_whole (hr.mono (by decide)) rfl pass0 (pa_cons (pv 0) pa_nil)))) (pw_or1 (pt_not (pt_val (pe_fn c_is_whole (hr.mono (by decide)) rfl pass0 (pa_cons (pv 1) pa_nil))))))) (pss_one ps_never) pss_nil)
      (pss_cons (ps_if (pt_cmpR op_eq (pv 1) pe_int (nomark _)) (pss_one ps_never) pss_nil)
      (pss_cons (ps_if (pt_cmpR op_lt (pv 1) pe_int (nomark _)) (pss_one ps_never) pss_nil)
      (pss_cons (ps_set (i:=2) sc.nd rfl (Or.inl rfl) (pe_fn c_common_divisor (hr.mono (by decide)) rfl pass0 (pa_cons (pv 0) (pa_cons (pv 1) pa_nil))))
      (pss_one (ps_ret (pe_tup (pa_cons (pe_op op_fdivB (pv 0) (pv 2)) (pa_cons (pe_op op_fdivB (pv 1) (pv 2)) pa_nil))))))))),?_⟩
  have hN:(["top", "bottom", "divisor"]:List Str).length=3:=rfl
  obtain ⟨a,b,rfl,hb,hbb,rfl⟩:=p
  walk_at"run"
  refine exifF (b:=!true || !true) (et_or (et_not (et_B (ev_callF (by walk_at"ev") ⟨_,rfl,rfl⟩))) fun _=>et_not (et_B (ev_callF (by walk_at"ev") ⟨_,rfl,rfl⟩))) rfl ?_
  refine exifF (by walk_at"ev") (by simp; omega) ?_
  refine exifF (by walk_at"ev") (by simp; omega) ?_
  have e1:∀ x,CDivB x ((Int.gcd a b:Nat):Int):=fun x=>cdiv_gcd hb hbb (by omega)
  refine exs true (ev_callF (by walk_at"ev") ⟨a,b,rfl,hb,rfl⟩) (by walk_at"sc") ?_
  refine ex_ret true (by walk_at"ev"; exact e1 _; exact e1 _) ?_ (.inl ⟨rfl,rfl⟩)
  rfl
def pre_rank (ds:List PyData) (d:PyData):Prop:=∃ ss ws:List Int,ds=[il ss,il ws]∧(∀ s∈ss,1≤s∧s≤9)∧d=.int (rkF ss ws)
theorem len_rank (ds:List PyData) (d:PyData) (h:pre_rank ds d):ds.length=2:=by obtain ⟨ss,ws,rfl,_⟩:=h; rfl
theorem zip_take {xs ys:List Int} {i:Nat} {x y:Int} (h1:xs[i]?=some x) (h2:ys[i]?=some y):(xs.zip ys).take (i + 1)=(xs.zip ys).take i ++ [(x,y)]:=take_succ (List.getElem?_zip_eq_some.mpr ⟨h1,h2⟩)
theorem sc_rank:FnScope ["sizes", "world", "place", "size", "value"] ["sizes", "world"] (defScope (top 17)):=⟨rfl,rfl,rfl,by decide +kernel,rfl,by decide +kernel,by decide +kernel⟩
theorem ok_rank (F:Fun K "rank" "rank" (top 17) f fd) (B:Bs mg) (Z:Cs K mg t_MOST_THINGS t_MOST_CAUSES t_LEAST_SIZE t_GREATEST_SIZE)  : FnOk P w K mg base CX0 1 f fd ["sizes", "world"] (spD K true pre_rank):=by
  have sc:=sc_rank
  refine F.ok sc (fun vs H Q E h=>spD_len len_rank h) (fun cdv A outer s H vs Q E hr h=>?_)
  obtain ⟨Fh,ds,d,le,dp,p,q⟩:=h
  refine ⟨_,(pss_cons (ps_set (i:=2) sc.nd rfl (Or.inl rfl) pe_int)
      (pss_cons (ps_for PassesOwn.never rfl (pi_zipK (K:=K) rfl rfl B.zip (pa_cons (pv 0) (pa_cons (pv 1) pa_nil))) (pg_tupK (K:=K) (n:=2) rfl rfl (pgs_cons (pg_name (i:=3) sc.nd rfl (Or.inl rfl)) (pgs_cons (pg_name (i:=4) sc.nd rfl (Or.inl rfl)) pgs_nil))) (pss_one (ps_set (i:=2) sc.nd rfl (Or.inl rfl) (pe_op op_add (pe_op op_mulB (pv 2) (pv 3)) (pv 4)))))
      (pss_one (ps_ret (pv 2))))),?_⟩
  have hN:(["sizes", "world", "place", "size", "value"]:List Str).length=5:=rfl
  obtain ⟨ss,ws,rfl,hs,rfl⟩:=p
  walk_at"run"
  walk_at"go"
  refine exfor false (fun i Γ=>∃ x y,Γ=[some (.fz false (il ss)),some (.fz false (il ws)),some (.fz true (.int (((ss.zip ws).take i).foldl (fun a x=>a * x.1 + x.2) 0))),x,y]) (ei_zip (by walk_at"ev")) ⟨none,none,by rw [List.take_zero]; rfl⟩ ?_ ?_
  · rintro i d Γ' hd ⟨x,y,rfl⟩
    obtain ⟨s,v,hs',hv',rfl⟩:=get_zw hd
    have hb:=hs s (List.mem_of_getElem? hs')
    refine ⟨_,egt (by walk_at"sc") (by walk_at"sc") ?_⟩
    refine exs1 true (by walk_at"ev"; exact small_mul (by omega) (by omega)) (by walk_at"sc") ?_
    show ∃ x y,_
    rw [zip_take hs' hv',List.foldl_append]
    exact ⟨_,_,rfl⟩
  · rintro Γ' ⟨x,y,rfl⟩
    refine ex_ret true (by walk_at"ev") ?_ (.inl ⟨rfl,rfl⟩)
    unfold rkF
    rw [List.take_of_length_le]
    rw [List.length_zipWith,List.length_zip,List.length_map,List.length_map]
    exact Nat.le_refl _
abbrev nl (ks:List Nat):PyData:=.list (ks.map fun k:Nat=>.int (k:Int))
theorem nl_imm (ks:List Nat):∀ d∈ks.map (fun k:Nat=>PyData.int (k:Int)),imm d=true:=fun d hd=>by
  obtain ⟨n,_,rfl⟩:=List.mem_map.mp hd
  rfl
def pre_picked (ds:List PyData) (d:PyData):Prop:=∃ (vs:List PyData) (ks:List Nat),ds=[.list vs,nl ks]∧(∀ d∈vs,imm d=true)∧(∀ k∈ks,k < vs.length)∧ks.length≤63∧d=.list (ks.map fun k=>vs.getD k .none)
theorem len_picked (ds:List PyData) (d:PyData) (h:pre_picked ds d):ds.length=2:=by obtain ⟨a,b,rfl,_⟩:=h; rfl
def pkF (vs:List PyData):PyData→PyData
  | .int k=>vs.getD k.toNat .none
  | _=>.none
theorem pk_ints (ss:List Int) (ks:List Nat) (h:∀ k∈ks,k < ss.length):(ks.map fun k=>(ss.map PyData.int).getD k .none)=(pk ss ks).map .int:=by
  unfold Sx2.pk
  rw [List.map_map]
  refine List.map_congr_left fun k hk=>?_
  have:=h k hk
  rw [List.getD_eq_getElem?_getD,List.getElem?_map,List.getElem?_eq_getElem this]
  show PyData.int _=PyData.int (ss.getD k 0)
  rw [List.getD_eq_getElem?_getD,List.getElem?_eq_getElem this]
  rfl
theorem sc_picked:FnScope ["values", "things"] ["values", "things"] (defScope (top 35)):=⟨rfl,rfl,rfl,by decide +kernel,rfl,by decide +kernel,by decide +kernel⟩
theorem ok_picked (F:Fun K "picked" "picked" (top 35) f fd) (B:Bs mg) (Z:Cs K mg t_MOST_THINGS t_MOST_CAUSES t_LEAST_SIZE t_GREATEST_SIZE)  : FnOk P w K mg base CX0 1 f fd ["values", "things"] (spD K true pre_picked):=by
  have sc:=sc_picked
  refine F.ok sc (fun vs H Q E h=>spD_len len_picked h) (fun cdv A outer s H vs Q E hr h=>?_)
  obtain ⟨Fh,ds,d,le,dp,p,q⟩:=h
  refine ⟨_,(pss_one (ps_ret (pe_comp rfl (N:=["k", "values"]) (js:=[none,some 0]) (by walk_at"comp_ok") (pi_listK (K:=K) rfl (pv 1)) (fun _ _ _ _=>(pg_name (i:=0) (show List.Nodup (["k", "values"]:List PySem.Str) by decide +kernel) rfl (Or.inl rfl))) (fun _ _ _ _=>pif_nil) (fun _ _ _ _=>(pe_ix (ix_listK (K:=K) rfl) (pv 1) (pv 0) (fun _ _=>rfl)))))),?_⟩
  have hN:(["values", "things"]:List Str).length=2:=rfl
  obtain ⟨vs',ks,rfl,him,hk,hl,rfl⟩:=p
  walk_at"run"
  refine ex_ret true (EvO.toE (EvO.eq (evo_map (is:=[0]) false (pkF vs') (ei_list (by walk_at"ev")) (by walk_at"cc") rfl (by decide) ?_ ?_) ?_)) rfl (.inl ⟨rfl,rfl⟩)
  · rw [List.length_map]
    have:=line_big
    omega
  · intro d hd
    obtain ⟨k,hk',rfl⟩:=List.mem_map.mp hd
    have hkl:=hk k hk'
    refine egn (by walk_at"sc") ?_
    have at1:atI vs' (k:Int)=some (pkF vs' (.int k)):=atI_nat (by
      show _=some (vs'.getD (Int.toNat (k:Int)) .none)
      rw [Int.toNat_natCast,List.getD_eq_getElem?_getD,List.getElem?_eq_getElem hkl]
      rfl)
    exact ev_ixL ((EvE.toL (κ:=false) (by walk_at"ev")).imm him) (by walk_at"ev") at1
  · rw [List.map_map]
    rfl
theorem at_ints {ns:List Int} {k:Nat} (h:k < ns.length):atI (ns.map PyData.int) (k:Int)=some (.int (ns.getD k 0)):=by
  rw [List.getD_eq_getElem?_getD,List.getElem?_eq_getElem h]
  exact atI_map (List.getElem?_eq_getElem h)
abbrev nls (cs:List (List Nat)):PyData:=.list (cs.map nl)
abbrev tbl (ts:List (List (List Int))):PyData:=.list (ts.map lls)
abbrev bookD (ss:List Int) (cs:List (List Nat)) (ts:List (List (List Int))):PyData:=.tuple [il ss,nls cs,tbl ts]
structure RowOk (s:Int) (r:List Int):Prop where
  l:(r.length:Int)=s
  w:∀ x∈r,0≤x∧x < 10 ^ 60
  p:1≤r.sum
  b:r.sum < 10 ^ 62
structure BkOk (ss:List Int) (cs:List (List Nat)) (ts:List (List (List Int))):Prop where
  s:∀ s∈ss,2≤s∧s≤4
  n:ss.length≤12
  cl:cs.length=ss.length
  tl:ts.length=ss.length
  ck:∀ (k:Nat) own,cs[k]?=some own→(∀ c∈own,c < ss.length)∧own.length≤5
  tk:∀ (k:Nat) own t,cs[k]?=some own→ts[k]?=some t→(t.length:Int)=prod (pk ss own)
  rk:∀ (k:Nat) t,ts[k]?=some t→∀ r∈t,RowOk (ss.getD k 0) r
theorem atI2 {α:Type} {a b c:α} {l:List α}:atI (a :: b :: c :: l) 2=some c:=atI_nat (j:=2) rfl
theorem at_intsZ {ns:List Int} {i:Int} (h0:0≤i) (h:i < ns.length):atI (ns.map PyData.int) i=some (.int (ns.getD i.toNat 0)):=by
  have:=at_ints (ns:=ns) (k:=i.toNat) (by omega)
  rw [Int.toNat_of_nonneg h0] at this
  exact this
theorem getD_some {α:Type} {l:List α} {k:Nat} {d:α} (h:k < l.length):l[k]?=some (l.getD k d):=by
  rw [List.getD_eq_getElem?_getD,List.getElem?_eq_getElem h]
  rfl
theorem pk_snoc (ss:List Int) (ks:List Nat) (k:Nat):pk ss (ks ++ [k])=pk ss ks ++ [ss.getD k 0]:=by
  unfold Sx2.pk
  rw [List.map_append]
  rfl
theorem getD_size {ss:List Int} (h:∀ s∈ss,2≤s∧s≤4) {k:Nat} (hk:k < ss.length):2≤ss.getD k 0∧ss.getD k 0≤4:=by
  rw [List.getD_eq_getElem?_getD,List.getElem?_eq_getElem hk]
  exact h _ (List.getElem_mem hk)
theorem prod_le:∀ (xs:List Int) (n:Nat),(∀ x∈xs,1≤x∧x≤4)→xs.length≤n→prod xs≤4 ^ n∧1≤prod xs
  | [],n,_,_=>by
    show (1:Int)≤4 ^ n∧(1:Int)≤1
    exact ⟨by have:=Int.pow_pos (n:=4) (m:=n) (by decide); omega,by decide⟩
  | x :: r,0,_,h=>by cases h
  | x :: r,n + 1,hx,h=>by
    have ih:=prod_le r n (fun y hy=>hx y (List.mem_cons_of_mem _ hy)) (by simpa using h)
    have h1:=hx x List.mem_cons_self
    show x * prod r≤4 ^ (n + 1)∧1≤x * prod r
    rw [Int.pow_succ,Int.mul_comm ((4:Int) ^ n) 4]
    refine ⟨Int.mul_le_mul h1.2 ih.1 (by omega) (by decide),?_⟩
    have:=Int.mul_le_mul h1.1 ih.2 (by decide) (by omega)
    omega
theorem BkOk.pr {ss:List Int} {cs:List (List Nat)} {ts:List (List (List Int))} (h:BkOk ss cs ts) {k:Nat} {own:List Nat} (hc:cs[k]?=some own):prod (pk ss own)≤1024:=by
  have c:=h.ck k own hc
  have:=prod_le (pk ss own) 5 (fun x hx=>by
    obtain ⟨j,hj,rfl⟩:=List.mem_map.mp hx
    have:=getD_size h.s (k:=j) (c.1 j hj)
    omega) (by unfold Sx2.pk; rw [List.length_map]; exact c.2)
  exact this.1
theorem BkOk.tlen {ss:List Int} {cs:List (List Nat)} {ts:List (List (List Int))} (h:BkOk ss cs ts) {t:List (List Int)} (ht:t∈ts):t.length≤1024:=by
  obtain ⟨k,hk⟩:=List.mem_iff_getElem?.mp ht
  have kl:=(List.getElem?_eq_some_iff.mp hk).1
  rw [h.tl,← h.cl] at kl
  have c:=getD_some (d:=([]:List Nat)) kl
  have e:=h.tk k _ _ c hk
  have:=h.pr c
  omega
def nD (cs:List Nat):List PyData:=cs.map fun k:Nat=>.int (k:Int)
def zl (ks:List Nat):List Int:=ks.map fun k:Nat=>(k:Int)
theorem nl_zl (ks:List Nat):nl ks=il (zl ks):=by
  unfold zl
  show PyData.list _=.list _
  rw [List.map_map]
  rfl
theorem BkOk.pr1 {ss:List Int} {cs:List (List Nat)} {ts:List (List (List Int))} (h:BkOk ss cs ts) {k:Nat} {own:List Nat} (hc:cs[k]?=some own):1≤prod (pk ss own):=by
  have c:=h.ck k own hc
  have:=prod_le (pk ss own) 5 (fun x hx=>by
    obtain ⟨j,hj,rfl⟩:=List.mem_map.mp hx
    have:=getD_size h.s (k:=j) (c.1 j hj)
    omega) (by unfold Sx2.pk; rw [List.length_map]; exact c.2)
  exact this.2
theorem dd_id {ns:List Int} (h:ns.Nodup):dd ns=ns:=by
  suffices z:∀ n,dd (ns.take n)=ns.take n by simpa using z ns.length
  intro n
  induction n with
  | zero=>rfl
  | succ n ih =>
    by_cases hn:n < ns.length
    · have e:ns.take (n + 1)=ns.take n ++ [ns[n]]:=by rw [List.take_succ,List.getElem?_eq_getElem hn]; rfl
      rw [e,dd_snoc,ih]
      unfold PyProof.Rows.step_dedup
      refine if_neg fun z=>?_
      obtain ⟨x,hx,ex⟩:=List.any_eq_true.mp z
      have ex:=eq_of_beq ex
      subst ex
      have hh:=h.sublist (List.take_sublist (n + 1) ns)
      rw [e,List.nodup_append] at hh
      exact hh.2.2 _ hx _ (List.mem_singleton.mpr rfl) rfl
    · have e1:ns.take (n + 1)=ns.take n:=by rw [List.take_of_length_le (by omega),List.take_of_length_le (by omega)]
      rw [e1]
      exact ih
theorem rise_set {r:List Nat} (h:r.Pairwise (· < ·)):(srt (dd (zl r))).map PyData.int=r.map fun k:Nat=>PyData.int (k:Int):=by
  have hz:(zl r).Pairwise (· < ·):=by
    unfold zl
    rw [List.pairwise_map]
    exact h.imp fun {a b} z=>by omega
  have e1:dd (zl r)=zl r:=dd_id (by rw [List.nodup_iff_pairwise_ne]; exact hz.imp fun {a b} z=>by omega)
  have e2:zl r=srt (zl r):=srt_eq (.refl _) (hz.imp fun {a b} z=>by omega)
  rw [e1,← e2]
  unfold zl
  rw [List.map_map]
  rfl
theorem shaped_nls (cs:List (List Nat)):SeqAt.shaped (nls cs)=true:=shaped_of (lay_map (g:=nl) (fun k=>lay_map (g:=fun k:Nat=>PyData.int (k:Int)) (fun _=>rfl) k) cs) (by
  have:=depth_map (g:=nl) (n:=1) (fun k=>by
    have:=depth_map (g:=fun k:Nat=>PyData.int (k:Int)) (n:=0) (fun _=>Nat.le_refl _) k
    show PyData.depthAll _ + 1≤1
    omega) cs
  show PyData.depthAll _ + 1≤50
  omega)
theorem shaped_nl (ks:List Nat):SeqAt.shaped (nl ks)=true:=shaped_of (lay_map (g:=fun k:Nat=>PyData.int (k:Int)) (fun _=>rfl) ks) (by
  have:=depth_map (g:=fun k:Nat=>PyData.int (k:Int)) (n:=0) (fun _=>Nat.le_refl _) ks
  show PyData.depthAll _ + 1≤50
  omega)
structure WdOk (ss ws:List Int):Prop where
  l:ws.length=ss.length
  v:∀ (i:Nat) s v,ss[i]?=some s→ws[i]?=some v→0≤v∧v < s
theorem pk_in {ss ws:List Int} (h:WdOk ss ws) {own:List Nat} (ho:∀ c∈own,c < ss.length):0≤rkF (pk ss own) (pk ws own)∧rkF (pk ss own) (pk ws own) < prod (pk ss own):=by
  refine rkF_bound (by unfold Sx2.pk; rw [List.length_map,List.length_map]) fun i s v h1 h2=>?_
  unfold Sx2.pk at h1 h2
  rw [List.getElem?_map] at h1 h2
  cases e:own[i]? with
  | none=>rw [e] at h1; cases h1
  | some c =>
    rw [e] at h1 h2
    have hc:=ho c (List.mem_of_getElem? e)
    have e1:ss[c]?=some s:=by
      have:ss.getD c 0=s:=Option.some.inj h1
      rw [← this,List.getD_eq_getElem?_getD,List.getElem?_eq_getElem hc]
      rfl
    have e2:ws[c]?=some v:=by
      have:ws.getD c 0=v:=Option.some.inj h2
      rw [← this,List.getD_eq_getElem?_getD,List.getElem?_eq_getElem (by rw [h.l]; exact hc)]
      rfl
    exact h.v c s v e1 e2
def rowOf (ss:List Int) (cs:List (List Nat)) (ts:List (List (List Int))) (k:Nat) (ws:List Int):List Int:=(ts.getD k []).getD (rkF (pk ss (cs.getD k [])) (pk ws (cs.getD k []))).toNat []
structure AtOk (ss:List Int) (cs:List (List Nat)) (ts:List (List (List Int))) (k:Nat) (ws:List Int) (own:List Nat) (t:List (List Int)) (j:Nat):Prop where
  fc:cs[k]?=some own
  ft:ts[k]?=some t
  o:∀ c∈own,c < ss.length
  ol:own.length≤5
  fj:rkF (pk ss own) (pk ws own)=(j:Int)
  fr:t[j]?=some (rowOf ss cs ts k ws)
  ok:RowOk (ss.getD k 0) (rowOf ss cs ts k ws)
theorem BkOk.at {ss:List Int} {cs:List (List Nat)} {ts:List (List (List Int))} (h:BkOk ss cs ts) {ws:List Int} (hw:WdOk ss ws) {k:Nat} (hk:k < ss.length):∃ own t j,AtOk ss cs ts k ws own t j:=by
  have c:cs[k]?=some (cs.getD k []):=by rw [List.getD_eq_getElem?_getD,List.getElem?_eq_getElem (by rw [h.cl]; exact hk)]; rfl
  have t:ts[k]?=some (ts.getD k []):=by rw [List.getD_eq_getElem?_getD,List.getElem?_eq_getElem (by rw [h.tl]; exact hk)]; rfl
  have o:=h.ck k _ c
  have b:=pk_in hw o.1
  have tl:=h.tk k _ _ c t
  have r:(ts.getD k [])[(rkF (pk ss (cs.getD k [])) (pk ws (cs.getD k []))).toNat]?=some (rowOf ss cs ts k ws):=by
    unfold rowOf
    rw [List.getD_eq_getElem?_getD (l:=ts.getD k []),List.getElem?_eq_getElem (by omega)]
    rfl
  exact ⟨_,_,_,c,t,o.1,o.2,(Int.toNat_of_nonneg b.1).symm,r,h.rk k _ t _ (List.mem_of_getElem? r)⟩
def pre_row_at (ds:List PyData) (d:PyData):Prop:=∃ (ss:List Int) (cs:List (List Nat)) (ts:List (List (List Int))) (k:Nat) (ws:List Int),ds=[bookD ss cs ts,.int k,il ws]∧BkOk ss cs ts∧WdOk ss ws∧k < ss.length∧d=il (rowOf ss cs ts k ws)
theorem len_row_at (ds:List PyData) (d:PyData) (h:pre_row_at ds d):ds.length=3:=by obtain ⟨a,b,c,e,f,rfl,_⟩:=h; rfl
theorem szpos {ss:List Int} (h:∀ s∈ss,2≤s∧s≤4) {own:List Nat} (ho:∀ c∈own,c < ss.length):∀ s∈pk ss own,1≤s∧s≤9:=fun s hs=>by
  obtain ⟨k,hk,rfl⟩:=List.mem_map.mp hs
  have hk':=ho k hk
  have:=h _ (List.getElem_mem hk')
  rw [List.getD_eq_getElem?_getD,List.getElem?_eq_getElem hk']
  show 1≤ss[k]∧ss[k]≤9
  omega
theorem sc_row_at:FnScope ["book", "k", "world", "own", "place"] ["book", "k", "world"] (defScope (top 36)):=⟨rfl,rfl,rfl,by decide +kernel,rfl,by decide +kernel,by decide +kernel⟩
theorem ok_row_at (F:Fun K "row_at" "row_at" (top 36) f fd) (B:Bs mg) (Z:Cs K mg t_MOST_THINGS t_MOST_CAUSES t_LEAST_SIZE t_GREATEST_SIZE) (c_rank:Callee P w K mg base CX0 "rank" ["sizes", "world"] 1 (spD K true pre_rank)) (c_picked:Callee P w K mg base CX0 "picked" ["values", "things"] 1 (spD K true pre_picked)):FnOk P w K mg base CX0 2 f fd ["book", "k", "world"] (spD K true pre_row_at):=by
  have sc:=sc_row_at
  refine F.ok sc (fun vs H Q E h=>spD_len len_row_at h) (fun cdv A outer s H vs Q E hr h=>?_)
  obtain ⟨Fh,ds,d,le,dp,p,q⟩:=h
  refine ⟨_,(pss_cons (ps_set (i:=3) sc.nd rfl (Or.inl rfl) (pe_ix (ix_listK (K:=K) rfl) (pe_ix (ix_tupK (K:=K) rfl) (pv 0) pe_int (fun _ _=>rfl)) (pv 1) (fun _ _=>rfl)))
      (pss_cons (ps_set (i:=4) sc.nd rfl (Or.inl rfl) (pe_fn c_rank (hr.mono (by decide)) rfl pass0 (pa_cons (pe_fn c_picked (hr.mono (by decide)) rfl pass0 (pa_cons (pe_ix (ix_tupK (K:=K) rfl) (pv 0) pe_int (fun _ _=>rfl)) (pa_cons (pv 3) pa_nil))) (pa_cons (pe_fn c_picked (hr.mono (by decide)) rfl pass0 (pa_cons (pv 2) (pa_cons (pv 3) pa_nil))) pa_nil))))
      (pss_one (ps_ret (pe_callTy (call_list_ofK (K:=K) rfl) rfl B.list (by decide +kernel) (pa_cons (pe_ix (ix_listK (K:=K) rfl) (pe_ix (ix_listK (K:=K) rfl) (pe_ix (ix_tupK (K:=K) rfl) (pv 0) pe_int (fun _ _=>rfl)) (pv 1) (fun _ _=>rfl)) (pv 4) (fun _ _=>rfl)) pa_nil)))))),?_⟩
  have hN:(["book", "k", "world", "own", "place"]:List Str).length=5:=rfl
  obtain ⟨ss,cs,ts,k,ws,rfl,ok,hw,hk,rfl⟩:=p
  obtain ⟨own,t,j,A⟩:=ok.at hw hk
  have ol:=A.ol
  walk_at"run"
  have a1:atI (cs.map nl) (k:Int)=some (nl own):=atI_map A.fc
  have a2:atI (ts.map lls) (k:Int)=some (lls t):=atI_map A.ft
  have a3:atI (t.map il) (j:Int)=some (il (rowOf ss cs ts k ws)):=atI_map A.fr
  refine exs false (d:=nl own) (ev_ixL (EvE.toL (by walk_at"ev")) (by walk_at"ev") a1) (by walk_at"sc") ?_
  refine exs true (d:=.int j) (EvE.eq (ev_callF (ea_cons (EvE.eq (ev_callF (by walk_at"ev") ⟨_,_,rfl,imm_ints ss,by rw [List.length_map]; exact A.o,by omega,rfl⟩) (congrArg PyData.list (pk_ints ss own A.o))) (ea_cons (EvE.eq (ev_callF (by walk_at"ev") ⟨_,_,rfl,imm_ints ws,by rw [List.length_map,hw.l]; exact A.o,by omega,rfl⟩) (congrArg PyData.list (pk_ints ws own (by rw [hw.l]; exact A.o)))) ea_nil)) ⟨_,_,rfl,szpos ok.s A.o,rfl⟩) (congrArg PyData.int A.fj)) (by walk_at"sc") ?_
  refine ex_ret true (EvO.toE (evo_list (EvL.imm (κ:=false) (EvE.toL (ev_ixL (EvE.toL (ev_ixL (EvE.toL (ev_ixT (by walk_at"ev") (by walk_at"ev") atI2)) (by walk_at"ev") a2)) (by walk_at"ev") a3)) (imm_ints _)))) rfl (.inl ⟨rfl,rfl⟩)
def pre_chance_at (ds:List PyData) (d:PyData):Prop:=∃ (ss:List Int) (cs:List (List Nat)) (ts:List (List (List Int))) (k:Nat) (ws:List Int),ds=[bookD ss cs ts,.int k,il ws]∧BkOk ss cs ts∧WdOk ss ws∧k < ss.length∧d=shD (mk ((rowOf ss cs ts k ws).getD (ws.getD k 0).toNat 0) (rowOf ss cs ts k ws).sum)
theorem len_chance_at (ds:List PyData) (d:PyData) (h:pre_chance_at ds d):ds.length=3:=by obtain ⟨a,b,c,e,f,rfl,_⟩:=h; rfl
theorem WdOk.at {ss ws:List Int} (h:WdOk ss ws) {k:Nat} (hk:k < ss.length):0≤ws.getD k 0∧ws.getD k 0 < ss.getD k 0:=h.v k _ _ (getD_some hk) (getD_some (by rw [h.l]; exact hk))
theorem sc_chance_at:FnScope ["book", "k", "world", "row"] ["book", "k", "world"] (defScope (top 37)):=⟨rfl,rfl,rfl,by decide +kernel,rfl,by decide +kernel,by decide +kernel⟩
theorem ok_chance_at (F:Fun K "chance_at" "chance_at" (top 37) f fd) (B:Bs mg) (Z:Cs K mg t_MOST_THINGS t_MOST_CAUSES t_LEAST_SIZE t_GREATEST_SIZE) (c_row_at:Callee P w K mg base CX0 "row_at" ["book", "k", "world"] 2 (spD K true pre_row_at)) (c_share:Callee P w K mg base CX0 "share" ["top", "bottom"] 2 (spD K true pre_share)):FnOk P w K mg base CX0 3 f fd ["book", "k", "world"] (spD K true pre_chance_at):=by
  have sc:=sc_chance_at
  refine F.ok sc (fun vs H Q E h=>spD_len len_chance_at h) (fun cdv A outer s H vs Q E hr h=>?_)
  obtain ⟨Fh,ds,d,le,dp,p,q⟩:=h
  refine ⟨_,(pss_cons (ps_set (i:=3) sc.nd rfl (Or.inl rfl) (pe_fn c_row_at (hr.mono (by decide)) rfl pass0 (pa_cons (pv 0) (pa_cons (pv 1) (pa_cons (pv 2) pa_nil)))))
      (pss_one (ps_ret (pe_fn c_share (hr.mono (by decide)) rfl pass0 (pa_cons (pe_ix (ix_listK (K:=K) rfl) (pv 3) (pe_ix (ix_listK (K:=K) rfl) (pv 2) (pv 1) (fun _ _=>rfl)) (fun _ _=>rfl)) (pa_cons (pe_callB (call_sumK (K:=K) rfl rfl) rfl B.sum (by decide +kernel) (pa_cons (pv 3) pa_nil)) pa_nil)))))),?_⟩
  have hN:(["book", "k", "world", "row"]:List Str).length=4:=rfl
  obtain ⟨ss,cs,ts,k,ws,rfl,ok,hw,hk,rfl⟩:=p
  obtain ⟨own,t,j,A⟩:=ok.at hw hk
  have R:=A.ok
  have wv:=hw.at hk
  walk_at"run"
  refine exs true (d:=il (rowOf ss cs ts k ws)) (ev_callF (by walk_at"ev") ⟨ss,cs,ts,k,ws,rfl,ok,hw,hk,rfl⟩) (by walk_at"sc") ?_
  have a1:=at_ints (ns:=ws) (k:=k) (by rw [hw.l]; exact hk)
  have rl:=R.l
  have a2:=at_intsZ (ns:=rowOf ss cs ts k ws) (i:=ws.getD k 0) wv.1 (by omega)
  have rp:=R.p
  have rb:=R.b
  exact ex_ret true (ev_callF (ea_cons (ev_ixL (by walk_at"ev") (ev_ixL (by walk_at"ev") (by walk_at"ev") a1) a2) (ea_cons (ev_sum (by walk_at"ev")) ea_nil)) ⟨_,_,rfl,rp,by omega,rfl⟩) rfl (.inl ⟨rfl,rfl⟩)
theorem sum_nn:∀ (xs:List Int),(∀ x∈xs,0≤x)→0≤xs.sum
  | [],_=>by simp
  | x :: r,h=>by
    rw [List.sum_cons]
    have:=sum_nn r fun y hy=>h y (List.mem_cons_of_mem _ hy)
    have:=h x List.mem_cons_self
    omega
theorem le_sum:∀ (r:List Int),(∀ x∈r,0≤x)→∀ x∈r,0≤x∧x≤r.sum
  | y :: r,h,x,hx=>by
    have hr:=sum_nn r fun z hz=>h z (List.mem_cons_of_mem _ hz)
    have hy:=h y List.mem_cons_self
    rw [List.sum_cons]
    rcases List.mem_cons.mp hx with rfl | hx
    · omega
    · have:=le_sum r (fun z hz=>h z (List.mem_cons_of_mem _ hz)) x hx
      omega
def pre_meet (ds:List PyData) (d:PyData):Prop:=∃ a b:List Int,ds=[il a,il b]∧a.length + b.length < 2000∧d=.bool (a.any fun k=>decide (k∈b))
theorem len_meet (ds:List PyData) (d:PyData) (h:pre_meet ds d):ds.length=2:=by obtain ⟨a,b,rfl,_⟩:=h; rfl
theorem sc_meet:FnScope ["some", "others"] ["some", "others"] (defScope (top 6)):=⟨rfl,rfl,rfl,by decide +kernel,rfl,by decide +kernel,by decide +kernel⟩
theorem ok_meet (F:Fun K "meet" "meet" (top 6) f fd) (B:Bs mg) (Z:Cs K mg t_MOST_THINGS t_MOST_CAUSES t_LEAST_SIZE t_GREATEST_SIZE)  : FnOk P w K mg base CX0 1 f fd ["some", "others"] (spD K true pre_meet):=by
  have sc:=sc_meet
  refine F.ok sc (fun vs H Q E h=>spD_len len_meet h) (fun cdv A outer s H vs Q E hr h=>?_)
  obtain ⟨Fh,ds,d,le,dp,p,q⟩:=h
  refine ⟨_,(pss_one (ps_ret (pe_cmpR op_gt (pe_callB (call_lenB (b:=w.params.followText "set-order")) rfl B.len (by decide +kernel) (pa_cons (pe_op (op_andB rfl rfl) (pe_callTy (call_setB (K:=K) rfl rfl rfl) rfl B.set (by decide +kernel) (pa_cons (pv 0) pa_nil)) (pe_callTy (call_setB (K:=K) rfl rfl rfl) rfl B.set (by decide +kernel) (pa_cons (pv 1) pa_nil))) pa_nil)) pe_int (nomark _)))),?_⟩
  have hN:(["some", "others"]:List Str).length=2:=rfl
  obtain ⟨a,b,rfl,hl,rfl⟩:=p
  walk_at"run"
  refine ex_ret true (EvE.eq (ev_gt (ev_lenAnd (ns:=a) (ms:=b) (EvE.toL (κ:=false) (by walk_at"ev")) (EvE.toL (κ:=false) (by walk_at"ev")) hl) (by walk_at"ev")) ?_) rfl (.inl ⟨rfl,rfl⟩)
  rw [meet_pos]
structure OrdC (n:Nat) (cs:List (List Nat)):Prop where
  l:cs.length=n
  n12:n≤12
  r:∀ r∈cs,(∀ c∈r,c < n)∧r.length≤5
  o:∃ ord:List Nat,ord.Perm (List.range n)∧∀ (i k:Nat),ord[i]?=some k→∀ c∈cs.getD k [],c∈ord.take i
def rdP (cs:List (List Nat)) (ns:List Int) (x:Int):Bool:=!((zl (cs.getD x.toNat [])).any fun c=>decide (c∈ns))
open Classical in
theorem first_in (p:Nat→Prop):∀ {ord:List Nat},(∃ k,k∈ord∧p k)→∃ i k,ord[i]?=some k∧p k∧∀ c∈ord.take i,¬ p c
  | [],h=>by obtain ⟨_,z,_⟩:=h; cases z
  | x :: r,h=>by
    by_cases hx:p x
    · exact ⟨0,x,rfl,hx,fun c hc=>by cases hc⟩
    · obtain ⟨k,hk,pk⟩:=h
      have hk:k∈r:=by
        rcases List.mem_cons.mp hk with rfl | hk
        · exact absurd pk hx
        · exact hk
      obtain ⟨i,m,h1,h2,h3⟩:=first_in p (ord:=r) ⟨k,hk,pk⟩
      refine ⟨i + 1,m,by simpa using h1,h2,fun c hc=>?_⟩
      rcases List.mem_cons.mp hc with rfl | hc
      · exact hx
      · exact h3 c hc
theorem rdy_ex {n:Nat} {cs:List (List Nat)} (h:OrdC n cs) {ns:List Int} (hn:∀ x∈ns,0≤x∧x < n) (ne:ns≠[]):∃ x r,ns.filter (rdP cs ns)=x :: r∧x∈ns:=by
  obtain ⟨ord,pm,tp⟩:=h.o
  obtain ⟨y,ym⟩:∃ y,y∈ns:=by
    cases ns with
    | nil=>exact absurd rfl ne
    | cons y r=>exact ⟨y,List.mem_cons_self⟩
  have hy:=hn y ym
  obtain ⟨i,k,h1,h2,h3⟩:=first_in (fun k=>((k:Nat):Int)∈ns) (ord:=ord) ⟨y.toNat,pm.mem_iff.mpr (List.mem_range.mpr (by omega)),by rw [Int.toNat_of_nonneg hy.1]; exact ym⟩
  have hm:(k:Int)∈ns.filter (rdP cs ns):=by
    refine List.mem_filter.mpr ⟨h2,?_⟩
    unfold rdP
    rw [Bool.not_eq_true',List.any_eq_false]
    intro c hc
    obtain ⟨c',hc',rfl⟩:=List.mem_map.mp hc
    have:=h3 c' (tp i k h1 c' hc')
    simpa using this
  cases e:ns.filter (rdP cs ns) with
  | nil=>rw [e] at hm; cases hm
  | cons x r=>exact ⟨x,r,rfl,(List.mem_filter.mp (by rw [e]; exact List.mem_cons_self)).1⟩
theorem rm_mem {k:Int} {ns:List Int} {x:Int} (h:x∈rm k ns):x∈ns:=by
  rcases List.mem_append.mp h with h | h
  · exact List.mem_of_mem_take h
  · exact List.mem_of_mem_drop h
theorem rm_len {k:Int} {ns:List Int} (h:k∈ns):(rm k ns).length + 1=ns.length:=by
  have:=List.idxOf_lt_length_iff.mpr h
  unfold rm
  rw [List.length_append,List.length_take,List.length_drop]
  omega
def pre_order_of (ds:List PyData) (G:PyData→Prop):Prop:=∃ (n:Nat) (cs:List (List Nat)),ds=[nls cs]∧OrdC n cs∧G=fun _=>True
theorem len_order_of (ds:List PyData) (G:PyData→Prop) (h:pre_order_of ds G):ds.length=1:=by obtain ⟨a,b,rfl,_⟩:=h; rfl
theorem sc_order_of:FnScope ["causes", "found", "left", "ready"] ["causes"] (defScope (top 7)):=⟨rfl,rfl,rfl,by decide +kernel,rfl,by decide +kernel,by decide +kernel⟩
theorem ok_order_of (F:Fun K "order_of" "order_of" (top 7) f fd) (B:Bs mg) (Z:Cs K mg t_MOST_THINGS t_MOST_CAUSES t_LEAST_SIZE t_GREATEST_SIZE) (c_meet:Callee P w K mg base CX0 "meet" ["some", "others"] 1 (spD K true pre_meet)):FnOk P w K mg base CX0 2 f fd ["causes"] (spW K true pre_order_of):=by
  have sc:=sc_order_of
  refine F.ok sc (fun vs H Q E h=>spW_len len_order_of h) (fun cdv A outer s H vs Q E hr h=>?_)
  obtain ⟨Fh,ds,G,le,dp,p,q⟩:=h
  refine ⟨_,(pss_cons (ps_set (i:=1) sc.nd rfl (Or.inl rfl) (pe_lst pa_nil))
      (pss_cons (ps_set (i:=2) sc.nd rfl (Or.inr rfl) (pe_callTy (call_listRng rfl) rfl B.list (by decide +kernel) (pa_cons (pe_callTy call_rngO rfl B.range (by decide +kernel) (pa_cons (pe_callB (call_len_seqK (K:=K) rfl) rfl B.len (by decide +kernel) (pa_cons (pv 0) pa_nil)) pa_nil)) pa_nil)))
      (pss_cons (ps_while PassesOwn.never (pt_cmpR op_gt (pe_callB (call_len_seqK (K:=K) rfl) rfl B.len (by decide +kernel) (pa_cons (pv 2) pa_nil)) pe_int (nomark _)) (pss_cons (ps_setComp (i:=3) rfl sc.nd rfl rfl (N:=["k", "left", "causes"]) (js:=[none,some 2,some 0]) (by walk_at"comp_ok") (pi_listK (K:=K) rfl (pv 2)) (fun _ _ _ _=>(pg_name (i:=0) (show List.Nodup (["k", "left", "causes"]:List PySem.Str) by decide +kernel) rfl (Or.inl rfl))) (fun _ _ _ _=>(pif_one (pt_not (pt_val (pe_fn c_meet (hr.mono (by decide)) rfl pass0 (pa_cons (pe_ix (ix_listK (K:=K) rfl) (pv 2) (pv 0) (fun _ _=>rfl)) (pa_cons (pv 1) pa_nil))))))) (fun _ _ _ _=>(pv 0)))
      (pss_cons (ps_if (pt_cmpR op_eq (pe_callB (call_len_seqK (K:=K) rfl) rfl B.len (by decide +kernel) (pa_cons (pv 3) pa_nil)) pe_int (nomark _)) (pss_one ps_never) pss_nil)
      (pss_cons (ps_expr (pe_bmK (K:=K) rfl PySem.F.plainAttrs_list PySem.F.slot_list_append PySem.F.type_list_append mt_append (pv 1) (pa_cons (pe_ix (ix_listK (K:=K) rfl) (pv 3) pe_int (fun _ _=>rfl)) pa_nil)))
      (pss_one (ps_expr (pe_bmK (K:=K) rfl PySem.F.plainAttrs_list PySem.F.slot_list_remove PySem.F.type_list_remove mt_remove (pv 2) (pa_cons (pe_ix (ix_listK (K:=K) rfl) (pv 3) pe_int (fun _ _=>rfl)) pa_nil))))))))
      (pss_one (ps_ret (pv 1)))))),?_⟩
  have hN:(["causes", "found", "left", "ready"]:List Str).length=4:=rfl
  obtain ⟨n,cs,rfl,ok,rfl⟩:=p
  have big:=line_big
  have n12:=ok.n12
  have cl:=ok.l
  refine run_defW le dp q hN (by walk_at"st") ?_
  refine exo true (ds:=[]) (evo_lst (ds:=[]) ea_nil (by decide)) (by walk_at"sc") ?_
  refine exo true (evo_listRng (n:=n) (EvE.eq (ev_len (ds:=cs.map nl) (by walk_at"ev")) (by rw [List.length_map,cl])) (by omega)) (by walk_at"sc") ?_
  refine ex_seq (fun Γ=>∃ (fd:List PyData) (b2 b3:Option DV),Γ=[some (.fz false (nls cs)),some (.ow true fd),b2,b3]) (ex_while (fun m Γ=>∃ (fd:List PyData) (ns:List Int) (b3:Option DV),Γ=[some (.fz false (nls cs)),some (.ow true fd),some (.ow true (ns.map .int)),b3]∧ns.length=m∧fd.length + ns.length=n∧∀ x∈ns,0≤x∧x < n) n ⟨[],(List.range n).map fun i:Nat=>(i:Int),none,by rw [List.map_map]; rfl,rg_len,by rw [rg_len]; exact Nat.zero_add n,fun x hx=>?_⟩ ?_) ?_
  · obtain ⟨i,hi,rfl⟩:=List.mem_map.mp hx
    have:=List.mem_range.mp hi
    omega
  · rintro m Γ' ⟨fd,ns,b3,rfl,hl,fl,hn⟩
    refine ⟨decide ((0:Int) < ((ns.map PyData.int).length:Nat)),et_test (ev_gt (ev_len (ds:=ns.map PyData.int) (by walk_at"ev")) (by walk_at"ev")),fun c=>?_,fun _=>⟨fd,_,_,rfl⟩⟩
    have c:=of_decide_eq_true c
    rw [List.length_map] at c
    obtain ⟨x,r,er,xm⟩:=rdy_ex ok hn (fun z=>by rw [z] at c; exact absurd c (by decide))
    have fl2:=List.length_filter_le (rdP cs ns) ns
    refine exs true (d:=il (ns.filter (rdP cs ns))) (EvO.toE (evo_thaw 2 (by walk_at"gc") (by walk_at"sc") (evo_eachIf (κ:=true) (is:=[0]) (xs:=ns) false PyData.int PyData.int (rdP cs ns) (fun x _ y _ h=>by cases h; exact ⟨rfl,rfl⟩) (ei_list (by walk_at"ev")) (by walk_at"cc") rfl (by decide) (by omega) ?_) (imm_ints _))) (by walk_at"sc") ?_
    · intro k hk
      have kn:=hn k hk
      have g:=getD_some (d:=([]:List Nat)) (l:=cs) (k:=k.toNat) (by omega)
      have rk:=ok.r _ (List.mem_of_getElem? g)
      have ak:atI (cs.map nl) k=some (nl (cs.getD k.toNat [])):=by
        have:=atI_map (g:=nl) g
        rw [Int.toNat_of_nonneg kn.1] at this
        exact this
      refine egn (by walk_at"sc") ⟨et_not (et_B (ev_callF (ds:=[il (zl (cs.getD k.toNat [])),il ns]) (d:=.bool ((zl (cs.getD k.toNat [])).any fun c=>decide (c∈ns))) (ea_cons (EvE.eq (ev_ixL (by walk_at"ev") (by walk_at"ev") ak) (nl_zl _)) (by walk_at"ev")) ⟨_,_,rfl,by unfold zl; rw [List.length_map]; omega,rfl⟩)),fun _=>by walk_at"ev"⟩
    rw [er]
    refine exifF (b:=decide ((((x :: r).map PyData.int).length:Int)=0)) (et_test (ev_eqI (ev_len (ds:=(x :: r).map PyData.int) (by walk_at"ev")) (by walk_at"ev"))) (decide_eq_false (by rw [List.length_map,List.length_cons]; omega)) ?_
    have a0:atI ((x :: r).map PyData.int) 0=some (.int x):=atI0
    refine exa (d:=.int x) (by walk_at"gc") (ev_ixL (by walk_at"ev") (by walk_at"ev") a0) (by walk_at"sc") (by omega) ?_
    refine exrm (ns:=ns) (k:=x) (by walk_at"gc") (ev_ixL (by walk_at"ev") (by walk_at"ev") a0) xm (by walk_at"sc") ?_
    have rl:=rm_len xm
    refine ⟨(rm x ns).length,by omega,fd ++ [.int x],rm x ns,_,rfl,rfl,by rw [List.length_append]; show fd.length + 1 + _=n; omega,fun y hy=>hn y (rm_mem hy)⟩
  · rintro Γ' ⟨fd,b2,b3,rfl⟩
    refine exfz 1 (by walk_at"gc") (by walk_at"sc") ?_
    exact ex_ret true (d:=.list fd) (by walk_at"ev") trivial (.inl ⟨rfl,rfl⟩)
def pre_count_of (ds:List PyData) (d:PyData):Prop:=∃ ss:List Int,ds=[il ss]∧(∀ s∈ss,1≤s∧s≤4)∧ss.length≤5∧d=.int (prod ss)
theorem len_count_of (ds:List PyData) (d:PyData) (h:pre_count_of ds d):ds.length=1:=by obtain ⟨a,rfl,_⟩:=h; rfl
theorem sc_count_of:FnScope ["sizes", "found", "size"] ["sizes"] (defScope (top 16)):=⟨rfl,rfl,rfl,by decide +kernel,rfl,by decide +kernel,by decide +kernel⟩
theorem ok_count_of (F:Fun K "count_of" "count_of" (top 16) f fd) (B:Bs mg) (Z:Cs K mg t_MOST_THINGS t_MOST_CAUSES t_LEAST_SIZE t_GREATEST_SIZE)  : FnOk P w K mg base CX0 1 f fd ["sizes"] (spD K true pre_count_of):=by
  have sc:=sc_count_of
  refine F.ok sc (fun vs H Q E h=>spD_len len_count_of h) (fun cdv A outer s H vs Q E hr h=>?_)
  obtain ⟨Fh,ds,d,le,dp,p,q⟩:=h
  refine ⟨_,(pss_cons (ps_set (i:=1) sc.nd rfl (Or.inl rfl) pe_int)
      (pss_cons (ps_for PassesOwn.never rfl (pi_listK (K:=K) rfl (pv 0)) (pg_name (i:=2) sc.nd rfl (Or.inl rfl)) (pss_one (ps_set (i:=1) sc.nd rfl (Or.inl rfl) (pe_op op_mulB (pv 1) (pv 2)))))
      (pss_one (ps_ret (pv 1))))),?_⟩
  have hN:(["sizes", "found", "size"]:List Str).length=3:=rfl
  obtain ⟨ss,rfl,hs,hl,rfl⟩:=p
  have big:=line_big
  walk_at"run"
  refine exs true (d:=.int 1) (by walk_at"ev") (by walk_at"sc") ?_
  refine exfor (ds:=ss.map .int) false (fun i Γ=>∃ b,Γ=[some (.fz false (il ss)),some (.fz true (.int (prod (ss.take i)))),b]) (ei_list (by walk_at"ev")) ⟨none,rfl⟩ ?_ ?_
  · rintro i d Γ' hd ⟨b,rfl⟩
    obtain ⟨x,hx,rfl⟩:=get_map hd
    refine ⟨_,egn (by walk_at"sc") ?_⟩
    have hm:=hs x (List.mem_of_getElem? hx)
    have hi:=(List.getElem?_eq_some_iff.mp hx).1
    have pl:=prod_le (ss.take i) 5 (fun y hy=>hs y (List.mem_of_mem_take hy)) (by rw [List.length_take]; omega)
    have m1:IntMulOk (prod (ss.take i)) x:=small_mul (by omega) (by omega)
    refine exs1 true (d:=.int (prod (ss.take i) * x)) (ev_mul (by walk_at"ev") (by walk_at"ev") m1) (by walk_at"sc") ?_
    refine ⟨some (.fz false (.int x)),?_⟩
    rw [take_succ hx,prod_snoc]
  · rintro Γ' ⟨b,rfl⟩
    rw [List.length_map,List.take_length]
    exact ex_ret true (by walk_at"ev") rfl (.inl ⟨rfl,rfl⟩)
def pre_is_list_of (ds:List PyData) (d:PyData):Prop:=∃ (xs:List PyData) (m:Int),ds=[.list xs,.int m]∧(xs.length:Int)=m∧d=.bool true
theorem len_is_list_of (ds:List PyData) (d:PyData) (h:pre_is_list_of ds d):ds.length=2:=by obtain ⟨a,b,rfl,_⟩:=h; rfl
theorem sc_is_list_of:FnScope ["thing", "length"] ["thing", "length"] (defScope (top 25)):=⟨rfl,rfl,rfl,by decide +kernel,rfl,by decide +kernel,by decide +kernel⟩
theorem ok_is_list_of (F:Fun K "is_list_of" "is_list_of" (top 25) f fd) (B:Bs mg) (Z:Cs K mg t_MOST_THINGS t_MOST_CAUSES t_LEAST_SIZE t_GREATEST_SIZE)  : FnOk P w K mg base CX0 1 f fd ["thing", "length"] (spD K true pre_is_list_of):=by
  have sc:=sc_is_list_of
  refine F.ok sc (fun vs H Q E h=>spD_len len_is_list_of h) (fun cdv A outer s H vs Q E hr h=>?_)
  obtain ⟨Fh,ds,d,le,dp,p,q⟩:=h
  refine ⟨_,(pss_one (ps_ret (pe_and (pe_callB (call_isiDK (K:=K) rfl) rfl B.isinstance (by decide +kernel) (pa_cons (pv 0) (pa_cons (pe_bltn (v:=.ty "list") rfl B.list (by decide +kernel) rfl) pa_nil))) (pe_one (pe_cmpR op_eq (pe_callB (call_len_seqK (K:=K) rfl) rfl B.len (by decide +kernel) (pa_cons (pv 0) pa_nil)) (pv 1) (nomark _)))))),?_⟩
  have hN:(["thing", "length"]:List Str).length=2:=rfl
  obtain ⟨xs,m,rfl,hl,rfl⟩:=p
  walk_at"run"
  refine ex_ret (d:=.bool (true && decide ((xs.length:Int)=m))) true (ev_and (by walk_at"ev") fun _=>ev_eqI (ev_len (by walk_at"ev")) (by walk_at"ev")) ?_ (.inl ⟨rfl,rfl⟩)
  rw [decide_eq_true hl]
  rfl
def pre_is_from_to (ds:List PyData) (d:PyData):Prop:=∃ x a b:Int,ds=[.int x,.int a,.int b]∧a≤x∧x≤b∧d=.bool true
theorem len_is_from_to (ds:List PyData) (d:PyData) (h:pre_is_from_to ds d):ds.length=3:=by obtain ⟨a,b,c,rfl,_⟩:=h; rfl
theorem sc_is_from_to:FnScope ["thing", "least", "greatest"] ["thing", "least", "greatest"] (defScope (top 26)):=⟨rfl,rfl,rfl,by decide +kernel,rfl,by decide +kernel,by decide +kernel⟩
theorem ok_is_from_to (F:Fun K "is_from_to" "is_from_to" (top 26) f fd) (B:Bs mg) (Z:Cs K mg t_MOST_THINGS t_MOST_CAUSES t_LEAST_SIZE t_GREATEST_SIZE) (c_is_whole:Callee P w K mg base CX0 "is_whole" ["thing"] 1 (spD K true pre_is_whole)):FnOk P w K mg base CX0 2 f fd ["thing", "least", "greatest"] (spD K true pre_is_from_to):=by
  have sc:=sc_is_from_to
  refine F.ok sc (fun vs H Q E h=>spD_len len_is_from_to h) (fun cdv A outer s H vs Q E hr h=>?_)
  obtain ⟨Fh,ds,d,le,dp,p,q⟩:=h
  refine ⟨_,(pss_one (ps_ret (pe_and (pe_fn c_is_whole (hr.mono (by decide)) rfl pass0 (pa_cons (pv 0) pa_nil)) (pe_one (pe_chain op_le op_le (pv 1) (pv 0) (pv 2)))))),?_⟩
  have hN:(["thing", "least", "greatest"]:List Str).length=3:=rfl
  obtain ⟨x,a,b,rfl,h1,h2,rfl⟩:=p
  walk_at"run"
  refine ex_ret (d:=.bool (true && (decide (a≤x) && decide (x≤b)))) true (ev_and (ev_callF (by walk_at"ev") ⟨x,rfl,rfl⟩) fun _=>ev_chain (by walk_at"ev") (by walk_at"ev") fun _=>by walk_at"ev") ?_ (.inl ⟨rfl,rfl⟩)
  rw [decide_eq_true h1,decide_eq_true h2]
  rfl
def pre_are_sizes (ds:List PyData) (d:PyData):Prop:=∃ ss:List Int,ds=[il ss]∧ss.length≤12∧(∀ s∈ss,2≤s∧s≤4)∧d=.bool true
theorem len_are_sizes (ds:List PyData) (d:PyData) (h:pre_are_sizes ds d):ds.length=1:=by obtain ⟨a,rfl,_⟩:=h; rfl
theorem sc_are_sizes:FnScope ["sizes"] ["sizes"] (defScope (top 27)):=⟨rfl,rfl,rfl,by decide +kernel,rfl,by decide +kernel,by decide +kernel⟩
theorem ok_are_sizes (F:Fun K "are_sizes" "are_sizes" (top 27) f fd) (B:Bs mg) (Z:Cs K mg t_MOST_THINGS t_MOST_CAUSES t_LEAST_SIZE t_GREATEST_SIZE) (c_is_from_to:Callee P w K mg base CX0 "is_from_to" ["thing", "least", "greatest"] 2 (spD K true pre_is_from_to)):FnOk P w K mg base CX0 3 f fd ["sizes"] (spD K true pre_are_sizes):=by
  have sc:=sc_are_sizes
  refine F.ok sc (fun vs H Q E h=>spD_len len_are_sizes h) (fun cdv A outer s H vs Q E hr h=>?_)
  obtain ⟨Fh,ds,d,le,dp,p,q⟩:=h
  refine ⟨_,(pss_cons (ps_if (PW.pt (pw_or (pt_not (pt_val (pe_callB (call_isiDK (K:=K) rfl) rfl B.isinstance (by decide +kernel) (pa_cons (pv 0) (pa_cons (pe_bltn (v:=.ty "list") rfl B.list (by decide +kernel) rfl) pa_nil))))) (pw_or1 (pt_cmpR op_gt (pe_callB (call_len_seqK (K:=K) rfl) rfl B.len (by decide +kernel) (pa_cons (pv 0) pa_nil)) (pe_glob (v:=.int 12) rfl Z.n_MOST_THINGS ⟨_,rfl⟩) (nomark _))))) (pss_one (ps_ret pe_bl)) pss_nil)
      (pss_one (ps_ret (pe_callB (call_allK (K:=K) rfl rfl) rfl B.all (by decide +kernel) (pa_cons (pe_comp rfl (N:=["size"]) (js:=[none]) (by walk_at"comp_ok") (pi_listK (K:=K) rfl (pv 0)) (fun _ _ _ _=>(pg_name (i:=0) (show List.Nodup (["size"]:List PySem.Str) by decide +kernel) rfl (Or.inl rfl))) (fun _ _ _ _=>pif_nil) (fun _ _ _ _=>(pe_fn c_is_from_to (hr.mono (by decide)) rfl pass0 (pa_cons (pv 0) (pa_cons (pe_glob (v:=.int 2) rfl Z.n_LEAST_SIZE ⟨_,rfl⟩) (pa_cons (pe_glob (v:=.int 4) rfl Z.n_GREATEST_SIZE ⟨_,rfl⟩) pa_nil)))))) pa_nil))))),?_⟩
  have hN:(["sizes"]:List Str).length=1:=rfl
  obtain ⟨ss,rfl,hl,hs,rfl⟩:=p
  have big:=line_big
  walk_at"run"
  refine exifF (b:=!true || decide ((12:Int) < ((ss.map PyData.int).length:Nat))) (et_or (by walk_at"ev") fun _=>et_test (ev_gt (ev_len (ds:=ss.map PyData.int) (by walk_at"ev")) (by walk_at"ev"))) (by rw [decide_eq_false (by rw [List.length_map]; omega)]; rfl) ?_
  refine ex_ret true (EvE.eq (ev_all (bs:=ss.map fun _=>true) (EvO.toL (EvO.eq (evo_each (κ:=false) (is:=[0]) (xs:=ss) false PyData.int (fun _=>.bool true) (fun x _ y _ h=>rfl) (ei_list (by walk_at"ev")) (by walk_at"cc") rfl (by decide) (by omega) ?_) (by rw [List.map_map]; rfl)))) (by simp)) rfl (.inl ⟨rfl,rfl⟩)
  intro s h
  exact egn (by walk_at"sc") (ev_callF (ds:=[.int s,.int 2,.int 4]) (by walk_at"ev") ⟨s,2,4,rfl,(hs s h).1,(hs s h).2,rfl⟩)
def pre_are_own_causes (ds:List PyData) (d:PyData):Prop:=∃ (r:List Nat) (n:Nat),ds=[nl r,.int n]∧r.length≤5∧(∀ c∈r,c < n)∧r.Pairwise (· < ·)∧d=.bool true
theorem len_are_own_causes (ds:List PyData) (d:PyData) (h:pre_are_own_causes ds d):ds.length=2:=by obtain ⟨a,b,rfl,_⟩:=h; rfl
theorem sc_are_own_causes:FnScope ["own", "number"] ["own", "number"] (defScope (top 29)):=⟨rfl,rfl,rfl,by decide +kernel,rfl,by decide +kernel,by decide +kernel⟩
theorem ok_are_own_causes (F:Fun K "are_own_causes" "are_own_causes" (top 29) f fd) (B:Bs mg) (Z:Cs K mg t_MOST_THINGS t_MOST_CAUSES t_LEAST_SIZE t_GREATEST_SIZE) (c_is_from_to:Callee P w K mg base CX0 "is_from_to" ["thing", "least", "greatest"] 2 (spD K true pre_is_from_to)):FnOk P w K mg base CX0 3 f fd ["own", "number"] (spD K true pre_are_own_causes):=by
  have sc:=sc_are_own_causes
  refine F.ok sc (fun vs H Q E h=>spD_len len_are_own_causes h) (fun cdv A outer s H vs Q E hr h=>?_)
  obtain ⟨Fh,ds,d,le,dp,p,q⟩:=h
  refine ⟨_,(pss_cons (ps_if (PW.pt (pw_or (pt_not (pt_val (pe_callB (call_isiDK (K:=K) rfl) rfl B.isinstance (by decide +kernel) (pa_cons (pv 0) (pa_cons (pe_bltn (v:=.ty "list") rfl B.list (by decide +kernel) rfl) pa_nil))))) (pw_or1 (pt_cmpR op_gt (pe_callB (call_len_seqK (K:=K) rfl) rfl B.len (by decide +kernel) (pa_cons (pv 0) pa_nil)) (pe_glob (v:=.int 5) rfl Z.n_MOST_CAUSES ⟨_,rfl⟩) (nomark _))))) (pss_one (ps_ret pe_bl)) pss_nil)
      (pss_one (ps_ret (pe_and (pe_callB (call_allK (K:=K) rfl rfl) rfl B.all (by decide +kernel) (pa_cons (pe_comp rfl (N:=["c", "number"]) (js:=[none,some 1]) (by walk_at"comp_ok") (pi_listK (K:=K) rfl (pv 0)) (fun _ _ _ _=>(pg_name (i:=0) (show List.Nodup (["c", "number"]:List PySem.Str) by decide +kernel) rfl (Or.inl rfl))) (fun _ _ _ _=>pif_nil) (fun _ _ _ _=>(pe_fn c_is_from_to (hr.mono (by decide)) rfl pass0 (pa_cons (pv 0) (pa_cons pe_int (pa_cons (pe_op op_sub (pv 1) pe_int) pa_nil)))))) pa_nil)) (pe_one (pe_cmpR (op_eqSK (K:=K) rfl hr.units) (pv 0) (pe_callB (call_sortedB rfl rfl) rfl B.sorted (by decide +kernel) (pa_cons (pe_callTy (call_setB (K:=K) rfl rfl rfl) rfl B.set (by decide +kernel) (pa_cons (pv 0) pa_nil)) pa_nil)) (nomark _))))))),?_⟩
  have hN:(["own", "number"]:List Str).length=2:=rfl
  obtain ⟨r,n,rfl,hl,hr,hp,rfl⟩:=p
  have big:=line_big
  walk_at"run"
  refine exifF (b:=!true || decide ((5:Int) < ((r.map fun k:Nat=>PyData.int (k:Int)).length:Nat))) (et_or (by walk_at"ev") fun _=>et_test (ev_gt (ev_len (ds:=r.map fun k:Nat=>PyData.int (k:Int)) (by walk_at"ev")) (by walk_at"ev"))) (by rw [decide_eq_false (by rw [List.length_map]; omega)]; rfl) ?_
  have zlen:(zl r).length=r.length:=by unfold zl; rw [List.length_map]
  refine ex_ret (d:=.bool (((r.map fun _=>true).all fun b=>b) && true)) true (ev_and (ev_all (bs:=r.map fun _=>true) (EvO.toL (EvO.eq (evo_each (κ:=false) (is:=[0]) (xs:=r) false (fun k:Nat=>PyData.int (k:Int)) (fun _=>.bool true) (fun x _ y _ h=>rfl) (ei_list (by walk_at"ev")) (by walk_at"cc") rfl (by decide) (by omega) ?_) (by rw [List.map_map]; rfl)))) fun _=>ev_eqSm (d:=nl r) (EvE.toD (κ:=false) (by walk_at"ev")) (EvE.toD (κ:=false) (EvO.toE (EvO.eq (evo_sortedSet (ns:=zl r) (EvE.toL (EvE.eq (κ:=false) (by walk_at"ev") (nl_zl r))) (by omega)) (rise_set hp)))) (shaped_nl r)) ?_ (.inl ⟨rfl,rfl⟩)
  · intro c hc
    have:=hr c hc
    exact egn (by walk_at"sc") (ev_callF (ds:=[.int (c:Int),.int 0,.int ((n:Int) - 1)]) (by walk_at"ev") ⟨c,0,(n:Int) - 1,rfl,by omega,by omega,rfl⟩)
  · simp
def pre_are_causes (ds:List PyData) (d:PyData):Prop:=∃ (cs:List (List Nat)) (n:Nat),ds=[nls cs,.int n]∧cs.length=n∧n≤12∧(∀ r∈cs,r.length≤5∧(∀ c∈r,c < n)∧r.Pairwise (· < ·))∧d=.bool true
theorem len_are_causes (ds:List PyData) (d:PyData) (h:pre_are_causes ds d):ds.length=2:=by obtain ⟨a,b,rfl,_⟩:=h; rfl
theorem sc_are_causes:FnScope ["causes", "number"] ["causes", "number"] (defScope (top 28)):=⟨rfl,rfl,rfl,by decide +kernel,rfl,by decide +kernel,by decide +kernel⟩
theorem ok_are_causes (F:Fun K "are_causes" "are_causes" (top 28) f fd) (B:Bs mg) (Z:Cs K mg t_MOST_THINGS t_MOST_CAUSES t_LEAST_SIZE t_GREATEST_SIZE) (c_is_list_of:Callee P w K mg base CX0 "is_list_of" ["thing", "length"] 1 (spD K true pre_is_list_of)) (c_are_own_causes:Callee P w K mg base CX0 "are_own_causes" ["own", "number"] 3 (spD K true pre_are_own_causes)):FnOk P w K mg base CX0 4 f fd ["causes", "number"] (spD K true pre_are_causes):=by
  have sc:=sc_are_causes
  refine F.ok sc (fun vs H Q E h=>spD_len len_are_causes h) (fun cdv A outer s H vs Q E hr h=>?_)
  obtain ⟨Fh,ds,d,le,dp,p,q⟩:=h
  refine ⟨_,(pss_one (ps_ret (pe_and (pe_fn c_is_list_of (hr.mono (by decide)) rfl pass0 (pa_cons (pv 0) (pa_cons (pv 1) pa_nil))) (pe_one (pe_callB (call_allK (K:=K) rfl rfl) rfl B.all (by decide +kernel) (pa_cons (pe_comp rfl (N:=["own", "number"]) (js:=[none,some 1]) (by walk_at"comp_ok") (pi_listK (K:=K) rfl (pv 0)) (fun _ _ _ _=>(pg_name (i:=0) (show List.Nodup (["own", "number"]:List PySem.Str) by decide +kernel) rfl (Or.inl rfl))) (fun _ _ _ _=>pif_nil) (fun _ _ _ _=>(pe_fn c_are_own_causes (hr.mono (by decide)) rfl pass0 (pa_cons (pv 0) (pa_cons (pv 1) pa_nil))))) pa_nil)))))),?_⟩
  have hN:(["causes", "number"]:List Str).length=2:=rfl
  obtain ⟨cs,n,rfl,hl,n12,hr,rfl⟩:=p
  have big:=line_big
  walk_at"run"
  refine ex_ret (d:=.bool (true && ((cs.map fun _=>true).all fun b=>b))) true (ev_and (ev_callF (ds:=[.list (cs.map nl),.int (n:Int)]) (by walk_at"ev") ⟨cs.map nl,(n:Int),rfl,by rw [List.length_map]; omega,rfl⟩) fun _=>ev_all (bs:=cs.map fun _=>true) (EvO.toL (EvO.eq (evo_each (κ:=false) (is:=[0]) (xs:=cs) false nl (fun _=>.bool true) (fun x _ y _ h=>rfl) (ei_list (by walk_at"ev")) (by walk_at"cc") rfl (by decide) (by omega) ?_) (by rw [List.map_map]; rfl)))) ?_ (.inl ⟨rfl,rfl⟩)
  · intro r h
    obtain ⟨r1,r2,r3⟩:=hr r h
    exact egn (by walk_at"sc") (ev_callF (ds:=[nl r,.int (n:Int)]) (by walk_at"ev") ⟨r,n,rfl,r1,r2,r3,rfl⟩)
  · simp
def pre_is_weight (ds:List PyData) (d:PyData):Prop:=∃ x:Int,ds=[.int x]∧0≤x∧d=.bool true
theorem len_is_weight (ds:List PyData) (d:PyData) (h:pre_is_weight ds d):ds.length=1:=by obtain ⟨a,rfl,_⟩:=h; rfl
theorem sc_is_weight:FnScope ["weight"] ["weight"] (defScope (top 33)):=⟨rfl,rfl,rfl,by decide +kernel,rfl,by decide +kernel,by decide +kernel⟩
theorem ok_is_weight (F:Fun K "is_weight" "is_weight" (top 33) f fd) (B:Bs mg) (Z:Cs K mg t_MOST_THINGS t_MOST_CAUSES t_LEAST_SIZE t_GREATEST_SIZE) (c_is_whole:Callee P w K mg base CX0 "is_whole" ["thing"] 1 (spD K true pre_is_whole)):FnOk P w K mg base CX0 2 f fd ["weight"] (spD K true pre_is_weight):=by
  have sc:=sc_is_weight
  refine F.ok sc (fun vs H Q E h=>spD_len len_is_weight h) (fun cdv A outer s H vs Q E hr h=>?_)
  obtain ⟨Fh,ds,d,le,dp,p,q⟩:=h
  refine ⟨_,(pss_one (ps_ret (pe_and (pe_fn c_is_whole (hr.mono (by decide)) rfl pass0 (pa_cons (pv 0) pa_nil)) (pe_one (pe_cmpR op_ge (pv 0) pe_int (nomark _)))))),?_⟩
  have hN:(["weight"]:List Str).length=1:=rfl
  obtain ⟨x,rfl,h0,rfl⟩:=p
  walk_at"run"
  refine ex_ret (d:=.bool (true && decide ((0:Int)≤x))) true (ev_and (ev_callF (by walk_at"ev") ⟨x,rfl,rfl⟩) fun _=>ev_ge (by walk_at"ev") (by walk_at"ev")) ?_ (.inl ⟨rfl,rfl⟩)
  rw [decide_eq_true h0]
  rfl
def pre_is_row (ds:List PyData) (d:PyData):Prop:=∃ (r:List Int) (s:Int),ds=[il r,.int s]∧RowOk s r∧r.length≤1000∧d=.bool true
theorem len_is_row (ds:List PyData) (d:PyData) (h:pre_is_row ds d):ds.length=2:=by obtain ⟨a,b,rfl,_⟩:=h; rfl
theorem sc_is_row:FnScope ["row", "size"] ["row", "size"] (defScope (top 32)):=⟨rfl,rfl,rfl,by decide +kernel,rfl,by decide +kernel,by decide +kernel⟩
theorem ok_is_row (F:Fun K "is_row" "is_row" (top 32) f fd) (B:Bs mg) (Z:Cs K mg t_MOST_THINGS t_MOST_CAUSES t_LEAST_SIZE t_GREATEST_SIZE) (c_is_list_of:Callee P w K mg base CX0 "is_list_of" ["thing", "length"] 1 (spD K true pre_is_list_of)) (c_is_weight:Callee P w K mg base CX0 "is_weight" ["weight"] 2 (spD K true pre_is_weight)):FnOk P w K mg base CX0 3 f fd ["row", "size"] (spD K true pre_is_row):=by
  have sc:=sc_is_row
  refine F.ok sc (fun vs H Q E h=>spD_len len_is_row h) (fun cdv A outer s H vs Q E hr h=>?_)
  obtain ⟨Fh,ds,d,le,dp,p,q⟩:=h
  refine ⟨_,(pss_one (ps_ret (pe_and (pe_fn c_is_list_of (hr.mono (by decide)) rfl pass0 (pa_cons (pv 0) (pa_cons (pv 1) pa_nil))) (pe_and (pe_callB (call_allK (K:=K) rfl rfl) rfl B.all (by decide +kernel) (pa_cons (pe_comp rfl (N:=["weight"]) (js:=[none]) (by walk_at"comp_ok") (pi_listK (K:=K) rfl (pv 0)) (fun _ _ _ _=>(pg_name (i:=0) (show List.Nodup (["weight"]:List PySem.Str) by decide +kernel) rfl (Or.inl rfl))) (fun _ _ _ _=>pif_nil) (fun _ _ _ _=>(pe_fn c_is_weight (hr.mono (by decide)) rfl pass0 (pa_cons (pv 0) pa_nil)))) pa_nil)) (pe_one (pe_cmpR op_gt (pe_callB (call_sumK (K:=K) rfl rfl) rfl B.sum (by decide +kernel) (pa_cons (pv 0) pa_nil)) pe_int (nomark _))))))),?_⟩
  have hN:(["row", "size"]:List Str).length=2:=rfl
  obtain ⟨r,s,rfl,ok,hl,rfl⟩:=p
  have big:=line_big
  have hp:=ok.p
  walk_at"run"
  refine ex_ret (d:=.bool (true && (((r.map fun _=>true).all fun b=>b) && decide ((0:Int) < r.sum)))) true (ev_and (ev_callF (ds:=[.list (r.map .int),.int s]) (by walk_at"ev") ⟨r.map .int,s,rfl,by rw [List.length_map]; exact ok.l,rfl⟩) fun _=>ev_and (ev_all (bs:=r.map fun _=>true) (EvO.toL (EvO.eq (evo_each (κ:=false) (is:=[0]) (xs:=r) false PyData.int (fun _=>.bool true) (fun x _ y _ h=>rfl) (ei_list (by walk_at"ev")) (by walk_at"cc") rfl (by decide) (by omega) ?_) (by rw [List.map_map]; rfl)))) fun _=>ev_gt (ev_sum (ns:=r) (EvE.toL (κ:=false) (by walk_at"ev"))) (by walk_at"ev")) ?_ (.inl ⟨rfl,rfl⟩)
  · intro x hx
    exact egn (by walk_at"sc") (ev_callF (by walk_at"ev") ⟨x,rfl,(ok.w x hx).1,rfl⟩)
  · rw [decide_eq_true (by omega)]
    simp
def pre_is_table (ds:List PyData) (d:PyData):Prop:=∃ (t:List (List Int)) (m s:Int),ds=[lls t,.int m,.int s]∧(t.length:Int)=m∧t.length≤1024∧(∀ r∈t,RowOk s r∧r.length≤1000)∧d=.bool true
theorem len_is_table (ds:List PyData) (d:PyData) (h:pre_is_table ds d):ds.length=3:=by obtain ⟨a,b,c,rfl,_⟩:=h; rfl
theorem sc_is_table:FnScope ["table", "rows", "size"] ["table", "rows", "size"] (defScope (top 31)):=⟨rfl,rfl,rfl,by decide +kernel,rfl,by decide +kernel,by decide +kernel⟩
theorem ok_is_table (F:Fun K "is_table" "is_table" (top 31) f fd) (B:Bs mg) (Z:Cs K mg t_MOST_THINGS t_MOST_CAUSES t_LEAST_SIZE t_GREATEST_SIZE) (c_is_list_of:Callee P w K mg base CX0 "is_list_of" ["thing", "length"] 1 (spD K true pre_is_list_of)) (c_is_row:Callee P w K mg base CX0 "is_row" ["row", "size"] 3 (spD K true pre_is_row)):FnOk P w K mg base CX0 4 f fd ["table", "rows", "size"] (spD K true pre_is_table):=by
  have sc:=sc_is_table
  refine F.ok sc (fun vs H Q E h=>spD_len len_is_table h) (fun cdv A outer s H vs Q E hr h=>?_)
  obtain ⟨Fh,ds,d,le,dp,p,q⟩:=h
  refine ⟨_,(pss_one (ps_ret (pe_and (pe_fn c_is_list_of (hr.mono (by decide)) rfl pass0 (pa_cons (pv 0) (pa_cons (pv 1) pa_nil))) (pe_one (pe_callB (call_allK (K:=K) rfl rfl) rfl B.all (by decide +kernel) (pa_cons (pe_comp rfl (N:=["row", "size"]) (js:=[none,some 2]) (by walk_at"comp_ok") (pi_listK (K:=K) rfl (pv 0)) (fun _ _ _ _=>(pg_name (i:=0) (show List.Nodup (["row", "size"]:List PySem.Str) by decide +kernel) rfl (Or.inl rfl))) (fun _ _ _ _=>pif_nil) (fun _ _ _ _=>(pe_fn c_is_row (hr.mono (by decide)) rfl pass0 (pa_cons (pv 0) (pa_cons (pv 1) pa_nil))))) pa_nil)))))),?_⟩
  have hN:(["table", "rows", "size"]:List Str).length=3:=rfl
  obtain ⟨t,m,s,rfl,hl,tl,hr,rfl⟩:=p
  have big:=line_big
  walk_at"run"
  refine ex_ret (d:=.bool (true && ((t.map fun _=>true).all fun b=>b))) true (ev_and (ev_callF (ds:=[.list (t.map il),.int m]) (by walk_at"ev") ⟨t.map il,m,rfl,by rw [List.length_map]; exact hl,rfl⟩) fun _=>ev_all (bs:=t.map fun _=>true) (EvO.toL (EvO.eq (evo_each (κ:=false) (is:=[0]) (xs:=t) false il (fun _=>.bool true) (fun x _ y _ h=>rfl) (ei_list (by walk_at"ev")) (by walk_at"cc") rfl (by decide) (by omega) ?_) (by rw [List.map_map]; rfl)))) ?_ (.inl ⟨rfl,rfl⟩)
  · intro r h
    exact egn (by walk_at"sc") (ev_callF (ds:=[il r,.int s]) (by walk_at"ev") ⟨r,s,rfl,(hr r h).1,(hr r h).2,rfl⟩)
  · simp
structure BkU (ss:List Int) (cs:List (List Nat)) (ts:List (List (List Int))):Prop where
  b:BkOk ss cs ts
  u:∀ r∈cs,r.Pairwise (· < ·)
  o:OrdC ss.length cs
theorem z3_inv {ss:List Int} {cs:List (List Nat)} {ts:List (List (List Int))} {i:Nat} {d:PyData} (h:BkOk ss cs ts) (hd:(zip3 (ss.map .int) (cs.map nl) (ts.map lls))[i]?=some d):i < ss.length∧d=.tuple [.int (ss.getD i 0),nl (cs.getD i []),lls (ts.getD i [])]:=by
  have cl:=h.cl
  have tl:=h.tl
  have il:=(List.getElem?_eq_some_iff.mp hd).1
  rw [zip3_len (by rw [List.length_map,List.length_map]; exact cl) (by rw [List.length_map,List.length_map]; exact tl),List.length_map] at il
  refine ⟨il,?_⟩
  have g1:(ss.map PyData.int)[i]?=some (.int (ss.getD i 0)):=by rw [List.getElem?_map,getD_some (d:=0) il]; rfl
  have g2:(cs.map nl)[i]?=some (nl (cs.getD i [])):=by rw [List.getElem?_map,getD_some (d:=[]) (by omega)]; rfl
  have g3:(ts.map lls)[i]?=some (lls (ts.getD i [])):=by rw [List.getElem?_map,getD_some (d:=[]) (by omega)]; rfl
  rw [zip3_get g1 g2 g3] at hd
  exact (Option.some.inj hd).symm
def pre_are_tables (ds:List PyData) (d:PyData):Prop:=∃ (ss:List Int) (cs:List (List Nat)) (ts:List (List (List Int))),ds=[il ss,nls cs,tbl ts]∧BkOk ss cs ts∧d=.bool true
theorem len_are_tables (ds:List PyData) (d:PyData) (h:pre_are_tables ds d):ds.length=3:=by obtain ⟨a,b,c,rfl,_⟩:=h; rfl
theorem sc_are_tables:FnScope ["sizes", "causes", "tables", "size", "own", "table"] ["sizes", "causes", "tables"] (defScope (top 30)):=⟨rfl,rfl,rfl,by decide +kernel,rfl,by decide +kernel,by decide +kernel⟩
theorem ok_are_tables (F:Fun K "are_tables" "are_tables" (top 30) f fd) (B:Bs mg) (Z:Cs K mg t_MOST_THINGS t_MOST_CAUSES t_LEAST_SIZE t_GREATEST_SIZE) (c_is_list_of:Callee P w K mg base CX0 "is_list_of" ["thing", "length"] 1 (spD K true pre_is_list_of)) (c_is_table:Callee P w K mg base CX0 "is_table" ["table", "rows", "size"] 4 (spD K true pre_is_table)) (c_count_of:Callee P w K mg base CX0 "count_of" ["sizes"] 1 (spD K true pre_count_of)) (c_picked:Callee P w K mg base CX0 "picked" ["values", "things"] 1 (spD K true pre_picked)):FnOk P w K mg base CX0 5 f fd ["sizes", "causes", "tables"] (spD K true pre_are_tables):=by
  have sc:=sc_are_tables
  refine F.ok sc (fun vs H Q E h=>spD_len len_are_tables h) (fun cdv A outer s H vs Q E hr h=>?_)
  obtain ⟨Fh,ds,d,le,dp,p,q⟩:=h
  refine ⟨_,(pss_cons (ps_if (pt_not (pt_val (pe_fn c_is_list_of (hr.mono (by decide)) rfl pass0 (pa_cons (pv 2) (pa_cons (pe_callB (call_len_seqK (K:=K) rfl) rfl B.len (by decide +kernel) (pa_cons (pv 0) pa_nil)) pa_nil))))) (pss_one (ps_ret pe_bl)) pss_nil)
      (pss_cons (ps_for PassesOwn.never rfl (pi_zip3 (K:=K) rfl rfl B.zip (pa_cons (pv 0) (pa_cons (pv 1) (pa_cons (pv 2) pa_nil)))) (pg_tupK (K:=K) (n:=3) rfl rfl (pgs_cons (pg_name (i:=3) sc.nd rfl (Or.inl rfl)) (pgs_cons (pg_name (i:=4) sc.nd rfl (Or.inl rfl)) (pgs_cons (pg_name (i:=5) sc.nd rfl (Or.inl rfl)) pgs_nil)))) (pss_one (ps_if (pt_not (pt_val (pe_fn c_is_table (hr.mono (by decide)) rfl pass0 (pa_cons (pv 5) (pa_cons (pe_fn c_count_of (hr.mono (by decide)) rfl pass0 (pa_cons (pe_fn c_picked (hr.mono (by decide)) rfl pass0 (pa_cons (pv 0) (pa_cons (pv 4) pa_nil))) pa_nil)) (pa_cons (pv 3) pa_nil)))))) (pss_one (ps_ret pe_bl)) pss_nil)))
      (pss_one (ps_ret pe_bl)))),?_⟩
  have hN:(["sizes", "causes", "tables", "size", "own", "table"]:List Str).length=6:=rfl
  obtain ⟨ss,cs,ts,rfl,ok,rfl⟩:=p
  have big:=line_big
  have n12:=ok.n
  have cl:=ok.cl
  have tl:=ok.tl
  walk_at"run"
  refine exifF (b:=!true) (et_not (et_B (ev_callF (ds:=[.list (ts.map lls),.int ((ss.map PyData.int).length:Nat)]) (ea_cons (by walk_at"ev") (ea_cons (ev_len (by walk_at"ev")) ea_nil)) ⟨ts.map lls,_,rfl,by rw [List.length_map,List.length_map,tl],rfl⟩))) rfl ?_
  refine exfor (ds:=zip3 (ss.map .int) (cs.map nl) (ts.map lls)) false (fun _ Γ=>∃ b3 b4 b5,Γ=[some (.fz false (il ss)),some (.fz false (nls cs)),some (.fz false (tbl ts)),b3,b4,b5]) (ei_zip3 (by rw [List.length_map,List.length_map]; exact cl) (by rw [List.length_map,List.length_map]; exact tl) (by walk_at"ev")) ⟨none,none,none,rfl⟩ ?_ ?_
  · rintro i d Γ' hd ⟨b3,b4,b5,rfl⟩
    obtain ⟨hi,rfl⟩:=z3_inv ok hd
    have gc:=getD_some (d:=([]:List Nat)) (l:=cs) (k:=i) (by omega)
    have gt:=getD_some (d:=([]:List (List Int))) (l:=ts) (k:=i) (by omega)
    have ck:=ok.ck i _ gc
    have tk:=ok.tk i _ _ gc gt
    have pr:=ok.pr gc
    have pki:=pk_ints ss (cs.getD i []) ck.1
    have gs:=getD_size ok.s hi
    refine ⟨_,eg3 (by walk_at"sc") (by walk_at"sc") (by walk_at"sc") ?_⟩
    refine exifF (b:=!true) (et_not (et_B (ev_callF (ds:=[lls (ts.getD i []),.int (prod (pk ss (cs.getD i []))),.int (ss.getD i 0)]) (ea_cons (by walk_at"ev") (ea_cons (ev_callF (ds:=[il (pk ss (cs.getD i []))]) (ea_cons (ev_callF (ds:=[.list (ss.map .int),nl (cs.getD i [])]) (by walk_at"ev") ⟨ss.map .int,cs.getD i [],rfl,imm_ints ss,by rw [List.length_map]; exact ck.1,by omega,by rw [pki]⟩) ea_nil) ⟨pk ss (cs.getD i []),rfl,fun s hs=>?_,by unfold Sx2.pk; rw [List.length_map]; exact ck.2,rfl⟩) (by walk_at"ev"))) ⟨ts.getD i [],_,_,rfl,tk,by omega,fun r hr=>?_,rfl⟩))) rfl ?_
    · obtain ⟨j,hj,rfl⟩:=List.mem_map.mp hs
      have:=getD_size ok.s (k:=j) (ck.1 j hj)
      omega
    · have:=ok.rk i _ gt r hr
      have:=this.l
      exact ⟨‹_›,by omega⟩
    · exact ex_next ⟨_,_,_,rfl⟩
  · rintro Γ' ⟨b3,b4,b5,rfl⟩
    exact ex_ret true (by walk_at"ev") rfl (.inl ⟨rfl,rfl⟩)
def pre_check_book (ds:List PyData) (d:PyData):Prop:=∃ (ss:List Int) (cs:List (List Nat)) (ts:List (List (List Int))),ds=[il ss,nls cs,tbl ts]∧BkU ss cs ts∧d=.none
theorem len_check_book (ds:List PyData) (d:PyData) (h:pre_check_book ds d):ds.length=3:=by obtain ⟨a,b,c,rfl,_⟩:=h; rfl
theorem sc_check_book:FnScope ["sizes", "causes", "tables"] ["sizes", "causes", "tables"] (defScope (top 24)):=⟨rfl,rfl,rfl,by decide +kernel,rfl,by decide +kernel,by decide +kernel⟩
theorem ok_check_book (F:Fun K "check_book" "check_book" (top 24) f fd) (B:Bs mg) (Z:Cs K mg t_MOST_THINGS t_MOST_CAUSES t_LEAST_SIZE t_GREATEST_SIZE) (c_are_sizes:Callee P w K mg base CX0 "are_sizes" ["sizes"] 3 (spD K true pre_are_sizes)) (c_are_causes:Callee P w K mg base CX0 "are_causes" ["causes", "number"] 4 (spD K true pre_are_causes)) (c_are_tables:Callee P w K mg base CX0 "are_tables" ["sizes", "causes", "tables"] 5 (spD K true pre_are_tables)) (c_order_of:Callee P w K mg base CX0 "order_of" ["causes"] 2 (spW K true pre_order_of)):FnOk P w K mg base CX0 6 f fd ["sizes", "causes", "tables"] (spD K true pre_check_book):=by
  have sc:=sc_check_book
  refine F.ok sc (fun vs H Q E h=>spD_len len_check_book h) (fun cdv A outer s H vs Q E hr h=>?_)
  obtain ⟨Fh,ds,d,le,dp,p,q⟩:=h
  refine ⟨_,(pss_cons (ps_if (pt_not (pt_val (pe_fn c_are_sizes (hr.mono (by decide)) rfl pass0 (pa_cons (pv 0) pa_nil)))) (pss_one ps_never) pss_nil)
      (pss_cons (ps_if (pt_not (pt_val (pe_fn c_are_causes (hr.mono (by decide)) rfl pass0 (pa_cons (pv 1) (pa_cons (pe_callB (call_len_seqK (K:=K) rfl) rfl B.len (by decide +kernel) (pa_cons (pv 0) pa_nil)) pa_nil))))) (pss_one ps_never) pss_nil)
      (pss_cons (ps_if (pt_not (pt_val (pe_fn c_are_tables (hr.mono (by decide)) rfl pass0 (pa_cons (pv 0) (pa_cons (pv 1) (pa_cons (pv 2) pa_nil)))))) (pss_one ps_never) pss_nil)
      (pss_one (ps_expr (pe_fn c_order_of (hr.mono (by decide)) rfl pass0 (pa_cons (pv 1) pa_nil))))))),?_⟩
  have hN:(["sizes", "causes", "tables"]:List Str).length=3:=rfl
  obtain ⟨ss,cs,ts,rfl,ok,rfl⟩:=p
  have n12:=ok.b.n
  have el:PyData.int (((ss.map PyData.int).length:Nat):Int)=.int (ss.length:Int):=by rw [List.length_map]
  walk_at"run"
  refine exifF (b:=!true) (et_not (et_B (ev_callF (ds:=[il ss]) (by walk_at"ev") ⟨ss,rfl,n12,ok.b.s,rfl⟩))) rfl ?_
  refine exifF (b:=!true) (et_not (et_B (ev_callF (ds:=[nls cs,.int (ss.length:Int)]) (ea_cons (by walk_at"ev") (ea_cons (EvE.eq (ev_len (ds:=ss.map PyData.int) (by walk_at"ev")) el) ea_nil)) ⟨cs,ss.length,rfl,ok.b.cl,n12,fun r hr=>⟨(ok.o.r r hr).2,(ok.o.r r hr).1,ok.u r hr⟩,rfl⟩))) rfl ?_
  refine exifF (b:=!true) (et_not (et_B (ev_callF (ds:=[il ss,nls cs,tbl ts]) (by walk_at"ev") ⟨ss,cs,ts,rfl,ok.b,rfl⟩))) rfl ?_
  exact ex_dropG (evg_call (ds:=[nls cs]) (by walk_at"ev") ⟨ss.length,cs,rfl,ok.o,rfl⟩) rfl
def pre_copied (ds xs ys zs:List PyData):Prop:=∃ (ss:List Int) (cs:List (List Nat)) (ts:List (List (List Int))),ds=[bookD ss cs ts]∧BkOk ss cs ts∧xs=ss.map .int∧ys=cs.map nl∧zs=ts.map lls
theorem len_copied (ds xs ys zs:List PyData) (h:pre_copied ds xs ys zs):ds.length=1:=by obtain ⟨a,b,c,rfl,_⟩:=h; rfl
theorem sc_copied:FnScope ["book", "tables", "table"] ["book"] (defScope (top 34)):=⟨rfl,rfl,rfl,by decide +kernel,rfl,by decide +kernel,by decide +kernel⟩
theorem ok_copied (F:Fun K "copied" "copied" (top 34) f fd) (B:Bs mg) (Z:Cs K mg t_MOST_THINGS t_MOST_CAUSES t_LEAST_SIZE t_GREATEST_SIZE)  : FnOk P w K mg base CX0 1 f fd ["book"] (spT3 K pre_copied):=by
  have sc:=sc_copied
  refine F.ok sc (fun vs H Q E h=>spT3_len len_copied h) (fun cdv A outer s H vs Q E hr h=>?_)
  obtain ⟨Fh,ds,xs,ys,zs,le,dp,p,q⟩:=h
  refine ⟨_,(pss_cons (ps_set (i:=1) sc.nd rfl (Or.inl rfl) (pe_lst pa_nil))
      (pss_cons (ps_for PassesOwn.never rfl (pi_listK (K:=K) rfl (pe_ix (ix_tupK (K:=K) rfl) (pv 0) pe_int (fun _ _=>rfl))) (pg_name (i:=2) sc.nd rfl (Or.inl rfl)) (pss_one (ps_expr (pe_bmK (K:=K) rfl PySem.F.plainAttrs_list PySem.F.slot_list_append PySem.F.type_list_append mt_append (pv 1) (pa_cons (pe_comp rfl (N:=["row"]) (js:=[none]) (by walk_at"comp_ok") (pi_listK (K:=K) rfl (pv 2)) (fun _ _ _ _=>(pg_name (i:=0) (show List.Nodup (["row"]:List PySem.Str) by decide +kernel) rfl (Or.inl rfl))) (fun _ _ _ _=>pif_nil) (fun _ _ _ _=>(pe_callTy (call_list_ofK (K:=K) rfl) rfl B.list (by decide +kernel) (pa_cons (pv 0) pa_nil)))) pa_nil)))))
      (pss_one (ps_ret (pe_tup (pa_cons (pe_callTy (call_list_ofK (K:=K) rfl) rfl B.list (by decide +kernel) (pa_cons (pe_ix (ix_tupK (K:=K) rfl) (pv 0) pe_int (fun _ _=>rfl)) pa_nil)) (pa_cons (pe_comp rfl (N:=["own"]) (js:=[none]) (by walk_at"comp_ok") (pi_listK (K:=K) rfl (pe_ix (ix_tupK (K:=K) rfl) (pv 0) pe_int (fun _ _=>rfl))) (fun _ _ _ _=>(pg_name (i:=0) (show List.Nodup (["own"]:List PySem.Str) by decide +kernel) rfl (Or.inl rfl))) (fun _ _ _ _=>pif_nil) (fun _ _ _ _=>(pe_callTy (call_list_ofK (K:=K) rfl) rfl B.list (by decide +kernel) (pa_cons (pv 0) pa_nil)))) (pa_cons (pv 1) pa_nil)))))))),?_⟩
  have hN:(["book", "tables", "table"]:List Str).length=3:=rfl
  obtain ⟨ss,cs,ts,rfl,ok,rfl,rfl,rfl⟩:=p
  have big:=line_big
  have n12:=ok.n
  have cl:=ok.cl
  have tl:=ok.tl
  refine run_T3 le dp q hN (by walk_at"st") ?_
  refine ext3_seq (·=[some (.fz false (bookD ss cs ts)),some (.ow true []),none]) (ex_setO (evo_lst (ds:=[]) ea_nil (by decide)) rfl) ?_
  rintro Γ' rfl
  refine ext3_seq (fun Γ=>∃ x,Γ=[some (.fz false (bookD ss cs ts)),some (.ow true (ts.map lls)),x]) (ex_for (ds:=ts.map lls) false (fun i Γ=>∃ x,Γ=[some (.fz false (bookD ss cs ts)),some (.ow true ((ts.take i).map lls)),x]) (ei_list (ev_ixT (by walk_at"ev") (by walk_at"ev") atI2)) ⟨none,by rw [List.take_zero]; rfl⟩ ?_ ?_) ?_
  · rintro i d Γ' hd ⟨x,rfl⟩
    obtain ⟨t,ht,rfl⟩:=get_map hd
    have:=ok.tlen (List.mem_of_getElem? ht)
    refine ⟨_,egn (by walk_at"sc") ?_⟩
    refine exa1 (d:=lls t) (by walk_at"gc") (EvO.toE (evo_each (is:=[0]) (xs:=t) false il il (fun _ _ _ _ h=>h) (ei_list (by walk_at"ev")) (by walk_at"cc") rfl (by decide) (by omega) ?_)) (by walk_at"sc") (by rw [List.length_map,List.length_take]; omega) ?_
    · intro r hr
      refine egn (by walk_at"sc") ?_
      exact EvO.toE (evo_list (EvL.imm (κ:=false) (EvE.toL (by walk_at"ev")) (imm_ints _)))
    · refine ⟨some (.fz false (lls t)),?_⟩
      rw [take_succ ht,List.map_append]
      rfl
  · rintro Γ' ⟨x,rfl⟩
    rw [List.length_map,List.take_length]
    exact ⟨x,rfl⟩
  · rintro Γ' ⟨x,rfl⟩
    refine ext3_ret (evo_list (EvL.imm (κ:=false) (EvE.toL (ev_ixT (by walk_at"ev") (by walk_at"ev") atI0)) (imm_ints ss))) (evo_each (is:=[0]) (xs:=cs) false nl nl (fun _ _ _ _ h=>h) (ei_list (ev_ixT (by walk_at"ev") (by walk_at"ev") atI1)) (by walk_at"cc") rfl (by decide) (by omega) ?_) (by walk_at"gc")
    intro r hr
    refine egn (by walk_at"sc") ?_
    exact EvO.toE (evo_list (EvL.imm (κ:=false) (EvE.toL (by walk_at"ev")) (nl_imm _)))
def pre_book (ds:List PyData) (d:PyData):Prop:=∃ (ss:List Int) (cs:List (List Nat)) (ts:List (List (List Int))),ds=[il ss,nls cs,tbl ts]∧BkU ss cs ts∧d=bookD ss cs ts
theorem len_book (ds:List PyData) (d:PyData) (h:pre_book ds d):ds.length=3:=by obtain ⟨a,b,c,rfl,_⟩:=h; rfl
theorem sc_book:FnScope ["sizes", "causes", "tables"] ["sizes", "causes", "tables"] (defScope (top 23)):=⟨rfl,rfl,rfl,by decide +kernel,rfl,by decide +kernel,by decide +kernel⟩
theorem ok_book (F:Fun K "book" "book" (top 23) f fd) (B:Bs mg) (Z:Cs K mg t_MOST_THINGS t_MOST_CAUSES t_LEAST_SIZE t_GREATEST_SIZE) (c_check_book:Callee P w K mg base CX0 "check_book" ["sizes", "causes", "tables"] 6 (spD K true pre_check_book)) (c_copied:Callee P w K mg base CX0 "copied" ["book"] 1 (spT3 K pre_copied)):FnOk P w K mg base CX0 7 f fd ["sizes", "causes", "tables"] (spD K true pre_book):=by
  have sc:=sc_book
  refine F.ok sc (fun vs H Q E h=>spD_len len_book h) (fun cdv A outer s H vs Q E hr h=>?_)
  obtain ⟨Fh,ds,d,le,dp,p,q⟩:=h
  refine ⟨_,(pss_cons (ps_expr (pe_fn c_check_book (hr.mono (by decide)) rfl pass0 (pa_cons (pv 0) (pa_cons (pv 1) (pa_cons (pv 2) pa_nil)))))
      (pss_one (ps_ret (pe_fn c_copied (hr.mono (by decide)) rfl pass0 (pa_cons (pe_tup (pa_cons (pv 0) (pa_cons (pv 1) (pa_cons (pv 2) pa_nil)))) pa_nil))))),?_⟩
  have hN:(["sizes", "causes", "tables"]:List Str).length=3:=rfl
  obtain ⟨ss,cs,ts,rfl,ok,rfl⟩:=p
  walk_at"run"
  refine ex_dropE (d:=.none) (ev_callF (ds:=[il ss,nls cs,tbl ts]) (by walk_at"ev") ⟨ss,cs,ts,rfl,ok,rfl⟩) ?_
  exact ex_ret true (ev_callT3 (ds:=[bookD ss cs ts]) (by walk_at"ev") ⟨ss,cs,ts,rfl,ok.b,rfl,rfl,rfl⟩) rfl (.inl ⟨rfl,rfl⟩)
structure BkO (ss:List Int) (cs:List (List Nat)) (ts:List (List (List Int))):Prop where
  b:BkOk ss cs ts
  n:ss.length≤6
  r:∀ t∈ts,∀ r∈t,r.sum≤2 ^ 202
  u:∀ r∈cs,r.Pairwise (· < ·)
  o:∃ ord:List Nat,ord.Perm (List.range ss.length)∧∀ (i k:Nat),ord[i]?=some k→∀ c∈cs.getD k [],c∈ord.take i
section
variable {ss:List Int} {cs:List (List Nat)} {ts:List (List (List Int))}
theorem BkO.U (h:BkO ss cs ts):BkU ss cs ts:=⟨h.b,h.u,h.b.cl,h.b.n,fun r hr=>by
  obtain ⟨k,hk⟩:=List.mem_iff_getElem?.mp hr
  exact h.b.ck k r hk,h.o⟩
def wT (ss:List Int) (cs:List (List Nat)) (ts:List (List (List Int))) (w:List Int) (k:Nat):Int:=(rowOf ss cs ts k w).getD (w.getD k 0).toNat 0
def wS (ss:List Int) (cs:List (List Nat)) (ts:List (List (List Int))) (w:List Int) (k:Nat):Int:=(rowOf ss cs ts k w).sum
def wch (ss:List Int) (cs:List (List Nat)) (ts:List (List (List Int))) (w:List Int):Int×Int:=mk (El.pAll (wT ss cs ts w) ss.length) (El.pAll (wS ss cs ts w) ss.length)
structure WAt (ss:List Int) (cs:List (List Nat)) (ts:List (List (List Int))) (w:List Int) (k:Nat):Prop where
  t0:0≤wT ss cs ts w k
  t1:wT ss cs ts w k≤wS ss cs ts w k
  s0:1≤wS ss cs ts w k
  s1:wS ss cs ts w k≤2 ^ 202
  l:((rowOf ss cs ts k w).length:Int)=ss.getD k 0
theorem BkO.at (h:BkO ss cs ts) {w:List Int} (hw:WdOk ss w) {k:Nat} (hk:k < ss.length):WAt ss cs ts w k:=by
  obtain ⟨own,t,j,A⟩:=h.b.at hw hk
  have R:=A.ok
  have wv:=hw.at hk
  have tm:t∈ts:=List.mem_of_getElem? A.ft
  have rm:rowOf ss cs ts k w∈t:=List.mem_of_getElem? A.fr
  have rl:=R.l
  have xm:(rowOf ss cs ts k w).getD (w.getD k 0).toNat 0∈rowOf ss cs ts k w:=List.mem_of_getElem? (getD_some (by omega))
  have b:=le_sum _ (fun x hx=>(R.w x hx).1) _ xm
  exact ⟨b.1,b.2,R.p,h.r t tm _ rm,rl⟩
theorem BkO.pS (h:BkO ss cs ts) {w:List Int} (hw:WdOk ss w) {i:Nat} (hi:i≤ss.length):1≤El.pAll (wS ss cs ts w) i∧El.pAll (wS ss cs ts w) i≤2 ^ (202 * i):=by
  have:=Pb.prod_pw (b:=202) ((List.range i).map (wS ss cs ts w)) fun x hx=>by
    obtain ⟨k,hk,rfl⟩:=List.mem_map.mp hx
    have A:=h.at hw (k:=k) (by have:=List.mem_range.mp hk; omega)
    exact ⟨A.s0,A.s1⟩
  rw [List.length_map,List.length_range] at this
  rw [Pb.pAll_prod]
  exact this
theorem BkO.pT (h:BkO ss cs ts) {w:List Int} (hw:WdOk ss w) {i:Nat} (hi:i≤ss.length):0≤El.pAll (wT ss cs ts w) i∧El.pAll (wT ss cs ts w) i≤2 ^ (202 * i):=by
  have:=Pb.prod_pw0 (b:=202) ((List.range i).map (wT ss cs ts w)) fun x hx=>by
    obtain ⟨k,hk,rfl⟩:=List.mem_map.mp hx
    have A:=h.at hw (k:=k) (by have:=List.mem_range.mp hk; omega)
    exact ⟨A.t0,Int.le_trans A.t1 A.s1⟩
  rw [List.length_map,List.length_range] at this
  rw [Pb.pAll_prod]
  exact this
theorem BkO.part (h:BkO ss cs ts) {w:List Int} (hw:WdOk ss w) {i:Nat} (hi:i≤ss.length):Shr 1300 (Sh.mk (El.pAll (wT ss cs ts w) i) (El.pAll (wS ss cs ts w) i)).1 (Sh.mk (El.pAll (wT ss cs ts w) i) (El.pAll (wS ss cs ts w) i)).2:=by
  have S:=h.pS hw hi
  have T:=h.pT hw hi
  have n6:=h.n
  exact mk_shr S.1 (Pb.pw_lt T.1 T.2 (by omega)) (Pb.pw_lt (by omega) S.2 (by omega))
end
def pre_times (ds:List PyData) (d:PyData):Prop:=∃ x y:Int×Int,ds=[shD x,shD y]∧Shr 4000 x.1 x.2∧Shr 4000 y.1 y.2∧d=shD (tm x.1 x.2 y.1 y.2)
theorem len_times (ds:List PyData) (d:PyData) (h:pre_times ds d):ds.length=2:=by obtain ⟨a,b,rfl,_⟩:=h; rfl
theorem sc_times:FnScope ["one", "other", "first", "second"] ["one", "other"] (defScope (top 14)):=⟨rfl,rfl,rfl,by decide +kernel,rfl,by decide +kernel,by decide +kernel⟩
theorem ok_times (F:Fun K "times" "times" (top 14) f fd) (B:Bs mg) (Z:Cs K mg t_MOST_THINGS t_MOST_CAUSES t_LEAST_SIZE t_GREATEST_SIZE) (c_common_divisor:Callee P w K mg base CX0 "common_divisor" ["number", "bottom"] 1 (spD K true pre_common_divisor)):FnOk P w K mg base CX0 2 f fd ["one", "other"] (spD K true pre_times):=by
  have sc:=sc_times
  refine F.ok sc (fun vs H Q E h=>spD_len len_times h) (fun cdv A outer s H vs Q E hr h=>?_)
  obtain ⟨Fh,ds,d,le,dp,p,q⟩:=h
  refine ⟨_,(pss_cons (ps_set (i:=2) sc.nd rfl (Or.inl rfl) (pe_fn c_common_divisor (hr.mono (by decide)) rfl pass0 (pa_cons (pe_ix (ix_tupK (K:=K) rfl) (pv 0) pe_int (fun _ _=>rfl)) (pa_cons (pe_ix (ix_tupK (K:=K) rfl) (pv 1) pe_int (fun _ _=>rfl)) pa_nil))))
      (pss_cons (ps_set (i:=3) sc.nd rfl (Or.inl rfl) (pe_fn c_common_divisor (hr.mono (by decide)) rfl pass0 (pa_cons (pe_ix (ix_tupK (K:=K) rfl) (pv 1) pe_int (fun _ _=>rfl)) (pa_cons (pe_ix (ix_tupK (K:=K) rfl) (pv 0) pe_int (fun _ _=>rfl)) pa_nil))))
      (pss_one (ps_ret (pe_tup (pa_cons (pe_op op_mulB (pe_op op_fdivB (pe_ix (ix_tupK (K:=K) rfl) (pv 0) pe_int (fun _ _=>rfl)) (pv 2)) (pe_op op_fdivB (pe_ix (ix_tupK (K:=K) rfl) (pv 1) pe_int (fun _ _=>rfl)) (pv 3))) (pa_cons (pe_op op_mulB (pe_op op_fdivB (pe_ix (ix_tupK (K:=K) rfl) (pv 0) pe_int (fun _ _=>rfl)) (pv 3)) (pe_op op_fdivB (pe_ix (ix_tupK (K:=K) rfl) (pv 1) pe_int (fun _ _=>rfl)) (pv 2))) pa_nil))))))),?_⟩
  have hN:(["one", "other", "first", "second"]:List Str).length=4:=rfl
  obtain ⟨⟨a,b⟩,⟨c,d⟩,rfl,s1,s2,rfl⟩:=p
  have d1:1≤d:=s2.low.pos
  have b1:1≤b:=s1.low.pos
  have e1:∀ x,CDivB x ((Int.gcd a d:Nat):Int):=fun x=>cdiv_gcd d1 s2.bb (by omega)
  have e2:∀ x,CDivB x ((Int.gcd c b:Nat):Int):=fun x=>cdiv_gcd b1 s1.bb (by omega)
  have ba:(a / ((Int.gcd a d:Nat):Int)).natAbs < 2 ^ 4000:=dn (div_le (Int.gcd_dvd_left a d)) s1.ba
  have bc:(c / ((Int.gcd c b:Nat):Int)).natAbs < 2 ^ 4000:=dn (div_le (Int.gcd_dvd_left c b)) s2.ba
  have bb:(b / ((Int.gcd c b:Nat):Int)).natAbs < 2 ^ 4000:=dn (div_le (Int.gcd_dvd_right c b)) s1.bb
  have bd:(d / ((Int.gcd a d:Nat):Int)).natAbs < 2 ^ 4000:=dn (div_le (Int.gcd_dvd_right a d)) s2.bb
  have m1:IntMulOk (a / ((Int.gcd a d:Nat):Int)) (c / ((Int.gcd c b:Nat):Int)):=mulOk ba bc (by omega)
  have m2:IntMulOk (b / ((Int.gcd c b:Nat):Int)) (d / ((Int.gcd a d:Nat):Int)):=mulOk bb bd (by omega)
  walk_at"run"
  refine exs true (ev_callF (by walk_at"ev") ⟨a,d,rfl,d1,rfl⟩) (by walk_at"sc") ?_
  refine exs true (ev_callF (by walk_at"ev") ⟨c,b,rfl,b1,rfl⟩) (by walk_at"sc") ?_
  refine ex_ret true (by walk_at"ev"; exact e1 _; exact e2 _; exact e2 _; exact e1 _) ?_ (.inl ⟨rfl,rfl⟩)
  rfl
def pre_world_chance (ds:List PyData) (d:PyData):Prop:=∃ (ss:List Int) (cs:List (List Nat)) (ts:List (List (List Int))) (ws:List Int),ds=[bookD ss cs ts,il ws]∧BkO ss cs ts∧WdOk ss ws∧d=shD (wch ss cs ts ws)
theorem len_world_chance (ds:List PyData) (d:PyData) (h:pre_world_chance ds d):ds.length=2:=by obtain ⟨a,b,c,e,rfl,_⟩:=h; rfl
theorem sc_world_chance:FnScope ["book", "world", "found", "k"] ["book", "world"] (defScope (top 38)):=⟨rfl,rfl,rfl,by decide +kernel,rfl,by decide +kernel,by decide +kernel⟩
theorem ok_world_chance (F:Fun K "world_chance" "world_chance" (top 38) f fd) (B:Bs mg) (Z:Cs K mg t_MOST_THINGS t_MOST_CAUSES t_LEAST_SIZE t_GREATEST_SIZE) (c_times:Callee P w K mg base CX0 "times" ["one", "other"] 2 (spD K true pre_times)) (c_chance_at:Callee P w K mg base CX0 "chance_at" ["book", "k", "world"] 3 (spD K true pre_chance_at)):FnOk P w K mg base CX0 4 f fd ["book", "world"] (spD K true pre_world_chance):=by
  have sc:=sc_world_chance
  refine F.ok sc (fun vs H Q E h=>spD_len len_world_chance h) (fun cdv A outer s H vs Q E hr h=>?_)
  obtain ⟨Fh,ds,d,le,dp,p,q⟩:=h
  refine ⟨_,(pss_cons (ps_set (i:=2) sc.nd rfl (Or.inl rfl) (pe_tup (pa_cons pe_int (pa_cons pe_int pa_nil))))
      (pss_cons (ps_for PassesOwn.never rfl (pi_range1 rfl B.range (pa_cons (pe_callB (call_len_seqK (K:=K) rfl) rfl B.len (by decide +kernel) (pa_cons (pv 1) pa_nil)) pa_nil)) (pg_name (i:=3) sc.nd rfl (Or.inl rfl)) (pss_one (ps_set (i:=2) sc.nd rfl (Or.inl rfl) (pe_fn c_times (hr.mono (by decide)) rfl pass0 (pa_cons (pv 2) (pa_cons (pe_fn c_chance_at (hr.mono (by decide)) rfl pass0 (pa_cons (pv 0) (pa_cons (pv 3) (pa_cons (pv 1) pa_nil)))) pa_nil))))))
      (pss_one (ps_ret (pv 2))))),?_⟩
  have hN:(["book", "world", "found", "k"]:List Str).length=4:=rfl
  obtain ⟨ss,cs,ts,ws,rfl,ok,hw,rfl⟩:=p
  have big:=line_big
  have n6:=ok.n
  have wl:=hw.l
  walk_at"run"
  refine exs true (d:=shD (mk (El.pAll (wT ss cs ts ws) 0) (El.pAll (wS ss cs ts ws) 0))) (EvE.eq (a:=.tuple [.int 1,.int 1]) (by walk_at"ev") (by show _=shD (mk 1 1); rw [El.mk_one])) (by walk_at"sc") ?_
  refine exfor (ds:=(List.range ws.length).map fun i:Nat=>.int (i:Int)) true (fun i Γ=>∃ y,Γ=[some (.fz false (bookD ss cs ts)),some (.fz false (il ws)),some (.fz true (shD (mk (El.pAll (wT ss cs ts ws) i) (El.pAll (wS ss cs ts ws) i)))),y]) (ei_rng1 (n:=(ws.length:Int)) (ea_cons (EvE.eq (ev_len (ds:=ws.map PyData.int) (by walk_at"ev")) (by rw [List.length_map])) ea_nil) (by omega) (by omega)) ⟨none,rfl⟩ ?_ ?_
  · rintro i d Γ' hd ⟨y,rfl⟩
    obtain ⟨hi,rfl⟩:=range_get hd
    have hk:i < ss.length:=by omega
    have A:=ok.at hw hk
    have S:=ok.pS hw (i:=i) (by omega)
    have s1:=ok.part hw (i:=i) (by omega)
    have s2:Shr 1300 (mk (wT ss cs ts ws i) (wS ss cs ts ws i)).1 (mk (wT ss cs ts ws i) (wS ss cs ts ws i)).2:=mk_shr A.s0 (Pb.pw_lt A.t0 (Int.le_trans A.t1 A.s1) (by decide)) (Pb.pw_lt (by have:=A.s0; omega) A.s1 (by decide))
    refine ⟨_,egn (by walk_at"sc") ?_⟩
    refine exs1 true (d:=shD (mk (El.pAll (wT ss cs ts ws) (i + 1)) (El.pAll (wS ss cs ts ws) (i + 1)))) (ev_callF (ea_cons (by walk_at"ev") (ea_cons (ev_callF (d:=shD (mk (wT ss cs ts ws i) (wS ss cs ts ws i))) (by walk_at"ev") ⟨ss,cs,ts,i,ws,rfl,ok.b,hw,hk,rfl⟩) ea_nil)) ⟨_,_,rfl,s1.up (n:=4000) (by decide),s2.up (n:=4000) (by decide),?_⟩) (by walk_at"sc") ⟨_,rfl⟩
    rw [El.tm_mk (by omega) (by have:=A.s0; omega),El.pAll_succ,El.pAll_succ]
  · rintro Γ' ⟨y,rfl⟩
    refine ex_ret true (by walk_at"ev") ?_ (.inl ⟨rfl,rfl⟩)
    rw [range_len,wl]
    rfl
def oneR (s a:Int):List Int:=(List.range s.toNat).map fun v:Nat=>if (v:Int)=a then 1 else 0
theorem pure_nil:PureC []:=fun j x h=>by simp at h
theorem pure_fz {κ:Bool} {d:PyData} {Γ:PD.Ctx} (h:PureC Γ):PureC (some (.fz κ d) :: Γ):=fun j x hx=>by
  cases j with
  | zero=>exact ⟨κ,d,(Option.some.inj (Option.some.inj hx)).symm⟩
  | succ j=>exact h j x hx
theorem pure_no {Γ:PD.Ctx} (h:PureC Γ):PureC (none :: Γ):=fun j x hx=>by
  cases j with
  | zero=>cases hx
  | succ j=>exact h j x hx
def pre_set_to (ds:List PyData) (d:PyData):Prop:=∃ (ss:List Int) (cs:List (List Nat)) (ts:List (List (List Int))) (x:Nat) (a:Int),ds=[bookD ss cs ts,.int x,.int a]∧BkOk ss cs ts∧x < ss.length∧d=bookD ss (cs.set x []) (ts.set x [oneR (ss.getD x 0) a])
theorem len_set_to (ds:List PyData) (d:PyData) (h:pre_set_to ds d):ds.length=3:=by obtain ⟨a,b,c,e,g,rfl,_⟩:=h; rfl
theorem sc_set_to:FnScope ["book", "k", "a", "found"] ["book", "k", "a"] (defScope (top 39)):=⟨rfl,rfl,rfl,by decide +kernel,rfl,by decide +kernel,by decide +kernel⟩
theorem ok_set_to (F:Fun K "set_to" "set_to" (top 39) f fd) (B:Bs mg) (Z:Cs K mg t_MOST_THINGS t_MOST_CAUSES t_LEAST_SIZE t_GREATEST_SIZE) (c_copied:Callee P w K mg base CX0 "copied" ["book"] 1 (spT3 K pre_copied)):FnOk P w K mg base CX0 2 f fd ["book", "k", "a"] (spD K true pre_set_to):=by
  have sc:=sc_set_to
  refine F.ok sc (fun vs H Q E h=>spD_len len_set_to h) (fun cdv A outer s H vs Q E hr h=>?_)
  obtain ⟨Fh,ds,d,le,dp,p,q⟩:=h
  refine ⟨_,(pss_cons (ps_set (i:=3) sc.nd rfl (Or.inl rfl) (pe_fn c_copied (hr.mono (by decide)) rfl pass0 (pa_cons (pv 0) pa_nil)))
      (pss_cons (ps_asg (pe_lst pa_nil) (pg_sub (pe_ix (ix_tupK (K:=K) rfl) (pv 3) pe_int (fun _ _=>rfl)) (pv 1) set_list))
      (pss_cons (ps_asg (pe_lst (pa_cons (pe_comp rfl (N:=["value", "a"]) (js:=[none,some 2]) (by walk_at"comp_ok") (pi_range1 rfl B.range (pa_cons (pe_ix (ix_listK (K:=K) rfl) (pe_ix (ix_tupK (K:=K) rfl) (pv 0) pe_int (fun _ _=>rfl)) (pv 1) (fun _ _=>rfl)) pa_nil)) (fun _ _ _ _=>(pg_name (i:=0) (show List.Nodup (["value", "a"]:List PySem.Str) by decide +kernel) rfl (Or.inl rfl))) (fun _ _ _ _=>pif_nil) (fun _ _ _ _=>(pe_ifExp (pt_cmpR op_eq (pv 0) (pv 1) (nomark _)) pe_int pe_int))) pa_nil)) (pg_sub (pe_ix (ix_tupK (K:=K) rfl) (pv 3) pe_int (fun _ _=>rfl)) (pv 1) set_list))
      (pss_one (ps_ret (pv 3)))))),?_⟩
  have hN:(["book", "k", "a", "found"]:List Str).length=4:=rfl
  obtain ⟨ss,cs,ts,x,a,rfl,ok,hx,rfl⟩:=p
  have big:=line_big
  have cl:=ok.cl
  have tl:=ok.tl
  have gs:=getD_size ok.s hx
  have as:atI (ss.map PyData.int) (x:Int)=some (.int (ss.getD x 0)):=at_ints hx
  walk_at"run"
  refine ex_setT3 (xs:=ss.map .int) (ys:=cs.map nl) (zs:=ts.map lls) (k:=x) (d2:=.list []) (d3:=lls [oneR (ss.getD x 0) a]) (pure_fz (pure_fz (pure_fz (pure_no pure_nil)))) (fun z h=>by cases h) (by show 3 < 4; decide) (by walk_at"ev") ⟨ss,cs,ts,rfl,ok,rfl,rfl,rfl⟩ (by walk_at"ev") (EvO.toE (EvO.eq (evo_lst (ds:=[il (oneR (ss.getD x 0) a)]) (ea_cons (EvO.toE (EvO.eq (evo_rng (is:=[0]) (n:=(ss.getD x 0).toNat) (fun v=>.int (if (v:Int)=a then 1 else 0)) (ea_cons (EvE.eq (ev_ixL (κ:=false) (EvE.toL (ev_ixT (κ:=false) (by walk_at"ev") (by walk_at"ev") atI0)) (by walk_at"ev") as) (by rw [Int.toNat_of_nonneg (by omega)])) ea_nil) (by omega) (by walk_at"cc") rfl (by decide) ?_) ?_)) ea_nil) (by show 1≤_; omega)) rfl)) (by walk_at"gc") (by rw [List.length_map]; omega) (by rw [List.length_map]; omega) ?_ rfl
  · intro v hv
    refine egn (by walk_at"sc") ?_
    exact ev_ifE (b:=decide ((v:Int)=a)) (by walk_at"ev") (fun h=>EvE.eq (b:=.int (if (v:Int)=a then 1 else 0)) (show EvE K .fresh true _ _ (.int 1) by walk_at"ev") (by rw [if_pos (by simpa using h)])) (fun h=>EvE.eq (b:=.int (if (v:Int)=a then 1 else 0)) (show EvE K .fresh true _ _ (.int 0) by walk_at"ev") (by rw [if_neg (by simpa using h)]))
  · unfold oneR
    rw [List.map_map]
    rfl
  · show PyData.tuple _=bookD _ _ _
    show _=PyData.tuple [il ss,.list ((cs.set x []).map nl),.list ((ts.set x [oneR (ss.getD x 0) a]).map lls)]
    rw [List.map_set,List.map_set]
    rfl
theorem one_ok {s a:Int} (h:2≤s∧s≤4) (ha:0≤a∧a < s):RowOk s (oneR s a)∧(oneR s a).sum=1:=by
  have hs:s=2∨s=3∨s=4:=by omega
  have h4:a=0∨a=1∨a=2∨a=3:=by omega
  have key:((oneR s a).length:Int)=s∧(∀ x∈oneR s a,0≤x∧x < 10 ^ 60)∧(oneR s a).sum=1:=by
    rcases hs with rfl | rfl | rfl <;> rcases h4 with rfl | rfl | rfl | rfl <;> first | omega | decide
  exact ⟨⟨key.1,key.2.1,by omega,by rw [key.2.2]; decide⟩,key.2.2⟩
section
variable {ss:List Int} {cs:List (List Nat)} {ts:List (List (List Int))} {a:Int} {x:Nat}
theorem set_bk (h:BkO ss cs ts) (hx:x < ss.length) (ha:0≤a∧a < ss.getD x 0):BkOk ss (cs.set x []) (ts.set x [oneR (ss.getD x 0) a]):=by
  have o:=one_ok (getD_size h.b.s hx) ha
  refine ⟨h.b.s,h.b.n,by rw [List.length_set]; exact h.b.cl,by rw [List.length_set]; exact h.b.tl,fun k own hk=>?_,fun k own t hk ht=>?_,fun k t ht r hr=>?_⟩
  · by_cases e:x=k
    · subst e
      rw [List.getElem?_set_self (by rw [h.b.cl]; exact hx)] at hk
      cases hk
      exact ⟨fun c hc=>(nomatch hc),by show 0≤5; decide⟩
    · rw [List.getElem?_set_ne e] at hk
      exact h.b.ck k own hk
  · by_cases e:x=k
    · subst e
      rw [List.getElem?_set_self (by rw [h.b.cl]; exact hx)] at hk
      rw [List.getElem?_set_self (by rw [h.b.tl]; exact hx)] at ht
      cases hk
      cases ht
      rfl
    · rw [List.getElem?_set_ne e] at hk ht
      exact h.b.tk k own t hk ht
  · by_cases e:x=k
    · subst e
      rw [List.getElem?_set_self (by rw [h.b.tl]; exact hx)] at ht
      cases ht
      rw [List.mem_singleton.mp hr]
      exact o.1
    · rw [List.getElem?_set_ne e] at ht
      exact h.b.rk k t ht r hr
theorem BkO.set (h:BkO ss cs ts) (hx:x < ss.length) (ha:0≤a∧a < ss.getD x 0):BkO ss (cs.set x []) (ts.set x [oneR (ss.getD x 0) a]):=by
  refine ⟨set_bk h hx ha,h.n,fun t ht r hr=>?_,fun r hr=>?_,?_⟩
  · rcases List.mem_or_eq_of_mem_set ht with ht | rfl
    · exact h.r t ht r hr
    · rw [List.mem_singleton.mp hr,(one_ok (getD_size h.b.s hx) ha).2]
      decide
  · rcases List.mem_or_eq_of_mem_set hr with hr | rfl
    · exact h.u r hr
    · exact .nil
  · obtain ⟨ord,pm,tp⟩:=h.o
    refine ⟨ord,pm,fun i k hk c hc=>?_⟩
    by_cases e:x=k
    · subst e
      rw [List.getD_eq_getElem?_getD,List.getElem?_set_self (by rw [h.b.cl]; exact hx)] at hc
      cases hc
    · rw [List.getD_eq_getElem?_getD,List.getElem?_set_ne e,← List.getD_eq_getElem?_getD] at hc
      exact tp i k hk c hc
theorem row_ne {w:List Int} {k:Nat} (e:x≠k) {t:List (List Int)}:rowOf ss (cs.set x []) (ts.set x t) k w=rowOf ss cs ts k w:=by
  unfold rowOf
  rw [List.getD_eq_getElem?_getD (l:=cs.set x []),List.getElem?_set_ne e,← List.getD_eq_getElem?_getD,List.getD_eq_getElem?_getD (l:=ts.set x _),List.getElem?_set_ne e,← List.getD_eq_getElem?_getD]
theorem row_eq (h:BkO ss cs ts) (hx:x < ss.length) {w r:List Int}:rowOf ss (cs.set x []) (ts.set x [r]) x w=r:=by
  unfold rowOf
  rw [List.getD_eq_getElem?_getD (l:=cs.set x []),List.getElem?_set_self (by rw [h.b.cl]; exact hx),List.getD_eq_getElem?_getD (l:=ts.set x _),List.getElem?_set_self (by rw [h.b.tl]; exact hx)]
  rfl
def cF (w:List Int) (x:Nat) (a:Int):Int:=if decide (w.getD x 0=a)=true then 1 else 0
theorem wT_eq (h:BkO ss cs ts) (hx:x < ss.length) {w:List Int} (hw:WdOk ss w):wT ss (cs.set x []) (ts.set x [oneR (ss.getD x 0) a]) w x=cF w x a:=by
  have v:=hw.at hx
  unfold wT cF
  rw [row_eq h hx]
  unfold oneR
  rw [List.getD_eq_getElem?_getD,List.getElem?_map,List.getElem?_range (by omega)]
  show (if ((w.getD x 0).toNat:Int)=a then (1:Int) else 0)=_
  rw [Int.toNat_of_nonneg v.1]
  by_cases e:w.getD x 0=a
  · rw [if_pos e,decide_eq_true e]; rfl
  · rw [if_neg e,decide_eq_false e]; rfl
theorem wS_eq (h:BkO ss cs ts) (hx:x < ss.length) (ha:0≤a∧a < ss.getD x 0) {w:List Int}:wS ss (cs.set x []) (ts.set x [oneR (ss.getD x 0) a]) w x=1:=by
  unfold wS
  rw [row_eq h hx]
  exact (one_ok (getD_size h.b.s hx) ha).2
theorem c01 (w:List Int) (x:Nat) (a:Int):cF w x a=0∨cF w x a=1:=by
  unfold cF
  split
  · exact .inr rfl
  · exact .inl rfl
def tpF (f:Nat→Int) (c:Int) (x j:Nat):Int:=El.pAll f j * (if j≤x then c else 1)
theorem tp_ne {f:Nat→Int} {c:Int} {x j:Nat} (e:j≠x):tpF f c x (j + 1)=tpF f c x j * f j:=by
  unfold tpF
  rw [El.pAll_succ]
  by_cases h:j≤x
  · rw [if_pos h,if_pos (by omega),Int.mul_assoc,Int.mul_assoc,Int.mul_comm c]
  · rw [if_neg h,if_neg (by omega),Int.mul_one,Int.mul_one]
theorem tp_eq {f:Nat→Int} {c:Int} {x:Nat} (e:f x=c):tpF f c x (x + 1)=tpF f c x x:=by
  unfold tpF
  rw [El.pAll_succ,if_pos (Nat.le_refl _),if_neg (by omega),e,Int.mul_one]
theorem tp_end {f:Nat→Int} {c:Int} {x j:Nat} (h:x < j):tpF f c x j=El.pAll f j:=by
  unfold tpF
  rw [if_neg (by omega),Int.mul_one]
theorem tp_bd {f:Nat→Int} {c M:Int} {x j:Nat} (h:0≤El.pAll f j∧El.pAll f j≤M) (hc:c=0∨c=1):0≤tpF f c x j∧tpF f c x j≤M:=by
  have hM:0≤M:=by omega
  unfold tpF
  split
  · rcases hc with rfl | rfl
    · rw [Int.mul_zero]; exact ⟨Int.le_refl _,hM⟩
    · rw [Int.mul_one]; exact h
  · rw [Int.mul_one]; exact h
end
def pre_law_cell_at (ds:List PyData) (d:PyData):Prop:=∃ (ns:List Int) (k:Nat),ds=[il ns,.int k]∧d=.int (ns.getD k 0)
theorem len_law_cell_at (ds:List PyData) (d:PyData) (h:pre_law_cell_at ds d):ds.length=2:=by obtain ⟨a,b,rfl,_⟩:=h; rfl
theorem sc_law_cell_at:FnScope ["_law_script", "_law_k"] ["_law_script", "_law_k"] (defScope (top 41)):=⟨rfl,rfl,rfl,by decide +kernel,rfl,by decide +kernel,by decide +kernel⟩
theorem ok_law_cell_at (F:Fun K "_law_cell_at" "_law_cell_at" (top 41) f fd) (B:Bs mg) (Z:Cs K mg t_MOST_THINGS t_MOST_CAUSES t_LEAST_SIZE t_GREATEST_SIZE)  : FnOk P w K mg base CX0 1 f fd ["_law_script", "_law_k"] (spD K true pre_law_cell_at):=by
  have sc:=sc_law_cell_at
  refine F.ok sc (fun vs H Q E h=>spD_len len_law_cell_at h) (fun cdv A outer s H vs Q E hr h=>?_)
  obtain ⟨Fh,ds,d,le,dp,p,q⟩:=h
  refine ⟨_,(pss_cons (ps_if (pt_cmpR op_lt (pv 1) (pe_callB (call_len_seqK (K:=K) rfl) rfl B.len (by decide +kernel) (pa_cons (pv 0) pa_nil)) (nomark _)) (pss_one (ps_ret (pe_ix (ix_listK (K:=K) rfl) (pv 0) (pv 1) (fun _ _=>rfl)))) pss_nil)
      (pss_one (ps_ret pe_int))),?_⟩
  have hN:(["_law_script", "_law_k"]:List Str).length=2:=rfl
  obtain ⟨ns,k,rfl,rfl⟩:=p
  walk_at"run"
  refine exif2 (b:=decide ((k:Int) < ns.length)) (EvT.eq (by walk_at"ev") (by rw [List.length_map])) (fun h=>?_) (fun h=>?_)
  · have h':(k:Int) < ns.length:=by simpa using h
    exact exrs true (ev_ixL (by walk_at"ev") (by walk_at"ev") (at_ints (by omega))) rfl (.inl ⟨rfl,rfl⟩)
  · have h':¬ (k:Int) < ns.length:=by simpa using h
    refine exn ?_
    refine ex_ret true (by walk_at"ev") ?_ (.inl ⟨rfl,rfl⟩)
    rw [List.getD_eq_getElem?_getD,List.getElem?_eq_none (by omega)]
    rfl
theorem zl_back (ks:List Nat):(srt (zl ks))=zl ((srt (zl ks)).map Int.toNat):=by
  unfold zl
  rw [List.map_map]
  refine ((List.map_congr_left fun x hx=>?_).trans (List.map_id _)).symm
  obtain ⟨k,_,rfl⟩:=List.mem_map.mp ((srt_perm _).mem_iff.mp hx)
  rfl
def srtN (cs:List Nat):List Nat:=(srt (zl cs)).map Int.toNat
theorem srtN_perm (cs:List Nat):(srtN cs).Perm cs:=by
  have pr:(zl (srtN cs)).Perm (zl cs):=by
    unfold srtN
    rw [← zl_back]
    exact srt_perm _
  have:=pr.map Int.toNat
  unfold zl at this
  rw [List.map_map,List.map_map] at this
  have e:(Int.toNat∘fun k:Nat=>(k:Int))=id:=by funext k; rfl
  rw [e,List.map_id,List.map_id] at this
  exact this
theorem cut_map {α:Type} (g:α→PyData) (xs:List α) (k:Nat):cutD (xs.map g) none (some (k:Int))=(xs.take k).map g:=by
  unfold cutD
  rw [HT.sIx_nat]
  show ((xs.map g).drop 0).take (min k (xs.map g).length - 0)=_
  rw [List.drop_zero,Nat.sub_zero,List.length_map,← List.map_take]
  congr 1
  rcases Nat.le_total k xs.length with h | h
  · rw [Nat.min_eq_left h]
  · rw [Nat.min_eq_right h,List.take_of_length_le (Nat.le_refl _),List.take_of_length_le h]
def ordN (ns:List Int) (f:Nat):Nat→List Nat
  | 0=>[]
  | k + 1=>(ordN ns f k).take (ns.getD (f + 2 * k) 0 % ((k:Int) + 1)).toNat ++ k :: (ordN ns f k).drop (ns.getD (f + 2 * k) 0 % ((k:Int) + 1)).toNat
theorem ord_ok (ns:List Int) (f:Nat):∀ n,(ordN ns f n).length=n∧∀ x∈ordN ns f n,x < n
  | 0=>⟨rfl,(fun x h=>by cases h)⟩
  | k + 1=>by
    have ih:=ord_ok ns f k
    have h1:=Int.emod_lt_of_pos (ns.getD (f + 2 * k) 0) (show (0:Int) < (k:Int) + 1 by omega)
    have h0:=Int.emod_nonneg (ns.getD (f + 2 * k) 0) (show (k:Int) + 1≠0 by omega)
    unfold ordN
    refine ⟨?_,fun x hx=>?_⟩
    · rw [List.length_append,List.length_cons,List.length_take,List.length_drop,ih.1]
      omega
    · rcases List.mem_append.mp hx with h | h
      · have:=ih.2 x (List.mem_of_mem_take h); omega
      · rcases List.mem_cons.mp h with h | h
        · omega
        · have:=ih.2 x (List.mem_of_mem_drop h); omega
def num0 (ns:List Int) (f:Nat) (ord:List Nat) (i:Nat):Int:=(ns.getD (f + 2 * ord.getD i 0) 0 * 48271 + 15485863 * ((i:Int) + 1)) % 2147483647
def nmS (x:Int):Int:=(x * 48271 + 11) % 2147483647
def stp (dense:Int) (row:Nat) (st:Int×List (List Nat)) (c:Nat):Int×List (List Nat) :=
  (nmS st.1,if nmS st.1 / 64 % 5 < dense∧((st.2.getD row []).length:Int) < 5 then st.2.set row (st.2.getD row [] ++ [c]) else st.2)
def innS (ns:List Int) (f:Nat) (ord:List Nat) (i:Nat) (css:List (List Nat)) (j:Nat):Int×List (List Nat):=((ord.take i).take j).foldl (stp (1 + num0 ns f ord i % 4) (ord.getD i 0)) (num0 ns f ord i,css)
def shN (ns:List Int) (f n:Nat) (ord:List Nat):Nat→List (List Nat)
  | 0=>List.replicate n []
  | i + 1=>(innS ns f ord i (shN ns f n ord i) i).2
def shapeF (ns:List Int) (f n:Nat):List (List Nat):=(shN ns f n (ordN ns f n) n).map srtN
structure CsOk (n:Nat) (css:List (List Nat)):Prop where
  l:css.length=n
  k:∀ cs∈css,(∀ c∈cs,c < n)∧cs.length≤5
theorem stp_ok {n:Nat} {dense:Int} {row:Nat} {st:Int×List (List Nat)} {c:Nat} (h:CsOk n st.2) (hc:c < n) (hr:row < n):CsOk n (stp dense row st c).2:=by
  unfold stp
  dsimp only
  split
  · rename_i q
    have hm:st.2.getD row []∈st.2:=List.mem_of_getElem? (getD_some (by rw [h.l]; exact hr))
    have hk:=h.k _ hm
    refine ⟨by rw [List.length_set]; exact h.l,fun cs hcs=>?_⟩
    rcases List.mem_or_eq_of_mem_set hcs with hcs | rfl
    · exact h.k cs hcs
    · refine ⟨fun x hx=>?_,by rw [List.length_append]; show _ + 1≤5; omega⟩
      rcases List.mem_append.mp hx with hx | hx
      · exact hk.1 x hx
      · have:x=c:=by simpa using hx
        omega
  · exact h
theorem fold_ok {n:Nat} {dense:Int} {row:Nat} (hr:row < n):∀ (xs:List Nat) (st:Int×List (List Nat)),(∀ x∈xs,x < n)→CsOk n st.2→CsOk n (xs.foldl (stp dense row) st).2
  | [],_,_,h=>h
  | x :: r,st,hx,h=>fold_ok hr r _ (fun y hy=>hx y (List.mem_cons_of_mem _ hy)) (stp_ok h (hx x List.mem_cons_self) hr)
theorem inn_ok {ns:List Int} {f n:Nat} {ord:List Nat} {i j:Nat} {css:List (List Nat)} (ho:ord.length=n∧∀ x∈ord,x < n) (hi:i < n) (h:CsOk n css):CsOk n (innS ns f ord i css j).2 :=
  fold_ok (ho.2 _ (List.mem_of_getElem? (getD_some (by rw [ho.1]; exact hi)))) _ _ (fun x hx=>ho.2 x (List.mem_of_mem_take (List.mem_of_mem_take hx))) h
theorem shN_ok {ns:List Int} {f n:Nat} {ord:List Nat} (ho:ord.length=n∧∀ x∈ord,x < n):∀ i,i≤n→CsOk n (shN ns f n ord i)
  | 0,_=>⟨by show (List.replicate n []).length=n; rw [List.length_replicate],fun cs hcs=>by
      have:cs=[]:=List.eq_of_mem_replicate hcs
      subst this
      exact ⟨(fun c hc=>by cases hc),Nat.zero_le _⟩⟩
  | i + 1,hi=>inn_ok ho (by omega) (shN_ok ho i (by omega))
theorem shapeF_ok (ns:List Int) (f n:Nat):CsOk n (shapeF ns f n):=by
  have h:=shN_ok (ns:=ns) (f:=f) (ord_ok ns f n) n (Nat.le_refl _)
  refine ⟨by unfold shapeF; rw [List.length_map]; exact h.l,fun cs hcs=>?_⟩
  obtain ⟨c,hc,rfl⟩:=List.mem_map.mp hcs
  have:=h.k c hc
  exact ⟨fun x hx=>this.1 x ((srtN_perm c).mem_iff.mp hx),by rw [(srtN_perm c).length_eq]; exact this.2⟩
def unN:PyData→List Nat
  | .list ds=>ds.map fun d=>match d with | .int i=>i.toNat | _=>0
  | _=>[]
theorem unN_nl (cs:List Nat):unN (nl cs)=cs:=by
  show (cs.map fun k:Nat=>PyData.int (k:Int)).map _=cs
  rw [List.map_map]
  exact List.map_id' _
def pre_law_shape (ds:List PyData) (d:PyData):Prop:=∃ (ns:List Int) (f n:Nat),ds=[il ns,.int f,.int n]∧n≤20∧d=nls (shapeF ns f n)
theorem len_law_shape (ds:List PyData) (d:PyData) (h:pre_law_shape ds d):ds.length=3:=by obtain ⟨a,b,c,rfl,_⟩:=h; rfl
theorem sc_law_shape:FnScope ["_law_script", "_law_first", "_law_many", "_law_order", "_law_k", "_law_causes", "_law_at", "_law_number", "_law_dense", "_law_c"] ["_law_script", "_law_first", "_law_many"] (defScope (top 42)):=⟨rfl,rfl,rfl,by decide +kernel,rfl,by decide +kernel,by decide +kernel⟩
theorem ok_law_shape (F:Fun K "_law_shape" "_law_shape" (top 42) f fd) (B:Bs mg) (Z:Cs K mg t_MOST_THINGS t_MOST_CAUSES t_LEAST_SIZE t_GREATEST_SIZE) (c_law_cell_at:Callee P w K mg base CX0 "_law_cell_at" ["_law_script", "_law_k"] 1 (spD K true pre_law_cell_at)):FnOk P w K mg base CX0 2 f fd ["_law_script", "_law_first", "_law_many"] (spD K true pre_law_shape):=by
  have sc:=sc_law_shape
  refine F.ok sc (fun vs H Q E h=>spD_len len_law_shape h) (fun cdv A outer s H vs Q E hr h=>?_)
  obtain ⟨Fh,ds,d,le,dp,p,q⟩:=h
  refine ⟨_,(pss_cons (ps_set (i:=3) sc.nd rfl (Or.inl rfl) (pe_lst pa_nil))
      (pss_cons (ps_for PassesOwn.never rfl (pi_range1 rfl B.range (pa_cons (pv 2) pa_nil)) (pg_name (i:=4) sc.nd rfl (Or.inl rfl)) (pss_one (ps_expr (pe_bmK (K:=K) rfl PySem.F.plainAttrs_list PySem.F.slot_list_insert PySem.F.type_list_insert mt_insert (pv 3) (pa_cons (pe_op op_mod (pe_fn c_law_cell_at (hr.mono (by decide)) rfl pass0 (pa_cons (pv 0) (pa_cons (pe_op op_add (pv 1) (pe_op op_mulB pe_int (pv 4))) pa_nil))) (pe_op op_add (pv 4) pe_int)) (pa_cons (pv 4) pa_nil))))))
      (pss_cons (ps_setComp (i:=5) rfl sc.nd rfl rfl (N:=["_law_k"]) (js:=[none]) (by walk_at"comp_ok") (pi_range1 rfl B.range (pa_cons (pv 2) pa_nil)) (fun _ _ _ _=>(pg_name (i:=0) (show List.Nodup (["_law_k"]:List PySem.Str) by decide +kernel) rfl (Or.inl rfl))) (fun _ _ _ _=>pif_nil) (fun _ _ _ _=>(pe_lst pa_nil)))
      (pss_cons (ps_for PassesOwn.never rfl (pi_range1 rfl B.range (pa_cons (pv 2) pa_nil)) (pg_name (i:=6) sc.nd rfl (Or.inl rfl)) (pss_cons (ps_set (i:=7) sc.nd rfl (Or.inl rfl) (pe_op op_mod (pe_op op_add (pe_op op_mulB (pe_fn c_law_cell_at (hr.mono (by decide)) rfl pass0 (pa_cons (pv 0) (pa_cons (pe_op op_add (pv 1) (pe_op op_mulB pe_int (pe_ix (ix_listK (K:=K) rfl) (pv 3) (pv 6) (fun _ _=>rfl)))) pa_nil))) pe_int) (pe_op op_mulB pe_int (pe_op op_add (pv 6) pe_int))) pe_int))
      (pss_cons (ps_set (i:=8) sc.nd rfl (Or.inl rfl) (pe_op op_add pe_int (pe_op op_mod (pv 7) pe_int)))
      (pss_one (ps_for PassesOwn.never rfl (pi_listK (K:=K) rfl (pe_slice (sl_listK (K:=K) rfl) (pv 3) po_none (po_some (pv 6)))) (pg_name (i:=9) sc.nd rfl (Or.inl rfl)) (pss_cons (ps_set (i:=7) sc.nd rfl (Or.inl rfl) (pe_op op_mod (pe_op op_add (pe_op op_mulB (pv 7) pe_int) pe_int) pe_int))
      (pss_one (ps_if (PW.pt (pw_and (pt_cmpR op_lt (pe_op op_mod (pe_op op_fdiv (pv 7) pe_int) pe_int) (pv 8) (nomark _)) (pw_and1 (pt_cmpR op_lt (pe_callB (call_len_seqK (K:=K) rfl) rfl B.len (by decide +kernel) (pa_cons (pe_ix (ix_listK (K:=K) rfl) (pv 5) (pe_ix (ix_listK (K:=K) rfl) (pv 3) (pv 6) (fun _ _=>rfl)) (fun _ _=>rfl)) pa_nil)) pe_int (nomark _))))) (pss_one (ps_expr (pe_bmK (K:=K) rfl PySem.F.plainAttrs_list PySem.F.slot_list_append PySem.F.type_list_append mt_append (pe_ix (ix_listK (K:=K) rfl) (pv 5) (pe_ix (ix_listK (K:=K) rfl) (pv 3) (pv 6) (fun _ _=>rfl)) (fun _ _=>rfl)) (pa_cons (pv 9) pa_nil)))) pss_nil))))))))
      (pss_one (ps_ret (pe_comp rfl (N:=["_law_row_here"]) (js:=[none]) (by walk_at"comp_ok") (pi_listK (K:=K) rfl (pv 5)) (fun _ _ _ _=>(pg_name (i:=0) (show List.Nodup (["_law_row_here"]:List PySem.Str) by decide +kernel) rfl (Or.inl rfl))) (fun _ _ _ _=>pif_nil) (fun _ _ _ _=>(pe_callB (call_sortedK (K:=K) rfl) rfl B.sorted (by decide +kernel) (pa_cons (pv 0) pa_nil)))))))))),?_⟩
  have hN:(["_law_script", "_law_first", "_law_many", "_law_order", "_law_k", "_law_causes", "_law_at", "_law_number", "_law_dense", "_law_c"]:List Str).length=10:=rfl
  obtain ⟨ns,f,n,rfl,hn,rfl⟩:=p
  have big:=line_big
  walk_at"run"
  walk_at"go"
  refine exfor (ds:=(List.range n).map fun i:Nat=>.int (i:Int)) true (fun i Γ=>∃ x,Γ=[some (.fz false (il ns)),some (.fz false (.int f)),some (.fz false (.int n)),some (.ow true (nD (ordN ns f i))),x,none,none,none,none,none]) (ei_rng1 (n:=(n:Int)) (by walk_at"ev") (by omega) (by omega)) ⟨none,rfl⟩ ?_ ?_
  · rintro i d Γ' hd ⟨x,rfl⟩
    obtain ⟨hi,rfl⟩:=range_get hd
    have oi:=ord_ok ns f i
    have h1:=Int.emod_lt_of_pos (ns.getD (f + 2 * i) 0) (show (0:Int) < (i:Int) + 1 by omega)
    have h0:=Int.emod_nonneg (ns.getD (f + 2 * i) 0) (show (i:Int) + 1≠0 by omega)
    refine ⟨_,egn (by walk_at"sc") ?_⟩
    have m1:IntMulOk 2 (i:Int):=small_mul (by omega) (by omega)
    refine exin (m:=ns.getD (f + 2 * i) 0 % ((i:Int) + 1)) (d:=.int i) (by walk_at"gc") (ev_mod (ev_callF (by walk_at"ev") ⟨ns,f + 2 * i,by rw [Int.natCast_add,Int.natCast_mul]; rfl,rfl⟩) (by walk_at"ev") (by omega)) (by walk_at"ev") h0 ?_ ?_ (by walk_at"sc") ?_
    · unfold nD
      rw [List.length_map,oi.1]
      omega
    · unfold nD
      rw [List.length_map,oi.1]
      omega
    · show ∃ x,_
      have e:nD (ordN ns f (i + 1))=(nD (ordN ns f i)).take (ns.getD (f + 2 * i) 0 % ((i:Int) + 1)).toNat ++ .int (i:Int) :: (nD (ordN ns f i)).drop (ns.getD (f + 2 * i) 0 % ((i:Int) + 1)).toNat:=by
        unfold nD
        rw [← List.map_take,← List.map_drop]
        show List.map _ (_ ++ _ :: _)=_
        rw [List.map_append,List.map_cons]
      rw [e]
      exact ⟨_,rfl⟩
  rintro Γ' ⟨x,rfl⟩
  rw [range_len]
  have ho:=ord_ok ns f n
  have esh:shapeF ns f n=(shN ns f n (ordN ns f n) n).map srtN:=rfl
  rw [esh]
  generalize ordN ns f n=ord at ho
  refine exfz 3 (by walk_at"gc") (by walk_at"sc") ?_
  refine exo2 (ds:=(List.range n).map fun i:Nat=>.int (i:Int)) (κ':=true) (ei_rng1 (n:=(n:Int)) (by walk_at"ev") (by omega) (by omega)) (by rw [range_len]; omega) (by walk_at"sc") ?_
  rw [range_len]
  have e0:List.replicate n ([]:List PyData)=(shN ns f n ord 0).map nD:=by
    show _=(List.replicate n []).map nD
    rw [List.map_replicate]
    rfl
  rw [e0]
  refine exfor (ds:=(List.range n).map fun i:Nat=>.int (i:Int)) true (fun i Γ=>∃ x1 x2 x3 x4,Γ=[some (.fz false (il ns)),some (.fz false (.int f)),some (.fz false (.int n)),some (.fz true (.list (nD ord))),x,some (.o2 none ((shN ns f n ord i).map nD)),x1,x2,x3,x4]) (ei_rng1 (n:=(n:Int)) (by walk_at"ev") (by omega) (by omega)) ⟨none,none,none,none,rfl⟩ ?_ ?_
  · rintro i d Γ' hd ⟨x1,x2,x3,x4,rfl⟩
    obtain ⟨hi,rfl⟩:=range_get hd
    have hio:i < ord.length:=by rw [ho.1]; exact hi
    have go:=getD_some (d:=0) hio
    have rlt:=ho.2 _ (List.mem_of_getElem? go)
    have csi:=shN_ok (ns:=ns) (f:=f) ho i (by omega)
    refine ⟨_,egn (by walk_at"sc") ?_⟩
    have aO:atI (nD ord) (i:Int)=some (.int (ord.getD i 0:Nat)):=atI_map go
    have m1:IntMulOk 2 ((ord.getD i 0:Nat):Int):=small_mul (by omega) (by omega)
    have m2:IntMulOk (ns.getD (f + 2 * ord.getD i 0) 0) 48271:=small_mul (by decide) (by decide)
    have m3:IntMulOk 15485863 ((i:Int) + 1):=small_mul (by omega) (by omega)
    have oE:∀ {κ:Bool} {Γ0:PD.Ctx},GetC Γ0 3 (.fz true (.list (nD ord)))→GetC Γ0 6 (.fz true (.int i))→EvE K .fresh κ (tOp (rIxL K) (tVar 3) (tVar 6)) Γ0 (.int (ord.getD i 0:Nat)):=fun g1 g2=>EvE.imm (κ:=false) (ev_ixL (EvE.toL (evv g1 (by decide))) (evv g2 (by decide)) aO) rfl
    refine exs true (d:=.int (num0 ns f ord i)) (ev_mod (ev_add (ev_mul (ev_callF (ea_cons (by walk_at"ev") (ea_cons (ev_add (by walk_at"ev") (ev_mul (by walk_at"ev") (oE (by walk_at"gc") (by walk_at"gc")) m1)) ea_nil)) ⟨ns,f + 2 * ord.getD i 0,by rw [Int.natCast_add,Int.natCast_mul]; rfl,rfl⟩) (by walk_at"ev") m2) (ev_mul (by walk_at"ev") (by walk_at"ev") m3)) (by walk_at"ev") (by decide)) (by walk_at"sc") ?_
    refine exs true (d:=.int (1 + num0 ns f ord i % 4)) (by walk_at"ev") (by walk_at"sc") ?_
    have ecut:cutD (nD ord) none (some (i:Int))=nD (ord.take i):=cut_map _ ord i
    have esN:shN ns f n ord (i + 1)=(innS ns f ord i (shN ns f n ord i) i).2:=rfl
    rw [esN]
    have in0:innS ns f ord i (shN ns f n ord i) 0=(num0 ns f ord i,shN ns f n ord i):=by unfold innS; rw [List.take_zero]; rfl
    have inok:=fun j=>inn_ok (ns:=ns) (f:=f) (j:=j) ho hi csi
    have inS:∀ (j c:Nat),(ord.take i)[j]?=some c→innS ns f ord i (shN ns f n ord i) (j + 1)=stp (1 + num0 ns f ord i % 4) (ord.getD i 0) (innS ns f ord i (shN ns f n ord i) j) c:=fun j c hc=>by
      unfold innS
      rw [take_succ hc,List.foldl_append]
      rfl
    generalize innS ns f ord i (shN ns f n ord i)=inn at in0 inok inS
    refine ex_for (ds:=nD (ord.take i)) true (fun j Γ=>∃ x4,Γ=[some (.fz false (il ns)),some (.fz false (.int f)),some (.fz false (.int n)),some (.fz true (.list (nD ord))),x,some (.o2 none ((inn j).2.map nD)),some (.fz true (.int i)),some (.fz true (.int (inn j).1)),some (.fz true (.int (1 + num0 ns f ord i % 4))),x4]) (ei_list (EvO.toE (EvO.eq (evo_slice (by walk_at"ev") (by walk_at"ev") (by walk_at"ev")) ecut))) ⟨_,by rw [in0]⟩ ?_ ?_
    · rintro j d Γ' hd ⟨x4,rfl⟩
      obtain ⟨c,hc,rfl⟩:=get_map hd
      have hcn:=ho.2 c (List.mem_of_mem_take (List.mem_of_getElem? hc))
      have ok:=inok j
      refine ⟨_,egn (by walk_at"sc") ?_⟩
      rw [inS j c hc]
      generalize inn j=st at ok
      have m4:IntMulOk st.1 48271:=small_mul (by decide) (by decide)
      refine exs true (d:=.int (nmS st.1)) (by unfold nmS; walk_at"ev") (by walk_at"sc") ?_
      have gr:st.2[ord.getD i 0]?=some (st.2.getD (ord.getD i 0) []):=getD_some (by rw [ok.l]; exact rlt)
      have gr2:(st.2.map nD)[ord.getD i 0]?=some (nD (st.2.getD (ord.getD i 0) [])):=by rw [List.getElem?_map,gr]; rfl
      have ixr:ixN (st.2.map nD).length ((ord.getD i 0:Nat):Int)=some (ord.getD i 0):=ixN_nat (by rw [List.length_map,ok.l]; exact rlt)
      have d64:CDiv (nmS st.1) 64:=⟨by decide,by decide⟩
      have kr:=ok.k _ (List.mem_of_getElem? gr)
      refine ex_if (b:=decide (nmS st.1 / 64 % 5 < 1 + num0 ns f ord i % 4) && decide (((st.2.getD (ord.getD i 0) []).length:Int) < 5)) (et_and (by walk_at"ev") fun _=>et_test (ev_lt (EvE.eq (ev_len (EvL.weak (evl_o2 (by walk_at"gc") (oE (by walk_at"gc") (by walk_at"gc")) ixr gr2) fun h=>nomatch h)) (by unfold nD; rw [List.length_map])) (by walk_at"ev"))) (fun q=>?_) (fun q=>?_)
      · have q':nmS st.1 / 64 % 5 < 1 + num0 ns f ord i % 4∧((st.2.getD (ord.getD i 0) []).length:Int) < 5:=by simpa using q
        refine ex_o2app (d:=.int c) (by walk_at"gc") (oE (by walk_at"gc") (by walk_at"gc")) ixr gr2 (by walk_at"ev") (by unfold nD; rw [List.length_map]; omega) (by walk_at"sc") ?_
        show ∃ x4,_
        unfold stp
        dsimp only
        rw [if_pos q',List.map_set]
        have e:nD (st.2.getD (ord.getD i 0) [] ++ [c])=nD (st.2.getD (ord.getD i 0) []) ++ [.int (c:Int)]:=by unfold nD; rw [List.map_append]; rfl
        rw [e]
        exact ⟨_,rfl⟩
      · have q':¬ (nmS st.1 / 64 % 5 < 1 + num0 ns f ord i % 4∧((st.2.getD (ord.getD i 0) []).length:Int) < 5):=by
          rintro ⟨a,b⟩
          rw [decide_eq_true a,decide_eq_true b] at q
          cases q
        refine ex_next ?_
        show ∃ x4,_
        unfold stp
        dsimp only
        rw [if_neg q']
        exact ⟨_,rfl⟩
    · rintro Γ' ⟨x4,rfl⟩
      have el:(nD (ord.take i)).length=i:=by unfold nD; rw [List.length_map,List.length_take]; omega
      rw [el]
      exact ⟨_,_,_,_,rfl⟩
  · rintro Γ' ⟨x1,x2,x3,x4,rfl⟩
    rw [range_len]
    have ok:=shN_ok (ns:=ns) (f:=f) ho n (Nat.le_refl _)
    generalize shN ns f n ord n=css at ok
    have e5:(css.map nD).map PyData.list=css.map nl:=by rw [List.map_map]; rfl
    refine exfz2 5 (by walk_at"gc") (by walk_at"sc") ?_
    rw [e5]
    refine ex_ret true (EvO.toE (EvO.eq (evo_map (is:=[0]) true (fun d=>nl (srtN (unN d))) (ei_list (by walk_at"ev")) (by walk_at"cc") rfl (by decide) ?_ ?_) ?_)) rfl (.inl ⟨rfl,rfl⟩)
    · rw [List.length_map,ok.l]
      omega
    · intro d hd
      obtain ⟨cs,hcs,rfl⟩:=List.mem_map.mp hd
      have k5:=(ok.k cs hcs).2
      refine egn (by walk_at"sc") (EvE.eq (EvO.toE (evo_sorted (ns:=zl cs) (EvE.toL (EvE.eq (by walk_at"ev") (nl_zl cs))) (by unfold zl; rw [List.length_map]; omega))) ?_)
      rw [unN_nl,nl_zl]
      unfold srtN
      rw [← zl_back]
    · rw [List.map_map,List.map_map]
      refine List.map_congr_left fun cs _=>?_
      show nl (srtN (unN (nl cs)))=_
      rw [unN_nl]
      rfl
def nxN (x:Int):Int:=(x * 48271 + 7) % 2147483647
def wgN (x g:Int):Int:=if 0 < g∧x % 17=1 then 10 ^ (60:Int).toNat - 1 else if 0 < g∧x % 3=0 then x * x * 1000003 ^ (7:Int).toNat % 10 ^ (60:Int).toNat else max 0 (x / 32 % 12 - 3)
def rwN (x g:Int):Nat→Int×List Int
  | 0=>(x,[])
  | k + 1=>(nxN (rwN x g k).1,(rwN x g k).2 ++ [wgN (nxN (rwN x g k).1) g])
def rowF (x g:Int) (s:Nat):List Int:=if (rwN x g s).2.sum=0 then (rwN x g s).2.set ((rwN x g s).1 / 7 % s).toNat (1 + (rwN x g s).1 % 5) else (rwN x g s).2
theorem nxN_ok (x:Int):0≤nxN x∧nxN x < 2147483647:=⟨Int.emod_nonneg _ (by decide),Int.emod_lt_of_pos _ (by decide)⟩
theorem wg_ok (x g:Int):0≤wgN x g∧wgN x g < 10 ^ 60:=by
  unfold wgN
  split
  · exact ⟨by decide,by decide⟩
  · split
    · exact ⟨Int.emod_nonneg _ (by decide),Int.emod_lt_of_pos _ (by decide)⟩
    · have:(12:Int) < 10 ^ 60:=by decide
      omega
theorem rw_ok (x g:Int) (hx:0≤x∧x < 2147483647):∀ n,(0≤(rwN x g n).1∧(rwN x g n).1 < 2147483647)∧(rwN x g n).2.length=n∧∀ w∈(rwN x g n).2,0≤w∧w < 10 ^ 60
  | 0=>⟨hx,rfl,(fun w h=>by cases h)⟩
  | n + 1=>by
    have ih:=rw_ok x g hx n
    refine ⟨nxN_ok _,?_,fun w hw=>?_⟩
    · show ((rwN x g n).2 ++ [_]).length=_
      rw [List.length_append,ih.2.1]
      rfl
    · rcases List.mem_append.mp (show w∈(rwN x g n).2 ++ [wgN (nxN (rwN x g n).1) g] from hw) with h | h
      · exact ih.2.2 w h
      · have:w=wgN (nxN (rwN x g n).1) g:=by simpa using h
        rw [this]
        exact wg_ok _ _
theorem sum_set0:∀ (xs:List Int) (i:Nat) (v:Int),(∀ x∈xs,0≤x)→xs.sum=0→i < xs.length→(xs.set i v).sum=v
  | [],i,v,_,_,h=>by cases h
  | x :: r,0,v,h,hs,_=>by
    rw [List.sum_cons] at hs
    have:=sum_nn r fun y hy=>h y (List.mem_cons_of_mem _ hy)
    have:=h x List.mem_cons_self
    show (v :: r).sum=v
    rw [List.sum_cons]
    omega
  | x :: r,i + 1,v,h,hs,hl=>by
    rw [List.sum_cons] at hs
    have h1:=sum_nn r fun y hy=>h y (List.mem_cons_of_mem _ hy)
    have h2:=h x List.mem_cons_self
    show (x :: r.set i v).sum=v
    rw [List.sum_cons,sum_set0 r i v (fun y hy=>h y (List.mem_cons_of_mem _ hy)) (by omega) (by simpa using hl)]
    omega
theorem sum_le:∀ (xs:List Int),(∀ x∈xs,0≤x∧x < 10 ^ 60)→xs.sum≤(xs.length:Int) * 10 ^ 60
  | [],_=>by simp
  | x :: r,h=>by
    rw [List.sum_cons,List.length_cons,Int.natCast_add,Int.add_mul]
    have:=sum_le r fun y hy=>h y (List.mem_cons_of_mem _ hy)
    have:=h x List.mem_cons_self
    show _≤_ + 1 * (10:Int) ^ 60
    omega
theorem rowF_ok {x g:Int} (hx:0≤x∧x < 2147483647) {s:Nat} (h2:2≤s) (h4:s≤4):RowOk s (rowF x g s):=by
  obtain ⟨n0,ln,wn⟩:=rw_ok x g hx s
  have big:(6:Int) < 10 ^ 60:=by decide
  have e0:=Int.emod_nonneg ((rwN x g s).1 / 7) (show (s:Int)≠0 by omega)
  have e1:=Int.emod_lt_of_pos ((rwN x g s).1 / 7) (show (0:Int) < s by omega)
  unfold rowF
  split
  · rename_i hs
    have sm:=sum_set0 (rwN x g s).2 ((rwN x g s).1 / 7 % s).toNat (1 + (rwN x g s).1 % 5) (fun y hy=>(wn y hy).1) hs (by omega)
    have b62:(10:Int) < 10 ^ 62:=by decide
    refine ⟨by rw [List.length_set,ln],fun y hy=>?_,by rw [sm]; omega,by rw [sm]; omega⟩
    rcases List.mem_or_eq_of_mem_set hy with h | rfl
    · exact wn y h
    · omega
  · rename_i hs
    have nn:=sum_nn (rwN x g s).2 fun y hy=>(wn y hy).1
    have le:=sum_le (rwN x g s).2 wn
    rw [ln] at le
    refine ⟨by rw [ln],wn,by omega,Int.lt_of_le_of_lt (Int.le_trans le (Int.mul_le_mul_of_nonneg_right (show (s:Int)≤4 by omega) (by decide))) (by decide)⟩
def pre_law_row (ds:List PyData) (d:PyData):Prop:=∃ (x g:Int) (s:Nat),ds=[.int x,.int s,.int g]∧(0≤x∧x < 2147483647)∧2≤s∧s≤4∧d=il (rowF x g s)
theorem len_law_row (ds:List PyData) (d:PyData) (h:pre_law_row ds d):ds.length=3:=by obtain ⟨a,b,c,rfl,_⟩:=h; rfl
theorem left_mul {i j:Int} (h0:-(2 ^ 64) < i) (h1:i < 2 ^ 64):IntMulOk i j:=.of_left (intBits_le_64 h0 h1)
theorem sc_law_row:FnScope ["_law_number", "_law_size", "_law_great", "_law_row_here", "_law_value", "_law_weight"] ["_law_number", "_law_size", "_law_great"] (defScope (top 43)):=⟨rfl,rfl,rfl,by decide +kernel,rfl,by decide +kernel,by decide +kernel⟩
theorem ok_law_row (F:Fun K "_law_row" "_law_row" (top 43) f fd) (B:Bs mg) (Z:Cs K mg t_MOST_THINGS t_MOST_CAUSES t_LEAST_SIZE t_GREATEST_SIZE)  : FnOk P w K mg base CX0 1 f fd ["_law_number", "_law_size", "_law_great"] (spD K true pre_law_row):=by
  have sc:=sc_law_row
  refine F.ok sc (fun vs H Q E h=>spD_len len_law_row h) (fun cdv A outer s H vs Q E hr h=>?_)
  obtain ⟨Fh,ds,d,le,dp,p,q⟩:=h
  refine ⟨_,(pss_cons (ps_set (i:=3) sc.nd rfl (Or.inl rfl) (pe_lst pa_nil))
      (pss_cons (ps_for PassesOwn.never rfl (pi_range1 rfl B.range (pa_cons (pv 1) pa_nil)) (pg_name (i:=4) sc.nd rfl (Or.inl rfl)) (pss_cons (ps_set (i:=0) sc.nd rfl (Or.inl rfl) (pe_op op_mod (pe_op op_add (pe_op op_mulB (pv 0) pe_int) pe_int) pe_int))
      (pss_cons (ps_set (i:=5) sc.nd rfl (Or.inl rfl) (pe_callB (call_max2 rfl) rfl B.max (by decide +kernel) (pa_cons pe_int (pa_cons (pe_op op_sub (pe_op op_mod (pe_op op_fdiv (pv 0) pe_int) pe_int) pe_int) pa_nil))))
      (pss_cons (ps_if (PW.pt (pw_and (pt_cmpR op_gt (pv 2) pe_int (nomark _)) (pw_and1 (pt_cmpR op_eq (pe_op op_mod (pv 0) pe_int) pe_int (nomark _))))) (pss_one (ps_set (i:=5) sc.nd rfl (Or.inl rfl) (pe_op op_mod (pe_op op_mulB (pe_op op_mulB (pv 0) (pv 0)) (pe_op op_pow pe_int pe_int)) (pe_op op_pow pe_int pe_int)))) pss_nil)
      (pss_cons (ps_if (PW.pt (pw_and (pt_cmpR op_gt (pv 2) pe_int (nomark _)) (pw_and1 (pt_cmpR op_eq (pe_op op_mod (pv 0) pe_int) pe_int (nomark _))))) (pss_one (ps_set (i:=5) sc.nd rfl (Or.inl rfl) (pe_op op_sub (pe_op op_pow pe_int pe_int) pe_int))) pss_nil)
      (pss_one (ps_expr (pe_bmK (K:=K) rfl PySem.F.plainAttrs_list PySem.F.slot_list_append PySem.F.type_list_append mt_append (pv 3) (pa_cons (pv 5) pa_nil)))))))))
      (pss_cons (ps_if (pt_cmpR op_eq (pe_callB (call_sumK (K:=K) rfl rfl) rfl B.sum (by decide +kernel) (pa_cons (pv 3) pa_nil)) pe_int (nomark _)) (pss_one (ps_asg (pe_op op_add pe_int (pe_op op_mod (pv 0) pe_int)) (pg_sub (pv 3) (pe_op op_mod (pe_op op_fdiv (pv 0) pe_int) (pv 1)) set_list))) pss_nil)
      (pss_one (ps_ret (pv 3)))))),?_⟩
  have hN:(["_law_number", "_law_size", "_law_great", "_law_row_here", "_law_value", "_law_weight"]:List Str).length=6:=rfl
  obtain ⟨x,g,s,rfl,hx,h2,h4,rfl⟩:=p
  have big:=line_big
  walk_at"run"
  walk_at"go"
  refine exfor (ds:=(List.range s).map fun i:Nat=>.int (i:Int)) true (fun i Γ=>∃ κ y z,Γ=[some (.fz κ (.int (rwN x g i).1)),some (.fz false (.int s)),some (.fz false (.int g)),some (.ow true ((rwN x g i).2.map .int)),y,z]) (ei_rng1 (n:=(s:Int)) (by walk_at"ev") (by omega) (by omega)) ⟨false,none,none,rfl⟩ ?_ ?_
  · rintro i d Γ' hd ⟨κ,y,z,rfl⟩
    obtain ⟨hi,rfl⟩:=range_get hd
    have r:=rw_ok x g hx i
    refine ⟨_,egn (by walk_at"sc") ?_⟩
    have e1:rwN x g (i + 1)=(nxN (rwN x g i).1,(rwN x g i).2 ++ [wgN (nxN (rwN x g i).1) g]):=rfl
    rw [e1]
    generalize rwN x g i=t at r
    have m1:IntMulOk t.1 48271:=small_mul (by decide) (by decide)
    refine exs true (d:=.int (nxN t.1)) (by unfold nxN; exact ev_mod (ev_add (ev_mul (EvE.imm (κ:=κ) (ev_var (by rfl)) rfl) (by walk_at"ev") m1) (by walk_at"ev")) (by walk_at"ev") (by decide)) (by walk_at"sc") ?_
    have nb:=nxN_ok t.1
    generalize nxN t.1=q at nb
    refine exs true (d:=.int (max 0 (q / 32 % 12 - 3))) (ev_max2 (by walk_at"ev") (by walk_at"ev"; exact ⟨by decide,by decide⟩)) (by walk_at"sc") ?_
    have p7:CPow 1000003 7:=⟨by decide,by decide,by decide⟩
    have p60:CPow 10 60:=⟨by decide,by decide,by decide⟩
    have pp:(0:Int) < 10 ^ (60:Int).toNat:=by decide
    have m2:IntMulOk q q:=small_mul (by omega) (by omega)
    have qq:q * q < 2 ^ 64:=Int.lt_of_le_of_lt (Int.mul_le_mul (show q≤2147483647 by omega) (show q≤2147483647 by omega) nb.1 (by decide)) (by decide)
    have qq0:0≤q * q:=Int.mul_nonneg nb.1 nb.1
    have m3:IntMulOk (q * q) (1000003 ^ (7:Int).toNat):=left_mul (by omega) qq
    refine exif (b:=decide (0 < g) && decide (q % 3=0)) (fun Γ=>Γ=[some (.fz true (.int q)),some (.fz false (.int s)),some (.fz false (.int g)),some (.ow true (t.2.map .int)),some (.fz true (.int i)),some (.fz true (.int (if 0 < g∧q % 3=0 then q * q * 1000003 ^ (7:Int).toNat % 10 ^ (60:Int).toNat else max 0 (q / 32 % 12 - 3))))]) (by walk_at"ev") (fun c=>?_) (fun c=>?_) ?_
    · have c':0 < g∧q % 3=0:=by simpa using c
      refine exs1 true (by walk_at"ev") (by walk_at"sc") ?_
      show _=_
      rw [if_pos c']
    · have c':¬ (0 < g∧q % 3=0):=by
        rintro ⟨a,b⟩
        rw [decide_eq_true a,decide_eq_true b] at c
        cases c
      refine ex_next ?_
      show _=_
      rw [if_neg c']
    rintro Γ' rfl
    refine exif (b:=decide (0 < g) && decide (q % 17=1)) (fun Γ=>Γ=[some (.fz true (.int q)),some (.fz false (.int s)),some (.fz false (.int g)),some (.ow true (t.2.map .int)),some (.fz true (.int i)),some (.fz true (.int (wgN q g)))]) (by walk_at"ev") (fun c=>?_) (fun c=>?_) ?_
    · have c':0 < g∧q % 17=1:=by simpa using c
      refine exs1 true (by walk_at"ev") (by walk_at"sc") ?_
      show _=_
      unfold wgN
      rw [if_pos c']
    · have c':¬ (0 < g∧q % 17=1):=by
        rintro ⟨a,b⟩
        rw [decide_eq_true a,decide_eq_true b] at c
        cases c
      refine ex_next ?_
      show _=_
      unfold wgN
      rw [if_neg c']
    rintro Γ' rfl
    refine exa1 (by walk_at"gc") (by walk_at"ev") (by walk_at"sc") (by rw [List.length_map,r.2.1]; omega) ?_
    show ∃ κ y z,_
    rw [List.map_append]
    exact ⟨_,_,_,rfl⟩
  rintro Γ' ⟨κ,y,z,rfl⟩
  rw [range_len]
  have r:=rw_ok x g hx s
  have er:rowF x g s=if (rwN x g s).2.sum=0 then (rwN x g s).2.set ((rwN x g s).1 / 7 % s).toNat (1 + (rwN x g s).1 % 5) else (rwN x g s).2:=rfl
  rw [er]
  generalize rwN x g s=t at r
  have e0:=Int.emod_nonneg (t.1 / 7) (show (s:Int)≠0 by omega)
  have e1:=Int.emod_lt_of_pos (t.1 / 7) (show (0:Int) < s by omega)
  have nE:∀ {κ':Bool},EvE K .fresh κ' (tVar 0) [some (.fz κ (.int t.1)),some (.fz false (.int s)),some (.fz false (.int g)),some (.ow true (t.2.map .int)),y,z] (.int t.1):=EvE.imm (κ:=κ) (ev_var rfl) rfl
  refine exif (b:=decide (t.2.sum=0)) (fun Γ=>∃ a b c d e,Γ=[a,b,c,some (.ow true ((if t.2.sum=0 then t.2.set (t.1 / 7 % s).toNat (1 + t.1 % 5) else t.2).map .int)),d,e]) (et_test (ev_eqI (ev_sum (by walk_at"ev")) (by walk_at"ev"))) (fun c=>?_) (fun c=>?_) ?_
  · have c':t.2.sum=0:=by simpa using c
    have ix:ixN (t.2.map PyData.int).length (t.1 / 7 % s)=some (t.1 / 7 % s).toNat:=by
      have:=ixN_nat (n:=(t.2.map PyData.int).length) (i:=(t.1 / 7 % s).toNat) (by rw [List.length_map,r.2.1]; omega)
      rw [Int.toNat_of_nonneg e0] at this
      exact this
    refine exi1 (m:=t.1 / 7 % s) (d:=.int (1 + t.1 % 5)) (by walk_at"gc") (ev_add (by walk_at"ev") (ev_mod nE (by walk_at"ev") (by decide))) (ev_mod (ev_fdiv nE (by walk_at"ev") ⟨by decide,by decide⟩) (by walk_at"ev") (by omega)) ix (by walk_at"sc") ?_
    show ∃ a b c d e,_
    rw [if_pos c',List.map_set]
    exact ⟨_,_,_,_,_,rfl⟩
  · have c':¬ t.2.sum=0:=by simpa using c
    refine ex_next ?_
    show ∃ a b c d e,_
    rw [if_neg c']
    exact ⟨_,_,_,_,_,rfl⟩
  · rintro Γ' ⟨a,b,c,d,e,rfl⟩
    exact exro (by walk_at"gc") rfl (.inl ⟨rfl,rfl⟩)
def tbS (x:Int) (i:Nat):Int:=(x * 69621 + 1 + i) % 2147483647
def tbN (x g:Int) (s:Nat):Nat→Int×List (List Int)
  | 0=>(x % 2147483647,[])
  | i + 1=>(tbS (tbN x g s i).1 i,(tbN x g s i).2 ++ [rowF (tbS (tbN x g s i).1 i) g s])
theorem tbS_ok (x:Int) (i:Nat):0≤tbS x i∧tbS x i < 2147483647:=⟨Int.emod_nonneg _ (by decide),Int.emod_lt_of_pos _ (by decide)⟩
theorem tb_ok (x g:Int) {s:Nat} (h2:2≤s) (h4:s≤4):∀ n,(tbN x g s n).2.length=n∧∀ r∈(tbN x g s n).2,RowOk s r
  | 0=>⟨rfl,(fun w h=>by cases h)⟩
  | n + 1=>by
    have ih:=tb_ok x g h2 h4 n
    refine ⟨?_,fun w hw=>?_⟩
    · show ((tbN x g s n).2 ++ [_]).length=_
      rw [List.length_append,ih.1]
      rfl
    · rcases List.mem_append.mp (show w∈(tbN x g s n).2 ++ [rowF (tbS (tbN x g s n).1 n) g s] from hw) with h | h
      · exact ih.2 w h
      · have:w=rowF (tbS (tbN x g s n).1 n) g s:=by simpa using h
        rw [this]
        exact rowF_ok (tbS_ok _ _) h2 h4
def pre_law_table (ds:List PyData) (d:PyData):Prop:=∃ (x g:Int) (n s:Nat),ds=[.int x,.int n,.int s,.int g]∧n≤2000∧2≤s∧s≤4∧d=lls (tbN x g s n).2
theorem len_law_table (ds:List PyData) (d:PyData) (h:pre_law_table ds d):ds.length=4:=by obtain ⟨a,b,c,e,rfl,_⟩:=h; rfl
theorem sc_law_table:FnScope ["_law_cell", "_law_count", "_law_size", "_law_great", "_law_number", "_law_found", "_law_at"] ["_law_cell", "_law_count", "_law_size", "_law_great"] (defScope (top 44)):=⟨rfl,rfl,rfl,by decide +kernel,rfl,by decide +kernel,by decide +kernel⟩
theorem ok_law_table (F:Fun K "_law_table" "_law_table" (top 44) f fd) (B:Bs mg) (Z:Cs K mg t_MOST_THINGS t_MOST_CAUSES t_LEAST_SIZE t_GREATEST_SIZE) (c_law_row:Callee P w K mg base CX0 "_law_row" ["_law_number", "_law_size", "_law_great"] 1 (spD K true pre_law_row)):FnOk P w K mg base CX0 2 f fd ["_law_cell", "_law_count", "_law_size", "_law_great"] (spD K true pre_law_table):=by
  have sc:=sc_law_table
  refine F.ok sc (fun vs H Q E h=>spD_len len_law_table h) (fun cdv A outer s H vs Q E hr h=>?_)
  obtain ⟨Fh,ds,d,le,dp,p,q⟩:=h
  refine ⟨_,(pss_cons (ps_set (i:=4) sc.nd rfl (Or.inl rfl) (pe_op op_mod (pv 0) pe_int))
      (pss_cons (ps_set (i:=5) sc.nd rfl (Or.inl rfl) (pe_lst pa_nil))
      (pss_cons (ps_for PassesOwn.never rfl (pi_range1 rfl B.range (pa_cons (pv 1) pa_nil)) (pg_name (i:=6) sc.nd rfl (Or.inl rfl)) (pss_cons (ps_set (i:=4) sc.nd rfl (Or.inl rfl) (pe_op op_mod (pe_op op_add (pe_op op_add (pe_op op_mulB (pv 4) pe_int) pe_int) (pv 6)) pe_int))
      (pss_one (ps_expr (pe_bmK (K:=K) rfl PySem.F.plainAttrs_list PySem.F.slot_list_append PySem.F.type_list_append mt_append (pv 5) (pa_cons (pe_fn c_law_row (hr.mono (by decide)) rfl pass0 (pa_cons (pv 4) (pa_cons (pv 2) (pa_cons (pv 3) pa_nil)))) pa_nil))))))
      (pss_one (ps_ret (pv 5)))))),?_⟩
  have hN:(["_law_cell", "_law_count", "_law_size", "_law_great", "_law_number", "_law_found", "_law_at"]:List Str).length=7:=rfl
  obtain ⟨x,g,n,s,rfl,hn,h2,h4,rfl⟩:=p
  have big:=line_big
  walk_at"run"
  walk_at"go"
  refine exfor (ds:=(List.range n).map fun i:Nat=>.int (i:Int)) true (fun i Γ=>∃ y,Γ=[some (.fz false (.int x)),some (.fz false (.int n)),some (.fz false (.int s)),some (.fz false (.int g)),some (.fz true (.int (tbN x g s i).1)),some (.ow true ((tbN x g s i).2.map il)),y]) (ei_rng1 (n:=(n:Int)) (by walk_at"ev") (by omega) (by omega)) ⟨none,rfl⟩ ?_ ?_
  · rintro i d Γ' hd ⟨y,rfl⟩
    obtain ⟨hi,rfl⟩:=range_get hd
    have tl:=(tb_ok x g h2 h4 i).1
    refine ⟨_,egn (by walk_at"sc") ?_⟩
    have e1:tbN x g s (i + 1)=(tbS (tbN x g s i).1 i,(tbN x g s i).2 ++ [rowF (tbS (tbN x g s i).1 i) g s]):=rfl
    rw [e1]
    generalize tbN x g s i=t at tl
    have m1:IntMulOk t.1 69621:=small_mul (by decide) (by decide)
    refine exs true (d:=.int (tbS t.1 i)) (by unfold tbS; walk_at"ev") (by walk_at"sc") ?_
    refine exa1 (d:=il (rowF (tbS t.1 i) g s)) (by walk_at"gc") (ev_callF (by walk_at"ev") ⟨_,_,_,rfl,tbS_ok _ _,h2,h4,rfl⟩) (by walk_at"sc") (by rw [List.length_map,tl]; omega) ?_
    show ∃ y,_
    rw [List.map_append]
    exact ⟨_,rfl⟩
  · rintro Γ' ⟨y,rfl⟩
    rw [range_len]
    exact exro (by walk_at"gc") rfl (.inl ⟨rfl,rfl⟩)
theorem pow_bits {z:Nat} (h:z≤19):1010 ^ z < 2 ^ 200:=Nat.lt_of_le_of_lt (Nat.pow_le_pow_right (by decide) h) (by decide)
theorem sum_lc {c:Int}:∀ (xs:List Int),(∀ x∈xs,x≤c)→xs.sum≤(xs.length:Int) * c
  | [],_=>by simp
  | x :: r,h=>by
    rw [List.sum_cons,List.length_cons,Int.natCast_add,Int.add_mul]
    have:=sum_lc r fun y hy=>h y (List.mem_cons_of_mem _ hy)
    have:=h x List.mem_cons_self
    show _≤_ + 1 * c
    omega
def gW (g:Int):Int:=if 0 < g then 10 ^ 60 else 9
def gb (g:Int):Nat:=if 0 < g then 202 else 6
theorem wg_g (x g:Int):wgN x g≤gW g:=by
  unfold wgN gW
  by_cases hg:0 < g
  · rw [if_pos hg]
    split
    · decide
    · split
      · exact Int.le_of_lt (Int.emod_lt_of_pos _ (by decide))
      · have:(12:Int) < 10 ^ 60:=by decide
        omega
  · rw [if_neg hg,if_neg (fun z=>hg z.1),if_neg (fun z=>hg z.1)]
    omega
theorem rw_g (x g:Int):∀ n,∀ w∈(rwN x g n).2,w≤gW g
  | 0=>fun w h=>(nomatch h)
  | n + 1=>fun w hw=>by
    rcases List.mem_append.mp (show w∈(rwN x g n).2 ++ [wgN (nxN (rwN x g n).1) g] from hw) with h | h
    · exact rw_g x g n w h
    · rw [List.mem_singleton.mp h]
      exact wg_g _ _
theorem gW_gb (g:Int):4 * gW g≤2 ^ gb g∧0≤gW g∧(10:Int)≤2 ^ gb g:=by
  unfold gW gb
  by_cases hg:0 < g
  · rw [if_pos hg,if_pos hg]; decide
  · rw [if_neg hg,if_neg hg]; decide
theorem rowF_g {x g:Int} (hx:0≤x∧x < 2147483647) {s:Nat} (h2:2≤s) (h4:s≤4):(rowF x g s).sum≤2 ^ gb g:=by
  obtain ⟨n0,ln,wn⟩:=rw_ok x g hx s
  have e0:=Int.emod_nonneg ((rwN x g s).1 / 7) (show (s:Int)≠0 by omega)
  have e1:=Int.emod_lt_of_pos ((rwN x g s).1 / 7) (show (0:Int) < s by omega)
  have G:=gW_gb g
  unfold rowF
  split
  · rename_i hs
    rw [sum_set0 (rwN x g s).2 ((rwN x g s).1 / 7 % s).toNat (1 + (rwN x g s).1 % 5) (fun y hy=>(wn y hy).1) hs (by omega)]
    omega
  · have le:=sum_lc (rwN x g s).2 (rw_g x g s)
    rw [ln] at le
    exact Int.le_trans le (Int.le_trans (Int.mul_le_mul_of_nonneg_right (show (s:Int)≤4 by omega) G.2.1) G.1)
theorem tb_g (x g:Int) {s:Nat} (h2:2≤s) (h4:s≤4):∀ n,∀ r∈(tbN x g s n).2,r.sum≤2 ^ gb g
  | 0=>fun r h=>(nomatch h)
  | n + 1=>fun r hr=>by
    rcases List.mem_append.mp (show r∈(tbN x g s n).2 ++ [rowF (tbS (tbN x g s n).1 n) g s] from hr) with h | h
    · exact tb_g x g h2 h4 n r h
    · rw [List.mem_singleton.mp h]
      exact rowF_g (tbS_ok _ _) h2 h4
theorem ord_perm (ns:List Int) (f:Nat):∀ n,(ordN ns f n).Perm (List.range n)
  | 0=>.refl _
  | k + 1=>by
    have ih:=ord_perm ns f k
    unfold ordN
    generalize (ns.getD (f + 2 * k) 0 % ((k:Int) + 1)).toNat=m
    refine List.Perm.trans List.perm_middle ?_
    rw [List.take_append_drop,List.range_succ]
    exact (List.Perm.cons k ih).trans (List.perm_append_singleton k (List.range k)).symm
theorem fold_sub {dense:Int} {row:Nat}:∀ (xs:List Nat) (st:Int×List (List Nat)),row < st.2.length→∃ ys,ys.Sublist xs∧(xs.foldl (stp dense row) st).2=st.2.set row (st.2.getD row [] ++ ys)
  | [],st,h=>⟨[],.refl _,by
      rw [List.append_nil]
      refine (List.ext_getElem? fun i=>?_).symm
      by_cases e:i=row
      · subst e
        rw [List.getElem?_set_self h]
        exact (getD_some h).symm
      · rw [List.getElem?_set_ne (Ne.symm e)]
        rfl⟩
  | x :: r,st,h=>by
    rw [List.foldl_cons]
    have el:(stp dense row st x).2=st.2∨(stp dense row st x).2=st.2.set row (st.2.getD row [] ++ [x]):=by
      unfold stp
      dsimp only
      split
      · exact .inr rfl
      · exact .inl rfl
    rcases el with e | e
    · obtain ⟨ys,h1,h2⟩:=fold_sub r (stp dense row st x) (by rw [e]; exact h)
      exact ⟨ys,h1.cons _,by rw [h2,e]⟩
    · obtain ⟨ys,h1,h2⟩:=fold_sub r (stp dense row st x) (by rw [e,List.length_set]; exact h)
      refine ⟨x :: ys,h1.cons_cons x,?_⟩
      rw [h2,e,List.set_set,List.getD_eq_getElem?_getD (l:=st.2.set row _),List.getElem?_set_self h]
      show st.2.set row (st.2.getD row [] ++ [x] ++ ys)=_
      rw [List.append_assoc]
      rfl
theorem shN_top {ns:List Int} {f n:Nat} {ord:List Nat} (ho:ord.length=n∧∀ x∈ord,x < n) (nd:ord.Nodup):∀ i,i≤n→∀ (j k:Nat),ord[j]?=some k→(j < i→((shN ns f n ord i).getD k []).Sublist (ord.take j))∧(i≤j→(shN ns f n ord i).getD k []=[])
  | 0,_,j,k,_=>⟨fun h=>absurd h (Nat.not_lt_zero _),fun _=>by
      show (List.replicate n []).getD k []=[]
      rw [List.getD_eq_getElem?_getD,List.getElem?_replicate]
      split <;> rfl⟩
  | i + 1,hi,j,k,hj=>by
    have ih:=shN_top (ns:=ns) (f:=f) ho nd i (by omega) j k hj
    have ok:=shN_ok (ns:=ns) (f:=f) ho i (by omega)
    have hio:i < ord.length:=by omega
    have go:=getD_some (d:=0) hio
    have rl:=ho.2 _ (List.mem_of_getElem? go)
    obtain ⟨ys,h1,h2⟩:=fold_sub (dense:=1 + num0 ns f ord i % 4) (row:=ord.getD i 0) ((ord.take i).take i) (num0 ns f ord i,shN ns f n ord i) (by rw [ok.l]; exact rl)
    have e:shN ns f n ord (i + 1)=(shN ns f n ord i).set (ord.getD i 0) ((shN ns f n ord i).getD (ord.getD i 0) [] ++ ys):=h2
    rw [e]
    have inj:∀ {a b x:Nat},ord[a]?=some x→ord[b]?=some x→a=b:=fun {a b x} h1 h2=>by
      obtain ⟨l1,e1⟩:=List.getElem?_eq_some_iff.mp h1
      obtain ⟨l2,e2⟩:=List.getElem?_eq_some_iff.mp h2
      exact (List.getElem_inj nd).mp (e1.trans e2.symm)
    by_cases ek:k=ord.getD i 0
    · subst ek
      have ej:j=i:=inj hj go
      subst ej
      have i0:=(shN_top (ns:=ns) (f:=f) ho nd j (by omega) j _ hj).2 (Nat.le_refl _)
      rw [List.getD_eq_getElem?_getD (l:=List.set _ _ _),List.getElem?_set_self (by rw [ok.l]; exact rl),i0]
      refine ⟨fun _=>?_,fun h=>absurd h (by omega)⟩
      have h1':=h1
      rw [List.take_take,Nat.min_self] at h1'
      exact h1'
    · rw [List.getD_eq_getElem?_getD (l:=List.set _ _ _),List.getElem?_set_ne (Ne.symm ek),← List.getD_eq_getElem?_getD]
      have ne:j≠i:=fun z=>ek (by
        subst z
        rw [go] at hj
        exact (Option.some.inj hj).symm)
      exact ⟨fun h=>ih.1 (by omega),fun h=>ih.2 (by omega)⟩
structure ShP (n:Nat) (cs:List (List Nat)) (ord:List Nat):Prop where
  ok:CsOk n cs
  pm:ord.Perm (List.range n)
  tp:∀ (i k:Nat),ord[i]?=some k→(cs.getD k []).Nodup∧∀ c∈cs.getD k [],c∈ord.take i
theorem shape_top (ns:List Int) (f n:Nat):∃ ord,ShP n (shapeF ns f n) ord:=by
  have pm:=ord_perm ns f n
  have nd:(ordN ns f n).Nodup:=pm.nodup_iff.mpr List.nodup_range
  have ho:=ord_ok ns f n
  refine ⟨ordN ns f n,shapeF_ok ns f n,pm,fun i k hk=>?_⟩
  have hi:=(List.getElem?_eq_some_iff.mp hk).1
  have S:=(shN_top (ns:=ns) (f:=f) ho nd n (Nat.le_refl _) i k hk).1 (by omega)
  have ok:=shN_ok (ns:=ns) (f:=f) ho n (Nat.le_refl _)
  have kl:k < n:=ho.2 k (List.mem_of_getElem? hk)
  have e:(shapeF ns f n).getD k []=srtN ((shN ns f n (ordN ns f n) n).getD k []):=by
    unfold shapeF
    rw [List.getD_eq_getElem?_getD,List.getElem?_map,getD_some (d:=([]:List Nat)) (by rw [ok.l]; exact kl)]
    rfl
  rw [e]
  refine ⟨(srtN_perm _).nodup_iff.mpr (S.nodup (nd.sublist (List.take_sublist _ _))),fun c hc=>?_⟩
  exact S.subset ((srtN_perm _).mem_iff.mp hc)
def pre_law_product (ds:List PyData) (d:PyData):Prop:=∃ ns:List Int,ds=[il ns]∧(∀ x∈ns,0≤x∧x≤1010)∧ns.length≤12∧d=.int (prod ns)
theorem len_law_product (ds:List PyData) (d:PyData) (h:pre_law_product ds d):ds.length=1:=by obtain ⟨a,rfl,_⟩:=h; rfl
theorem prod_bd:∀ (ns:List Int),(∀ x∈ns,0≤x∧x≤1010)→0≤prod ns∧(prod ns).natAbs≤1010 ^ ns.length
  | [],_=>⟨by show (0:Int)≤1; decide,Nat.le_refl _⟩
  | x :: r,h=>by
    have ih:=prod_bd r fun y hy=>h y (List.mem_cons_of_mem _ hy)
    have hx:=h x List.mem_cons_self
    show 0≤x * prod r∧(x * prod r).natAbs≤1010 ^ (r.length + 1)
    rw [Int.natAbs_mul,Nat.pow_succ,Nat.mul_comm (1010 ^ r.length)]
    exact ⟨Int.mul_nonneg hx.1 ih.1,Nat.mul_le_mul (by omega) ih.2⟩
theorem sc_law_product:FnScope ["_law_row_here", "_law_count", "_law_size"] ["_law_row_here"] (defScope (top 46)):=⟨rfl,rfl,rfl,by decide +kernel,rfl,by decide +kernel,by decide +kernel⟩
theorem ok_law_product (F:Fun K "_law_product" "_law_product" (top 46) f fd) (B:Bs mg) (Z:Cs K mg t_MOST_THINGS t_MOST_CAUSES t_LEAST_SIZE t_GREATEST_SIZE)  : FnOk P w K mg base CX0 1 f fd ["_law_row_here"] (spD K true pre_law_product):=by
  have sc:=sc_law_product
  refine F.ok sc (fun vs H Q E h=>spD_len len_law_product h) (fun cdv A outer s H vs Q E hr h=>?_)
  obtain ⟨Fh,ds,d,le,dp,p,q⟩:=h
  refine ⟨_,(pss_cons (ps_set (i:=1) sc.nd rfl (Or.inl rfl) pe_int)
      (pss_cons (ps_for PassesOwn.never rfl (pi_listK (K:=K) rfl (pv 0)) (pg_name (i:=2) sc.nd rfl (Or.inl rfl)) (pss_one (ps_set (i:=1) sc.nd rfl (Or.inl rfl) (pe_op op_mulB (pv 1) (pv 2)))))
      (pss_one (ps_ret (pv 1))))),?_⟩
  have hN:(["_law_row_here", "_law_count", "_law_size"]:List Str).length=3:=rfl
  obtain ⟨ns,rfl,hb,hl,rfl⟩:=p
  walk_at"run"
  refine exs true (d:=.int (prod [])) (show EvE K .fresh true _ _ (.int 1) by walk_at"ev") (by walk_at"sc") ?_
  refine exfor false (fun i Γ=>∃ y,Γ=[some (.fz false (il ns)),some (.fz true (.int (prod (ns.take i)))),y]) (ei_list (by walk_at"ev")) ⟨none,by rw [List.take_zero]⟩ ?_ ?_
  · rintro i d Γ' hd ⟨y,rfl⟩
    obtain ⟨v,hv,rfl⟩:=get_map hd
    have hvb:=hb v (List.mem_of_getElem? hv)
    have pb:=(prod_bd (ns.take i) fun x hx=>hb x (List.mem_of_mem_take hx)).2
    have pl:(prod (ns.take i)).natAbs < 2 ^ 200:=Nat.lt_of_le_of_lt pb (pow_bits (by rw [List.length_take]; omega))
    refine ⟨_,egn (by walk_at"sc") ?_⟩
    rw [take_succ hv,prod_snoc]
    exact exs1 true (ev_mul (by walk_at"ev") (by walk_at"ev") (mulOk pl (show v.natAbs < 2 ^ 200 from Nat.lt_of_le_of_lt (show v.natAbs≤1010 by omega) (by decide)) (by omega))) (by walk_at"sc") ⟨_,rfl⟩
  · rintro Γ' ⟨y,rfl⟩
    refine ex_ret true (by walk_at"ev") ?_ (.inl ⟨rfl,rfl⟩)
    rw [List.length_map,List.take_length]
structure SsOk (n:Nat) (ss:List Int):Prop where
  l:ss.length=n
  s:∀ s∈ss,2≤s∧s≤4
theorem prod_two:∀ (ss:List Int),(∀ j,j < ss.length→ss.getD j 0=2)→prod ss=2 ^ ss.length
  | [],_=>rfl
  | s :: r,h=>by
    have h0:s=2:=h 0 (by rw [List.length_cons]; omega)
    have ih:=prod_two r fun j hj=>by
      have:=h (j + 1) (by rw [List.length_cons]; omega)
      exact this
    show s * prod r=2 ^ (r.length + 1)
    rw [ih,h0,Int.pow_succ,Int.mul_comm]
def clF (ns:List Int) (k:Nat):Int:=ns.getD (3 + 2 * k) 0
def szF (ns:List Int) (k:Nat):Int:=2 + clF ns k % 3
theorem sz_ok (ns:List Int) (k:Nat):2≤szF ns k∧szF ns k≤4:=by
  have h1:=Int.emod_lt_of_pos (clF ns k) (show (0:Int) < 3 by decide)
  have h0:=Int.emod_nonneg (clF ns k) (show (3:Int)≠0 by decide)
  unfold szF
  omega
def pre_law_sizes (ds:List PyData) (G:PyData→Prop):Prop:=∃ (ns:List Int) (n:Nat) (mst:Int),ds=[il ns,.int n,.int mst]∧n≤6∧2 ^ n≤mst∧G=fun d=>∃ ss,SsOk n ss∧prod ss≤mst∧d=il ss
theorem len_law_sizes (ds:List PyData) (G:PyData→Prop) (h:pre_law_sizes ds G):ds.length=3:=by obtain ⟨a,b,c,rfl,_⟩:=h; rfl
theorem sc_law_sizes:FnScope ["_law_script", "_law_many", "_law_most", "_law_sizes_here", "_law_k"] ["_law_script", "_law_many", "_law_most"] (defScope (top 45)):=⟨rfl,rfl,rfl,by decide +kernel,rfl,by decide +kernel,by decide +kernel⟩
theorem ok_law_sizes (F:Fun K "_law_sizes" "_law_sizes" (top 45) f fd) (B:Bs mg) (Z:Cs K mg t_MOST_THINGS t_MOST_CAUSES t_LEAST_SIZE t_GREATEST_SIZE) (c_law_cell_at:Callee P w K mg base CX0 "_law_cell_at" ["_law_script", "_law_k"] 1 (spD K true pre_law_cell_at)) (c_law_product:Callee P w K mg base CX0 "_law_product" ["_law_row_here"] 1 (spD K true pre_law_product)):FnOk P w K mg base CX0 2 f fd ["_law_script", "_law_many", "_law_most"] (spW K true pre_law_sizes):=by
  have sc:=sc_law_sizes
  refine F.ok sc (fun vs H Q E h=>spW_len len_law_sizes h) (fun cdv A outer s H vs Q E hr h=>?_)
  obtain ⟨Fh,ds,G,le,dp,p,q⟩:=h
  refine ⟨_,(pss_cons (ps_setComp (i:=3) rfl sc.nd rfl rfl (N:=["_law_k", "_law_script"]) (js:=[none,some 0]) (by walk_at"comp_ok") (pi_range1 rfl B.range (pa_cons (pv 1) pa_nil)) (fun _ _ _ _=>(pg_name (i:=0) (show List.Nodup (["_law_k", "_law_script"]:List PySem.Str) by decide +kernel) rfl (Or.inl rfl))) (fun _ _ _ _=>pif_nil) (fun _ _ _ _=>(pe_op op_add pe_int (pe_op op_mod (pe_fn c_law_cell_at (hr.mono (by decide)) rfl pass0 (pa_cons (pv 1) (pa_cons (pe_op op_add pe_int (pe_op op_mulB pe_int (pv 0))) pa_nil))) pe_int))))
      (pss_cons (ps_for PassesOwn.never rfl (pi_range1 rfl B.range (pa_cons (pv 1) pa_nil)) (pg_name (i:=4) sc.nd rfl (Or.inl rfl)) (pss_one (ps_if (pt_cmpR op_gt (pe_fn c_law_product (hr.mono (by decide)) rfl pass0 (pa_cons (pv 3) pa_nil)) (pv 2) (nomark _)) (pss_one (ps_asg pe_int (pg_sub (pv 3) (pv 4) set_list))) pss_nil)))
      (pss_one (ps_ret (pv 3))))),?_⟩
  have hN:(["_law_script", "_law_many", "_law_most", "_law_sizes_here", "_law_k"]:List Str).length=5:=rfl
  obtain ⟨ns,n,mst,rfl,hn,hm,rfl⟩:=p
  have big:=line_big
  refine run_defW le dp q hN (by walk_at"st") ?_
  refine exo true (ds:=((List.range n).map (szF ns)).map .int) (EvO.eq (evo_rng (is:=[0]) (n:=n) (fun k=>.int (szF ns k)) (by walk_at"ev") (by omega) (by walk_at"cc") rfl (by decide) ?_) ?_) (by walk_at"sc") ?_
  · intro k hk
    refine egn (by walk_at"sc") ?_
    have m1:IntMulOk 2 (k:Int):=small_mul (by omega) (by omega)
    exact ev_add (by walk_at"ev") (ev_mod (ev_callF (by walk_at"ev") ⟨ns,3 + 2 * k,by rw [Int.natCast_add,Int.natCast_mul]; rfl,rfl⟩) (by walk_at"ev") (by decide))
  · rw [List.map_map]
    rfl
  refine exfor (ds:=(List.range n).map fun i:Nat=>.int (i:Int)) true (fun i Γ=>∃ (ss:List Int) (x:Option DV),SsOk n ss∧(prod ss≤mst∨∀ j,j < i→ss.getD j 0=2)∧Γ=[some (.fz false (il ns)),some (.fz false (.int n)),some (.fz false (.int mst)),some (.ow true (ss.map .int)),x]) (ei_rng1 (n:=(n:Int)) (by walk_at"ev") (by omega) (by omega)) ⟨(List.range n).map (szF ns),none,⟨by rw [List.length_map,List.length_range],fun s hs=>by obtain ⟨k,_,rfl⟩:=List.mem_map.mp hs; exact sz_ok ns k⟩,.inr fun j hj=>absurd hj (Nat.not_lt_zero _),rfl⟩ ?_ ?_
  · rintro i d Γ' hd ⟨ss,x,ok,al,rfl⟩
    obtain ⟨hi,rfl⟩:=range_get hd
    have sl:=ok.l
    refine ⟨_,egn (by walk_at"sc") ?_⟩
    refine ex_if (b:=decide (mst < prod ss)) (et_thaw 3 (by walk_at"gc") (by walk_at"sc") (et_test (ev_gt (ev_callF (by walk_at"ev") ⟨ss,rfl,fun x hx=>by have:=ok.s x hx; omega,by omega,rfl⟩) (by walk_at"ev")))) (fun h=>?_) (fun h=>ex_next ⟨ss,_,ok,.inl (Int.not_lt.mp (by simpa using h)),rfl⟩)
    have h':mst < prod ss:=by simpa using h
    refine exi1 (j:=i) (d:=.int 2) (by walk_at"gc") (by walk_at"ev") (by walk_at"ev") (ixN_nat (by rw [List.length_map]; omega)) (by walk_at"sc") ⟨ss.set i 2,_,⟨by rw [List.length_set]; exact sl,fun s hs=>?_⟩,.inr fun j hj=>?_,by rw [List.map_set]⟩
    · rcases List.mem_or_eq_of_mem_set hs with hs | rfl
      · exact ok.s s hs
      · decide
    · by_cases e:j=i
      · subst e
        rw [List.getD_eq_getElem?_getD,List.getElem?_set_self (by omega)]
        rfl
      · rw [List.getD_eq_getElem?_getD,List.getElem?_set_ne (Ne.symm e),← List.getD_eq_getElem?_getD]
        rcases al with al | al
        · omega
        · exact al j (by omega)
  · rintro Γ' ⟨ss,x,ok,al,rfl⟩
    rw [range_len] at al
    refine exro (by walk_at"gc") ⟨ss,ok,?_,rfl⟩ (.inl ⟨rfl,rfl⟩)
    rcases al with al | al
    · exact al
    · rw [prod_two ss (by rw [ok.l]; exact al),ok.l]
      exact hm
structure TbP (ss:List Int) (cs:List (List Nat)) (g:Int) (ts:List (List (List Int))):Prop where
  h:∀ (k:Nat) t,ts[k]?=some t→(t.length:Int)=prod (pk ss (cs.getD k []))∧∀ r∈t,RowOk (ss.getD k 0) r∧r.sum≤2 ^ gb g
theorem TbP.add {ss:List Int} {cs:List (List Nat)} {g:Int} {ts:List (List (List Int))} {rs:List (List Int)} (h:TbP ss cs g ts) (h1:(rs.length:Int)=prod (pk ss (cs.getD ts.length []))) (h2:∀ r∈rs,RowOk (ss.getD ts.length 0) r∧r.sum≤2 ^ gb g):TbP ss cs g (ts ++ [rs]):=⟨fun k t ht=>by
  by_cases hk:k < ts.length
  · rw [List.getElem?_append_left hk] at ht
    exact h.h k t ht
  · have e:k=ts.length:=by
      have:=(List.getElem?_eq_some_iff.mp ht).1
      rw [List.length_append] at this
      have:k < ts.length + 1:=this
      omega
    subst e
    rw [List.getElem?_append_right (Nat.le_refl _),Nat.sub_self] at ht
    cases ht
    exact ⟨h1,h2⟩⟩
theorem pw2 {m n:Nat} (h:m≤n):(2:Int) ^ m≤2 ^ n:=by
  have a:=Nat.pow_le_pow_right (n:=2) (by decide) h
  have e1:((2 ^ m:Nat):Int)=(2:Int) ^ m:=by rw [Int.natCast_pow]; rfl
  have e2:((2 ^ n:Nat):Int)=(2:Int) ^ n:=by rw [Int.natCast_pow]; rfl
  omega
structure GOk (g:Int) (n:Nat):Prop where
  h:(g=0∧n≤6)∨(g=1∧n≤4)
theorem three_ok {ss:List Int} {cs:List (List Nat)} {ts:List (List (List Int))} {ord:List Nat} {g:Int} {n:Nat} (hg:GOk g n) (so:SsOk n ss) (up:∀ r∈cs,r.Pairwise (· < ·)) (sp:ShP n cs ord) (tl:ts.length=n) (tp:TbP ss cs g ts):BkO ss cs ts:=by
  have sl:=so.l
  have n6:n≤6:=by rcases hg.h with z | z <;> omega
  have gb202:gb g≤202:=by unfold gb; split <;> decide
  have bk:BkOk ss cs ts:=by
    refine ⟨so.s,by omega,by rw [sp.ok.l,sl],by omega,fun k own h=>?_,fun k own t h1 h2=>?_,fun k t h r hr=>((tp.h k t h).2 r hr).1⟩
    · have:=sp.ok.k own (List.mem_of_getElem? h)
      rw [sl]
      exact this
    · have:=(tp.h k t h2).1
      rw [List.getD_eq_getElem?_getD,h1] at this
      exact this
  refine ⟨bk,by omega,fun t ht r hr=>?_,up,⟨ord,by rw [sl]; exact sp.pm,fun i k h c hc=>(sp.tp i k h).2 c hc⟩⟩
  obtain ⟨k,hk⟩:=List.mem_iff_getElem?.mp ht
  exact Int.le_trans ((tp.h k t hk).2 r hr).2 (pw2 gb202)
theorem srtN_up {cs:List Nat} (h:cs.Nodup):(srtN cs).Pairwise (· < ·):=by
  have h1:(srtN cs).Nodup:=(srtN_perm cs).nodup_iff.mpr h
  have h2:(zl (srtN cs)).Pairwise (·≤·):=by
    show (zl ((srt (zl cs)).map Int.toNat)).Pairwise _
    rw [← zl_back]
    exact srt_sorted _
  have h3:(srtN cs).Pairwise (·≤·):=by
    unfold zl at h2
    rw [List.pairwise_map] at h2
    exact h2.imp fun {a b} z=>by omega
  exact (h3.and (List.nodup_iff_pairwise_ne.mp h1)).imp fun {a b} z=>by omega
theorem shape_up (ns:List Int) (f n:Nat) {k:Nat} (hk:k < n):((shapeF ns f n).getD k []).Pairwise (· < ·):=by
  obtain ⟨ord,sp⟩:=shape_top ns f n
  have ok:=shN_ok (ns:=ns) (f:=f) (ord_ok ns f n) n (Nat.le_refl _)
  have e:(shapeF ns f n).getD k []=srtN ((shN ns f n (ordN ns f n) n).getD k []):=by
    unfold shapeF
    rw [List.getD_eq_getElem?_getD,List.getElem?_map,getD_some (d:=([]:List Nat)) (by rw [ok.l]; exact hk)]
    rfl
  have km:k∈ord:=sp.pm.mem_iff.mpr (List.mem_range.mpr hk)
  obtain ⟨i,hi⟩:=List.mem_iff_getElem?.mp km
  have nd:=(sp.tp i k hi).1
  rw [e] at nd ⊢
  exact srtN_up ((srtN_perm _).nodup_iff.mp nd)
def pre_law_three (ds:List PyData) (G:PyData→Prop):Prop:=∃ (ns:List Int) (n:Nat) (g:Int),ds=[il ns,.int n,.int (64 - 48 * g),.int g]∧GOk g n∧G=fun d=>∃ ss cs ts,BkO ss cs ts∧ss.length=n∧d=bookD ss cs ts
theorem len_law_three (ds:List PyData) (G:PyData→Prop) (h:pre_law_three ds G):ds.length=4:=by obtain ⟨a,b,c,rfl,_⟩:=h; rfl
theorem sc_law_three:FnScope ["_law_script", "_law_many", "_law_most", "_law_great", "_law_causes", "_law_sizes_here", "_law_tables", "_law_k", "_law_cell"] ["_law_script", "_law_many", "_law_most", "_law_great"] (defScope (top 47)):=⟨rfl,rfl,rfl,by decide +kernel,rfl,by decide +kernel,by decide +kernel⟩
theorem ok_law_three (F:Fun K "_law_three" "_law_three" (top 47) f fd) (B:Bs mg) (Z:Cs K mg t_MOST_THINGS t_MOST_CAUSES t_LEAST_SIZE t_GREATEST_SIZE) (c_law_shape:Callee P w K mg base CX0 "_law_shape" ["_law_script", "_law_first", "_law_many"] 2 (spD K true pre_law_shape)) (c_law_sizes:Callee P w K mg base CX0 "_law_sizes" ["_law_script", "_law_many", "_law_most"] 2 (spW K true pre_law_sizes)) (c_law_cell_at:Callee P w K mg base CX0 "_law_cell_at" ["_law_script", "_law_k"] 1 (spD K true pre_law_cell_at)) (c_law_table:Callee P w K mg base CX0 "_law_table" ["_law_cell", "_law_count", "_law_size", "_law_great"] 2 (spD K true pre_law_table)) (c_law_product:Callee P w K mg base CX0 "_law_product" ["_law_row_here"] 1 (spD K true pre_law_product)):FnOk P w K mg base CX0 3 f fd ["_law_script", "_law_many", "_law_most", "_law_great"] (spW K true pre_law_three):=by
  have sc:=sc_law_three
  refine F.ok sc (fun vs H Q E h=>spW_len len_law_three h) (fun cdv A outer s H vs Q E hr h=>?_)
  obtain ⟨Fh,ds,G,le,dp,p,q⟩:=h
  refine ⟨_,(pss_cons (ps_set (i:=4) sc.nd rfl (Or.inl rfl) (pe_fn c_law_shape (hr.mono (by decide)) rfl pass0 (pa_cons (pv 0) (pa_cons pe_int (pa_cons (pv 1) pa_nil)))))
      (pss_cons (ps_set (i:=5) sc.nd rfl (Or.inr rfl) (pe_fn c_law_sizes (hr.mono (by decide)) rfl pass0 (pa_cons (pv 0) (pa_cons (pv 1) (pa_cons (pv 2) pa_nil)))))
      (pss_cons (ps_set (i:=6) sc.nd rfl (Or.inl rfl) (pe_lst pa_nil))
      (pss_cons (ps_for PassesOwn.never rfl (pi_range1 rfl B.range (pa_cons (pv 1) pa_nil)) (pg_name (i:=7) sc.nd rfl (Or.inl rfl)) (pss_cons (ps_set (i:=8) sc.nd rfl (Or.inl rfl) (pe_op op_fdiv (pe_fn c_law_cell_at (hr.mono (by decide)) rfl pass0 (pa_cons (pv 0) (pa_cons (pe_op op_add pe_int (pe_op op_mulB pe_int (pv 7))) pa_nil))) pe_int))
      (pss_one (ps_expr (pe_bmK (K:=K) rfl PySem.F.plainAttrs_list PySem.F.slot_list_append PySem.F.type_list_append mt_append (pv 6) (pa_cons (pe_fn c_law_table (hr.mono (by decide)) rfl pass0 (pa_cons (pv 8) (pa_cons (pe_fn c_law_product (hr.mono (by decide)) rfl pass0 (pa_cons (pe_comp rfl (N:=["_law_c", "_law_sizes_here"]) (js:=[none,some 5]) (by walk_at"comp_ok") (pi_listK (K:=K) rfl (pe_ix (ix_listK (K:=K) rfl) (pv 4) (pv 7) (fun _ _=>rfl))) (fun _ _ _ _=>(pg_name (i:=0) (show List.Nodup (["_law_c", "_law_sizes_here"]:List PySem.Str) by decide +kernel) rfl (Or.inl rfl))) (fun _ _ _ _=>pif_nil) (fun _ _ _ _=>(pe_ix (ix_listK (K:=K) rfl) (pv 1) (pv 0) (fun _ _=>rfl)))) pa_nil)) (pa_cons (pe_ix (ix_listK (K:=K) rfl) (pv 5) (pv 7) (fun _ _=>rfl)) (pa_cons (pv 3) pa_nil))))) pa_nil))))))
      (pss_one (ps_ret (pe_tup (pa_cons (pv 5) (pa_cons (pv 4) (pa_cons (pv 6) pa_nil)))))))))),?_⟩
  have hN:(["_law_script", "_law_many", "_law_most", "_law_great", "_law_causes", "_law_sizes_here", "_law_tables", "_law_k", "_law_cell"]:List Str).length=9:=rfl
  obtain ⟨ns,n,g,rfl,hg,rfl⟩:=p
  have big:=line_big
  have n6:n≤6:=by rcases hg.h with z | z <;> omega
  have pw:(2:Int) ^ n≤64 - 48 * g:=by
    rcases hg.h with z | z
    · rw [z.1]; exact pw2 z.2
    · rw [z.1]; exact pw2 z.2
  obtain ⟨ord,sp⟩:=shape_top ns 2 n
  refine run_defW le dp q hN (by walk_at"st") ?_
  have cso:=sp.ok
  generalize hcs:shapeF ns 2 n=cs at cso sp
  refine exs true (d:=nls cs) (EvE.eq (ev_callF (by walk_at"ev") (show pre_law_shape [il ns,.int 2,.int n] _ from ⟨ns,2,n,rfl,by omega,rfl⟩)) (by rw [hcs])) (by walk_at"sc") ?_
  have up:∀ r∈cs,r.Pairwise (· < ·):=fun r hr=>by
    obtain ⟨k,hk⟩:=List.mem_iff_getElem?.mp hr
    have kl:=(List.getElem?_eq_some_iff.mp hk).1
    rw [cso.l] at kl
    have:=shape_up ns 2 n kl
    rw [hcs,List.getD_eq_getElem?_getD,hk] at this
    exact this
  clear hcs
  refine exg true (evg_call (by walk_at"ev") ⟨ns,n,64 - 48 * g,rfl,n6,pw,rfl⟩) (fun d=>by walk_at"sc") ?_
  rintro d ⟨ss,sok,pm,rfl⟩
  have sl:=sok.l
  refine exo true (evo_lst (ds:=[]) ea_nil (by decide)) (by walk_at"sc") ?_
  refine exfor (ds:=(List.range n).map fun i:Nat=>.int (i:Int)) true (fun i Γ=>∃ (ts:List (List (List Int))) (x7 x8:Option DV),ts.length=i∧TbP ss cs g ts∧Γ=[some (.fz false (il ns)),some (.fz false (.int n)),some (.fz false (.int (64 - 48 * g))),some (.fz false (.int g)),some (.fz true (nls cs)),some (.fz true (il ss)),some (.ow true (ts.map lls)),x7,x8]) (ei_rng1 (n:=(n:Int)) (by walk_at"ev") (by omega) (by omega)) ⟨[],none,none,rfl,⟨fun _ _ h=>by simp at h⟩,rfl⟩ ?_ ?_
  · rintro i d Γ' hd ⟨ts,x7,x8,tl,tp,rfl⟩
    obtain ⟨hi,rfl⟩:=range_get hd
    refine ⟨_,egn (by walk_at"sc") ?_⟩
    have gs:=getD_size sok.s (k:=i) (by omega)
    have a1:atI (cs.map nl) (i:Int)=some (nl (cs.getD i [])):=atI_map (getD_some (by rw [cso.l]; exact hi))
    have as:atI (ss.map PyData.int) (i:Int)=some (.int (ss.getD i 0)):=at_ints (by omega)
    have ck:=cso.k _ (List.mem_of_getElem? (getD_some (d:=([]:List Nat)) (show i < cs.length by rw [cso.l]; exact hi)))
    generalize hown:cs.getD i []=own at a1 ck
    have pr:=prod_le (pk ss own) 5 (fun x hx=>by
      obtain ⟨j,hj,rfl⟩:=List.mem_map.mp hx
      have:=getD_size sok.s (k:=j) (by have:=ck.1 j hj; omega)
      omega) (by unfold Sx2.pk; rw [List.length_map]; exact ck.2)
    have p1024:prod (pk ss own)≤1024:=pr.1
    have m1:IntMulOk 2 (i:Int):=small_mul (by omega) (by omega)
    have c3:∀ z:Int,CDiv z 3:=fun z=>⟨by decide,by decide⟩
    refine exs true (d:=.int (clF ns i / 3)) (ev_fdiv (ev_callF (by walk_at"ev") ⟨ns,3 + 2 * i,by rw [Int.natCast_add,Int.natCast_mul]; rfl,rfl⟩) (by walk_at"ev") (c3 _)) (by walk_at"sc") ?_
    have e1:((prod (pk ss own)).toNat:Int)=prod (pk ss own):=Int.toNat_of_nonneg (by omega)
    have e2:((ss.getD i 0).toNat:Int)=ss.getD i 0:=Int.toNat_of_nonneg (by omega)
    have T1:=tb_ok (clF ns i / 3) g (s:=(ss.getD i 0).toNat) (by omega) (by omega) (prod (pk ss own)).toNat
    have T2:=tb_g (clF ns i / 3) g (s:=(ss.getD i 0).toNat) (by omega) (by omega) (prod (pk ss own)).toNat
    refine exa1 (d:=lls (tbN (clF ns i / 3) g (ss.getD i 0).toNat (prod (pk ss own)).toNat).2) (by walk_at"gc") (ev_callF (ea_cons (by walk_at"ev") (ea_cons (ev_callF (ea_cons (EvO.toE (EvO.eq (evo_each (is:=[0]) (xs:=own) true (fun k:Nat=>.int (k:Int)) (fun k=>.int (ss.getD k 0)) (fun x _ y _ h=>by cases Int.ofNat.inj (PyData.int.inj h); rfl) (ei_list (ev_ixL (by walk_at"ev") (by walk_at"ev") a1)) (by walk_at"cc") rfl (by decide) (by omega) ?_) ?_)) ea_nil) ⟨pk ss own,rfl,fun x hx=>?_,by unfold Sx2.pk; rw [List.length_map]; omega,rfl⟩) (ea_cons (ev_ixL (κ:=false) (by walk_at"ev") (by walk_at"ev") as) (by walk_at"ev")))) ⟨_,_,_,_,by rw [e1,e2],by omega,by omega,by omega,rfl⟩) (by walk_at"sc") (by rw [List.length_map]; omega) ⟨ts ++ [(tbN (clF ns i / 3) g (ss.getD i 0).toNat (prod (pk ss own)).toNat).2],_,_,by rw [List.length_append,tl]; rfl,tp.add ?_ ?_,by rw [List.map_append]; rfl⟩
    · intro k hk
      exact egn (by walk_at"sc") (ev_ixL (κ:=false) (by walk_at"ev") (by walk_at"ev") (at_ints (by have:=ck.1 k hk; omega)))
    · unfold Sx2.pk
      rw [List.map_map]
      rfl
    · obtain ⟨j,hj,rfl⟩:=List.mem_map.mp hx
      have:=getD_size sok.s (k:=j) (by have:=ck.1 j hj; omega)
      omega
    · rw [tl,hown,T1.1]; exact e1
    · intro r hr
      rw [tl]
      have:=T1.2 r hr
      rw [e2] at this
      exact ⟨this,T2 r hr⟩
  · rintro Γ' ⟨ts,x7,x8,tl,tp,rfl⟩
    rw [range_len] at tl
    refine exfz 6 (by walk_at"gc") (by walk_at"sc") ?_
    exact ex_ret (d:=bookD ss cs ts) true (by walk_at"ev") ⟨ss,cs,ts,three_ok hg sok up sp tl tp,sl,rfl⟩ (.inl ⟨rfl,rfl⟩)
def pre_law_copy (ds xs ys zs:List PyData):Prop:=∃ (ss:List Int) (cs:List (List Nat)) (ts:List (List (List Int))),ds=[bookD ss cs ts]∧BkOk ss cs ts∧xs=ss.map .int∧ys=cs.map nl∧zs=ts.map lls
theorem len_law_copy (ds xs ys zs:List PyData) (h:pre_law_copy ds xs ys zs):ds.length=1:=by obtain ⟨a,b,c,rfl,_⟩:=h; rfl
theorem sc_law_copy:FnScope ["_law_three_here", "_law_tables"] ["_law_three_here"] (defScope (top 48)):=⟨rfl,rfl,rfl,by decide +kernel,rfl,by decide +kernel,by decide +kernel⟩
theorem ok_law_copy (F:Fun K "_law_copy" "_law_copy" (top 48) f fd) (B:Bs mg) (Z:Cs K mg t_MOST_THINGS t_MOST_CAUSES t_LEAST_SIZE t_GREATEST_SIZE)  : FnOk P w K mg base CX0 1 f fd ["_law_three_here"] (spT3 K pre_law_copy):=by
  have sc:=sc_law_copy
  refine F.ok sc (fun vs H Q E h=>spT3_len len_law_copy h) (fun cdv A outer s H vs Q E hr h=>?_)
  obtain ⟨Fh,ds,xs,ys,zs,le,dp,p,q⟩:=h
  refine ⟨_,(pss_cons (ps_setComp (i:=1) rfl sc.nd rfl rfl (N:=["_law_rows"]) (js:=[none]) (by walk_at"comp_ok") (pi_listK (K:=K) rfl (pe_ix (ix_tupK (K:=K) rfl) (pv 0) pe_int (fun _ _=>rfl))) (fun _ _ _ _=>(pg_name (i:=0) (show List.Nodup (["_law_rows"]:List PySem.Str) by decide +kernel) rfl (Or.inl rfl))) (fun _ _ _ _=>pif_nil) (fun _ _ _ _=>(pe_comp rfl (N:=["_law_row_here"]) (js:=[none]) (by walk_at"comp_ok") (pi_listK (K:=K) rfl (pv 0)) (fun _ _ _ _=>(pg_name (i:=0) (show List.Nodup (["_law_row_here"]:List PySem.Str) by decide +kernel) rfl (Or.inl rfl))) (fun _ _ _ _=>pif_nil) (fun _ _ _ _=>(pe_callTy (call_list_ofK (K:=K) rfl) rfl B.list (by decide +kernel) (pa_cons (pv 0) pa_nil))))))
      (pss_one (ps_ret (pe_tup (pa_cons (pe_callTy (call_list_ofK (K:=K) rfl) rfl B.list (by decide +kernel) (pa_cons (pe_ix (ix_tupK (K:=K) rfl) (pv 0) pe_int (fun _ _=>rfl)) pa_nil)) (pa_cons (pe_comp rfl (N:=["_law_row_here"]) (js:=[none]) (by walk_at"comp_ok") (pi_listK (K:=K) rfl (pe_ix (ix_tupK (K:=K) rfl) (pv 0) pe_int (fun _ _=>rfl))) (fun _ _ _ _=>(pg_name (i:=0) (show List.Nodup (["_law_row_here"]:List PySem.Str) by decide +kernel) rfl (Or.inl rfl))) (fun _ _ _ _=>pif_nil) (fun _ _ _ _=>(pe_callTy (call_list_ofK (K:=K) rfl) rfl B.list (by decide +kernel) (pa_cons (pv 0) pa_nil)))) (pa_cons (pv 1) pa_nil))))))),?_⟩
  have hN:(["_law_three_here", "_law_tables"]:List Str).length=2:=rfl
  obtain ⟨ss,cs,ts,rfl,ok,rfl,rfl,rfl⟩:=p
  have big:=line_big
  have n12:=ok.n
  have cl:=ok.cl
  have tl:=ok.tl
  refine run_T3 le dp q hN (by walk_at"st") ?_
  refine ext3_seq (·=[some (.fz false (bookD ss cs ts)),some (.ow true (ts.map lls))]) (ex_setO (evo_each (is:=[0]) (xs:=ts) false lls lls (fun _ _ _ _ h=>h) (ei_list (ev_ixT (by walk_at"ev") (by walk_at"ev") atI2)) (by walk_at"cc") rfl (by decide) (by omega) ?_) rfl) ?_
  · intro t ht
    refine egn (by walk_at"sc") ?_
    have:=ok.tlen ht
    refine EvO.toE (evo_each (is:=[0]) (xs:=t) false il il (fun _ _ _ _ h=>h) (ei_list (by walk_at"ev")) (by walk_at"cc") rfl (by decide) (by omega) ?_)
    intro r hr
    refine egn (by walk_at"sc") ?_
    exact EvO.toE (evo_list (EvL.imm (κ:=false) (EvE.toL (by walk_at"ev")) (imm_ints _)))
  rintro Γ' rfl
  refine ext3_ret (evo_list (EvL.imm (κ:=false) (EvE.toL (ev_ixT (by walk_at"ev") (by walk_at"ev") atI0)) (imm_ints ss))) (evo_each (is:=[0]) (xs:=cs) false nl nl (fun _ _ _ _ h=>h) (ei_list (ev_ixT (by walk_at"ev") (by walk_at"ev") atI1)) (by walk_at"cc") rfl (by decide) (by omega) ?_) (by walk_at"gc")
  intro r hr
  refine egn (by walk_at"sc") ?_
  exact EvO.toE (evo_list (EvL.imm (κ:=false) (EvE.toL (by walk_at"ev")) (nl_imm _)))
theorem shaped_book (ss:List Int) (cs:List (List Nat)) (ts:List (List (List Int))):SeqAt.shaped (bookD ss cs ts)=true:=by
  refine shaped_of ?_ ?_
  · show (PyData.canLayAll0 _ && (PyData.canLayAll0 _ && (PyData.canLayAll0 _ && true)))=true
    rw [lay_map (g:=PyData.int) (fun _=>rfl),lay_map (g:=nl) (fun k=>lay_map (g:=fun k:Nat=>PyData.int (k:Int)) (fun _=>rfl) k),lay_map (g:=lls) (fun t=>lay_map (g:=il) (fun r=>lay_map (g:=PyData.int) (fun _=>rfl) r) t)]
    rfl
  · have h1:=depth_map (g:=PyData.int) (n:=0) (fun _=>Nat.le_refl _) ss
    have h2:=depth_map (g:=nl) (n:=1) (fun k=>by
      have:=depth_map (g:=fun k:Nat=>PyData.int (k:Int)) (n:=0) (fun _=>Nat.le_refl _) k
      show PyData.depthAll _ + 1≤1
      omega) cs
    have h3:=depth_map (g:=lls) (n:=2) (fun t=>by
      have:=depth_map (g:=il) (n:=1) (fun r=>by
        have:=depth_map (g:=PyData.int) (n:=0) (fun _=>Nat.le_refl _) r
        show PyData.depthAll _ + 1≤1
        omega) t
      show PyData.depthAll _ + 1≤2
      omega) ts
    show max (PyData.depthAll _ + 1) (max (PyData.depthAll _ + 1) (max (PyData.depthAll _ + 1) 0)) + 1≤50
    omega
def pre_law_numbers (ds:List PyData) (d:PyData):Prop:=∃ r:List Int,ds=[il r]∧r.length≤2000∧d=.bool true
theorem len_law_numbers (ds:List PyData) (d:PyData) (h:pre_law_numbers ds d):ds.length=1:=by obtain ⟨a,rfl,_⟩:=h; rfl
theorem sc_law_numbers:FnScope ["_law_found"] ["_law_found"] (defScope (top 49)):=⟨rfl,rfl,rfl,by decide +kernel,rfl,by decide +kernel,by decide +kernel⟩
theorem ok_law_numbers (F:Fun K "_law_numbers" "_law_numbers" (top 49) f fd) (B:Bs mg) (Z:Cs K mg t_MOST_THINGS t_MOST_CAUSES t_LEAST_SIZE t_GREATEST_SIZE)  : FnOk P w K mg base CX0 1 f fd ["_law_found"] (spD K true pre_law_numbers):=by
  have sc:=sc_law_numbers
  refine F.ok sc (fun vs H Q E h=>spD_len len_law_numbers h) (fun cdv A outer s H vs Q E hr h=>?_)
  obtain ⟨Fh,ds,d,le,dp,p,q⟩:=h
  refine ⟨_,(pss_cons (ps_if (pt_not (pt_val (pe_callB (call_isiDK (K:=K) rfl) rfl B.isinstance (by decide +kernel) (pa_cons (pv 0) (pa_cons (pe_bltn (v:=.ty "list") rfl B.list (by decide +kernel) rfl) pa_nil))))) (pss_one (ps_ret pe_bl)) pss_nil)
      (pss_one (ps_ret (pe_callB (call_allK (K:=K) rfl rfl) rfl B.all (by decide +kernel) (pa_cons (pe_comp rfl (N:=["_law_k"]) (js:=[none]) (by walk_at"comp_ok") (pi_listK (K:=K) rfl (pv 0)) (fun _ _ _ _=>(pg_name (i:=0) (show List.Nodup (["_law_k"]:List PySem.Str) by decide +kernel) rfl (Or.inl rfl))) (fun _ _ _ _=>pif_nil) (fun _ _ _ _=>(pe_and (pe_callB (call_isiDK (K:=K) rfl) rfl B.isinstance (by decide +kernel) (pa_cons (pv 0) (pa_cons (pe_bltn (v:=.ty "int") rfl B.int (by decide +kernel) rfl) pa_nil))) (pe_one (pe_not (pe_callB (call_isiDK (K:=K) rfl) rfl B.isinstance (by decide +kernel) (pa_cons (pv 0) (pa_cons (pe_bltn (v:=.ty "bool") rfl B.bool (by decide +kernel) rfl) pa_nil)))))))) pa_nil))))),?_⟩
  have hN:(["_law_found"]:List Str).length=1:=rfl
  obtain ⟨r,rfl,hl,rfl⟩:=p
  have big:=line_big
  walk_at"run"
  refine exifF (b:=!true) (by walk_at"ev") rfl ?_
  refine ex_ret true (EvE.eq (ev_all (bs:=r.map fun _=>true) (EvO.toL (EvO.eq (evo_each (κ:=false) (is:=[0]) (xs:=r) false PyData.int (fun _=>.bool (true && !false)) (fun x _ y _ h=>rfl) (ei_list (by walk_at"ev")) (by walk_at"cc") rfl (by decide) (by omega) ?_) (by rw [List.map_map]; rfl)))) (by simp)) rfl (.inl ⟨rfl,rfl⟩)
  intro k hk
  exact egn (by walk_at"sc") (by walk_at"ev")
def pre_law_lists (ds:List PyData) (d:PyData):Prop:=∃ t:List (List Int),ds=[lls t]∧t.length≤2000∧(∀ r∈t,r.length≤2000)∧d=.bool true
theorem len_law_lists (ds:List PyData) (d:PyData) (h:pre_law_lists ds d):ds.length=1:=by obtain ⟨a,rfl,_⟩:=h; rfl
theorem sc_law_lists:FnScope ["_law_found"] ["_law_found"] (defScope (top 50)):=⟨rfl,rfl,rfl,by decide +kernel,rfl,by decide +kernel,by decide +kernel⟩
theorem ok_law_lists (F:Fun K "_law_lists" "_law_lists" (top 50) f fd) (B:Bs mg) (Z:Cs K mg t_MOST_THINGS t_MOST_CAUSES t_LEAST_SIZE t_GREATEST_SIZE) (c_law_numbers:Callee P w K mg base CX0 "_law_numbers" ["_law_found"] 1 (spD K true pre_law_numbers)):FnOk P w K mg base CX0 2 f fd ["_law_found"] (spD K true pre_law_lists):=by
  have sc:=sc_law_lists
  refine F.ok sc (fun vs H Q E h=>spD_len len_law_lists h) (fun cdv A outer s H vs Q E hr h=>?_)
  obtain ⟨Fh,ds,d,le,dp,p,q⟩:=h
  refine ⟨_,(pss_cons (ps_if (pt_not (pt_val (pe_callB (call_isiDK (K:=K) rfl) rfl B.isinstance (by decide +kernel) (pa_cons (pv 0) (pa_cons (pe_bltn (v:=.ty "list") rfl B.list (by decide +kernel) rfl) pa_nil))))) (pss_one (ps_ret pe_bl)) pss_nil)
      (pss_one (ps_ret (pe_callB (call_allK (K:=K) rfl rfl) rfl B.all (by decide +kernel) (pa_cons (pe_comp rfl (N:=["_law_row_here"]) (js:=[none]) (by walk_at"comp_ok") (pi_listK (K:=K) rfl (pv 0)) (fun _ _ _ _=>(pg_name (i:=0) (show List.Nodup (["_law_row_here"]:List PySem.Str) by decide +kernel) rfl (Or.inl rfl))) (fun _ _ _ _=>pif_nil) (fun _ _ _ _=>(pe_fn c_law_numbers (hr.mono (by decide)) rfl pass0 (pa_cons (pv 0) pa_nil)))) pa_nil))))),?_⟩
  have hN:(["_law_found"]:List Str).length=1:=rfl
  obtain ⟨t,rfl,hl,hr,rfl⟩:=p
  have big:=line_big
  walk_at"run"
  refine exifF (b:=!true) (by walk_at"ev") rfl ?_
  refine ex_ret true (EvE.eq (ev_all (bs:=t.map fun _=>true) (EvO.toL (EvO.eq (evo_each (κ:=false) (is:=[0]) (xs:=t) false il (fun _=>.bool true) (fun x _ y _ h=>rfl) (ei_list (by walk_at"ev")) (by walk_at"cc") rfl (by decide) (by omega) ?_) (by rw [List.map_map]; rfl)))) (by simp)) rfl (.inl ⟨rfl,rfl⟩)
  intro r h
  exact egn (by walk_at"sc") (ev_callF (by walk_at"ev") ⟨r,rfl,hr r h,rfl⟩)
theorem nls_lls (cs:List (List Nat)):nls cs=lls (cs.map zl):=by
  show PyData.list (cs.map nl)=.list ((cs.map zl).map il)
  rw [List.map_map]
  refine congrArg PyData.list (List.map_congr_left fun r _=>?_)
  exact nl_zl r
def pre_law_same (ds:List PyData) (d:PyData):Prop:=∃ (ss:List Int) (cs:List (List Nat)) (ts:List (List (List Int))),ds=[bookD ss cs ts,bookD ss cs ts]∧BkU ss cs ts∧d=.bool true
theorem len_law_same (ds:List PyData) (d:PyData) (h:pre_law_same ds d):ds.length=2:=by obtain ⟨a,b,c,rfl,_⟩:=h; rfl
theorem shaped_tbl (ts:List (List (List Int))):SeqAt.shaped (tbl ts)=true:=shaped_of (lay_map (g:=lls) (fun t=>lay_map (g:=il) (fun r=>lay_map (g:=PyData.int) (fun _=>rfl) r) t) ts) (by
  have h3:=depth_map (g:=lls) (n:=2) (fun t=>by
    have:=depth_map (g:=il) (n:=1) (fun r=>by
      have:=depth_map (g:=PyData.int) (n:=0) (fun _=>Nat.le_refl _) r
      show PyData.depthAll _ + 1≤1
      omega) t
    show PyData.depthAll _ + 1≤2
    omega) ts
  show PyData.depthAll _ + 1≤50
  omega)
theorem sc_law_same:FnScope ["_law_found", "_law_three_here"] ["_law_found", "_law_three_here"] (defScope (top 51)):=⟨rfl,rfl,rfl,by decide +kernel,rfl,by decide +kernel,by decide +kernel⟩
theorem ok_law_same (F:Fun K "_law_same" "_law_same" (top 51) f fd) (B:Bs mg) (Z:Cs K mg t_MOST_THINGS t_MOST_CAUSES t_LEAST_SIZE t_GREATEST_SIZE) (c_law_numbers:Callee P w K mg base CX0 "_law_numbers" ["_law_found"] 1 (spD K true pre_law_numbers)) (c_law_lists:Callee P w K mg base CX0 "_law_lists" ["_law_found"] 2 (spD K true pre_law_lists)):FnOk P w K mg base CX0 3 f fd ["_law_found", "_law_three_here"] (spD K true pre_law_same):=by
  have sc:=sc_law_same
  refine F.ok sc (fun vs H Q E h=>spD_len len_law_same h) (fun cdv A outer s H vs Q E hr h=>?_)
  obtain ⟨Fh,ds,d,le,dp,p,q⟩:=h
  refine ⟨_,(pss_cons (ps_if (PW.pt (pw_or (pt_not (pt_val (pe_callB (call_isiDK (K:=K) rfl) rfl B.isinstance (by decide +kernel) (pa_cons (pv 0) (pa_cons (pe_bltn (v:=.ty "tuple") rfl B.tuple (by decide +kernel) rfl) pa_nil))))) (pw_or1 (pt_cmpR op_ne (pe_callB (call_len_seqK (K:=K) rfl) rfl B.len (by decide +kernel) (pa_cons (pv 0) pa_nil)) pe_int (nomark _))))) (pss_one (ps_ret pe_bl)) pss_nil)
      (pss_cons (ps_if (PW.pt (pw_or (pt_not (pt_val (pe_fn c_law_numbers (hr.mono (by decide)) rfl pass0 (pa_cons (pe_ix (ix_tupK (K:=K) rfl) (pv 0) pe_int (fun _ _=>rfl)) pa_nil)))) (pw_or (pt_not (pt_val (pe_fn c_law_lists (hr.mono (by decide)) rfl pass0 (pa_cons (pe_ix (ix_tupK (K:=K) rfl) (pv 0) pe_int (fun _ _=>rfl)) pa_nil)))) (pw_or1 (pt_not (pt_val (pe_callB (call_isiDK (K:=K) rfl) rfl B.isinstance (by decide +kernel) (pa_cons (pe_ix (ix_tupK (K:=K) rfl) (pv 0) pe_int (fun _ _=>rfl)) (pa_cons (pe_bltn (v:=.ty "list") rfl B.list (by decide +kernel) rfl) pa_nil))))))))) (pss_one (ps_ret pe_bl)) pss_nil)
      (pss_cons (ps_if (pt_not (pt_val (pe_callB (call_allK (K:=K) rfl rfl) rfl B.all (by decide +kernel) (pa_cons (pe_comp rfl (N:=["_law_rows"]) (js:=[none]) (by walk_at"comp_ok") (pi_listK (K:=K) rfl (pe_ix (ix_tupK (K:=K) rfl) (pv 0) pe_int (fun _ _=>rfl))) (fun _ _ _ _=>(pg_name (i:=0) (show List.Nodup (["_law_rows"]:List PySem.Str) by decide +kernel) rfl (Or.inl rfl))) (fun _ _ _ _=>pif_nil) (fun _ _ _ _=>(pe_fn c_law_lists (hr.mono (by decide)) rfl pass0 (pa_cons (pv 0) pa_nil)))) pa_nil)))) (pss_one (ps_ret pe_bl)) pss_nil)
      (pss_one (ps_ret (pe_and (pe_cmpR (op_eqSK (K:=K) rfl hr.units) (pe_ix (ix_tupK (K:=K) rfl) (pv 0) pe_int (fun _ _=>rfl)) (pe_ix (ix_tupK (K:=K) rfl) (pv 1) pe_int (fun _ _=>rfl)) (nomark _)) (pe_and (pe_cmpR (op_eqSK (K:=K) rfl hr.units) (pe_ix (ix_tupK (K:=K) rfl) (pv 0) pe_int (fun _ _=>rfl)) (pe_ix (ix_tupK (K:=K) rfl) (pv 1) pe_int (fun _ _=>rfl)) (nomark _)) (pe_one (pe_cmpR (op_eqSK (K:=K) rfl hr.units) (pe_ix (ix_tupK (K:=K) rfl) (pv 0) pe_int (fun _ _=>rfl)) (pe_ix (ix_tupK (K:=K) rfl) (pv 1) pe_int (fun _ _=>rfl)) (nomark _)))))))))),?_⟩
  have hN:(["_law_found", "_law_three_here"]:List Str).length=2:=rfl
  obtain ⟨ss,cs,ts,rfl,ok,rfl⟩:=p
  have big:=line_big
  have n12:=ok.b.n
  have cl:=ok.b.cl
  have tl:=ok.b.tl
  walk_at"run"
  refine exifF (b:=!true || !decide ((([il ss,nls cs,tbl ts]:List PyData).length:Int)=3)) (et_or (by walk_at"ev") fun _=>et_test (ev_neI (ev_lenT (by walk_at"ev")) (by walk_at"ev"))) rfl ?_
  refine exifF (b:=!true || (!true || !true)) (et_or (et_not (et_B (ev_callF (ds:=[il ss]) (ea_cons (ev_ixT (ds:=[il ss,nls cs,tbl ts]) (by walk_at"ev") (by walk_at"ev") atI0) ea_nil) ⟨ss,rfl,by omega,rfl⟩))) fun _=>et_or (et_not (et_B (ev_callF (ds:=[lls (cs.map zl)]) (ea_cons (EvE.eq (ev_ixT (ds:=[il ss,nls cs,tbl ts]) (by walk_at"ev") (by walk_at"ev") atI1) (nls_lls cs)) ea_nil) ⟨cs.map zl,rfl,by rw [List.length_map]; omega,fun r hr=>?_,rfl⟩))) fun _=>et_not (et_B (ev_isi (d:=tbl ts) (EvE.toD (κ:=false) (ev_ixT (ds:=[il ss,nls cs,tbl ts]) (by walk_at"ev") (by walk_at"ev") atI2)) ?_))) rfl ?_
  · obtain ⟨r',hr',rfl⟩:=List.mem_map.mp hr
    have:=(ok.o.r r' hr').2
    unfold zl
    rw [List.length_map]
    omega
  · with_unfolding_all rfl
  refine exifF (b:=!((ts.map fun _=>true).all fun b=>b)) (et_not (et_B (ev_all (bs:=ts.map fun _=>true) (EvO.toL (EvO.eq (evo_each (κ:=false) (is:=[0]) (xs:=ts) false lls (fun _=>.bool true) (fun x _ y _ h=>rfl) (ei_list (ev_ixT (ds:=[il ss,nls cs,tbl ts]) (by walk_at"ev") (by walk_at"ev") atI2)) (by walk_at"cc") rfl (by decide) (by omega) ?_) (by rw [List.map_map]; rfl)))))) (by simp) ?_
  · intro t ht
    have t1:=ok.b.tlen ht
    obtain ⟨k,hk⟩:=List.mem_iff_getElem?.mp ht
    have kl:=(List.getElem?_eq_some_iff.mp hk).1
    refine egn (by walk_at"sc") (ev_callF (by walk_at"ev") ⟨t,rfl,by omega,fun r hr=>?_,rfl⟩)
    have:=(ok.b.rk k t hk r hr).l
    have:=getD_size ok.b.s (k:=k) (by omega)
    omega
  exact ex_ret true (d:=.bool (true && (true && true))) (ev_and (ev_eqSm (EvE.toD (κ:=false) (ev_ixT (ds:=[il ss,nls cs,tbl ts]) (by walk_at"ev") (by walk_at"ev") atI0)) (EvE.toD (κ:=false) (ev_ixT (ds:=[il ss,nls cs,tbl ts]) (by walk_at"ev") (by walk_at"ev") atI0)) (shaped_il ss)) fun _=>ev_and (ev_eqSm (EvE.toD (κ:=false) (ev_ixT (ds:=[il ss,nls cs,tbl ts]) (by walk_at"ev") (by walk_at"ev") atI1)) (EvE.toD (κ:=false) (ev_ixT (ds:=[il ss,nls cs,tbl ts]) (by walk_at"ev") (by walk_at"ev") atI1)) (shaped_nls cs)) fun _=>ev_eqSm (EvE.toD (κ:=false) (ev_ixT (ds:=[il ss,nls cs,tbl ts]) (by walk_at"ev") (by walk_at"ev") atI2)) (EvE.toD (κ:=false) (ev_ixT (ds:=[il ss,nls cs,tbl ts]) (by walk_at"ev") (by walk_at"ev") atI2)) (shaped_tbl ts)) rfl (.inl ⟨rfl,rfl⟩)
def pre_law_whole (ds:List PyData) (d:PyData):Prop:=∃ i:Int,ds=[.int i]∧d=.bool true
theorem len_law_whole (ds:List PyData) (d:PyData) (h:pre_law_whole ds d):ds.length=1:=by obtain ⟨ss,rfl,_⟩:=h; rfl
theorem sc_law_whole:FnScope ["_law_found"] ["_law_found"] (defScope (top 52)):=⟨rfl,rfl,rfl,by decide +kernel,rfl,by decide +kernel,by decide +kernel⟩
theorem ok_law_whole (F:Fun K "_law_whole" "_law_whole" (top 52) f fd) (B:Bs mg) (Z:Cs K mg t_MOST_THINGS t_MOST_CAUSES t_LEAST_SIZE t_GREATEST_SIZE)  : FnOk P w K mg base CX0 1 f fd ["_law_found"] (spD K true pre_law_whole):=by
  have sc:=sc_law_whole
  refine F.ok sc (fun vs H Q E h=>spD_len len_law_whole h) (fun cdv A outer s H vs Q E hr h=>?_)
  obtain ⟨Fh,ds,d,le,dp,p,q⟩:=h
  refine ⟨_,(pss_one (ps_ret (pe_and (pe_callB (call_isiDK (K:=K) rfl) rfl B.isinstance (by decide +kernel) (pa_cons (pv 0) (pa_cons (pe_bltn (v:=.ty "int") rfl B.int (by decide +kernel) rfl) pa_nil))) (pe_one (pe_not (pe_callB (call_isiDK (K:=K) rfl) rfl B.isinstance (by decide +kernel) (pa_cons (pv 0) (pa_cons (pe_bltn (v:=.ty "bool") rfl B.bool (by decide +kernel) rfl) pa_nil)))))))),?_⟩
  have hN:(["_law_found"]:List Str).length=1:=rfl
  obtain ⟨i,rfl,rfl⟩:=p
  walk_at"run"
  exact ex_ret (d:=.bool (true && !false)) true (by walk_at"ev") rfl (.inl ⟨rfl,rfl⟩)
def pre_law_divisor (ds:List PyData) (d:PyData):Prop:=∃ a b:Int,ds=[.int a,.int b]∧1≤b∧d=.int (Int.gcd a b:Nat)
theorem len_law_divisor (ds:List PyData) (d:PyData) (h:pre_law_divisor ds d):ds.length=2:=by obtain ⟨a,b,rfl,_⟩:=h; rfl
theorem sc_law_divisor:FnScope ["_law_one", "_law_other"] ["_law_one", "_law_other"] (defScope (top 53)):=⟨rfl,rfl,rfl,by decide +kernel,rfl,by decide +kernel,by decide +kernel⟩
theorem ok_law_divisor (F:Fun K "_law_divisor" "_law_divisor" (top 53) f fd) (B:Bs mg) (Z:Cs K mg t_MOST_THINGS t_MOST_CAUSES t_LEAST_SIZE t_GREATEST_SIZE)  : FnOk P w K mg base CX0 1 f fd ["_law_one", "_law_other"] (spD K true pre_law_divisor):=by
  have sc:=sc_law_divisor
  refine F.ok sc (fun vs H Q E h=>spD_len len_law_divisor h) (fun cdv A outer s H vs Q E hr h=>?_)
  obtain ⟨Fh,ds,d,le,dp,p,q⟩:=h
  refine ⟨_,(pss_cons (ps_while PassesOwn.never (pt_cmpR op_ne (pv 1) pe_int (nomark _)) (pss_one (ps_par (i:=0) (j:=1) rfl sc.nd rfl rfl (by decide) rfl rfl (pa_cons (pv 1) (pa_cons (pe_op op_mod (pv 0) (pv 1)) pa_nil)) rfl)))
      (pss_one (ps_ret (pv 0)))),?_⟩
  have hN:(["_law_one", "_law_other"]:List Str).length=2:=rfl
  obtain ⟨a,b,rfl,hb,rfl⟩:=p
  walk_at"run"
  refine ex_seq (fun Γ=>∃ κ y,Γ=[some (.fz κ (.int (Int.gcd a b:Nat))),y]) (ex_while (fun m Γ=>∃ κ x y,Γ=[some (.fz κ (.int x)),some (.fz κ (.int y))]∧0≤y∧(y=0→0 < x)∧Int.gcd x y=Int.gcd a b∧m=y.toNat) b.toNat ⟨false,a,b,rfl,by omega,by omega,rfl,rfl⟩ ?_) ?_
  · rintro m Γ' ⟨κ,x,y,rfl,hy,hx,hg,rfl⟩
    refine ⟨!decide (y=0),by cases κ <;> walk_at"ev", fun c=>?_,fun c=>?_⟩
    · have y0:y≠0:=by simpa using c
      have yp:0 < y:=by omega
      have h1:=Int.emod_lt_of_pos x yp
      have h2:=Int.emod_nonneg x y0
      refine ex_par (κ:=true) (x:=.int y) (y:=.int (x % y)) (by cases κ <;> walk_at"ev") (by walk_at"sc") (by walk_at"sc") ?_
      exact ⟨_,by omega,true,y,x % y,rfl,h2,fun _=>yp,by rw [gcd_step]; exact hg,rfl⟩
    · have y0:y=0:=by simpa using c
      subst y0
      rw [Int.gcd_zero_right] at hg
      have e:x=((Int.gcd a b:Nat):Int):=by have:=hx rfl; omega
      rw [e]
      exact ⟨_,_,rfl⟩
  · rintro Γ' ⟨κ,y,rfl⟩
    exact ex_ret true (d:=.int (Int.gcd a b:Nat)) (by cases κ <;> walk_at"ev") rfl (.inl ⟨rfl,rfl⟩)
def pre_law_is_share (ds:List PyData) (d:PyData):Prop:=∃ t u:Int,ds=[shD (mk t u),.int t,.int u]∧1≤u∧t.natAbs < 2 ^ 7100∧u.natAbs < 2 ^ 7100∧d=.bool true
theorem len_law_is_share (ds:List PyData) (d:PyData) (h:pre_law_is_share ds d):ds.length=3:=by obtain ⟨a,b,rfl,_⟩:=h; rfl
theorem sc_law_is_share:FnScope ["_law_found", "_law_top", "_law_bottom"] ["_law_found", "_law_top", "_law_bottom"] (defScope (top 54)):=⟨rfl,rfl,rfl,by decide +kernel,rfl,by decide +kernel,by decide +kernel⟩
theorem ok_law_is_share (F:Fun K "_law_is_share" "_law_is_share" (top 54) f fd) (B:Bs mg) (Z:Cs K mg t_MOST_THINGS t_MOST_CAUSES t_LEAST_SIZE t_GREATEST_SIZE) (c_law_whole:Callee P w K mg base CX0 "_law_whole" ["_law_found"] 1 (spD K true pre_law_whole)) (c_law_divisor:Callee P w K mg base CX0 "_law_divisor" ["_law_one", "_law_other"] 1 (spD K true pre_law_divisor)):FnOk P w K mg base CX0 2 f fd ["_law_found", "_law_top", "_law_bottom"] (spD K true pre_law_is_share):=by
  have sc:=sc_law_is_share
  refine F.ok sc (fun vs H Q E h=>spD_len len_law_is_share h) (fun cdv A outer s H vs Q E hr h=>?_)
  obtain ⟨Fh,ds,d,le,dp,p,q⟩:=h
  refine ⟨_,(pss_cons (ps_if (PW.pt (pw_or (pt_not (pt_val (pe_callB (call_isiDK (K:=K) rfl) rfl B.isinstance (by decide +kernel) (pa_cons (pv 0) (pa_cons (pe_bltn (v:=.ty "tuple") rfl B.tuple (by decide +kernel) rfl) pa_nil))))) (pw_or (pt_cmpR op_ne (pe_callB (call_len_seqK (K:=K) rfl) rfl B.len (by decide +kernel) (pa_cons (pv 0) pa_nil)) pe_int (nomark _)) (pw_or (pt_not (pt_val (pe_fn c_law_whole (hr.mono (by decide)) rfl pass0 (pa_cons (pe_ix (ix_tupK (K:=K) rfl) (pv 0) pe_int (fun _ _=>rfl)) pa_nil)))) (pw_or1 (pt_not (pt_val (pe_fn c_law_whole (hr.mono (by decide)) rfl pass0 (pa_cons (pe_ix (ix_tupK (K:=K) rfl) (pv 0) pe_int (fun _ _=>rfl)) pa_nil))))))))) (pss_one (ps_ret pe_bl)) pss_nil)
      (pss_cons (ps_if (PW.pt (pw_or (pt_cmpR op_lt (pe_ix (ix_tupK (K:=K) rfl) (pv 0) pe_int (fun _ _=>rfl)) pe_int (nomark _)) (pw_or1 (pt_cmpR op_ne (pe_op op_mulB (pe_ix (ix_tupK (K:=K) rfl) (pv 0) pe_int (fun _ _=>rfl)) (pv 2)) (pe_op op_mulB (pv 1) (pe_ix (ix_tupK (K:=K) rfl) (pv 0) pe_int (fun _ _=>rfl))) (nomark _))))) (pss_one (ps_ret pe_bl)) pss_nil)
      (pss_one (ps_ret (pe_cmpR op_eq (pe_fn c_law_divisor (hr.mono (by decide)) rfl pass0 (pa_cons (pe_ix (ix_tupK (K:=K) rfl) (pv 0) pe_int (fun _ _=>rfl)) (pa_cons (pe_ix (ix_tupK (K:=K) rfl) (pv 0) pe_int (fun _ _=>rfl)) pa_nil))) pe_int (nomark _)))))),?_⟩
  have hN:(["_law_found", "_law_top", "_law_bottom"]:List Str).length=3:=rfl
  obtain ⟨t,u,rfl,hu,bt,bu,rfl⟩:=p
  have ml:=mk_low (a:=t) (b:=u) (by omega)
  have mc:=mk_cross (a:=t) (b:=u) (by omega)
  have ms:=mk_shr hu bt bu
  generalize mk t u=m at *
  obtain ⟨a,b⟩:=m
  have bp:=ml.pos
  have mu:IntMulOk a u:=mulOk ms.ba bu (by decide)
  have mt:IntMulOk t b:=mulOk bt ms.bb (by decide)
  have mc':a * u=t * b:=mc
  have bp':0 < b:=bp
  have co:Int.gcd a b=1:=ml.co
  walk_at"run"
  refine exifF (b:=!true || (!decide ((2:Int)=2) || (!true || !true))) (et_or (by walk_at"ev") fun _=>et_or (et_test (ev_neI (i:=2) (ev_lenT (ds:=[.int a,.int b]) (by walk_at"ev")) ev_int)) fun _=>et_or (et_not (et_B (ev_callF (by walk_at"ev") ⟨_,rfl,rfl⟩))) fun _=>et_not (et_B (ev_callF (by walk_at"ev") ⟨_,rfl,rfl⟩))) rfl ?_
  refine exifF (b:=decide (b < 1) || !decide (a * u=t * b)) (et_or (by walk_at"ev") fun _=>by walk_at"ev") (by rw [mc',decide_eq_false (by omega)]; simp) ?_
  exact ex_ret true (d:=.bool (decide (((Int.gcd a b:Nat):Int)=1))) (ev_eqI (ev_callF (by walk_at"ev") ⟨a,b,rfl,by omega,rfl⟩) (by walk_at"ev")) (by rw [co]; rfl) (.inl ⟨rfl,rfl⟩)
theorem rkF_snoc {ss ws:List Int} (h:ss.length=ws.length) (s v:Int):rkF (ss ++ [s]) (ws ++ [v])=rkF ss ws * s + v:=by
  unfold rkF
  rw [List.zip_append h,List.foldl_append]
  rfl
def pre_law_row_due (ds:List PyData) (d:PyData):Prop:=∃ (ss:List Int) (cs:List (List Nat)) (ts:List (List (List Int))) (k:Nat) (ws:List Int),ds=[bookD ss cs ts,.int k,il ws]∧BkOk ss cs ts∧WdOk ss ws∧k < ss.length∧d=il (rowOf ss cs ts k ws)
theorem len_law_row_due (ds:List PyData) (d:PyData) (h:pre_law_row_due ds d):ds.length=3:=by obtain ⟨a,b,c,e,f,rfl,_⟩:=h; rfl
theorem sc_law_row_due:FnScope ["_law_three_here", "_law_k", "_law_world", "_law_place", "_law_c"] ["_law_three_here", "_law_k", "_law_world"] (defScope (top 56)):=⟨rfl,rfl,rfl,by decide +kernel,rfl,by decide +kernel,by decide +kernel⟩
theorem ok_law_row_due (F:Fun K "_law_row_due" "_law_row_due" (top 56) f fd) (B:Bs mg) (Z:Cs K mg t_MOST_THINGS t_MOST_CAUSES t_LEAST_SIZE t_GREATEST_SIZE)  : FnOk P w K mg base CX0 1 f fd ["_law_three_here", "_law_k", "_law_world"] (spD K false pre_law_row_due):=by
  have sc:=sc_law_row_due
  refine F.ok sc (fun vs H Q E h=>spD_len len_law_row_due h) (fun cdv A outer s H vs Q E hr h=>?_)
  obtain ⟨Fh,ds,d,le,dp,p,q⟩:=h
  refine ⟨_,(pss_cons (ps_set (i:=3) sc.nd rfl (Or.inl rfl) pe_int)
      (pss_cons (ps_for PassesOwn.never rfl (pi_listK (K:=K) rfl (pe_ix (ix_listK (K:=K) rfl) (pe_ix (ix_tupK (K:=K) rfl) (pv 0) pe_int (fun _ _=>rfl)) (pv 1) (fun _ _=>rfl))) (pg_name (i:=4) sc.nd rfl (Or.inl rfl)) (pss_one (ps_set (i:=3) sc.nd rfl (Or.inl rfl) (pe_op op_add (pe_op op_mulB (pv 3) (pe_ix (ix_listK (K:=K) rfl) (pe_ix (ix_tupK (K:=K) rfl) (pv 0) pe_int (fun _ _=>rfl)) (pv 4) (fun _ _=>rfl))) (pe_ix (ix_listK (K:=K) rfl) (pv 2) (pv 4) (fun _ _=>rfl))))))
      (pss_one (ps_ret (pe_ix (ix_listK (K:=K) rfl) (pe_ix (ix_listK (K:=K) rfl) (pe_ix (ix_tupK (K:=K) rfl) (pv 0) pe_int (fun _ _=>rfl)) (pv 1) (fun _ _=>rfl)) (pv 3) (fun _ _=>rfl)))))),?_⟩
  have hN:(["_law_three_here", "_law_k", "_law_world", "_law_place", "_law_c"]:List Str).length=5:=rfl
  obtain ⟨ss,cs,ts,k,ws,rfl,ok,hw,hk,rfl⟩:=p
  obtain ⟨own,t,j,A⟩:=ok.at hw hk
  have ol:=A.ol
  walk_at"run"
  have a1:atI (cs.map nl) (k:Int)=some (nl own):=atI_map A.fc
  have a2:atI (ts.map lls) (k:Int)=some (lls t):=atI_map A.ft
  have a3:atI (t.map il) (j:Int)=some (il (rowOf ss cs ts k ws)):=atI_map A.fr
  walk_at"go"
  refine exfor false (fun i Γ=>∃ y,Γ=[some (.fz false (bookD ss cs ts)),some (.fz false (.int k)),some (.fz false (il ws)),some (.fz true (.int (rkF (pk ss (own.take i)) (pk ws (own.take i))))),y]) (ei_list (ev_ixL (EvE.toL (ev_ixT (by walk_at"ev") (by walk_at"ev") atI1)) (by walk_at"ev") a1)) ⟨none,by rw [List.take_zero]; rfl⟩ ?_ ?_
  · rintro i d Γ' hd ⟨y,rfl⟩
    obtain ⟨c,hc',rfl⟩:=get_map hd
    have hl:=A.o c (List.mem_of_getElem? hc')
    have gs:=getD_size ok.s hl
    refine ⟨_,egn (by walk_at"sc") ?_⟩
    rw [take_succ hc',pk_snoc,pk_snoc,rkF_snoc (by unfold Sx2.pk; rw [List.length_map,List.length_map])]
    refine exs1 true (ev_add (ev_mul (by walk_at"ev") (ev_ixL (EvE.toL (ev_ixT (by walk_at"ev") (by walk_at"ev") atI0)) (by walk_at"ev") (at_ints hl)) (small_mul (by omega) (by omega))) (ev_ixL (by walk_at"ev") (by walk_at"ev") (at_ints (by rw [hw.l]; exact hl)))) (by walk_at"sc") ⟨_,rfl⟩
  · rintro Γ' ⟨y,rfl⟩
    rw [List.length_map,List.take_length,A.fj]
    refine ex_ret false (ev_ixL (EvE.toL (ev_ixL (EvE.toL (ev_ixT (by walk_at"ev") (by walk_at"ev") atI2)) (by walk_at"ev") a2)) (by walk_at"ev") a3) rfl (.inr rfl)
def allW:List Int→List (List Int)→List (List Int)
  | [],fd=>fd
  | s :: r,fd=>allW r (grow fd (rng s.toNat))
theorem allW_snoc:∀ (xs:List Int) (s:Int) (fd:List (List Int)),allW (xs ++ [s]) fd=grow (allW xs fd) (rng s.toNat)
  | [],_,_=>rfl
  | x :: r,s,fd=>allW_snoc r s _
theorem allW_len:∀ (ss:List Int) (fd:List (List Int)),(∀ s∈ss,1≤s∧s≤9)→((allW ss fd).length:Int)=fd.length * prod ss
  | [],fd,_=>by show (fd.length:Int)=fd.length * 1; omega
  | s :: r,fd,h=>by
    have hs:=h s List.mem_cons_self
    show ((allW r (grow fd (rng s.toNat))).length:Int)=fd.length * (s * prod r)
    rw [allW_len r _ fun x hx=>h x (List.mem_cons_of_mem _ hx),grow_len,rng_len,Int.natCast_mul,← Int.mul_assoc]
    congr 2
    omega
theorem allW_in:∀ (ss:List Int) (n:Nat),ss.length=n→∀ w∈allW ss [[]],w.length=n∧∀ j,j < n→0≤w.getD j 0∧w.getD j 0 < ss.getD j 0:=by
  intro ss n
  induction n generalizing ss with
  | zero =>
    intro h w hw
    have:ss=[]:=List.eq_nil_of_length_eq_zero h
    subst this
    rw [List.mem_singleton.mp hw]
    exact ⟨rfl,fun j hj=>absurd hj (Nat.not_lt_zero _)⟩
  | succ n ih =>
    intro h w hw
    obtain ⟨t,s,rfl⟩:∃ t s,ss=t ++ [s]:=⟨ss.dropLast,ss.getLast (by intro e; rw [e] at h; cases h),(List.dropLast_concat_getLast _).symm⟩
    have hl:t.length=n:=by rw [List.length_append] at h; simpa using h
    rw [allW_snoc] at hw
    unfold grow at hw
    obtain ⟨g,hg,hw⟩:=List.mem_flatMap.mp hw
    obtain ⟨c,hc,rfl⟩:=List.mem_map.mp hw
    obtain ⟨gl,gr⟩:=ih t hl g hg
    have cr:0≤c∧c < s:=by
      unfold rng at hc
      obtain ⟨m,hm,rfl⟩:=List.mem_map.mp hc
      have:=List.mem_range.mp hm
      omega
    refine ⟨by rw [List.length_append,gl]; rfl,fun j hj=>?_⟩
    by_cases e:j=n
    · subst e
      rw [List.getD_eq_getElem?_getD,List.getElem?_append_right (by omega),gl,Nat.sub_self,List.getD_eq_getElem?_getD (l:=t ++ [s]),List.getElem?_append_right (by omega),hl,Nat.sub_self]
      exact cr
    · rw [List.getD_eq_getElem?_getD,List.getElem?_append_left (by omega),← List.getD_eq_getElem?_getD,List.getD_eq_getElem?_getD (l:=t ++ [s]),List.getElem?_append_left (by omega),← List.getD_eq_getElem?_getD]
      exact gr j (by omega)
def pre_law_worlds (ds:List PyData) (d:PyData):Prop:=∃ ss:List Int,ds=[il ss]∧(∀ s∈ss,2≤s∧s≤4)∧ss.length≤6∧d=lls (allW ss [[]])
theorem len_law_worlds (ds:List PyData) (d:PyData) (h:pre_law_worlds ds d):ds.length=1:=by obtain ⟨a,rfl,_⟩:=h; rfl
theorem allW_le {ss:List Int} (hs:∀ s∈ss,2≤s∧s≤4) (hl:ss.length≤6):(allW ss [[]]).length≤4096:=by
  have h1:=allW_len ss [[]] fun x hx=>by have:=hs x hx; omega
  have h2:=(prod_le ss 6 (fun x hx=>by have:=hs x hx; omega) hl).1
  have e:(4:Int) ^ 6=4096:=by decide
  rw [show (([[]]:List (List Int)).length:Int)=1 from rfl,Int.one_mul] at h1
  omega
theorem sc_law_worlds:FnScope ["_law_sizes_here", "_law_found", "_law_size", "_law_longer", "_law_world", "_law_value"] ["_law_sizes_here"] (defScope (top 55)):=⟨rfl,rfl,rfl,by decide +kernel,rfl,by decide +kernel,by decide +kernel⟩
theorem ok_law_worlds (F:Fun K "_law_worlds" "_law_worlds" (top 55) f fd) (B:Bs mg) (Z:Cs K mg t_MOST_THINGS t_MOST_CAUSES t_LEAST_SIZE t_GREATEST_SIZE)  : FnOk P w K mg base CX0 1 f fd ["_law_sizes_here"] (spD K true pre_law_worlds):=by
  have sc:=sc_law_worlds
  refine F.ok sc (fun vs H Q E h=>spD_len len_law_worlds h) (fun cdv A outer s H vs Q E hr h=>?_)
  obtain ⟨Fh,ds,d,le,dp,p,q⟩:=h
  refine ⟨_,(pss_cons (ps_set (i:=1) sc.nd rfl (Or.inl rfl) (pe_lst (pa_cons (pe_lst pa_nil) pa_nil)))
      (pss_cons (ps_for PassesOwn.never rfl (pi_listK (K:=K) rfl (pv 0)) (pg_name (i:=2) sc.nd rfl (Or.inl rfl)) (pss_cons (ps_set (i:=3) sc.nd rfl (Or.inl rfl) (pe_lst pa_nil))
      (pss_cons (ps_for PassesOwn.never rfl (pi_listK (K:=K) rfl (pv 1)) (pg_name (i:=4) sc.nd rfl (Or.inl rfl)) (pss_one (ps_for PassesOwn.never rfl (pi_range1 rfl B.range (pa_cons (pv 2) pa_nil)) (pg_name (i:=5) sc.nd rfl (Or.inl rfl)) (pss_one (ps_expr (pe_bmK (K:=K) rfl PySem.F.plainAttrs_list PySem.F.slot_list_append PySem.F.type_list_append mt_append (pv 3) (pa_cons (pe_op (op_catSK (K:=K) rfl) (pv 4) (pe_lst (pa_cons (pv 5) pa_nil))) pa_nil)))))))
      (pss_one (ps_set (i:=1) sc.nd rfl (Or.inl rfl) (pv 3))))))
      (pss_one (ps_ret (pv 1))))),?_⟩
  have hN:(["_law_sizes_here", "_law_found", "_law_size", "_law_longer", "_law_world", "_law_value"]:List Str).length=6:=rfl
  obtain ⟨ss,rfl,hs,hl,rfl⟩:=p
  have big:=line_big
  walk_at"run"
  refine exs true (d:=lls (allW [] [[]])) (EvE.eq (a:=.list [.list []]) (by walk_at"ev") rfl) (by walk_at"sc") ?_
  refine exfor false (fun i Γ=>∃ x y z u,Γ=[some (.fz false (il ss)),some (.fz true (lls (allW (ss.take i) [[]]))),x,y,z,u]) (ei_list (by walk_at"ev")) ⟨none,none,none,none,by rw [List.take_zero]⟩ ?_ ?_
  · rintro i d Γ' hd ⟨x,y,z,u,rfl⟩
    obtain ⟨s,hs',rfl⟩:=get_map hd
    have gs:=hs s (List.mem_of_getElem? hs')
    have wl:=allW_le (ss:=ss.take i) (fun x hx=>hs x (List.mem_of_mem_take hx)) (by rw [List.length_take]; omega)
    have hwl:∀ w∈allW (ss.take i) [[]],w.length≤63:=fun w hw=>by
      rw [(allW_in _ _ rfl w hw).1,List.length_take]
      omega
    rw [take_succ hs',allW_snoc]
    generalize allW (ss.take i) [[]]=ws at wl hwl
    refine ⟨_,egn (by walk_at"sc") ?_⟩
    refine exo true (evo_lst (ds:=[]) ea_nil (by decide)) (by walk_at"sc") ?_
    refine exfor (ds:=ws.map il) true (fun j Γ=>∃ z u,Γ=[some (.fz false (il ss)),some (.fz true (lls ws)),some (.fz false (.int s)),some (.ow true ((grow (ws.take j) (rng s.toNat)).map il)),z,u]) (ei_list (by walk_at"ev")) ⟨_,_,by rw [List.take_zero]; rfl⟩ ?_ ?_
    · rintro j d Γ' hd ⟨z,u,rfl⟩
      obtain ⟨h,hh',rfl⟩:=get_map hd
      have hb:=hwl h (List.mem_of_getElem? hh')
      have hj:=(List.getElem?_eq_some_iff.mp hh').1
      refine ⟨_,egn (by walk_at"sc") ?_⟩
      have rl:(rng s.toNat).length=s.toNat:=rng_len _
      refine ex_for (ds:=(List.range s.toNat).map fun i:Nat=>.int (i:Int)) true (fun n Γ=>∃ u,Γ=[some (.fz false (il ss)),some (.fz true (lls ws)),some (.fz false (.int s)),some (.ow true ((grow (ws.take j) (rng s.toNat) ++ ((rng s.toNat).take n).map fun c=>h ++ [c]).map il)),some (.fz true (il h)),u])
        (ei_rng1 (n:=s) (by walk_at"ev") (by omega) (by omega)) ⟨_,by rw [List.take_zero,List.map_nil,List.append_nil]⟩ ?_ ?_
      · rintro n d Γ' hd ⟨u,rfl⟩
        obtain ⟨hn,rfl⟩:=range_get hd
        refine ⟨_,egn (by walk_at"sc") ?_⟩
        have e1:(h.map PyData.int).length + [PyData.int (n:Int)].length≤sizeLine:=by
          rw [List.length_map]
          show h.length + 1≤_
          omega
        have rn:(rng s.toNat)[n]?=some (n:Int):=rng_get hn
        refine exa1 (by walk_at"gc") (by walk_at"ev") (by walk_at"sc") ?_ ?_
        · rw [List.length_map,List.length_append,grow_len,List.length_map,List.length_take,List.length_take,rl]
          have h2:min j ws.length * s.toNat≤4096 * 4:=Nat.mul_le_mul (by omega) (by omega)
          omega
        · have e:(grow (ws.take j) (rng s.toNat) ++ ((rng s.toNat).take (n + 1)).map fun c=>h ++ [c]).map il=(grow (ws.take j) (rng s.toNat) ++ ((rng s.toNat).take n).map fun c=>h ++ [c]).map il ++ [.list (h.map .int ++ [.int (n:Int)])]:=by
            rw [take_succ rn]
            simp [il]
          show ∃ y,_
          rw [e]
          exact ⟨_,rfl⟩
      · rintro Γ' ⟨u,rfl⟩
        have e2:(rng s.toNat).take s.toNat=rng s.toNat:=List.take_of_length_le (by rw [rl]; exact Nat.le_refl _)
        show ∃ z u,_=_
        rw [take_succ hh',grow_snoc,range_len,e2]
        exact ⟨_,_,rfl⟩
    · rintro Γ' ⟨z,u,rfl⟩
      refine exfz 3 (by walk_at"gc") (by walk_at"sc") ?_
      refine exs1 true (by walk_at"ev") (by walk_at"sc") ?_
      show ∃ x y z u,_
      rw [List.length_map,List.take_length]
      exact ⟨_,_,_,_,rfl⟩
  · rintro Γ' ⟨x,y,z,u,rfl⟩
    refine ex_ret true (by walk_at"ev") ?_ (.inl ⟨rfl,rfl⟩)
    rw [List.length_map,List.take_length]
theorem allW_wd {ss:List Int} {w:List Int} (hw:w∈allW ss [[]]):WdOk ss w:=by
  have:=allW_in ss ss.length rfl w hw
  refine ⟨this.1,fun i s v h1 h2=>?_⟩
  have hi:=(List.getElem?_eq_some_iff.mp h1).1
  have q:=this.2 i hi
  rw [List.getD_eq_getElem?_getD,h2,List.getD_eq_getElem?_getD,h1] at q
  exact q
def pre_law_set_due (ds:List PyData) (d:PyData):Prop:=∃ (ss:List Int) (cs:List (List Nat)) (ts:List (List (List Int))) (x:Nat) (a:Int),ds=[bookD ss cs ts,.int x,.int a]∧BkOk ss cs ts∧x < ss.length∧d=bookD ss (cs.set x []) (ts.set x [oneR (ss.getD x 0) a])
theorem len_law_set_due (ds:List PyData) (d:PyData) (h:pre_law_set_due ds d):ds.length=3:=by obtain ⟨a,b,c,e,g,rfl,_⟩:=h; rfl
theorem sc_law_set_due:FnScope ["_law_three_here", "_law_k", "_law_a", "_law_sizes_here", "_law_causes", "_law_tables"] ["_law_three_here", "_law_k", "_law_a"] (defScope (top 57)):=⟨rfl,rfl,rfl,by decide +kernel,rfl,by decide +kernel,by decide +kernel⟩
theorem ok_law_set_due (F:Fun K "_law_set_due" "_law_set_due" (top 57) f fd) (B:Bs mg) (Z:Cs K mg t_MOST_THINGS t_MOST_CAUSES t_LEAST_SIZE t_GREATEST_SIZE) (c_law_copy:Callee P w K mg base CX0 "_law_copy" ["_law_three_here"] 1 (spT3 K pre_law_copy)):FnOk P w K mg base CX0 2 f fd ["_law_three_here", "_law_k", "_law_a"] (spD K true pre_law_set_due):=by
  have sc:=sc_law_set_due
  refine F.ok sc (fun vs H Q E h=>spD_len len_law_set_due h) (fun cdv A outer s H vs Q E hr h=>?_)
  obtain ⟨Fh,ds,d,le,dp,p,q⟩:=h
  refine ⟨_,(pss_cons (ps_asg (pe_fn c_law_copy (hr.mono (by decide)) rfl pass0 (pa_cons (pv 0) pa_nil)) (pg_tupK (K:=K) (n:=3) rfl rfl (pgs_cons (pg_name (i:=3) sc.nd rfl (Or.inl rfl)) (pgs_cons (pg_name (i:=4) sc.nd rfl (Or.inl rfl)) (pgs_cons (pg_name (i:=5) sc.nd rfl (Or.inl rfl)) pgs_nil)))))
      (pss_cons (ps_asg (pe_lst pa_nil) (pg_sub (pv 4) (pv 1) set_list))
      (pss_cons (ps_asg (pe_lst (pa_cons (pe_comp rfl (N:=["_law_value", "_law_a"]) (js:=[none,some 2]) (by walk_at"comp_ok") (pi_range1 rfl B.range (pa_cons (pe_ix (ix_listK (K:=K) rfl) (pv 3) (pv 1) (fun _ _=>rfl)) pa_nil)) (fun _ _ _ _=>(pg_name (i:=0) (show List.Nodup (["_law_value", "_law_a"]:List PySem.Str) by decide +kernel) rfl (Or.inl rfl))) (fun _ _ _ _=>pif_nil) (fun _ _ _ _=>(pe_callTy call_int1 rfl B.int (by decide +kernel) (pa_cons (pe_cmpR op_eq (pv 0) (pv 1) (nomark _)) pa_nil)))) pa_nil)) (pg_sub (pv 5) (pv 1) set_list))
      (pss_one (ps_ret (pe_tup (pa_cons (pv 3) (pa_cons (pv 4) (pa_cons (pv 5) pa_nil))))))))),?_⟩
  have hN:(["_law_three_here", "_law_k", "_law_a", "_law_sizes_here", "_law_causes", "_law_tables"]:List Str).length=6:=rfl
  obtain ⟨ss,cs,ts,x,a,rfl,ok,hx,rfl⟩:=p
  have big:=line_big
  have cl:=ok.cl
  have tl:=ok.tl
  have gs:=getD_size ok.s hx
  have as:atI (ss.map PyData.int) (x:Int)=some (.int (ss.getD x 0)):=at_ints hx
  walk_at"run"
  refine ex_asgT3 (i:=3) (j:=4) (l:=5) (xs:=ss.map .int) (ys:=cs.map nl) (zs:=ts.map lls) (by walk_at"ev") ⟨ss,cs,ts,rfl,ok,rfl,rfl,rfl⟩ (by walk_at"sc") (by walk_at"sc") (by walk_at"sc") (by decide) (by decide) (by decide) ?_
  refine exi (j:=x) (m:=x) (d:=nl []) (by walk_at"gc") (EvO.toE (evo_lst (ds:=[]) ea_nil (by decide))) (by walk_at"ev") (ixN_nat (by rw [List.length_map]; omega)) (by walk_at"sc") ?_
  refine exi (j:=x) (m:=x) (d:=lls [oneR (ss.getD x 0) a]) (by walk_at"gc") (EvO.toE (EvO.eq (evo_lst (ds:=[il (oneR (ss.getD x 0) a)]) (ea_cons (EvO.toE (EvO.eq (evo_rng (is:=[0]) (n:=(ss.getD x 0).toNat) (fun v=>.int (if (v:Int)=a then 1 else 0)) (ea_cons (EvE.eq (ev_ixL (κ:=false) (by walk_at"ev") (by walk_at"ev") as) (by rw [Int.toNat_of_nonneg (by omega)])) ea_nil) (by omega) (by walk_at"cc") rfl (by decide) ?_) ?_)) ea_nil) (by show 1≤_; omega)) rfl)) (by walk_at"ev") (ixN_nat (by rw [List.length_map]; omega)) (by walk_at"sc") ?_
  · intro v hv
    refine egn (by walk_at"sc") ?_
    refine EvE.eq (ev_intB (b:=decide ((v:Int)=a)) (ev_eqI (by walk_at"ev") (by walk_at"ev"))) (congrArg PyData.int ?_)
    by_cases e:(v:Int)=a
    · rw [if_pos e,decide_eq_true e]; rfl
    · rw [if_neg e,decide_eq_false e]; rfl
  · unfold oneR
    rw [List.map_map]
    rfl
  refine exfz 3 (by walk_at"gc") (by walk_at"sc") ?_
  refine exfz 4 (by walk_at"gc") (by walk_at"sc") ?_
  refine exfz 5 (by walk_at"gc") (by walk_at"sc") ?_
  refine ex_ret true (d:=.tuple [il ss,.list ((cs.map nl).set x (nl [])),.list ((ts.map lls).set x (lls [oneR (ss.getD x 0) a]))]) (by walk_at"ev") ?_ (.inl ⟨rfl,rfl⟩)
  show _=PyData.tuple [il ss,.list ((cs.set x []).map nl),.list ((ts.set x [oneR (ss.getD x 0) a]).map lls)]
  rw [List.map_set,List.map_set]
def pre_law_cut (ds:List PyData) (d:PyData):Prop:=∃ (ss:List Int) (cs:List (List Nat)) (ts:List (List (List Int))) (x:Nat) (a:Int),ds=[bookD ss cs ts,bookD ss (cs.set x []) (ts.set x [oneR (ss.getD x 0) a]),.int x,.int a]∧BkO ss cs ts∧x < ss.length∧(0≤a∧a < ss.getD x 0)∧d=.bool true
theorem len_law_cut (ds:List PyData) (d:PyData) (h:pre_law_cut ds d):ds.length=4:=by obtain ⟨a,b,c,e,g,rfl,_⟩:=h; rfl
theorem sc_law_cut:FnScope ["_law_three_here", "_law_made", "_law_k", "_law_a", "_law_world", "_law_found", "_law_top", "_law_bottom", "_law_other", "_law_row_here"] ["_law_three_here", "_law_made", "_law_k", "_law_a"] (defScope (top 58)):=⟨rfl,rfl,rfl,by decide +kernel,rfl,by decide +kernel,by decide +kernel⟩
theorem ok_law_cut (F:Fun K "_law_cut" "_law_cut" (top 58) f fd) (B:Bs mg) (Z:Cs K mg t_MOST_THINGS t_MOST_CAUSES t_LEAST_SIZE t_GREATEST_SIZE) (c_law_worlds:Callee P w K mg base CX0 "_law_worlds" ["_law_sizes_here"] 1 (spD K true pre_law_worlds)) (c_world_chance:Callee P w K mg base CX0 "world_chance" ["book", "world"] 4 (spD K true pre_world_chance)) (c_law_row_due:Callee P w K mg base CX0 "_law_row_due" ["_law_three_here", "_law_k", "_law_world"] 1 (spD K false pre_law_row_due)) (c_law_is_share:Callee P w K mg base CX0 "_law_is_share" ["_law_found", "_law_top", "_law_bottom"] 2 (spD K true pre_law_is_share)):FnOk P w K mg base CX0 5 f fd ["_law_three_here", "_law_made", "_law_k", "_law_a"] (spD K true pre_law_cut):=by
  have sc:=sc_law_cut
  refine F.ok sc (fun vs H Q E h=>spD_len len_law_cut h) (fun cdv A outer s H vs Q E hr h=>?_)
  obtain ⟨Fh,ds,d,le,dp,p,q⟩:=h
  refine ⟨_,(pss_cons (ps_for PassesOwn.never rfl (pi_listK (K:=K) rfl (pe_fn c_law_worlds (hr.mono (by decide)) rfl pass0 (pa_cons (pe_ix (ix_tupK (K:=K) rfl) (pv 0) pe_int (fun _ _=>rfl)) pa_nil))) (pg_name (i:=4) sc.nd rfl (Or.inl rfl)) (pss_cons (ps_set (i:=5) sc.nd rfl (Or.inl rfl) (pe_fn c_world_chance (hr.mono (by decide)) rfl pass0 (pa_cons (pv 1) (pa_cons (pv 4) pa_nil))))
      (pss_cons (ps_set (i:=6) sc.nd rfl (Or.inl rfl) (pe_callTy call_int1 rfl B.int (by decide +kernel) (pa_cons (pe_cmpR op_eq (pe_ix (ix_listK (K:=K) rfl) (pv 4) (pv 2) (fun _ _=>rfl)) (pv 3) (nomark _)) pa_nil)))
      (pss_cons (ps_set (i:=7) sc.nd rfl (Or.inl rfl) pe_int)
      (pss_cons (ps_for PassesOwn.never rfl (pi_range1 rfl B.range (pa_cons (pe_callB (call_len_seqK (K:=K) rfl) rfl B.len (by decide +kernel) (pa_cons (pv 4) pa_nil)) pa_nil)) (pg_name (i:=8) sc.nd rfl (Or.inl rfl)) (pss_one (ps_if (pt_cmpR op_ne (pv 8) (pv 2) (nomark _)) (pss_cons (ps_set (i:=9) sc.nd rfl (Or.inl rfl) (pe_fn c_law_row_due (hr.mono (by decide)) rfl pass0 (pa_cons (pv 0) (pa_cons (pv 8) (pa_cons (pv 4) pa_nil)))))
      (pss_cons (ps_set (i:=6) sc.nd rfl (Or.inl rfl) (pe_op op_mulB (pv 6) (pe_ix (ix_listK (K:=K) rfl) (pv 9) (pe_ix (ix_listK (K:=K) rfl) (pv 4) (pv 8) (fun _ _=>rfl)) (fun _ _=>rfl))))
      (pss_one (ps_set (i:=7) sc.nd rfl (Or.inl rfl) (pe_op op_mulB (pv 7) (pe_callB (call_sumK (K:=K) rfl rfl) rfl B.sum (by decide +kernel) (pa_cons (pv 9) pa_nil))))))) pss_nil)))
      (pss_one (ps_if (pt_not (pt_val (pe_fn c_law_is_share (hr.mono (by decide)) rfl pass0 (pa_cons (pv 5) (pa_cons (pv 6) (pa_cons (pv 7) pa_nil)))))) (pss_one (ps_ret pe_bl)) pss_nil)))))))
      (pss_one (ps_ret pe_bl))),?_⟩
  have hN:(["_law_three_here", "_law_made", "_law_k", "_law_a", "_law_world", "_law_found", "_law_top", "_law_bottom", "_law_other", "_law_row_here"]:List Str).length=10:=rfl
  obtain ⟨ss,cs,ts,x,a,rfl,ok,hx,ha,rfl⟩:=p
  have big:=line_big
  have n6:=ok.n
  have hs:=ok.b.s
  have al:=allW_le hs ok.n
  have ok':=ok.set hx ha
  have rne:∀ {w:List Int} {k:Nat},x≠k→rowOf ss (cs.set x []) (ts.set x [oneR (ss.getD x 0) a]) k w=rowOf ss cs ts k w:=fun {w k} e=>row_ne e
  have wte:∀ {w:List Int},WdOk ss w→wT ss (cs.set x []) (ts.set x [oneR (ss.getD x 0) a]) w x=cF w x a:=fun {w} hw=>wT_eq ok hx hw
  have wse:∀ {w:List Int},wS ss (cs.set x []) (ts.set x [oneR (ss.getD x 0) a]) w x=1:=fun {w}=>wS_eq ok hx ha
  obtain ⟨cs',ecs⟩:∃ c,c=cs.set x []:=⟨_,rfl⟩
  obtain ⟨ts',ets⟩:∃ t,t=ts.set x [oneR (ss.getD x 0) a]:=⟨_,rfl⟩
  rw [← ecs,← ets] at ok' rne wte wse dp
  walk_at"run"
  refine exfor (ds:=(allW ss [[]]).map il) true (fun i Γ=>∃ x4 x5 x6 x7 x8 x9,Γ=[some (.fz false (bookD ss cs ts)),some (.fz false (bookD ss cs' ts')),some (.fz false (.int (x:Int))),some (.fz false (.int a)),x4,x5,x6,x7,x8,x9]) (ei_list (ev_callF (ea_cons (ev_ixT (by walk_at"ev") (by walk_at"ev") atI0) ea_nil) ⟨ss,rfl,hs,n6,rfl⟩)) ⟨none,none,none,none,none,none,rfl⟩ ?_ ?_
  · rintro i d Γ' hd ⟨x4,x5,x6,x7,x8,x9,rfl⟩
    obtain ⟨w,hw',rfl⟩:=get_map hd
    have hw:=allW_wd (List.mem_of_getElem? hw')
    have wl:=hw.l
    have ax:=at_ints (ns:=w) (k:=x) (by omega)
    refine ⟨_,egn (by walk_at"sc") ?_⟩
    refine exs true (d:=shD (wch ss cs' ts' w)) (ev_callF (by walk_at"ev") ⟨ss,cs',ts',w,rfl,ok',hw,rfl⟩) (by walk_at"sc") ?_
    refine exs true (d:=.int (tpF (wT ss cs' ts' w) (cF w x a) x 0)) (EvE.eq (ev_intB (b:=decide (w.getD x 0=a)) (ev_eqI (ev_ixL (by walk_at"ev") (by walk_at"ev") ax) (by walk_at"ev"))) (by unfold tpF; rw [if_pos (Nat.zero_le _)]; show _=PyData.int (1 * _); rw [Int.one_mul]; rfl)) (by walk_at"sc") ?_
    refine exs true (d:=.int (El.pAll (wS ss cs' ts' w) 0)) (show EvE K .fresh true _ _ (.int 1) by walk_at"ev") (by walk_at"sc") ?_
    refine exfor (ds:=(List.range w.length).map fun i:Nat=>.int (i:Int)) true (fun j Γ=>∃ x8 x9,Γ=[some (.fz false (bookD ss cs ts)),some (.fz false (bookD ss cs' ts')),some (.fz false (.int (x:Int))),some (.fz false (.int a)),some (.fz true (il w)),some (.fz true (shD (wch ss cs' ts' w))),some (.fz true (.int (tpF (wT ss cs' ts' w) (cF w x a) x j))),some (.fz true (.int (El.pAll (wS ss cs' ts' w) j))),x8,x9]) (ei_rng1 (n:=(w.length:Int)) (ea_cons (EvE.eq (ev_len (ds:=w.map PyData.int) (by walk_at"ev")) (by rw [List.length_map])) ea_nil) (by omega) (by omega)) ⟨_,_,rfl⟩ ?_ ?_
    · rintro j d Γ' hd ⟨x8,x9,rfl⟩
      obtain ⟨hj,rfl⟩:=range_get hd
      have hk:j < ss.length:=by omega
      refine ⟨_,egn (by walk_at"sc") ?_⟩
      refine ex_if (b:=!decide ((j:Int)=(x:Int))) (et_test (ev_neI (by walk_at"ev") (by walk_at"ev"))) (fun h=>?_) (fun h=>?_)
      · have h:j≠x:=fun z=>by rw [z] at h; simp at h
        have W:=ok.at hw hk
        have S:=ok'.pS hw (i:=j) (by omega)
        have T:=tp_bd (x:=x) (ok'.pT hw (i:=j) (by omega)) (c01 w x a)
        have wv:=hw.at hk
        refine exs false (d:=il (rowOf ss cs ts j w)) (ev_callN (by walk_at"ev") ⟨ss,cs,ts,j,w,rfl,ok.b,hw,hk,rfl⟩) (by walk_at"sc") ?_
        have a1:=at_ints (ns:=w) (k:=j) hj
        have a2:=at_intsZ (ns:=rowOf ss cs ts j w) (i:=w.getD j 0) wv.1 (by rw [W.l]; exact wv.2)
        have m1:IntMulOk (tpF (wT ss cs' ts' w) (cF w x a) x j) ((rowOf ss cs ts j w).getD (w.getD j 0).toNat 0):=mulOk (m:=2000) (n:=203) (Pb.pw_lt T.1 T.2 (by omega)) (Pb.pw_lt W.t0 (Int.le_trans W.t1 W.s1) (by decide)) (by decide)
        have m2:IntMulOk (El.pAll (wS ss cs' ts' w) j) (rowOf ss cs ts j w).sum:=mulOk (m:=2000) (n:=203) (Pb.pw_lt (by omega) S.2 (by omega)) (Pb.pw_lt (by have:=W.s0; unfold wS at this; omega) W.s1 (by decide)) (by decide)
        have q1:wT ss cs' ts' w j=(rowOf ss cs ts j w).getD (w.getD j 0).toNat 0:=by unfold wT; rw [rne (Ne.symm h)]
        have q2:wS ss cs' ts' w j=(rowOf ss cs ts j w).sum:=by unfold wS; rw [rne (Ne.symm h)]
        refine exs true (d:=.int (tpF (wT ss cs' ts' w) (cF w x a) x (j + 1))) (EvE.eq (ev_mul (by walk_at"ev") (ev_ixL (by walk_at"ev") (ev_ixL (by walk_at"ev") (by walk_at"ev") a1) a2) m1) (by rw [tp_ne h,q1])) (by walk_at"sc") ?_
        exact exs1 true (d:=.int (El.pAll (wS ss cs' ts' w) (j + 1))) (EvE.eq (ev_mul (by walk_at"ev") (ev_sum (by walk_at"ev")) m2) (by rw [El.pAll_succ,q2])) (by walk_at"sc") ⟨_,_,rfl⟩
      · have h:j=x:=by have:=of_decide_eq_true (show decide ((j:Int)=(x:Int))=true by simpa using h); omega
        subst h
        refine ex_next ?_
        show ∃ x8 x9,_
        rw [tp_eq (wte hw),El.pAll_succ,wse,Int.mul_one]
        exact ⟨_,_,rfl⟩
    · rintro Γ' ⟨x8,x9,rfl⟩
      rw [range_len,wl,tp_end hx]
      have S:=ok'.pS hw (Nat.le_refl _)
      have T:=ok'.pT hw (Nat.le_refl _)
      have pis:pre_law_is_share [shD (wch ss cs' ts' w),.int (El.pAll (wT ss cs' ts' w) ss.length),.int (El.pAll (wS ss cs' ts' w) ss.length)] (.bool true):=⟨El.pAll (wT ss cs' ts' w) ss.length,El.pAll (wS ss cs' ts' w) ss.length,rfl,S.1,Pb.pw_lt T.1 T.2 (by omega),Pb.pw_lt (by omega) S.2 (by omega),rfl⟩
      exact ex_if (b:=!true) (et_not (et_B (ev_callF (by walk_at"ev") pis))) (fun h=>by cases h) fun _=>ex_next ⟨_,_,_,_,_,_,rfl⟩
  · rintro Γ' ⟨x4,x5,x6,x7,x8,x9,rfl⟩
    exact ex_ret true (by walk_at"ev") rfl (.inl ⟨rfl,rfl⟩)
theorem pick_mod (u:Int) {n:Nat} (h:0 < n):∃ m:Nat,u % (n:Int)=(m:Int)∧m < n:=⟨(u % (n:Int)).toNat,by
  have h1:=Int.emod_nonneg u (show (n:Int)≠0 by omega)
  have h2:=Int.emod_lt_of_pos u (show (0:Int) < (n:Int) by omega)
  omega⟩
theorem sp_b {ss:List Int} {cs:List (List Nat)} {ts:List (List (List Int))} (h:BkU ss cs ts):SpB (bookD ss cs ts):=by
  have n12:=h.b.n
  have cl:=h.b.cl
  have tl:=h.b.tl
  refine ⟨ss,cs.map zl,ts,by show bookD ss cs ts=.tuple [il ss,lls (cs.map zl),tbl ts]; rw [← nls_lls],by omega,by rw [List.length_map]; omega,fun r hr=>?_,by omega,fun t ht=>?_⟩
  · obtain ⟨r',hr',rfl⟩:=List.mem_map.mp hr
    have:=(h.o.r r' hr').2
    unfold zl
    rw [List.length_map]
    omega
  · obtain ⟨k,hk⟩:=List.mem_iff_getElem?.mp ht
    have kl:=(List.getElem?_eq_some_iff.mp hk).1
    have gc:=getD_some (d:=([]:List Nat)) (l:=cs) (k:=k) (by omega)
    have t1:=h.b.tlen ht
    have e:=h.b.tk k _ _ gc hk
    have pr:=h.b.pr1 gc
    refine ⟨fun z=>by rw [z] at e; have e':((0:Nat):Int)=prod (pk ss (cs.getD k [])):=e; omega,by omega,fun r hr z=>?_⟩
    have l:=(h.b.rk k t hk r hr).l
    have:=getD_size h.b.s (k:=k) (by omega)
    rw [z] at l
    have l':((0:Nat):Int)=ss.getD k 0:=l
    omega
theorem BkU.bk {ss:List Int} {cs:List (List Nat)} {ts:List (List (List Int))} (h:BkU ss cs ts):pre_book [il ss,nls cs,tbl ts] (bookD ss cs ts):=⟨ss,cs,ts,rfl,h,rfl⟩
theorem sc_law:FnScope ["_law_script", "_law_first", "_law_great", "_law_many", "_law_three_here", "_law_handed", "_law_cell", "_law_k", "_law_a", "_law_made", "_law_other", "_law_b", "_law_both", "_law_row_here", "_law_rows"] ["_law_script"] (defScope (top 59)):=⟨rfl,rfl,rfl,by decide +kernel,rfl,by decide +kernel,by decide +kernel⟩
theorem ok_law (F:Fun K "law" "law" (top 59) f fd) (B:Bs mg) (Z:Cs K mg t_MOST_THINGS t_MOST_CAUSES t_LEAST_SIZE t_GREATEST_SIZE) (c_law_cell_at:Callee P w K mg base CX0 "_law_cell_at" ["_law_script", "_law_k"] 1 (spD K true pre_law_cell_at)) (c_law_three:Callee P w K mg base CX0 "_law_three" ["_law_script", "_law_many", "_law_most", "_law_great"] 3 (spW K true pre_law_three)) (c_law_copy:Callee P w K mg base CX0 "_law_copy" ["_law_three_here"] 1 (spT3 K pre_law_copy)) (c_set_to:Callee P w K mg base CX0 "set_to" ["book", "k", "a"] 2 (spD K true pre_set_to)) (c_law_same:Callee P w K mg base CX0 "_law_same" ["_law_found", "_law_three_here"] 3 (spD K true pre_law_same)) (c_law_set_due:Callee P w K mg base CX0 "_law_set_due" ["_law_three_here", "_law_k", "_law_a"] 2 (spD K true pre_law_set_due)) (c_law_cut:Callee P w K mg base CX0 "_law_cut" ["_law_three_here", "_law_made", "_law_k", "_law_a"] 5 (spD K true pre_law_cut)) (c_book:Callee P w K mg base CX0 "book" ["sizes", "causes", "tables"] 7 (spD K true pre_book)):FnOk P w K mg base CX0 8 f fd ["_law_script"] (spLaw K):=by
  have sc:=sc_law
  refine F.ok sc (fun vs H Q E h=>?_) (fun cdv A outer s H vs Q E hr h=>?_)
  · obtain ⟨a,ns,rfl,_⟩:=h
    rfl
  obtain ⟨a,ns,rfl,hS,h63,k⟩:=h
  have le:Same H H:=Same.refl H
  have dp:DpAll K H [V.ref a] [PyData.list (ns.map .int)]:=.cons (.lst hS (dpAll_ints ns)) .nil
  have q:∀ v H' F',Gr H H H' F'→Rp K false .fresh H F' v (.bool true)→Q v H':=fun v H' F' _ z=>by cases z; exact k H'
  refine ⟨_,(pss_cons (ps_set (i:=1) sc.nd rfl (Or.inl rfl) (pe_fn c_law_cell_at (hr.mono (by decide)) rfl pass0 (pa_cons (pv 0) (pa_cons pe_int pa_nil))))
      (pss_cons (ps_set (i:=2) sc.nd rfl (Or.inl rfl) (pe_callTy call_int1 rfl B.int (by decide +kernel) (pa_cons (pe_cmpR op_eq (pe_op op_mod (pe_op op_fdiv (pv 1) pe_int) pe_int) pe_int (nomark _)) pa_nil)))
      (pss_cons (ps_set (i:=3) sc.nd rfl (Or.inl rfl) (pe_op op_add pe_int (pe_op op_mod (pv 1) (pe_op op_sub pe_int (pe_op op_mulB pe_int (pv 2))))))
      (pss_cons (ps_set (i:=4) sc.nd rfl (Or.inl rfl) (pe_fn c_law_three (hr.mono (by decide)) rfl pass0 (pa_cons (pv 0) (pa_cons (pv 3) (pa_cons (pe_op op_sub pe_int (pe_op op_mulB pe_int (pv 2))) (pa_cons (pv 2) pa_nil))))))
      (pss_cons (ps_set (i:=5) sc.nd rfl (Or.inl rfl) (pe_fn c_law_copy (hr.mono (by decide)) rfl pass0 (pa_cons (pv 4) pa_nil)))
      (pss_cons (ps_set (i:=6) sc.nd rfl (Or.inl rfl) (pe_fn c_law_cell_at (hr.mono (by decide)) rfl pass0 (pa_cons (pv 0) (pa_cons pe_int pa_nil))))
      (pss_cons (ps_set (i:=7) sc.nd rfl (Or.inl rfl) (pe_op op_mod (pv 6) (pv 3)))
      (pss_cons (ps_set (i:=8) sc.nd rfl (Or.inl rfl) (pe_op op_mod (pe_op op_fdiv (pv 6) pe_int) (pe_ix (ix_listK (K:=K) rfl) (pe_ix (ix_tupK (K:=K) rfl) (pv 4) pe_int (fun _ _=>rfl)) (pv 7) (fun _ _=>rfl))))
      (pss_cons (ps_set (i:=9) sc.nd rfl (Or.inl rfl) (pe_fn c_set_to (hr.mono (by decide)) rfl pass0 (pa_cons (pv 5) (pa_cons (pv 7) (pa_cons (pv 8) pa_nil)))))
      (pss_cons (ps_if (PW.pt (pw_or (pt_not (pt_val (pe_fn c_law_same (hr.mono (by decide)) rfl pass0 (pa_cons (pv 9) (pa_cons (pe_fn c_law_set_due (hr.mono (by decide)) rfl pass0 (pa_cons (pv 4) (pa_cons (pv 7) (pa_cons (pv 8) pa_nil)))) pa_nil))))) (pw_or1 (pt_cmpR (op_neSK (K:=K) rfl hr.units) (pv 5) (pv 4) (nomark _))))) (pss_one (ps_ret pe_bl)) pss_nil)
      (pss_cons (ps_if (pt_not (pt_val (pe_fn c_law_cut (hr.mono (by decide)) rfl pass0 (pa_cons (pv 4) (pa_cons (pv 9) (pa_cons (pv 7) (pa_cons (pv 8) pa_nil))))))) (pss_one (ps_ret pe_bl)) pss_nil)
      (pss_cons (ps_set (i:=10) sc.nd rfl (Or.inl rfl) (pe_op op_mod (pe_op op_fdiv (pv 6) pe_int) (pv 3)))
      (pss_cons (ps_set (i:=11) sc.nd rfl (Or.inl rfl) (pe_op op_mod (pe_op op_fdiv (pv 6) pe_int) (pe_ix (ix_listK (K:=K) rfl) (pe_ix (ix_tupK (K:=K) rfl) (pv 4) pe_int (fun _ _=>rfl)) (pv 10) (fun _ _=>rfl))))
      (pss_cons (ps_set (i:=12) sc.nd rfl (Or.inl rfl) (pe_fn c_set_to (hr.mono (by decide)) rfl pass0 (pa_cons (pv 9) (pa_cons (pv 10) (pa_cons (pv 11) pa_nil)))))
      (pss_cons (ps_if (pt_not (pt_val (pe_fn c_law_same (hr.mono (by decide)) rfl pass0 (pa_cons (pv 12) (pa_cons (pe_fn c_law_set_due (hr.mono (by decide)) rfl pass0 (pa_cons (pe_fn c_law_set_due (hr.mono (by decide)) rfl pass0 (pa_cons (pv 4) (pa_cons (pv 7) (pa_cons (pv 8) pa_nil)))) (pa_cons (pv 10) (pa_cons (pv 11) pa_nil)))) pa_nil))))) (pss_one (ps_ret pe_bl)) pss_nil)
      (pss_cons (ps_if (PW.pt (pw_and (pt_cmpR op_ne (pv 10) (pv 7) (nomark _)) (pw_and1 (pt_cmpR (op_neSK (K:=K) rfl hr.units) (pe_fn c_set_to (hr.mono (by decide)) rfl pass0 (pa_cons (pe_fn c_set_to (hr.mono (by decide)) rfl pass0 (pa_cons (pv 5) (pa_cons (pv 10) (pa_cons (pv 11) pa_nil)))) (pa_cons (pv 7) (pa_cons (pv 8) pa_nil)))) (pv 12) (nomark _))))) (pss_one (ps_ret pe_bl)) pss_nil)
      (pss_cons (ps_if (pt_cmpR (op_neSK (K:=K) rfl hr.units) (pe_fn c_book (hr.mono (by decide)) rfl pass0 (pa_cons (pe_ix (ix_tupK (K:=K) rfl) (pv 9) pe_int (fun _ _=>rfl)) (pa_cons (pe_ix (ix_tupK (K:=K) rfl) (pv 9) pe_int (fun _ _=>rfl)) (pa_cons (pe_ix (ix_tupK (K:=K) rfl) (pv 9) pe_int (fun _ _=>rfl)) pa_nil)))) (pv 9) (nomark _)) (pss_one (ps_ret pe_bl)) pss_nil)
      (pss_cons (ps_expr (pe_bmK (K:=K) rfl PySem.F.plainAttrs_list PySem.F.slot_list_append PySem.F.type_list_append mt_append (pe_ix (ix_listK (K:=K) rfl) (pe_ix (ix_tupK (K:=K) rfl) (pv 12) pe_int (fun _ _=>rfl)) (pv 7) (fun _ _=>rfl)) (pa_cons (pe_lst (pa_cons pe_int pa_nil)) pa_nil)))
      (pss_cons (ps_expr (pe_bmK (K:=K) rfl PySem.F.plainAttrs_list PySem.F.slot_list_append PySem.F.type_list_append mt_append (pe_ix (ix_tupK (K:=K) rfl) (pv 9) pe_int (fun _ _=>rfl)) (pa_cons pe_int pa_nil)))
      (pss_cons (ps_for PassesOwn.never rfl (pi_listK (K:=K) rfl (pe_ix (ix_tupK (K:=K) rfl) (pv 9) pe_int (fun _ _=>rfl))) (pg_name (i:=13) sc.nd rfl (Or.inl rfl)) (pss_one (ps_expr (pe_bmK (K:=K) rfl PySem.F.plainAttrs_list PySem.F.slot_list_append PySem.F.type_list_append mt_append (pv 13) (pa_cons pe_int pa_nil)))))
      (pss_cons (ps_for PassesOwn.never rfl (pi_listK (K:=K) rfl (pe_ix (ix_tupK (K:=K) rfl) (pv 9) pe_int (fun _ _=>rfl))) (pg_name (i:=14) sc.nd rfl (Or.inl rfl)) (pss_one (ps_asg (pe_op op_add (pe_ix (ix_listK (K:=K) rfl) (pe_ix (ix_listK (K:=K) rfl) (pv 14) pe_int (fun _ _=>rfl)) pe_int (fun _ _=>rfl)) pe_int) (pg_sub (pe_ix (ix_listK (K:=K) rfl) (pv 14) pe_int (fun _ _=>rfl)) pe_int set_list))))
      (pss_one (ps_ret (pe_and (pe_cmpR (op_eqSK (K:=K) rfl hr.units) (pv 5) (pv 4) (nomark _)) (pe_one (pe_fn c_law_same (hr.mono (by decide)) rfl pass0 (pa_cons (pe_fn c_set_to (hr.mono (by decide)) rfl pass0 (pa_cons (pv 5) (pa_cons (pv 7) (pa_cons (pv 8) pa_nil)))) (pa_cons (pe_fn c_law_set_due (hr.mono (by decide)) rfl pass0 (pa_cons (pv 4) (pa_cons (pv 7) (pa_cons (pv 8) pa_nil)))) pa_nil)))))))))))))))))))))))))))),?_⟩
  have hN:(["_law_script", "_law_first", "_law_great", "_law_many", "_law_three_here", "_law_handed", "_law_cell", "_law_k", "_law_a", "_law_made", "_law_other", "_law_b", "_law_both", "_law_row_here", "_law_rows"]:List Str).length=15:=rfl
  have big:=line_big
  walk_at"run"
  refine exs true (d:=.int (ns.getD 0 0)) (ev_callF (by walk_at"ev") (show pre_law_cell_at [il ns,.int 0] _ from ⟨ns,0,rfl,rfl⟩)) (by walk_at"sc") ?_
  generalize hf:ns.getD 0 0=first
  have d6:CDiv first 6:=⟨by decide,by decide⟩
  obtain ⟨g,hg,g01⟩:∃ g:Int,(if decide (first / 6 % 4=1)=true then (1:Int) else 0)=g∧(g=0∨g=1):=⟨_,rfl,by split <;> simp⟩
  refine exs true (d:=.int g) (EvE.eq (ev_intB (b:=decide (first / 6 % 4=1)) (by walk_at"ev")) (congrArg PyData.int hg)) (by walk_at"sc") ?_
  have m2:IntMulOk 2 g:=small_mul (by rcases g01 with z | z <;> omega) (by rcases g01 with z | z <;> omega)
  have m48:IntMulOk 48 g:=small_mul (by rcases g01 with z | z <;> omega) (by rcases g01 with z | z <;> omega)
  have p7:0 < 6 - 2 * g:=by rcases g01 with z | z <;> omega
  have f0:=Int.emod_nonneg first (show 6 - 2 * g≠0 by omega)
  have f1:=Int.emod_lt_of_pos first p7
  obtain ⟨n,hn⟩:∃ n:Nat,1 + first % (6 - 2 * g)=(n:Int):=⟨(1 + first % (6 - 2 * g)).toNat,by omega⟩
  have go:GOk g n:=⟨by rcases g01 with z | z <;> omega⟩
  have n6:n≤6:=by rcases g01 with z | z <;> omega
  have n1:0 < n:=by omega
  refine exs true (d:=.int n) (EvE.eq (ev_add (by walk_at"ev") (ev_mod (by walk_at"ev") (ev_sub (by walk_at"ev") (ev_mul (by walk_at"ev") (by walk_at"ev") m2)) p7)) (congrArg PyData.int hn)) (by walk_at"sc") ?_
  refine exg true (evg_call (ea_cons (by walk_at"ev") (ea_cons (by walk_at"ev") (ea_cons (ev_sub (by walk_at"ev") (ev_mul (by walk_at"ev") (by walk_at"ev") m48)) (by walk_at"ev")))) ⟨ns,n,g,rfl,go,rfl⟩) (fun d=>by walk_at"sc") ?_
  rintro d ⟨ss,cs,ts,ok,sl,rfl⟩
  refine exs true (d:=bookD ss cs ts) (ev_callT3 (ds:=[bookD ss cs ts]) (by walk_at"ev") ⟨ss,cs,ts,rfl,ok.b,rfl,rfl,rfl⟩) (by walk_at"sc") ?_
  refine exs true (d:=.int (ns.getD 1 0)) (ev_callF (by walk_at"ev") (show pre_law_cell_at [il ns,.int 1] _ from ⟨ns,1,rfl,rfl⟩)) (by walk_at"sc") ?_
  generalize ns.getD 1 0=cell
  obtain ⟨x,ex,hx⟩:=pick_mod cell n1
  refine exs true (d:=.int (x:Int)) (EvE.eq (ev_mod (by walk_at"ev") (by walk_at"ev") (by omega)) (congrArg PyData.int ex)) (by walk_at"sc") ?_
  have gx:=getD_size ok.b.s (k:=x) (by omega)
  have ax:atI (ss.map PyData.int) (x:Int)=some (.int (ss.getD x 0)):=at_ints (by omega)
  obtain ⟨a,ea⟩:∃ a:Int,cell / 6 % ss.getD x 0=a:=⟨_,rfl⟩
  have ha:0≤a∧a < ss.getD x 0:=by
    rw [← ea]
    exact ⟨Int.emod_nonneg _ (by omega),Int.emod_lt_of_pos _ (by omega)⟩
  refine exs true (d:=.int a) (EvE.eq (ev_mod (ev_fdiv (by walk_at"ev") (by walk_at"ev") ⟨by decide,by decide⟩) (ev_ixL (EvE.toL (ev_ixT (ds:=[il ss,nls cs,tbl ts]) (by walk_at"ev") (by walk_at"ev") atI0)) (by walk_at"ev") ax) (by omega)) (congrArg PyData.int ea)) (by walk_at"sc") ?_
  have hx':x < ss.length:=by omega
  have okA:=ok.set hx' ha
  have pA:∀ {f:List PyData→PyData→Prop},f=pre_set_to∨f=pre_law_set_due→f [bookD ss cs ts,.int x,.int a] (bookD ss (cs.set x []) (ts.set x [oneR (ss.getD x 0) a])):=fun h=>by
    rcases h with rfl | rfl
    · exact ⟨ss,cs,ts,x,a,rfl,ok.b,hx',rfl⟩
    · exact ⟨ss,cs,ts,x,a,rfl,ok.b,hx',rfl⟩
  have pCut:pre_law_cut [bookD ss cs ts,bookD ss (cs.set x []) (ts.set x [oneR (ss.getD x 0) a]),.int x,.int a] (.bool true):=⟨ss,cs,ts,x,a,rfl,ok,hx',ha,rfl⟩
  obtain ⟨o,eo,ho⟩:=pick_mod (cell / 24) n1
  have gO:=getD_size ok.b.s (k:=o) (by omega)
  have aO:atI (ss.map PyData.int) (o:Int)=some (.int (ss.getD o 0)):=at_ints (by omega)
  obtain ⟨b,eb⟩:∃ b:Int,cell / 144 % ss.getD o 0=b:=⟨_,rfl⟩
  have hb:0≤b∧b < ss.getD o 0:=by
    rw [← eb]
    exact ⟨Int.emod_nonneg _ (by omega),Int.emod_lt_of_pos _ (by omega)⟩
  have ho':o < ss.length:=by omega
  have okB:=ok.set ho' hb
  have okAB:=okA.set ho' hb
  have pB:pre_set_to [bookD ss cs ts,.int o,.int b] (bookD ss (cs.set o []) (ts.set o [oneR (ss.getD o 0) b])):=⟨ss,cs,ts,o,b,rfl,ok.b,ho',rfl⟩
  have pBA:pre_set_to [bookD ss (cs.set o []) (ts.set o [oneR (ss.getD o 0) b]),.int x,.int a] (bookD ss ((cs.set o []).set x []) ((ts.set o [oneR (ss.getD o 0) b]).set x [oneR (ss.getD x 0) a])):=⟨ss,_,_,x,a,rfl,okB.b,hx',rfl⟩
  have pAB:∀ {f:List PyData→PyData→Prop},f=pre_set_to∨f=pre_law_set_due→f [bookD ss (cs.set x []) (ts.set x [oneR (ss.getD x 0) a]),.int o,.int b] (bookD ss ((cs.set x []).set o []) ((ts.set x [oneR (ss.getD x 0) a]).set o [oneR (ss.getD o 0) b])):=fun h=>by
    rcases h with rfl | rfl
    · exact ⟨ss,_,_,o,b,rfl,okA.b,ho',rfl⟩
    · exact ⟨ss,_,_,o,b,rfl,okA.b,ho',rfl⟩
  have com:o≠x→bookD ss ((cs.set o []).set x []) ((ts.set o [oneR (ss.getD o 0) b]).set x [oneR (ss.getD x 0) a])=bookD ss ((cs.set x []).set o []) ((ts.set x [oneR (ss.getD x 0) a]).set o [oneR (ss.getD o 0) b]):=fun h=>by rw [List.set_comm _ _ h,List.set_comm _ _ h]
  have lA:(ts.set x [oneR (ss.getD x 0) a]).length=ss.length:=okA.b.tl
  have lAB:((ts.set x [oneR (ss.getD x 0) a]).set o [oneR (ss.getD o 0) b]).length=ss.length:=okAB.b.tl
  have kA:(cs.set x []).length=ss.length:=okA.b.cl
  have pSA:pre_law_same [bookD ss (cs.set x []) (ts.set x [oneR (ss.getD x 0) a]),bookD ss (cs.set x []) (ts.set x [oneR (ss.getD x 0) a])] (.bool true):=⟨ss,_,_,rfl,okA.U,rfl⟩
  have pSAB:pre_law_same [bookD ss ((cs.set x []).set o []) ((ts.set x [oneR (ss.getD x 0) a]).set o [oneR (ss.getD o 0) b]),bookD ss ((cs.set x []).set o []) ((ts.set x [oneR (ss.getD x 0) a]).set o [oneR (ss.getD o 0) b])] (.bool true):=⟨ss,_,_,rfl,okAB.U,rfl⟩
  generalize cs.set x []=csA at *
  generalize ts.set x [oneR (ss.getD x 0) a]=tsA at *
  generalize csA.set o []=csB at *
  generalize tsA.set o [oneR (ss.getD o 0) b]=tsB at *
  refine exmk (d:=bookD ss csA tsA) (by walk_at"ev") (pA (.inl rfl)) (by walk_at"mk") (by walk_at"sc") ?_
  intro T
  refine exifF (b:=!true || false) (et_or (et_not (et_B (ev_callF (ea_cons (by walk_at"ev") (ea_cons (ev_callF (by walk_at"ev") (pA (.inr rfl))) ea_nil)) pSA))) fun _=>et_test (ev_neSm (EvE.toD (κ:=true) (by walk_at"ev")) (EvE.toD (κ:=true) (by walk_at"ev")) (shaped_book ss cs ts))) rfl ?_
  refine exifF (b:=!true) (et_not (et_B (ev_callF (by walk_at"ev") pCut))) rfl ?_
  refine exs true (d:=.int (o:Int)) (EvE.eq (ev_mod (ev_fdiv (by walk_at"ev") (by walk_at"ev") ⟨by decide,by decide⟩) (by walk_at"ev") (by omega)) (congrArg PyData.int eo)) (by walk_at"sc") ?_
  refine exs true (d:=.int b) (EvE.eq (ev_mod (ev_fdiv (by walk_at"ev") (by walk_at"ev") ⟨by decide,by decide⟩) (ev_ixL (EvE.toL (ev_ixT (ds:=[il ss,nls cs,tbl ts]) (by walk_at"ev") (by walk_at"ev") atI0)) (by walk_at"ev") aO) (by omega)) (congrArg PyData.int eb)) (by walk_at"sc") ?_
  refine ex_mark2 (d:=bookD ss csB tsB) (by walk_at"ev") (pAB (.inl rfl)) (by (repeat (first | ((with_reducible apply Mk2C.got); focus (first | exact Mk2.tn | exact Mk2.of MkD.fz | exact Mk2.of (MkD.im rfl))) | (with_reducible apply Mk2C.no))); (with_reducible exact Mk2C.nil)) (by walk_at"sc") ?_
  intro T2
  refine exifF (b:=!true) (et_not (et_B (ev_callF (ea_cons (by walk_at"ev") (ea_cons (ev_callF (ea_cons (ev_callF (by walk_at"ev") (pA (.inr rfl))) (by walk_at"ev")) (pAB (.inr rfl))) ea_nil)) pSAB))) rfl ?_
  refine exifF (b:=!decide ((o:Int)=(x:Int)) && false) (et_and (et_test (ev_neI (by walk_at"ev") (by walk_at"ev"))) fun h=>et_test (ev_neSm (d:=bookD ss csB tsB) (EvE.toD (κ:=true) (EvE.eq (ev_callF (ea_cons (ev_callF (by walk_at"ev") pB) (by walk_at"ev")) pBA) (com fun z=>by rw [z] at h; simp at h))) (EvE.toD (κ:=false) (by walk_at"ev")) (shaped_book ss csB tsB))) (by simp) ?_
  refine exifF (b:=false) (et_test (ev_neSm (d:=bookD ss csA tsA) (EvE.toD (κ:=true) (ev_callF (ea_cons (ev_ixT (ds:=[il ss,nls csA,tbl tsA]) (by walk_at"ev") (by walk_at"ev") atI0) (ea_cons (ev_ixT (ds:=[il ss,nls csA,tbl tsA]) (by walk_at"ev") (by walk_at"ev") atI1) (ea_cons (ev_ixT (ds:=[il ss,nls csA,tbl tsA]) (by walk_at"ev") (by walk_at"ev") atI2) ea_nil))) okA.U.bk)) (EvE.toD (κ:=false) (by walk_at"ev")) (shaped_book ss csA tsA))) rfl ?_
  refine ex_spoil2 (k:=x) big (by walk_at"gc") (by walk_at"gc") (by walk_at"gc") (sp_b okAB.U) (sp_b okA.U) (by rw [List.length_map]; omega) (fun z=>?_) (fun z=>?_) (by decide) (by decide) (by show 13 < 15; decide) (by show 14 < 15; decide) (by walk_at"sc") (by walk_at"sc") (by walk_at"sc") (by walk_at"sc") (by (repeat (first | (with_reducible apply NoT.no) | (with_reducible apply NoT.fz))); (with_reducible exact NoT.nil)) (by walk_at"sp") ?_
  · have e0:=congrArg List.length z
    rw [List.length_map,kA] at e0
    have e0:ss.length=0:=e0
    omega
  · have e0:=congrArg List.length z
    rw [List.length_map,lA] at e0
    have e0:ss.length=0:=e0
    omega
  exact ex_ret false (d:=.bool (true && true)) (ev_and (ev_eqSm (EvE.toD (κ:=true) (by walk_at"ev")) (EvE.toD (κ:=true) (by walk_at"ev")) (shaped_book ss cs ts)) fun _=>ev_callF (ea_cons (ev_callF (by walk_at"ev") (pA (.inl rfl))) (ea_cons (ev_callF (by walk_at"ev") (pA (.inr rfl))) ea_nil)) pSA) rfl (.inr rfl)
end
theorem all_ok {l:PySem.W.OpenLaw} {w:World} {K:PySem.W.Frag} {h:Heap} {mg:Str→Option Value} {fa:Addr} (X:K.In h) (G:h.Ns mainGlobals mg) (hfa:mg "law" = some (.ref fa))
    (d6:∃ f fd,At K "meet" (top 6) f fd) (d7:∃ f fd,At K "order_of" (top 7) f fd) (d11:∃ f fd,At K "is_whole" (top 11) f fd) (d12:∃ f fd,At K "common_divisor" (top 12) f fd) (d13:∃ f fd,At K "share" (top 13) f fd) (d14:∃ f fd,At K "times" (top 14) f fd) (d16:∃ f fd,At K "count_of" (top 16) f fd) (d17:∃ f fd,At K "rank" (top 17) f fd) (d26:∃ f fd,At K "is_from_to" (top 26) f fd) (d27:∃ f fd,At K "are_sizes" (top 27) f fd) (d25:∃ f fd,At K "is_list_of" (top 25) f fd) (d29:∃ f fd,At K "are_own_causes" (top 29) f fd) (d28:∃ f fd,At K "are_causes" (top 28) f fd) (d33:∃ f fd,At K "is_weight" (top 33) f fd) (d32:∃ f fd,At K "is_row" (top 32) f fd) (d31:∃ f fd,At K "is_table" (top 31) f fd) (d35:∃ f fd,At K "picked" (top 35) f fd) (d30:∃ f fd,At K "are_tables" (top 30) f fd) (d24:∃ f fd,At K "check_book" (top 24) f fd) (d34:∃ f fd,At K "copied" (top 34) f fd) (d23:∃ f fd,At K "book" (top 23) f fd) (d36:∃ f fd,At K "row_at" (top 36) f fd) (d37:∃ f fd,At K "chance_at" (top 37) f fd) (d38:∃ f fd,At K "world_chance" (top 38) f fd) (d39:∃ f fd,At K "set_to" (top 39) f fd) (d41:∃ f fd,At K "_law_cell_at" (top 41) f fd) (d42:∃ f fd,At K "_law_shape" (top 42) f fd) (d43:∃ f fd,At K "_law_row" (top 43) f fd) (d44:∃ f fd,At K "_law_table" (top 44) f fd) (d46:∃ f fd,At K "_law_product" (top 46) f fd) (d45:∃ f fd,At K "_law_sizes" (top 45) f fd) (d47:∃ f fd,At K "_law_three" (top 47) f fd) (d48:∃ f fd,At K "_law_copy" (top 48) f fd) (d49:∃ f fd,At K "_law_numbers" (top 49) f fd) (d50:∃ f fd,At K "_law_lists" (top 50) f fd) (d51:∃ f fd,At K "_law_same" (top 51) f fd) (d52:∃ f fd,At K "_law_whole" (top 52) f fd) (d53:∃ f fd,At K "_law_divisor" (top 53) f fd) (d54:∃ f fd,At K "_law_is_share" (top 54) f fd) (d55:∃ f fd,At K "_law_worlds" (top 55) f fd) (d56:∃ f fd,At K "_law_row_due" (top 56) f fd) (d57:∃ f fd,At K "_law_set_due" (top 57) f fd) (d58:∃ f fd,At K "_law_cut" (top 58) f fd)
    {f0:Addr} {oc:Value} {od an:Option Addr} {osl:Array (Option Value)} {kV doc pm cdv ct:Value} (a0:PySem.W.nsIn K mainGlobals "law" = some (some (.ref f0)))
    (l0:K.lookup f0=some ⟨oc,od,.func (PySem.W.fnOf "law" "law" (defArgs (top 59)) (defBody (top 59)) (defScope (top 59)) .none kV doc pm an cdv ct),osl⟩) (c0:PySem.W.codeIn K cdv "law" = true) (k0:PySem.W.keepIn K (.ref f0)=true)
    (z1:PySem.W.nsIn K mainGlobals "len" = some none) (z2:PySem.W.nsIn K mainGlobals "set" = some none) (z3:PySem.W.nsIn K mainGlobals "list" = some none) (z4:PySem.W.nsIn K mainGlobals "range" = some none) (z5:PySem.W.nsIn K mainGlobals "reversed" = some none) (z6:PySem.W.nsIn K mainGlobals "min" = some none) (z7:PySem.W.nsIn K mainGlobals "isinstance" = some none) (z8:PySem.W.nsIn K mainGlobals "int" = some none) (z9:PySem.W.nsIn K mainGlobals "bool" = some none) (z10:PySem.W.nsIn K mainGlobals "zip" = some none) (z11:PySem.W.nsIn K mainGlobals "all" = some none) (z12:PySem.W.nsIn K mainGlobals "sorted" = some none) (z13:PySem.W.nsIn K mainGlobals "sum" = some none) (z14:PySem.W.nsIn K mainGlobals "max" = some none) (z15:PySem.W.nsIn K mainGlobals "tuple" = some none)
    {t_MOST_THINGS t_MOST_CAUSES t_LEAST_SIZE t_GREATEST_SIZE:Tok} (y_MOST_THINGS:PySem.W.nsIn K mainGlobals "MOST_THINGS" = some (some (.int 12 t_MOST_THINGS))) (y_MOST_CAUSES:PySem.W.nsIn K mainGlobals "MOST_CAUSES" = some (some (.int 5 t_MOST_CAUSES))) (y_LEAST_SIZE:PySem.W.nsIn K mainGlobals "LEAST_SIZE" = some (some (.int 2 t_LEAST_SIZE))) (y_GREATEST_SIZE:PySem.W.nsIn K mainGlobals "GREATEST_SIZE" = some (some (.int 4 t_GREATEST_SIZE))) :
    ∃ fd:FuncData,(∀ (s:Shared) (v:Value),BindsTo s fd ⟨[v],[]⟩ [("_law_script", v)])∧∀ base:Heap,K.In base→base.Ns mainGlobals mg→FnOk l.prog w K mg base CX0 8 fa fd ["_law_script"] (spLaw K):=by
  have e:=hfa.symm.trans (PySem.W.mg_of X G a0)
  cases e
  have nn:∀ {x:Str},PySem.W.nsIn K mainGlobals x=some none→mg x=none:=fun z=>PySem.W.mg_none_of X G z
  have B:Bs mg:=⟨nn z1,nn z2,nn z3,nn z4,nn z5,nn z6,nn z7,nn z8,nn z9,nn z10,nn z11,nn z12,nn z13,nn z14,nn z15⟩
  refine ⟨PySem.W.fnOf "law" "law" (defArgs (top 59)) (defBody (top 59)) (defScope (top 59)) .none kV doc pm an cdv ct,fun s v=>.of_eq rfl,fun base _ _=>?_⟩
  have mm:∀ {x:Str} {f:Addr},PySem.W.nsIn K mainGlobals x=some (some (.ref f))→mg x=some (.ref f):=fun z=>PySem.W.mg_of X G z
  have Z:Cs K mg t_MOST_THINGS t_MOST_CAUSES t_LEAST_SIZE t_GREATEST_SIZE:=⟨PySem.W.mg_of X G y_MOST_THINGS,PySem.W.mg_of X G y_MOST_CAUSES,PySem.W.mg_of X G y_LEAST_SIZE,PySem.W.mg_of X G y_GREATEST_SIZE⟩
  obtain ⟨f6,g6,a6,F6⟩:=d6
  have b6:=F6.binds (ps:=["some", "others"]) fun _ _ _ _ _ _ us hl=>match us,hl with | [_,_],_=>rfl
  have C_meet:=callee (P:=l.prog) (w:=w) (base:=base) F6 (mm a6) b6 (ok_meet F6 B Z)
  obtain ⟨f7,g7,a7,F7⟩:=d7
  have b7:=F7.binds (ps:=["causes"]) fun _ _ _ _ _ _ us hl=>match us,hl with | [_],_=>rfl
  have C_order_of:=callee (P:=l.prog) (w:=w) (base:=base) F7 (mm a7) b7 (ok_order_of F7 B Z C_meet)
  obtain ⟨f11,g11,a11,F11⟩:=d11
  have b11:=F11.binds (ps:=["thing"]) fun _ _ _ _ _ _ us hl=>match us,hl with | [_],_=>rfl
  have C_is_whole:=callee (P:=l.prog) (w:=w) (base:=base) F11 (mm a11) b11 (ok_is_whole F11 B Z)
  obtain ⟨f12,g12,a12,F12⟩:=d12
  have b12:=F12.binds (ps:=["number", "bottom"]) fun _ _ _ _ _ _ us hl=>match us,hl with | [_,_],_=>rfl
  have C_common_divisor:=callee (P:=l.prog) (w:=w) (base:=base) F12 (mm a12) b12 (ok_common_divisor F12 B Z)
  obtain ⟨f13,g13,a13,F13⟩:=d13
  have b13:=F13.binds (ps:=["top", "bottom"]) fun _ _ _ _ _ _ us hl=>match us,hl with | [_,_],_=>rfl
  have C_share:=callee (P:=l.prog) (w:=w) (base:=base) F13 (mm a13) b13 (ok_share F13 B Z C_is_whole C_common_divisor)
  obtain ⟨f14,g14,a14,F14⟩:=d14
  have b14:=F14.binds (ps:=["one", "other"]) fun _ _ _ _ _ _ us hl=>match us,hl with | [_,_],_=>rfl
  have C_times:=callee (P:=l.prog) (w:=w) (base:=base) F14 (mm a14) b14 (ok_times F14 B Z C_common_divisor)
  obtain ⟨f16,g16,a16,F16⟩:=d16
  have b16:=F16.binds (ps:=["sizes"]) fun _ _ _ _ _ _ us hl=>match us,hl with | [_],_=>rfl
  have C_count_of:=callee (P:=l.prog) (w:=w) (base:=base) F16 (mm a16) b16 (ok_count_of F16 B Z)
  obtain ⟨f17,g17,a17,F17⟩:=d17
  have b17:=F17.binds (ps:=["sizes", "world"]) fun _ _ _ _ _ _ us hl=>match us,hl with | [_,_],_=>rfl
  have C_rank:=callee (P:=l.prog) (w:=w) (base:=base) F17 (mm a17) b17 (ok_rank F17 B Z)
  obtain ⟨f26,g26,a26,F26⟩:=d26
  have b26:=F26.binds (ps:=["thing", "least", "greatest"]) fun _ _ _ _ _ _ us hl=>match us,hl with | [_,_,_],_=>rfl
  have C_is_from_to:=callee (P:=l.prog) (w:=w) (base:=base) F26 (mm a26) b26 (ok_is_from_to F26 B Z C_is_whole)
  obtain ⟨f27,g27,a27,F27⟩:=d27
  have b27:=F27.binds (ps:=["sizes"]) fun _ _ _ _ _ _ us hl=>match us,hl with | [_],_=>rfl
  have C_are_sizes:=callee (P:=l.prog) (w:=w) (base:=base) F27 (mm a27) b27 (ok_are_sizes F27 B Z C_is_from_to)
  obtain ⟨f25,g25,a25,F25⟩:=d25
  have b25:=F25.binds (ps:=["thing", "length"]) fun _ _ _ _ _ _ us hl=>match us,hl with | [_,_],_=>rfl
  have C_is_list_of:=callee (P:=l.prog) (w:=w) (base:=base) F25 (mm a25) b25 (ok_is_list_of F25 B Z)
  obtain ⟨f29,g29,a29,F29⟩:=d29
  have b29:=F29.binds (ps:=["own", "number"]) fun _ _ _ _ _ _ us hl=>match us,hl with | [_,_],_=>rfl
  have C_are_own_causes:=callee (P:=l.prog) (w:=w) (base:=base) F29 (mm a29) b29 (ok_are_own_causes F29 B Z C_is_from_to)
  obtain ⟨f28,g28,a28,F28⟩:=d28
  have b28:=F28.binds (ps:=["causes", "number"]) fun _ _ _ _ _ _ us hl=>match us,hl with | [_,_],_=>rfl
  have C_are_causes:=callee (P:=l.prog) (w:=w) (base:=base) F28 (mm a28) b28 (ok_are_causes F28 B Z C_is_list_of C_are_own_causes)
  obtain ⟨f33,g33,a33,F33⟩:=d33
  have b33:=F33.binds (ps:=["weight"]) fun _ _ _ _ _ _ us hl=>match us,hl with | [_],_=>rfl
  have C_is_weight:=callee (P:=l.prog) (w:=w) (base:=base) F33 (mm a33) b33 (ok_is_weight F33 B Z C_is_whole)
  obtain ⟨f32,g32,a32,F32⟩:=d32
  have b32:=F32.binds (ps:=["row", "size"]) fun _ _ _ _ _ _ us hl=>match us,hl with | [_,_],_=>rfl
  have C_is_row:=callee (P:=l.prog) (w:=w) (base:=base) F32 (mm a32) b32 (ok_is_row F32 B Z C_is_list_of C_is_weight)
  obtain ⟨f31,g31,a31,F31⟩:=d31
  have b31:=F31.binds (ps:=["table", "rows", "size"]) fun _ _ _ _ _ _ us hl=>match us,hl with | [_,_,_],_=>rfl
  have C_is_table:=callee (P:=l.prog) (w:=w) (base:=base) F31 (mm a31) b31 (ok_is_table F31 B Z C_is_list_of C_is_row)
  obtain ⟨f35,g35,a35,F35⟩:=d35
  have b35:=F35.binds (ps:=["values", "things"]) fun _ _ _ _ _ _ us hl=>match us,hl with | [_,_],_=>rfl
  have C_picked:=callee (P:=l.prog) (w:=w) (base:=base) F35 (mm a35) b35 (ok_picked F35 B Z)
  obtain ⟨f30,g30,a30,F30⟩:=d30
  have b30:=F30.binds (ps:=["sizes", "causes", "tables"]) fun _ _ _ _ _ _ us hl=>match us,hl with | [_,_,_],_=>rfl
  have C_are_tables:=callee (P:=l.prog) (w:=w) (base:=base) F30 (mm a30) b30 (ok_are_tables F30 B Z C_is_list_of C_is_table C_count_of C_picked)
  obtain ⟨f24,g24,a24,F24⟩:=d24
  have b24:=F24.binds (ps:=["sizes", "causes", "tables"]) fun _ _ _ _ _ _ us hl=>match us,hl with | [_,_,_],_=>rfl
  have C_check_book:=callee (P:=l.prog) (w:=w) (base:=base) F24 (mm a24) b24 (ok_check_book F24 B Z C_are_sizes C_are_causes C_are_tables C_order_of)
  obtain ⟨f34,g34,a34,F34⟩:=d34
  have b34:=F34.binds (ps:=["book"]) fun _ _ _ _ _ _ us hl=>match us,hl with | [_],_=>rfl
  have C_copied:=callee (P:=l.prog) (w:=w) (base:=base) F34 (mm a34) b34 (ok_copied F34 B Z)
  obtain ⟨f23,g23,a23,F23⟩:=d23
  have b23:=F23.binds (ps:=["sizes", "causes", "tables"]) fun _ _ _ _ _ _ us hl=>match us,hl with | [_,_,_],_=>rfl
  have C_book:=callee (P:=l.prog) (w:=w) (base:=base) F23 (mm a23) b23 (ok_book F23 B Z C_check_book C_copied)
  obtain ⟨f36,g36,a36,F36⟩:=d36
  have b36:=F36.binds (ps:=["book", "k", "world"]) fun _ _ _ _ _ _ us hl=>match us,hl with | [_,_,_],_=>rfl
  have C_row_at:=callee (P:=l.prog) (w:=w) (base:=base) F36 (mm a36) b36 (ok_row_at F36 B Z C_rank C_picked)
  obtain ⟨f37,g37,a37,F37⟩:=d37
  have b37:=F37.binds (ps:=["book", "k", "world"]) fun _ _ _ _ _ _ us hl=>match us,hl with | [_,_,_],_=>rfl
  have C_chance_at:=callee (P:=l.prog) (w:=w) (base:=base) F37 (mm a37) b37 (ok_chance_at F37 B Z C_row_at C_share)
  obtain ⟨f38,g38,a38,F38⟩:=d38
  have b38:=F38.binds (ps:=["book", "world"]) fun _ _ _ _ _ _ us hl=>match us,hl with | [_,_],_=>rfl
  have C_world_chance:=callee (P:=l.prog) (w:=w) (base:=base) F38 (mm a38) b38 (ok_world_chance F38 B Z C_times C_chance_at)
  obtain ⟨f39,g39,a39,F39⟩:=d39
  have b39:=F39.binds (ps:=["book", "k", "a"]) fun _ _ _ _ _ _ us hl=>match us,hl with | [_,_,_],_=>rfl
  have C_set_to:=callee (P:=l.prog) (w:=w) (base:=base) F39 (mm a39) b39 (ok_set_to F39 B Z C_copied)
  obtain ⟨f41,g41,a41,F41⟩:=d41
  have b41:=F41.binds (ps:=["_law_script", "_law_k"]) fun _ _ _ _ _ _ us hl=>match us,hl with | [_,_],_=>rfl
  have C__law_cell_at:=callee (P:=l.prog) (w:=w) (base:=base) F41 (mm a41) b41 (ok_law_cell_at F41 B Z)
  obtain ⟨f42,g42,a42,F42⟩:=d42
  have b42:=F42.binds (ps:=["_law_script", "_law_first", "_law_many"]) fun _ _ _ _ _ _ us hl=>match us,hl with | [_,_,_],_=>rfl
  have C__law_shape:=callee (P:=l.prog) (w:=w) (base:=base) F42 (mm a42) b42 (ok_law_shape F42 B Z C__law_cell_at)
  obtain ⟨f43,g43,a43,F43⟩:=d43
  have b43:=F43.binds (ps:=["_law_number", "_law_size", "_law_great"]) fun _ _ _ _ _ _ us hl=>match us,hl with | [_,_,_],_=>rfl
  have C__law_row:=callee (P:=l.prog) (w:=w) (base:=base) F43 (mm a43) b43 (ok_law_row F43 B Z)
  obtain ⟨f44,g44,a44,F44⟩:=d44
  have b44:=F44.binds (ps:=["_law_cell", "_law_count", "_law_size", "_law_great"]) fun _ _ _ _ _ _ us hl=>match us,hl with | [_,_,_,_],_=>rfl
  have C__law_table:=callee (P:=l.prog) (w:=w) (base:=base) F44 (mm a44) b44 (ok_law_table F44 B Z C__law_row)
  obtain ⟨f46,g46,a46,F46⟩:=d46
  have b46:=F46.binds (ps:=["_law_row_here"]) fun _ _ _ _ _ _ us hl=>match us,hl with | [_],_=>rfl
  have C__law_product:=callee (P:=l.prog) (w:=w) (base:=base) F46 (mm a46) b46 (ok_law_product F46 B Z)
  obtain ⟨f45,g45,a45,F45⟩:=d45
  have b45:=F45.binds (ps:=["_law_script", "_law_many", "_law_most"]) fun _ _ _ _ _ _ us hl=>match us,hl with | [_,_,_],_=>rfl
  have C__law_sizes:=callee (P:=l.prog) (w:=w) (base:=base) F45 (mm a45) b45 (ok_law_sizes F45 B Z C__law_cell_at C__law_product)
  obtain ⟨f47,g47,a47,F47⟩:=d47
  have b47:=F47.binds (ps:=["_law_script", "_law_many", "_law_most", "_law_great"]) fun _ _ _ _ _ _ us hl=>match us,hl with | [_,_,_,_],_=>rfl
  have C__law_three:=callee (P:=l.prog) (w:=w) (base:=base) F47 (mm a47) b47 (ok_law_three F47 B Z C__law_shape C__law_sizes C__law_cell_at C__law_table C__law_product)
  obtain ⟨f48,g48,a48,F48⟩:=d48
  have b48:=F48.binds (ps:=["_law_three_here"]) fun _ _ _ _ _ _ us hl=>match us,hl with | [_],_=>rfl
  have C__law_copy:=callee (P:=l.prog) (w:=w) (base:=base) F48 (mm a48) b48 (ok_law_copy F48 B Z)
  obtain ⟨f49,g49,a49,F49⟩:=d49
  have b49:=F49.binds (ps:=["_law_found"]) fun _ _ _ _ _ _ us hl=>match us,hl with | [_],_=>rfl
  have C__law_numbers:=callee (P:=l.prog) (w:=w) (base:=base) F49 (mm a49) b49 (ok_law_numbers F49 B Z)
  obtain ⟨f50,g50,a50,F50⟩:=d50
  have b50:=F50.binds (ps:=["_law_found"]) fun _ _ _ _ _ _ us hl=>match us,hl with | [_],_=>rfl
  have C__law_lists:=callee (P:=l.prog) (w:=w) (base:=base) F50 (mm a50) b50 (ok_law_lists F50 B Z C__law_numbers)
  obtain ⟨f51,g51,a51,F51⟩:=d51
  have b51:=F51.binds (ps:=["_law_found", "_law_three_here"]) fun _ _ _ _ _ _ us hl=>match us,hl with | [_,_],_=>rfl
  have C__law_same:=callee (P:=l.prog) (w:=w) (base:=base) F51 (mm a51) b51 (ok_law_same F51 B Z C__law_numbers C__law_lists)
  obtain ⟨f52,g52,a52,F52⟩:=d52
  have b52:=F52.binds (ps:=["_law_found"]) fun _ _ _ _ _ _ us hl=>match us,hl with | [_],_=>rfl
  have C__law_whole:=callee (P:=l.prog) (w:=w) (base:=base) F52 (mm a52) b52 (ok_law_whole F52 B Z)
  obtain ⟨f53,g53,a53,F53⟩:=d53
  have b53:=F53.binds (ps:=["_law_one", "_law_other"]) fun _ _ _ _ _ _ us hl=>match us,hl with | [_,_],_=>rfl
  have C__law_divisor:=callee (P:=l.prog) (w:=w) (base:=base) F53 (mm a53) b53 (ok_law_divisor F53 B Z)
  obtain ⟨f54,g54,a54,F54⟩:=d54
  have b54:=F54.binds (ps:=["_law_found", "_law_top", "_law_bottom"]) fun _ _ _ _ _ _ us hl=>match us,hl with | [_,_,_],_=>rfl
  have C__law_is_share:=callee (P:=l.prog) (w:=w) (base:=base) F54 (mm a54) b54 (ok_law_is_share F54 B Z C__law_whole C__law_divisor)
  obtain ⟨f55,g55,a55,F55⟩:=d55
  have b55:=F55.binds (ps:=["_law_sizes_here"]) fun _ _ _ _ _ _ us hl=>match us,hl with | [_],_=>rfl
  have C__law_worlds:=callee (P:=l.prog) (w:=w) (base:=base) F55 (mm a55) b55 (ok_law_worlds F55 B Z)
  obtain ⟨f56,g56,a56,F56⟩:=d56
  have b56:=F56.binds (ps:=["_law_three_here", "_law_k", "_law_world"]) fun _ _ _ _ _ _ us hl=>match us,hl with | [_,_,_],_=>rfl
  have C__law_row_due:=callee (P:=l.prog) (w:=w) (base:=base) F56 (mm a56) b56 (ok_law_row_due F56 B Z)
  obtain ⟨f57,g57,a57,F57⟩:=d57
  have b57:=F57.binds (ps:=["_law_three_here", "_law_k", "_law_a"]) fun _ _ _ _ _ _ us hl=>match us,hl with | [_,_,_],_=>rfl
  have C__law_set_due:=callee (P:=l.prog) (w:=w) (base:=base) F57 (mm a57) b57 (ok_law_set_due F57 B Z C__law_copy)
  obtain ⟨f58,g58,a58,F58⟩:=d58
  have b58:=F58.binds (ps:=["_law_three_here", "_law_made", "_law_k", "_law_a"]) fun _ _ _ _ _ _ us hl=>match us,hl with | [_,_,_,_],_=>rfl
  have C__law_cut:=callee (P:=l.prog) (w:=w) (base:=base) F58 (mm a58) b58 (ok_law_cut F58 B Z C__law_worlds C_world_chance C__law_row_due C__law_is_share)
  exact ok_law (fun_mk l0 c0 k0) B Z C__law_cell_at C__law_three C__law_copy C_set_to C__law_same C__law_set_due C__law_cut C_book
theorem walk {l:PySem.W.OpenLaw} {q:Program} {loose:List Str} {XP:(Str→Option Value)→Heap→Prop} {YP:World→Heap→Prop} {d:DefRec} {K:Params→PySem.W.Frag} (hn:l.most=some 63) (hdf:d.params.defaults=[])
    (hY:∀ (w:World) (h:Heap),YP w h→(K w.params).In h) (hT:∀ (w:World) (h:Heap),YP w h→(∀ p∈tabsOf (K w.params),h.get? p.1=some (PySem.W.tabObj #[]))∧tabsUq (K w.params)=true)
    (F:∀ (w:World) (mg:Str→Option Value) (fa:Addr) (h:Heap),(K w.params).In h→h.Ns mainGlobals mg→mg d.name=some (.ref fa) →
      ∃ fd:FuncData,(∀ (s:Shared) (u:Value),BindsTo s fd ⟨[u],[]⟩ [("_law_script", u)])∧∀ base:Heap,(K w.params).In base→base.Ns mainGlobals mg→FnOk l.prog w (K w.params) mg base CX0 8 fa fd ["_law_script"] (spLaw (K w.params))) :
    PySem.W.WalkO q loose XP YP l.row.toRowW d [] (fun f vs=>PySem.call f vs) :=
  L2.walk_of (n:=63) (k:=8) (x := "_law_script") (CX:=fun _=>CX0) (sp:=fun w=>spLaw (K w.params)) hn (by decide) hdf ⟨rfl,by decide,by decide⟩ hY hT F (fun _ _ a ns hl hS=>⟨a,ns,rfl,hS,hl,fun _=>rfl⟩) fun _ _ _ _ _ z=>z
end K19
def PySem.W.Fast.tw10673482432393667639 : PySem.Program := PySem.Challenge.pw_causebook_k19_whole_set_by_hand
theorem PySem.W.Fast.te10673482432393667639 : PySem.Challenge.pw_causebook_k19_whole_set_by_hand = PySem.W.Fast.tw10673482432393667639 := rfl
def PySem.W.Fast.tw8997245094120741201 : Nat := 0
def PySem.W.Fast.tw10239448174438580351 : Nat := 0
def PySem.W.Fast.tw12036705105690560426 : Nat := 0
def PySem.W.Fast.tw12834733195539082714 : Nat := 0
def PySem.W.Fast.tw10309147979266675139 : Nat := 0
def PySem.W.Fast.tw13381498453935809346 : Nat := 0
def PySem.W.Fast.tw2555873721795389665 : Nat := 0
def PySem.W.Fast.tw13124297491164012068 : Nat := 0
open PySem PySem.W PyProof.Rows
set_option maxRecDepth 100000 in
set_option maxHeartbeats 0 in
theorem PySem.Challenge.cw_causebook_k19_whole_set_by_hand_holds : PySem.Challenge.rw_causebook_k19_whole_set_by_hand.Holds := by
  w_on; o_law; k_head; (case hw=>w_witness2)
  k_fill
  refine K19.walk (l:=PySem.Challenge.rw_causebook_k19_whole_set_by_hand) rfl rfl (fun w h Y=>PySem.W.kIn_of Y) (fun w h Y=>⟨tabs_no (by kernel_rfl),by kernel_rfl⟩) ?F
  case F =>
    intro w mg fa h KX G hmg
    refine' K19.all_ok KX G hmg ?d6 ?d7 ?d11 ?d12 ?d13 ?d14 ?d16 ?d17 ?d26 ?d27 ?d25 ?d29 ?d28 ?d33 ?d32 ?d31 ?d35 ?d30 ?d24 ?d34 ?d23 ?d36 ?d37 ?d38 ?d39 ?d41 ?d42 ?d43 ?d44 ?d46 ?d45 ?d47 ?d48 ?d49 ?d50 ?d51 ?d52 ?d53 ?d54 ?d55 ?d56 ?d57 ?d58 ?a0 ?l0 ?c0 ?k0 ?z1 ?z2 ?z3 ?z4 ?z5 ?z6 ?z7 ?z8 ?z9 ?z10 ?z11 ?z12 ?z13 ?z14 ?z15 ?y_MOST_THINGS ?y_MOST_CAUSES ?y_LEAST_SIZE ?y_GREATEST_SIZE
    (case d6=>(refine' Cm.top_mk ?a ?l ?c ?k; (case a=>k_is); (case l=>k_is); (case c=>k_is); (case k=>k_is)))
    (case d7=>(refine' Cm.top_mk ?a ?l ?c ?k; (case a=>k_is); (case l=>k_is); (case c=>k_is); (case k=>k_is)))
    (case d11=>(refine' Cm.top_mk ?a ?l ?c ?k; (case a=>k_is); (case l=>k_is); (case c=>k_is); (case k=>k_is)))
    (case d12=>(refine' Cm.top_mk ?a ?l ?c ?k; (case a=>k_is); (case l=>k_is); (case c=>k_is); (case k=>k_is)))
    (case d13=>(refine' Cm.top_mk ?a ?l ?c ?k; (case a=>k_is); (case l=>k_is); (case c=>k_is); (case k=>k_is)))
    (case d14=>(refine' Cm.top_mk ?a ?l ?c ?k; (case a=>k_is); (case l=>k_is); (case c=>k_is); (case k=>k_is)))
    (case d16=>(refine' Cm.top_mk ?a ?l ?c ?k; (case a=>k_is); (case l=>k_is); (case c=>k_is); (case k=>k_is)))
    (case d17=>(refine' Cm.top_mk ?a ?l ?c ?k; (case a=>k_is); (case l=>k_is); (case c=>k_is); (case k=>k_is)))
    (case d26=>(refine' Cm.top_mk ?a ?l ?c ?k; (case a=>k_is); (case l=>k_is); (case c=>k_is); (case k=>k_is)))
    (case d27=>(refine' Cm.top_mk ?a ?l ?c ?k; (case a=>k_is); (case l=>k_is); (case c=>k_is); (case k=>k_is)))
    (case d25=>(refine' Cm.top_mk ?a ?l ?c ?k; (case a=>k_is); (case l=>k_is); (case c=>k_is); (case k=>k_is)))
    (case d29=>(refine' Cm.top_mk ?a ?l ?c ?k; (case a=>k_is); (case l=>k_is); (case c=>k_is); (case k=>k_is)))
    (case d28=>(refine' Cm.top_mk ?a ?l ?c ?k; (case a=>k_is); (case l=>k_is); (case c=>k_is); (case k=>k_is)))
    (case d33=>(refine' Cm.top_mk ?a ?l ?c ?k; (case a=>k_is); (case l=>k_is); (case c=>k_is); (case k=>k_is)))
    (case d32=>(refine' Cm.top_mk ?a ?l ?c ?k; (case a=>k_is); (case l=>k_is); (case c=>k_is); (case k=>k_is)))
    (case d31=>(refine' Cm.top_mk ?a ?l ?c ?k; (case a=>k_is); (case l=>k_is); (case c=>k_is); (case k=>k_is)))
    (case d35=>(refine' Cm.top_mk ?a ?l ?c ?k; (case a=>k_is); (case l=>k_is); (case c=>k_is); (case k=>k_is)))
    (case d30=>(refine' Cm.top_mk ?a ?l ?c ?k; (case a=>k_is); (case l=>k_is); (case c=>k_is); (case k=>k_is)))
    (case d24=>(refine' Cm.top_mk ?a ?l ?c ?k; (case a=>k_is); (case l=>k_is); (case c=>k_is); (case k=>k_is)))
    (case d34=>(refine' Cm.top_mk ?a ?l ?c ?k; (case a=>k_is); (case l=>k_is); (case c=>k_is); (case k=>k_is)))
    (case d23=>(refine' Cm.top_mk ?a ?l ?c ?k; (case a=>k_is); (case l=>k_is); (case c=>k_is); (case k=>k_is)))
    (case d36=>(refine' Cm.top_mk ?a ?l ?c ?k; (case a=>k_is); (case l=>k_is); (case c=>k_is); (case k=>k_is)))
    (case d37=>(refine' Cm.top_mk ?a ?l ?c ?k; (case a=>k_is); (case l=>k_is); (case c=>k_is); (case k=>k_is)))
    (case d38=>(refine' Cm.top_mk ?a ?l ?c ?k; (case a=>k_is); (case l=>k_is); (case c=>k_is); (case k=>k_is)))
    (case d39=>(refine' Cm.top_mk ?a ?l ?c ?k; (case a=>k_is); (case l=>k_is); (case c=>k_is); (case k=>k_is)))
    (case d41=>(refine' Cm.top_mk ?a ?l ?c ?k; (case a=>k_is); (case l=>k_is); (case c=>k_is); (case k=>k_is)))
    (case d42=>(refine' Cm.top_mk ?a ?l ?c ?k; (case a=>k_is); (case l=>k_is); (case c=>k_is); (case k=>k_is)))
    (case d43=>(refine' Cm.top_mk ?a ?l ?c ?k; (case a=>k_is); (case l=>k_is); (case c=>k_is); (case k=>k_is)))
    (case d44=>(refine' Cm.top_mk ?a ?l ?c ?k; (case a=>k_is); (case l=>k_is); (case c=>k_is); (case k=>k_is)))
    (case d46=>(refine' Cm.top_mk ?a ?l ?c ?k; (case a=>k_is); (case l=>k_is); (case c=>k_is); (case k=>k_is)))
    (case d45=>(refine' Cm.top_mk ?a ?l ?c ?k; (case a=>k_is); (case l=>k_is); (case c=>k_is); (case k=>k_is)))
    (case d47=>(refine' Cm.top_mk ?a ?l ?c ?k; (case a=>k_is); (case l=>k_is); (case c=>k_is); (case k=>k_is)))
    (case d48=>(refine' Cm.top_mk ?a ?l ?c ?k; (case a=>k_is); (case l=>k_is); (case c=>k_is); (case k=>k_is)))
    (case d49=>(refine' Cm.top_mk ?a ?l ?c ?k; (case a=>k_is); (case l=>k_is); (case c=>k_is); (case k=>k_is)))
    (case d50=>(refine' Cm.top_mk ?a ?l ?c ?k; (case a=>k_is); (case l=>k_is); (case c=>k_is); (case k=>k_is)))
    (case d51=>(refine' Cm.top_mk ?a ?l ?c ?k; (case a=>k_is); (case l=>k_is); (case c=>k_is); (case k=>k_is)))
    (case d52=>(refine' Cm.top_mk ?a ?l ?c ?k; (case a=>k_is); (case l=>k_is); (case c=>k_is); (case k=>k_is)))
    (case d53=>(refine' Cm.top_mk ?a ?l ?c ?k; (case a=>k_is); (case l=>k_is); (case c=>k_is); (case k=>k_is)))
    (case d54=>(refine' Cm.top_mk ?a ?l ?c ?k; (case a=>k_is); (case l=>k_is); (case c=>k_is); (case k=>k_is)))
    (case d55=>(refine' Cm.top_mk ?a ?l ?c ?k; (case a=>k_is); (case l=>k_is); (case c=>k_is); (case k=>k_is)))
    (case d56=>(refine' Cm.top_mk ?a ?l ?c ?k; (case a=>k_is); (case l=>k_is); (case c=>k_is); (case k=>k_is)))
    (case d57=>(refine' Cm.top_mk ?a ?l ?c ?k; (case a=>k_is); (case l=>k_is); (case c=>k_is); (case k=>k_is)))
    (case d58=>(refine' Cm.top_mk ?a ?l ?c ?k; (case a=>k_is); (case l=>k_is); (case c=>k_is); (case k=>k_is)))
    (case a0=>k_is); (case l0=>k_is); (case c0=>k_is); (case k0=>k_is)
    (case z1=>k_is); (case z2=>k_is); (case z3=>k_is); (case z4=>k_is); (case z5=>k_is); (case z6=>k_is); (case z7=>k_is); (case z8=>k_is); (case z9=>k_is); (case z10=>k_is); (case z11=>k_is); (case z12=>k_is); (case z13=>k_is); (case z14=>k_is); (case z15=>k_is); (case y_MOST_THINGS=>k_is); (case y_MOST_CAUSES=>k_is); (case y_LEAST_SIZE=>k_is); (case y_GREATEST_SIZE=>k_is)
#print axioms PySem.Challenge.cw_causebook_k19_whole_set_by_hand_holds
