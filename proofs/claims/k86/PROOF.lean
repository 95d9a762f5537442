import PyProof.Rows.All
import Wide.All
import OpenK.AllK
import Wide.FinOn
import Lean
import PyProof.EqAt
import PyProof.EqKinds
import PyProof.TupleCall
import PySem.Challenge.RW_causebook_k86_shown
set_option Elab.async false
set_option linter.all false
set_option maxRecDepth 100000
set_option genSizeOf false
local macro_rules | `(tactic| omega) => `(tactic| first | lia | omega (config := {}))
namespace L2
open PySem PySem.Spec PyProof.Rows
abbrev Key:=Sum Int Str
def keyIs:Key→Value→Bool
  | .inl k,v=>Value.isInt k v
  | .inr x,v=>Value.isStrOf x v
def keyH (w:World):Key→Int
  | .inl k=>hashInt k
  | .inr x=>hashStr w x
theorem keyIs_shape:∀ {k:Key} {v:Value},keyIs k v=true→(∃ i t,k=Sum.inl i∧v=Value.int i t)∨(∃ x t,k=Sum.inr x∧v=Value.str x t)
  | .inl i,v,h=>by
    obtain ⟨t,e⟩:=Value.isInt_shape (k:=i) (v:=v) h
    exact .inl ⟨i,t,rfl,e⟩
  | .inr x,v,h=>by
    obtain ⟨t,e⟩:=Value.isStrOf_shape (x:=x) (v:=v) h
    exact .inr ⟨x,t,rfl,e⟩
theorem key_ll (a b:Int):decide ((Sum.inl a:Key)=Sum.inl b)=(a == b):=by
  by_cases e:a=b
  · subst e; simp
  · have h:¬ (Sum.inl a:Key)=Sum.inl b:=fun q=>e (Sum.inl.inj q)
    rw [decide_eq_false h]
    exact (beq_eq_false_iff_ne.mpr e).symm
theorem key_rr (a b:Str):decide ((Sum.inr a:Key)=Sum.inr b)=decide (a=b):=by
  by_cases e:a=b
  · subst e; simp
  · have h:¬ (Sum.inr a:Key)=Sum.inr b:=fun q=>e (Sum.inr.inj q)
    rw [decide_eq_false h,decide_eq_false e]
theorem key_lr (a:Int) (b:Str):decide ((Sum.inl a:Key)=Sum.inr b)=false:=decide_eq_false (fun q=>nomatch q)
theorem key_rl (a:Str) (b:Int):decide ((Sum.inr a:Key)=Sum.inl b)=false:=decide_eq_false (fun q=>nomatch q)
def mixKind (prog:Program) (w:World):PySem.KeyKind prog w Key where
  is:=keyIs
  hash:=keyH w
  inj:=fun v a b ha hb=>by
    rcases keyIs_shape ha with ⟨i,t,rfl,rfl⟩ | ⟨x,t,rfl,rfl⟩
    · rcases keyIs_shape hb with ⟨j,u,rfl,e⟩ | ⟨y,u,rfl,e⟩
      · injection e with e1 _; rw [e1]
      · exact nomatch e
    · rcases keyIs_shape hb with ⟨j,u,rfl,e⟩ | ⟨y,u,rfl,e⟩
      · exact nomatch e
      · injection e with e1 _; rw [e1]
  byValue:=fun k v h=>by
    rcases keyIs_shape h with ⟨i,t,rfl,rfl⟩ | ⟨x,t,rfl,rfl⟩ <;> rfl
  pyHash:=fun hv h=>by
    rcases keyIs_shape hv with ⟨i,t,rfl,rfl⟩ | ⟨x,t,rfl,rfl⟩
    · exact wpAny_pyHash_int h
    · exact wpAny_pyHash_str h
  eqBool:=fun hu hv h=>by
    rcases keyIs_shape hu with ⟨i,t,rfl,rfl⟩ | ⟨x,t,rfl,rfl⟩
    · rcases keyIs_shape hv with ⟨j,u,rfl,rfl⟩ | ⟨y,u,rfl,rfl⟩
      · rw [key_ll] at h; exact wpAny_eqBool_int h
      · rw [key_lr] at h; exact SeqAt.EqAt.int_str i t y u _ _ _ _ h
    · rcases keyIs_shape hv with ⟨j,u,rfl,rfl⟩ | ⟨y,u,rfl,rfl⟩
      · rw [key_rl] at h; exact SeqAt.EqAt.str_int x t j u _ _ _ _ h
      · rw [key_rr] at h; exact wpAny_eqBool_str h
  «strs»:=fun k x t v h=>by
    rcases keyIs_shape h with ⟨i,u,rfl,e⟩ | ⟨y,u,rfl,e⟩
    · exact nomatch e
    · injection e with e1 _
      subst e1
      cases v <;> rfl
end L2
namespace L2
open PySem PySem.Spec PyProof.Rows
inductive V where
  | non | bl (b:Bool) | int (i:Int) | str (x:Str) | byt (b:Array UInt8) | flt (b:UInt64) | ref (a:Addr) | ty (n:String)
  deriving DecidableEq
def RelV:V→Value→Prop
  | .non,u=>u=Value.none
  | .bl b,u=>u=Value.bool b
  | .int i,u=>∃ t,u=Value.int i t
  | .str x,u=>∃ t,u=Value.str x t
  | .byt b,u=>∃ t,u=Value.bytes b t
  | .flt b,u=>∃ t,u=Value.float b t
  | .ref a,u=>u=Value.ref a
  | .ty n,u=>u=Value.type n
abbrev Vals:List V→List Value→Prop:=Paired RelV
theorem Vals.length {xs:List V} {us:List Value} (r:Vals xs us):xs.length=us.length:=Paired.length r
theorem Vals.get:∀ {xs:List V} {us:List Value} {i:Nat} {x:V},Vals xs us→xs[i]?=some x→∃ u,us[i]?=some u∧RelV x u
  | _,_,_,_,.nil,e=>by simp at e
  | _,_,0,_,.cons r _,e=>by simp at e; subst e; exact ⟨_,rfl,r⟩
  | _,_,i + 1,x,.cons _ t,e=>by
    obtain ⟨u,h1,h2⟩:=Vals.get (i:=i) (x:=x) t (by simpa using e)
    exact ⟨u,by simpa using h1,h2⟩
theorem Vals.set {x:V} {u:Value} (r:RelV x u):∀ {xs:List V} {us:List Value} (i:Nat),Vals xs us→Vals (xs.set i x) (us.set i u)
  | _,_,_,.nil=>.nil
  | _,_,0,.cons _ t=>.cons r t
  | _,_,i + 1,.cons q t=>.cons q (Vals.set r i t)
theorem Vals.append:∀ {xs ys:List V} {us ws:List Value},Vals xs us→Vals ys ws→Vals (xs ++ ys) (us ++ ws)
  | _,_,_,_,.nil,s=>s
  | _,_,_,_,.cons r t,s=>.cons r (Vals.append t s)
theorem Vals.take:∀ {xs:List V} {us:List Value} (n:Nat),Vals xs us→Vals (xs.take n) (us.take n)
  | _,_,0,_=>.nil
  | _,_,_ + 1,.nil=>.nil
  | _,_,n + 1,.cons r t=>.cons r (Vals.take n t)
theorem Vals.drop:∀ {xs:List V} {us:List Value} (n:Nat),Vals xs us→Vals (xs.drop n) (us.drop n)
  | _,_,0,r=>r
  | _,_,_ + 1,.nil=>.nil
  | _,_,n + 1,.cons _ t=>Vals.drop n t
def RelO:Option V→Option Value→Prop
  | some v,some u=>RelV v u
  | none,none=>True
  | _,_=>False
def KV {κ:Type}:List (κ×V)→List (κ×Value)→Prop:=Paired fun (p:κ×V) (q:κ×Value)=>p.1=q.1∧RelV p.2 q.2
def kV:Key→V
  | .inl i=>.int i
  | .inr x=>.str x
inductive HO where
  | lst (xs:List V)
  | tup (xs:List V)
  | dK (kvs:List (Key×V)) | dT (kvs:List (List Key×V))
  | set (S:Int→Bool) (n:Nat)
  | ins (C dx:Addr) (fs:List (Str×V))
  | own (x:Addr)
  | xd (fs:List (Str×V))
  | met (f x:Addr)
  | rng (lo hi:Int)
  | frz (o:Obj) (u:HO)
  | tbl (ps:Array Value)
  | ext (φ:Heap→Prop)
abbrev Hp:=Addr→Option HO
def upd (H:Hp) (a:Addr) (o:HO):Hp:=fun b=>if b=a then some o else H b
theorem upd_same {H:Hp} {a:Addr} {o:HO}:upd H a o a=some o:=by unfold upd; rw [if_pos rfl]
theorem upd_ne {H:Hp} {a b:Addr} {o:HO} (h:b≠a):upd H a o b=H b:=by unfold upd; rw [if_neg h]
theorem ne_of_none {H:Hp} {a b:Addr} {o:HO} (h:H a=some o) (h':H b=none):a≠b:=by
  intro e; subst e; rw [h] at h'; cases h'
def TupAt (H:Hp) (b:Addr) (ys:List V):Prop:=H b=some (.tup ys)∨∃ o:Obj,(∀ v,o.data≠.cell v)∧H b=some (.frz o (.tup ys))
def tagQ (ps:Array Value):Str:=match (ps[0]?:Option Value) with | some (.str q _)=>q | _ => ""
section
variable (P:Program) (w:World)
def ObjOk (H:Hp) (h:Heap) (a:Addr):HO→Prop
  | .lst xs=>xs.length≤sizeLine∧∃ (its:List Value) (n:Nat),Vals xs its∧h.get? a=some { cls:=.type "list", data:=.seq its.toArray n }
  | .tup xs=>xs.length≤sizeLine∧∃ its:List Value,Vals xs its∧IsTup h a its.toArray
  | .dK kvs=>kvs.length≤sizeLine∧(a == sysModules)=false∧∃ vs,KV kvs vs∧h.DictOf (mixKind P w) a vs
  | .dT kvs=>kvs.length≤sizeLine∧(a == sysModules)=false∧∃ xs:List (List Key×Addr×Value),
      Paired (fun (p:List Key×V) (q:List Key×Addr×Value)=>p.1=q.1∧TupAt H q.2.1 (p.1.map kV)∧RelV p.2 q.2.2) kvs xs ∧
      ∃ o es ep,h.get? a=some o∧o.ExactDict∧o.data=.dict es ep∧es.toList=xs.map (entryOfKey (tupleKind (mixKind P w)))∧(xs.map (·.1)).Nodup
  | .set S n=>h.SetOf (intKind P w) a S n
  | .ins C dx fs=>H dx=some (.own a)∧fs.length≤1000∧dx≠a∧h.get? a=some (PySem.W.instObj C dx) ∧
      ∃ mA,h.Ns1 dx mA∧(∀ f,RelO (fs.lookup f) (mA f))∧PySem.Within mA (fs.map (·.1))
  | .own _=>∃ o,h.get? a=some o
  | .xd fs=>∃ mA,h.Ns1 a mA∧∀ f,RelO (fs.lookup f) (mA f)
  | .rng lo hi=>∃ t u v,h.get? a=some { cls:=.type "range", data:=.fields #[.int lo t,.int hi u,.int 1 v] }
  | .frz o u=>h.get? a=some o∧ObjOk H h a u
  | .tbl ps=>∃ vs:Array Value,h.get? a=some (PySem.W.tabObj vs)∧TriplesOk vs.toList∧∀ p v,codeAmong p vs.toList=some v→∃ b o fs t,v=.ref b∧H b=some (.frz o (.ext fun _=>True))∧o.data=.fields fs∧fs[1]?=some (.str (tagQ ps) t)
  | .met f x=>h.get? a=some (PySem.W.methodObj (.ref f) (.ref x))
  | .ext φ=>φ h∧(∃ o,h.get? a=some o)∧∀ h1 h2:Heap,φ h1→(∀ o,h1.get? a=some o→h2.get? a=some o)→φ h2
def HOk (H:Hp) (h:Heap):Prop:=∀ a o,H a=some o→ObjOk P w H h a o
end
section
variable {P:Program} {w:World} {H H':Hp} {h h':Heap} {a:Addr} {o:HO}
theorem ObjOk.lt (x:ObjOk P w H h a o):a < h.objs.size:=by
  cases o with
  | lst xs=>obtain ⟨_,_,_,_,e⟩:=x; exact Heap.lt_size e
  | tup xs=>obtain ⟨_,_,_,p⟩:=x; exact p.lt
  | dK kvs=>obtain ⟨_,_,_,_,o,_,_,e,_⟩:=x; exact Heap.lt_size e
  | dT kvs=>obtain ⟨_,_,_,_,o,_,_,e,_⟩:=x; exact Heap.lt_size e
  | set S n=>obtain ⟨o,_,_,_,e,_⟩:=x; exact Heap.lt_size e
  | ins C dx fs=>obtain ⟨_,_,_,e,_⟩:=x; exact Heap.lt_size e
  | own y=>obtain ⟨_,e⟩:=x; exact Heap.lt_size e
  | xd fs=>obtain ⟨_,⟨_,_,_,e,_⟩,_⟩:=x; exact Heap.lt_size e
  | rng lo hi=>obtain ⟨_,_,_,e⟩:=x; exact Heap.lt_size e
  | frz ob u=>obtain ⟨e,_⟩:=x; exact Heap.lt_size e
  | tbl ps=>obtain ⟨_,e,_⟩:=x; exact Heap.lt_size e
  | met f y=>exact Heap.lt_size (show h.get? a=some _ from x)
  | ext φ=>obtain ⟨_,⟨_,e⟩,_⟩:=x; exact Heap.lt_size e
theorem Paired.mapP {α β:Type} {F G:α→β→Prop}:∀ {l₁:List α} {l₂:List β},Paired F l₁ l₂→(∀ a b,F a b→G a b)→Paired G l₁ l₂
  | _,_,.nil,_=>.nil
  | _,_,.cons r t,f=>.cons (f _ _ r) (Paired.mapP t f)
theorem ObjOk.stay (x:ObjOk P w H h a o) (k:∀ b u,(b=a∨H b=some (.own a))→h.get? b=some u→h'.get? b=some u)
    (ho:∀ b,H b=some (.own a)→H' b=some (.own a)) (ht:∀ b xs,H b=some (.tup xs)→H' b=some (.tup xs))
    (hc:∀ b o u,H b=some (.frz o u)→(∀ v,o.data≠.cell v)→H' b=some (.frz o u):=by first | exact fun _ _ _ q _=>q | (intro b o u z _; rw [upd_ne (ne_of_none z (by assumption))]; exact z) | (intro b o u z _; rw [upd_ne (fun e=>by subst e; simp_all [Mut])]; exact z)):ObjOk P w H' h' a o:=by
  induction o with
  | lst xs=>obtain ⟨z,its,n,r,e⟩:=x; exact ⟨z,its,n,r,k _ _ (.inl rfl) e⟩
  | tup xs=>obtain ⟨z,its,r,ob,e,c⟩:=x; exact ⟨z,its,r,ob,k _ _ (.inl rfl) e,c⟩
  | dK kvs=>obtain ⟨z,y,vs,r,ob,es,ep,e,c⟩:=x; exact ⟨z,y,vs,r,ob,es,ep,k _ _ (.inl rfl) e,c⟩
  | dT kvs =>
    obtain ⟨z,y,xs,r,ob,es,ep,e,c⟩:=x
    exact ⟨z,y,xs,Paired.mapP r fun p q z=>⟨z.1,z.2.1.imp (ht _ _) fun ⟨o,n,y⟩=>⟨o,n,hc _ _ _ y n⟩,z.2.2⟩,ob,es,ep,k _ _ (.inl rfl) e,c⟩
  | set S n=>obtain ⟨ob,es,ep,t,e,c⟩:=x; exact ⟨ob,es,ep,t,k _ _ (.inl rfl) e,c⟩
  | ins C dx fs =>
    obtain ⟨d,z,ne,e,mA,⟨od,es,ep,e2,c⟩,r⟩:=x
    exact ⟨ho _ d,z,ne,k _ _ (.inl rfl) e,mA,⟨od,es,ep,k _ _ (.inr d) e2,c⟩,r⟩
  | own y=>obtain ⟨ob,e⟩:=x; exact ⟨ob,k _ _ (.inl rfl) e⟩
  | xd fs=>obtain ⟨mA,⟨od,es,ep,e,c⟩,r⟩:=x; exact ⟨mA,⟨od,es,ep,k _ _ (.inl rfl) e,c⟩,r⟩
  | rng lo hi=>obtain ⟨t,u,v,e⟩:=x; exact ⟨t,u,v,k _ _ (.inl rfl) e⟩
  | frz ob u ih=>obtain ⟨e,q⟩:=x; exact ⟨k _ _ (.inl rfl) e,ih q⟩
  | tbl ps=>obtain ⟨vs,e,t,z⟩:=x; exact ⟨vs,k _ _ (.inl rfl) e,t,fun p v y=>let ⟨b,o,fs,t,e1,e2,e3⟩:=z p v y; ⟨b,o,fs,t,e1,hc _ _ _ e2 (fun v y=>by rw [e3.1] at y; cases y),e3⟩⟩
  | met f y =>
    have e:h.get? a=some (PySem.W.methodObj (.ref f) (.ref y)):=x
    show h'.get? a=some (PySem.W.methodObj (.ref f) (.ref y))
    exact k a _ (.inl rfl) e
  | ext φ=>obtain ⟨p,⟨o,e⟩,st⟩:=x; exact ⟨st _ _ p fun o q=>k _ _ (.inl rfl) q,⟨o,k _ _ (.inl rfl) e⟩,st⟩
theorem HOk.lt (x:HOk P w H h) (e:H a=some o):a < h.objs.size:=(x a o e).lt
theorem HOk.fresh (x:HOk P w H h) (e:h.objs.size≤a):H a=none:=by
  cases q:H a with
  | none=>rfl
  | some u=>exact absurd (Nat.lt_of_lt_of_le (x.lt q) e) (Nat.lt_irrefl _)
theorem HOk.kept (x:HOk P w H h) (k:∀ b u,h.get? b=some u→h'.get? b=some u):HOk P w H h':=fun a o e =>
  (x a o e).stay (fun b u _ q=>k b u q) (fun _ q=>q) fun _ _ q=>q
theorem HOk.laid (x:HOk P w H h) (k:∀ b u,h.get? b=some u→h'.get? b=some u) (hp:h.objs.size≤a) (new:ObjOk P w (upd H a o) h' a o):HOk P w (upd H a o) h':=fun b u e=>by
  have hn:=x.fresh hp
  by_cases hb:b=a
  · subst hb; rw [upd_same] at e; cases e; exact new
  · rw [upd_ne hb] at e
    exact (x b u e).stay (fun c v _ q=>k c v q) (fun c q=>by rw [upd_ne (ne_of_none q hn)]; exact q) fun c xs q=>by rw [upd_ne (ne_of_none q hn)]; exact q
end
def Rd (H:Hp) (a:Addr) (u:HO):Prop:=H a=some u∨∃ o,H a=some (.frz o u)
theorem Rd.ok {P:Program} {w:World} {H:Hp} {h:Heap} {a:Addr} {u:HO} (r:Rd H a u) (x:HOk P w H h):ObjOk P w H h a u:=by
  rcases r with r | ⟨o,r⟩
  · exact x a u r
  · obtain ⟨_,q⟩:=x a _ r
    exact q
def Mut:Option HO→Prop
  | some (.lst _)=>True
  | some (.dK _)=>True
  | some (.dT _)=>True
  | some (.set _ _)=>True
  | some (.ins _ _ _)=>True
  | some (.ext _)=>True
  | _=>False
section
variable {P:Program} {w:World} {H:Hp} {h h':Heap} {x e:Addr} {o':HO}
theorem HOk.write (ok:HOk P w H h) (mu:Mut (H x)) (he:e=x∨H e=some (.own x)) (k:∀ b u,b≠e→h.get? b=some u→h'.get? b=some u) (heo:∃ u,h'.get? e=some u)
    (new:ObjOk P w (upd H x o') h' x o'):HOk P w (upd H x o') h':=fun b u q=>by
  have nown:∀ c y,H c=some (.own y)→c≠x:=fun c y r z=>by subst z; rw [r] at mu; exact mu
  have ntup:∀ c xs,H c=some (.tup xs)→c≠x:=fun c xs r z=>by subst z; rw [r] at mu; exact mu
  by_cases hb:b=x
  · subst hb; rw [upd_same] at q; cases q; exact new
  · rw [upd_ne hb] at q
    by_cases hbe:b=e
    · have q':H b=some (.own x):=by
        rcases he with z | z
        · exact absurd (hbe.trans z) hb
        · rw [hbe]; exact z
      rw [q] at q'; cases q'
      obtain ⟨v,hv⟩:=heo
      exact ⟨v,by rw [hbe]; exact hv⟩
    · refine (ok b u q).stay (fun c v hc r=>k c v ?_ r) (fun c r=>by rw [upd_ne (nown c b r)]; exact r) fun c xs r=>by rw [upd_ne (ntup c xs r)]; exact r
      rcases hc with rfl | hc
      · exact hbe
      · rintro rfl
        rcases he with z | z
        · exact nown c b hc z
        · rw [hc] at z; cases z; exact hb rfl
end
structure Un (fs ex:List Addr) (H H':Hp) (h h':Heap):Prop where
  keep:∀ b o,h.get? b=some o→H b=none→b∉fs→b∉ex→h'.get? b=some o
  slot:∀ b o,h.get? b=some o→H b=none→b∈fs→b∉ex→∃ sl,h'.get? b=some { o with slots:=sl }
  free:∀ b o,h.get? b=some o→H b=none→b∉ex→H' b=none
  there:∀ b o,h.get? b=some o→b∉ex→∃ o',h'.get? b=some o'
  tups:∀ b xs,H b=some (.tup xs)→H' b=some (.tup xs)
  frzs:∀ b o u,H b=some (.frz o u)→H' b=some (.frz o u)
  tbls:∀ b ps,H b=some (.tbl ps)→∃ more,H' b=some (.tbl (ps ++ more))
section
variable {fs fs' ex ex':List Addr} {H H1 H2:Hp} {h h1 h2 h':Heap} {a x e:Addr} {o:HO}
theorem Un.any (u:Un fs ex H H1 h h1) {b:Addr} {ob:Obj} (q:h.get? b=some ob) (n:H b=none) (hx:b∉ex):∃ sl,h1.get? b=some { ob with slots:=sl }:=by
  by_cases hb:b∈fs
  · exact u.slot b ob q n hb hx
  · exact ⟨ob.slots,u.keep b ob q n hb hx⟩
theorem Un.kept (k:∀ b u,h.get? b=some u→h'.get? b=some u):Un fs ex H H h h' :=
  ⟨fun b ob q _ _ _=>k b ob q,fun b ob q _ _ _=>⟨ob.slots,k b ob q⟩,fun _ _ _ n _=>n,fun b ob q _=>⟨ob,k b ob q⟩,fun _ _ q=>q,fun _ _ _ q=>q,fun _ ps q=>⟨#[],by rw [q]; simp⟩⟩
theorem Un.refl:Un fs ex H H h h:=Un.kept fun _ _ q=>q
theorem Un.laid (k:∀ b u,h.get? b=some u→h'.get? b=some u) (hp:h.objs.size≤a) (hn:H a=none):Un fs ex H (upd H a o) h h' where
  keep:=fun b u q _ _ _=>k b u q
  slot:=fun b u q _ _ _=>⟨u.slots,k b u q⟩
  free:=fun b u q n _=>by rw [upd_ne (Nat.ne_of_lt (Nat.lt_of_lt_of_le (Heap.lt_size q) hp))]; exact n
  there:=fun b u q _=>⟨u,k b u q⟩
  tups:=fun b xs q=>by rw [upd_ne (ne_of_none q hn)]; exact q
  frzs:=fun b u xs q=>by rw [upd_ne (ne_of_none q hn)]; exact q
  tbls:=fun b ps q=>⟨#[],by rw [upd_ne (ne_of_none q hn),q]; simp⟩
theorem Un.write (mu:Mut (H x)) (he:e=x∨H e=some (.own x)) (k:∀ b u,b≠e→h.get? b=some u→h'.get? b=some u) (heo:∃ u,h'.get? e=some u):Un fs ex H (upd H x o) h h':=by
  have hx:∀ b,H b=none→b≠x:=fun b n z=>by subst z; rw [n] at mu; exact mu
  have hb:∀ b,H b=none→b≠e:=fun b n z=>by
    subst z
    rcases he with r | r
    · exact hx b n r
    · rw [n] at r; cases r
  have hm:∀ b u,H b=some u→¬ Mut (some u)→b≠x:=fun b u q nm z=>by subst z; rw [q] at mu; exact nm mu
  refine ⟨fun b u q n _ _=>k b u (hb b n) q,fun b u q n _ _=>⟨u.slots,k b u (hb b n) q⟩,fun b u q n _=>by rw [upd_ne (hx b n)]; exact n,fun b u q _=>?_,
    fun b xs q=>by rw [upd_ne (hm b _ q fun z=>z)]; exact q,fun b u xs q=>by rw [upd_ne (hm b _ q fun z=>z)]; exact q,fun b ps q=>⟨#[],by rw [upd_ne (hm b _ q fun z=>z),q]; simp⟩⟩
  by_cases hbe:b=e
  · subst hbe; exact heo
  · exact ⟨u,k b u hbe q⟩
end
def trk (h:Heap) (H:Hp):List Addr:=(List.range h.objs.size).filter fun a=>(H a).isSome
def hidT (h:Heap) (H:Hp):Heap:=PySem.W.hideAll h (trk h H)
theorem hidT_size (h:Heap) (H:Hp):(hidT h H).objs.size=h.objs.size:=PySem.W.hideAll_size _ _
theorem hidT_get {h:Heap} {H:Hp} {b:Addr} {o:Obj} (e:h.get? b=some o) (n:H b=none):(hidT h H).get? b=some o :=
  PySem.W.hideAll_get _ e fun hm=>by
    have q:(H b).isSome=true:=(List.mem_filter.mp hm).2
    rw [n] at q; simp at q
theorem of_hidT {h:Heap} {H:Hp} {b:Addr} {o:Obj} (e:(hidT h H).get? b=some o):h.get? b=some o∧H b=none:=by
  have e':h.get? b=some o:=PySem.W.of_hideAll (trk h H) e
  refine ⟨e',?_⟩
  cases q:H b with
  | none=>rfl
  | some x =>
    have hm:b∈trk h H:=List.mem_filter.mpr ⟨List.mem_range.mpr (Heap.lt_size e'),by simp [q]⟩
    have z:(hidT h H).get? b=none:=PySem.W.hideAll_none (trk h H) hm
    rw [z] at e; cases e
def allNews (g h:Heap) (L:Addr):List (Addr×Obj):=(List.range h.objs.size).filterMap fun a=>if a=L∨(g.get? a).isSome=true then none else (h.get? a).map fun o=>(a,o)
def rest (g h:Heap) (L d:Addr):List (Addr×Obj):=(allNews g h L).filter fun p=>decide (p.1≠d)
end L2
namespace L2
open PySem PySem.Spec PyProof.Rows
def lamNames:List Str:=["above", "beneath", "above_in", "clumps", "reach", "least_parting", "least_set", "why_not"]
def tabAt (o:Obj):Option (Addr×Str):=match o.cls,o.data with
  | .type "code", .fields vs=>(match (vs[1]?:Option Value),(vs[11]?:Option Value) with
    | some (.str q _),some (.ref P)=>if lamNames.contains q then some (P,q ++ ".<locals>.<lambda>") else none
    | _,_=>none)
  | _,_=>none
def tabsOf (K:PySem.W.Frag):List (Addr×Str):=K.filterMap fun p=>(K.lookup p.1).bind tabAt
def tabsUq (K:PySem.W.Frag):Bool:=(tabsOf K).all fun p=>(K.lookup p.1).isNone && (tabsOf K).all fun q=>decide (p.1=q.1→p.2=q.2)
def TbOk (K:PySem.W.Frag) (H:Hp):Prop:=∀ p∈tabsOf K,∃ t more,H p.1=some (.tbl (#[.str p.2 t] ++ more))
theorem TbOk.un {K:PySem.W.Frag} {fs ex:List Addr} {H H':Hp} {h h':Heap} (t:TbOk K H) (u:Un fs ex H H' h h'):TbOk K H':=fun p hp=>by
  obtain ⟨k,m,e⟩:=t p hp
  obtain ⟨m',e'⟩:=u.tbls _ _ e
  exact ⟨k,m ++ m',by rw [e',Array.append_assoc]⟩
structure Mod (K:PySem.W.Frag) (mg:Str→Option Value) (base:Heap):Prop where
  kin:K.In base
  glob:base.Ns mainGlobals mg
  blt:∃ mb,base.Ns builtinsNs mb∧∀ x:Str,x ≠ "__name__" → mb x=bootBuiltins x
  nolimit:base.NoLimit
  bm:∃ bm ob,mg "__builtins__" = some (.ref bm)∧bm≠builtinsNs∧base.get? bm=some ob∧ob.cls=.type "module" ∧ ob.dict=some builtinsNs∧ob.data=.plain
structure Cx where
  prog:Program
  w:World
  K:PySem.W.Frag
  mg:Str→Option Value
  base:Heap
  A:Around
  N:List Str
  s₀:Shared
  H₀:Hp
  env:Env
  outer:List Env
  stack:List Env
  ex:List Addr
  fn:Str→Bool
  calm:Bool
  pn:List (Addr×Obj)
  xe:Value→Shared→Prop
def frs (l:List Env):List Addr:=l.filterMap (·.frame)
abbrev Cx.fs (X:Cx):List Addr:=frs X.outer
def Vis (sc:Scope) (x:Str):Prop:=sc.names.lookup x=some .local∨sc.names.lookup x=some .cell∨sc.names.lookup x=some .free
def Loc (sc:Scope) (x:Str):Prop:=sc.names.lookup x=some .local∨sc.names.lookup x=some .cell
def Look (env:Env) (h:Heap) (m:Str→Option Value) (x:Str) (u:Value):Prop :=
  (env.kindOf x=some .local∧m x=some u)∨((env.kindOf x=some .cell∨env.kindOf x=some .free)∧∃ c,env.cells.lookup x=some c∧h.IsCell c (some u))
structure Cx.Ok (X:Cx):Prop where
  mod:Mod X.K X.mg X.base
  kind:X.env.scope.kind=.function
  glob:X.env.globals=mainGlobals
  blt:X.env.builtins=builtinsNs
  above:X.s₀.heap.objs.size≤X.env.locals
  inj:∀ x y c,X.env.cells.lookup x=some c→X.env.cells.lookup y=some c→x=y
  has:∀ x,(X.env.kindOf x=some .cell∨X.env.kindOf x=some .free)→∃ c,X.env.cells.lookup x=some c
  cab:∀ x c,X.fn x=true→X.env.cells.lookup x=some c→X.s₀.heap.objs.size≤c
  hd:X.calm=true→X.A.handled=none
  frames:X.A.frames=some X.stack
  stk:X.stack=X.outer∨(X.stack=X.env :: X.outer∧X.env.frame=some X.env.locals)
  exf:∀ b∈X.ex,b≠X.env.locals∧∀ x c,X.env.cells.lookup x=some c→c≠b
  bs:∀ b o,X.base.get? b=some o→X.s₀.heap.get? b=some o∧X.H₀ b=none
  bsz:X.base.objs.size≤X.s₀.heap.objs.size
  noex:∀ b o,X.base.get? b=some o→b∉X.ex
  exfs:∀ b∈X.ex,b∉X.fs
  funs:X.s₀.heap.FunFrames X.base X.outer
  frf:∀ b∈X.fs,X.H₀ b=none
  tb:TbOk X.K X.H₀
structure Inv (X:Cx) (pins:List (Addr×Obj)) (σ:List (Option V)) (H:Hp) (s:Shared):Prop where
  ok:X.Ok
  os:s.os=X.s₀.os
  bare:AllBare s.gens
  base:Un X.fs X.ex X.H₀ H X.s₀.heap s.heap
  loc:∃ m,s.heap.Ns X.env.locals m∧∀ (i:Nat) (x:Str) (v:V),X.N[i]?=some x→σ[i]?=some (some v)→Vis X.env.scope x→∃ u,RelV v u∧Look X.env s.heap m x u
  cell:∀ x c,X.env.cells.lookup x=some c→∃ v,s.heap.IsCell c v
  free:H X.env.locals=none
  freeC:∀ x c,X.env.cells.lookup x=some c→H c=none∨X.fn x=false∧∃ o u,H c=some (.frz o u)
  pin:∀ p∈X.pn ++ pins,s.heap.get? p.1=some p.2∧H p.1=none∧p.1≠X.env.locals∧p.1∉X.fs∧∀ v,p.2.data≠.cell v
  hok:HOk X.prog X.w H s.heap
  len:σ.length=X.N.length
section
variable {X:Cx} {pins:List (Addr×Obj)} {σ:List (Option V)} {H H':Hp} {s:Shared} {h':Heap}
theorem Cx.Ok.nofr (ok:X.Ok) {b:Addr} {o:Obj} (e:X.base.get? b=some o):b∉X.fs:=fun hb=>by
  have:=(ok.funs.mem hb).1
  rw [e] at this; cases this
theorem Inv.bs (I:Inv X pins σ H s):∀ b o,X.base.get? b=some o→s.heap.get? b=some o∧H b=none:=fun b o e =>
  ⟨I.base.keep b o (I.ok.bs b o e).1 (I.ok.bs b o e).2 (I.ok.nofr e) (I.ok.noex b o e),I.base.free b o (I.ok.bs b o e).1 (I.ok.bs b o e).2 (I.ok.noex b o e)⟩
theorem Inv.bk (I:Inv X pins σ H s):∀ b o,X.base.get? b=some o→s.heap.get? b=some o:=fun b o e=>(I.bs b o e).1
theorem Inv.mod (I:Inv X pins σ H s):Mod X.K X.mg X.base:=I.ok.mod
theorem Inv.kIn (I:Inv X pins σ H s):X.K.In s.heap:=I.ok.mod.kin.keeps I.bk
theorem Inv.fr (I:Inv X pins σ H s):∃ m,Fr X.base X.env.locals s.heap m :=
  let ⟨m,hn,_⟩:=I.loc
  ⟨m,hn,I.bk,Nat.le_trans I.ok.bsz I.ok.above⟩
theorem Inv.lt (I:Inv X pins σ H s):X.env.locals < s.heap.objs.size:=let ⟨_,hn,_⟩:=I.loc; hn.lt
theorem Inv.sz (I:Inv X pins σ H s):X.s₀.heap.objs.size≤s.heap.objs.size:=Nat.le_trans I.ok.above (Nat.le_of_lt I.lt)
theorem Inv.nofs (I:Inv X pins σ H s) {a:Addr} (h:s.heap.objs.size≤a):a∉X.fs:=fun hb=>by
  obtain ⟨_,o,ho,_⟩:=I.ok.funs.mem hb
  exact absurd (Nat.lt_of_lt_of_le (Heap.lt_size ho) (Nat.le_trans I.sz h)) (Nat.lt_irrefl _)
theorem Inv.cne (I:Inv X pins σ H s):∀ x c,X.env.cells.lookup x=some c→c≠X.env.locals:=fun x c e z=>by
  obtain ⟨v,o,ho,hd⟩:=I.cell x c e
  obtain ⟨m,⟨o',es,ep,ho',hd',_⟩,_⟩:=I.loc
  rw [z,ho'] at ho; cases ho; rw [hd'] at hd; cases hd
theorem Inv.funs (I:Inv X pins σ H s):s.heap.FunFrames X.base X.outer:=by
  have all:∀ (l:List Env),(∀ b∈frs l,b∈X.fs)→X.s₀.heap.FunFrames X.base l→s.heap.FunFrames X.base l:=by
    intro l
    induction l with
    | nil=>intro _ _; trivial
    | cons env r ih =>
      intro hs hl
      obtain ⟨hk,⟨L,o,hf,hn,ho,hd⟩,hr⟩:=hl
      have hL:L∈X.fs:=hs L (by unfold frs; rw [List.filterMap_cons,hf]; exact List.mem_cons_self)
      obtain ⟨sl,e⟩:=I.base.slot L o ho (I.ok.frf L hL) hL fun z=>I.ok.exfs L z hL
      exact ⟨hk,⟨L,_,hf,hn,e,hd⟩,ih (fun b hb=>hs b (by unfold frs; rw [List.filterMap_cons,hf]; exact List.mem_cons_of_mem _ hb)) hr⟩
  exact all X.outer (fun _ hb=>hb) I.ok.funs
theorem Inv.stack (I:Inv X pins σ H s):s.heap.FunFrames X.base X.stack:=by
  rcases I.ok.stk with e | ⟨e,hf⟩
  · rw [e]; exact I.funs
  · rw [e]
    obtain ⟨m,hn,_⟩:=I.loc
    refine .cons (by rw [I.ok.kind]; decide) hf hn ?_ I.funs
    exact Heap.get?_none_of_le (Nat.le_trans I.ok.bsz I.ok.above)
theorem Inv.stkSub (I:Inv X pins σ H s):∀ b∈frs X.stack,b∈X.env.locals :: X.fs:=fun b hb=>by
  rcases I.ok.stk with e | ⟨e,hf⟩
  · rw [e] at hb; exact List.mem_cons_of_mem _ hb
  · rw [e] at hb
    unfold frs at hb
    rw [List.filterMap_cons,hf] at hb
    exact hb
theorem Inv.stkFree (I:Inv X pins σ H s):∀ b∈frs X.stack,H b=none:=fun b hb=>by
  rcases List.mem_cons.mp (I.stkSub b hb) with e | hb
  · rw [e]; exact I.free
  · obtain ⟨_,o,ho,_⟩:=I.ok.funs.mem hb
    exact I.base.free b o ho (I.ok.frf b hb) fun z=>I.ok.exfs b z hb
theorem Inv.step {g':Array GenState} {t':Nat} {d':Drawn} {ch:List Addr} (I:Inv X pins σ H s)
    (hch:∀ b∈ch,(b∈X.ex∨X.s₀.heap.objs.size≤b)∧b≠X.env.locals∧(∀ x c,X.env.cells.lookup x=some c→c≠b)∧∀ p∈X.pn ++ pins,p.1≠b)
    (keep:∀ b o,b≠X.env.locals→b∉X.fs→b∉ch→s.heap.get? b=some o→H b=none→h'.get? b=some o)
    (slot:∀ b o,b≠X.env.locals→b∈X.fs→b∉ch→s.heap.get? b=some o→H b=none→∃ sl,h'.get? b=some { o with slots:=sl }) (free:∀ b o,b∉ch→s.heap.get? b=some o→H b=none→H' b=none)
    (there:∀ b o,b∉ch→s.heap.get? b=some o→∃ o',h'.get? b=some o')
    (tups:∀ b xs,H b=some (.tup xs)→H' b=some (.tup xs)) (frzs:∀ b o u,H b=some (.frz o u)→H' b=some (.frz o u)) (tbls:∀ b ps,H b=some (.tbl ps)→∃ more,H' b=some (.tbl (ps ++ more)))
    (ns:∀ m,s.heap.Ns X.env.locals m→h'.Ns X.env.locals m) (hok:HOk X.prog X.w H' h') (hg:AllBare g') :
    Inv X pins σ H' { s with heap:=h',gens:=g',drawn:=d',toks:=t' }:=by
  have neL:∀ b o,X.s₀.heap.get? b=some o→b≠X.env.locals:=fun b o e=>Nat.ne_of_lt (Nat.lt_of_lt_of_le (Heap.lt_size e) I.ok.above)
  have neC:∀ b o,X.s₀.heap.get? b=some o→b∉X.ex→b∉ch:=fun b o e hx hb=>by
    rcases (hch b hb).1 with z | z
    · exact hx z
    · exact absurd (Nat.lt_of_lt_of_le (Heap.lt_size e) z) (Nat.lt_irrefl _)
  have cellK:∀ x c,X.env.cells.lookup x=some c→∀ v,s.heap.IsCell c v→h'.IsCell c v:=fun x c e v ⟨o,ho,hd⟩=>by
    have nch:c∉ch:=fun z=>(hch c z).2.2.1 x c e rfl
    rcases I.freeC x c e with hn | ⟨_,o1,u1,hn⟩
    · by_cases hc:c∈X.fs
      · obtain ⟨sl,q⟩:=slot c o (I.cne x c e) hc nch ho hn
        exact ⟨_,q,hd⟩
      · exact ⟨o,keep c o (I.cne x c e) hc nch ho hn,hd⟩
    · have q1:=(I.hok c _ hn).1
      rw [ho] at q1
      cases q1
      exact ⟨o,(hok c _ (frzs c _ _ hn)).1,hd⟩
  refine ⟨I.ok,I.os,hg,⟨fun b o e n hb hx=>?_,fun b o e n hb hx=>?_,fun b o e n hx=>?_,fun b o e hx=>?_,fun b xs e=>tups b xs (I.base.tups b xs e),fun b o xs e=>frzs b o xs (I.base.frzs b o xs e),fun b ps e=>?_⟩,?_,fun x c e=>?_,?_,fun x c e=>?_,fun p hp=>?_,hok,I.len⟩
  · exact keep b o (neL b o e) hb (neC b o e hx) (I.base.keep b o e n hb hx) (I.base.free b o e n hx)
  · obtain ⟨sl,e1⟩:=I.base.slot b o e n hb hx
    obtain ⟨sl',e2⟩:=slot b _ (neL b o e) hb (neC b o e hx) e1 (I.base.free b o e n hx)
    exact ⟨sl',e2⟩
  · obtain ⟨o',e1⟩:=I.base.there b o e hx
    exact free b o' (neC b o e hx) e1 (I.base.free b o e n hx)
  · obtain ⟨o',e1⟩:=I.base.there b o e hx
    exact there b o' (neC b o e hx) e1
  · obtain ⟨m1,e1⟩:=I.base.tbls b ps e
    obtain ⟨m2,e2⟩:=tbls b _ e1
    exact ⟨m1 ++ m2,by rw [e2,Array.append_assoc]⟩
  · obtain ⟨m,hn,hl⟩:=I.loc
    refine ⟨m,ns m hn,fun i x v e1 e2 e3=>?_⟩
    obtain ⟨u,r,l⟩:=hl i x v e1 e2 e3
    refine ⟨u,r,?_⟩
    rcases l with l | ⟨k,c,e,z⟩
    · exact .inl l
    · exact .inr ⟨k,c,e,cellK x c e _ z⟩
  · obtain ⟨v,z⟩:=I.cell x c e
    exact ⟨v,cellK x c e v z⟩
  · obtain ⟨m,⟨o,_,_,ho,_⟩,_⟩:=I.loc
    exact free _ o (fun z=>(hch _ z).2.1 rfl) ho I.free
  · obtain ⟨v,o,ho,hd⟩:=I.cell x c e
    exact (I.freeC x c e).elim (fun n=>.inl (free c o (fun z=>(hch c z).2.2.1 x c e rfl) ho n)) fun ⟨y1,o1,u1,y2⟩=>.inr ⟨y1,o1,u1,frzs c o1 u1 y2⟩
  · obtain ⟨e,n,ne,nf,d⟩:=I.pin p hp
    have nch:p.1∉ch:=fun z=>(hch p.1 z).2.2.2 p hp rfl
    exact ⟨keep p.1 p.2 ne nf nch e n,free p.1 p.2 nch e n,ne,nf,d⟩
theorem Inv.un {t':Nat} (I:Inv X pins σ H s) (u:Un X.fs [] H H' s.heap h') (hok:HOk X.prog X.w H' h'):Inv X pins σ H' { s with heap:=h',toks:=t' }:=by
  obtain ⟨m,⟨o,es,ep,ho,r⟩,_⟩:=id I.loc
  obtain ⟨sl,hL⟩:=u.any ho I.free (by simp)
  exact I.step (g':=s.gens) (d':=s.drawn) (ch:=[]) (fun _ z=>nomatch z) (fun b o _ hb _ e n=>u.keep b o e n hb (by simp)) (fun b o _ hb _ e n=>u.slot b o e n hb (by simp)) (fun b o _ e n=>u.free b o e n (by simp)) (fun b o _ e=>u.there b o e (by simp)) u.tups u.frzs u.tbls (fun m' hm=>by
    obtain ⟨o',es',ep',ho',r'⟩:=hm
    rw [ho] at ho'; cases ho'
    exact ⟨_,es',ep',hL,r'⟩) hok I.bare
theorem Inv.call {g':Array GenState} {t':Nat} {d':Drawn} {ch:List Addr} (I:Inv X pins σ H s) (u:Un (frs X.stack) ch H H' s.heap h') (hok:HOk X.prog X.w H' h') (hg:AllBare g')
    (hch:∀ b∈ch,(b∈X.ex∨X.s₀.heap.objs.size≤b)∧b≠X.env.locals∧(∀ x c,X.env.cells.lookup x=some c→c≠b)∧∀ p∈X.pn ++ pins,p.1≠b) :
    Inv X pins σ H' { s with heap:=h',gens:=g',drawn:=d',toks:=t' }:=by
  obtain ⟨m,⟨o,es,ep,ho,r⟩,_⟩:=id I.loc
  obtain ⟨sl,hL⟩:=u.any ho I.free fun z=>(hch _ z).2.1 rfl
  exact I.step (ch:=ch) hch (fun b o hL hb hc e n=>u.keep b o e n (fun z=>(List.mem_cons.mp (I.stkSub b z)).elim hL hb) hc) (fun b o _ _ hc e n=>u.any e n hc) (fun b o hc e n=>u.free b o e n hc) (fun b o hc e=>u.there b o e hc) u.tups u.frzs u.tbls (fun m' hm=>by
    obtain ⟨o',es',ep',ho',r'⟩:=hm
    rw [ho] at ho'; cases ho'
    exact ⟨_,es',ep',hL,r'⟩) hok hg
theorem Inv.turned {t':Nat} {it:Addr} (I:Inv X pins σ H s) (k:∀ b o,b≠it→s.heap.get? b=some o→h'.get? b=some o) (hn:H it=none) (hL:it≠X.env.locals)
    (h1:it∈X.ex∨X.s₀.heap.objs.size≤it) (h2:∀ x c,X.env.cells.lookup x=some c→c≠it) (h3:∀ p∈X.pn ++ pins,p.1≠it):Inv X pins σ H { s with heap:=h',toks:=t' }:=by
  have nit:∀ b u,H b=some u→b≠it:=fun b u e z=>by rw [z,hn] at e; cases e
  refine I.step (g':=s.gens) (d':=s.drawn) (ch:=[it]) (fun b hb=>?_) (fun b o _ _ hc e _=>k b o (fun z=>hc (by simp [z])) e) (fun b o _ _ hc e _=>⟨o.slots,k b o (fun z=>hc (by simp [z])) e⟩) (fun _ _ _ _ n=>n)
    (fun b o hc e=>⟨o,k b o (fun z=>hc (by simp [z])) e⟩) (fun _ _ e=>e) (fun _ _ _ e=>e) (fun b ps e=>⟨#[],by rw [e]; simp⟩) (fun m hm=>?_) (fun b u e=>?_) I.bare
  · have e:b=it:=by simpa using hb
    subst e
    exact ⟨h1,hL,h2,h3⟩
  · obtain ⟨o,es,ep,ho,r⟩:=hm
    exact ⟨o,es,ep,k _ o (Ne.symm hL) ho,r⟩
  · refine (I.hok b u e).stay (fun c v hc q=>k c v ?_ q) (fun _ q=>q) fun _ _ q=>q
    rcases hc with z | z
    · rw [z]; exact nit b u e
    · exact nit c _ z
theorem Inv.tok (I:Inv X pins σ H s) (t:Nat):Inv X pins σ H { s with toks:=t }:=I.un (h':=s.heap) (t':=t) Un.refl I.hok
theorem Inv.kept {t':Nat} (I:Inv X pins σ H s) (k:∀ b u,s.heap.get? b=some u→h'.get? b=some u):Inv X pins σ H { s with heap:=h',toks:=t' }:=I.un (Un.kept k) (I.hok.kept k)
theorem Inv.laid {a:Addr} {o:HO} {t':Nat} (I:Inv X pins σ H s) (k:∀ b u,s.heap.get? b=some u→h'.get? b=some u) (hp:s.heap.objs.size≤a) (new:ObjOk X.prog X.w (upd H a o) h' a o) :
    Inv X pins σ (upd H a o) { s with heap:=h',toks:=t' }:=I.un (Un.laid k hp (I.hok.fresh hp)) (I.hok.laid k hp new)
theorem Inv.write {x e:Addr} {o:HO} {t':Nat} (I:Inv X pins σ H s) (mu:Mut (H x)) (he:e=x∨H e=some (.own x)) (k:∀ b u,b≠e→s.heap.get? b=some u→h'.get? b=some u) (heo:∃ u,h'.get? e=some u)
    (new:ObjOk X.prog X.w (upd H x o) h' x o):Inv X pins σ (upd H x o) { s with heap:=h',toks:=t' }:=I.un (Un.write mu he k heo) (I.hok.write mu he k heo new)
theorem Inv.weak {σ':List (Option V)} (I:Inv X pins σ H s) (hl:σ'.length=σ.length) (w:∀ (i:Nat) v,σ'[i]?=some (some v)→σ[i]?=some (some v)):Inv X pins σ' H s :=
  ⟨I.ok,I.os,I.bare,I.base,let ⟨m,hn,hl'⟩:=I.loc; ⟨m,hn,fun i x v e1 e2 e3=>hl' i x v e1 (w i v e2) e3⟩,I.cell,I.free,I.freeC,I.pin,I.hok,hl.trans I.len⟩
theorem Inv.pins_of {pins':List (Addr×Obj)} (I:Inv X pins σ H s) (h:∀ p∈pins',s.heap.get? p.1=some p.2∧H p.1=none∧p.1≠X.env.locals∧p.1∉X.fs∧∀ v,p.2.data≠.cell v):Inv X pins' σ H s :=
  ⟨I.ok,I.os,I.bare,I.base,I.loc,I.cell,I.free,I.freeC,fun p hp=>(List.mem_append.mp hp).elim (fun z=>I.pin p (List.mem_append_left _ z)) (h p),I.hok,I.len⟩
theorem nodup_ix {N:List Str} (hN:N.Nodup) {i j:Nat} {x:Str} (a:N[i]?=some x) (b:N[j]?=some x):i=j:=by
  obtain ⟨h1,e1⟩:=List.getElem?_eq_some_iff.mp a
  obtain ⟨h2,e2⟩:=List.getElem?_eq_some_iff.mp b
  exact (List.getElem_inj hN).mp (e1.trans e2.symm)
theorem store_ok2 {M:Model} {A:Around} {E:Value→Shared→Prop} {i:Nat} {x:Str} {v:V} {u:Value} {Q:Unit→Shared→Prop} (I:Inv X pins σ H s) (hN:X.N.Nodup) (hi:X.N[i]?=some x) (hx:Loc X.env.scope x) (r:RelV v u)
    (h:∀ s',Inv X pins (σ.set i (some v)) H s'→(∃ a,Heap.SameBut a s.heap s'.heap∧(a=X.env.locals∨X.env.cells.lookup x=some a))→Q () s') (hf:X.fn x=true∨X.env.scope.names.lookup x=some .local:=by first | exact .inl rfl | exact .inr rfl | assumption):wpAny M A (storeName X.env x u) Q E s:=by
  obtain ⟨m,hn,hl⟩:=id I.loc
  have hcls:(X.env.scope.kind == .class || (X.env.scope.kind == .module && X.env.locals != X.env.globals))=false:=by rw [I.ok.kind]; rfl
  have hiσ:i < σ.length:=by rw [I.len]; exact (List.getElem?_eq_some_iff.mp hi).1
  have cne:=I.cne
  have tracked:∀ {a:Addr} {h':Heap},(∃ o,s.heap.get? a=some o∧H a=none)→Heap.SameBut a s.heap h'→HOk X.prog X.w H h':=fun {a h'} ha hs b ob e=>by
    obtain ⟨_,_,hfree⟩:=ha
    refine (I.hok b ob e).stay (fun c w' hc q=>(hs.2 c ?_).trans q) (fun _ q=>q) fun _ _ q=>q
    rintro rfl
    rcases hc with rfl | hc
    · rw [hfree] at e; cases e
    · rw [hfree] at hc; cases hc
  rcases hx with hk | hk
  · refine wpAny_storeName_local hk hn (fun h' hn' hs=>?_) hcls
    obtain ⟨oL,_,_,hoL,_⟩:=id hn
    refine h _ ⟨I.ok,I.os,I.bare,⟨fun b o e n hb hx=>?_,fun b o e n hb hx=>?_,I.base.free,fun b o e hx=>?_,I.base.tups,I.base.frzs,I.base.tbls⟩,⟨_,hn',fun j y v' e1 e2 e3=>?_⟩,fun y c e=>?_,I.free,I.freeC,fun p hp=>?_,tracked ⟨oL,hoL,I.free⟩ hs,by simpa using I.len⟩ ⟨_,hs,.inl rfl⟩
    · exact (hs.2 b (Nat.ne_of_lt (Nat.lt_of_lt_of_le (Heap.lt_size e) I.ok.above))).trans (I.base.keep b o e n hb hx)
    · obtain ⟨sl,e1⟩:=I.base.slot b o e n hb hx
      exact ⟨sl,(hs.2 b (Nat.ne_of_lt (Nat.lt_of_lt_of_le (Heap.lt_size e) I.ok.above))).trans e1⟩
    · obtain ⟨o',e1⟩:=I.base.there b o e hx
      exact ⟨o',(hs.2 b (Nat.ne_of_lt (Nat.lt_of_lt_of_le (Heap.lt_size e) I.ok.above))).trans e1⟩
    · by_cases hj:j=i
      · subst hj
        rw [hi] at e1; cases e1
        rw [List.getElem?_set_self hiσ] at e2
        cases e2
        exact ⟨u,r,.inl ⟨hk,by simp⟩⟩
      · rw [List.getElem?_set_ne (Ne.symm hj)] at e2
        obtain ⟨u',r',q⟩:=hl j y v' e1 e2 e3
        refine ⟨u',r',?_⟩
        rcases q with ⟨k,e⟩ | ⟨k,c,e,z⟩
        · refine .inl ⟨k,?_⟩
          have:y≠x:=fun e=>hj (nodup_ix hN e1 (e ▸ hi))
          simp [this,e]
        · exact .inr ⟨k,c,e,z.sameBut hs (cne y c e)⟩
    · obtain ⟨w',z⟩:=I.cell y c e
      exact ⟨w',z.sameBut hs (cne y c e)⟩
    · obtain ⟨e,n,ne,nf,d⟩:=I.pin p hp
      exact ⟨(hs.2 p.1 ne).trans e,n,ne,nf,d⟩
  · have hfn:X.fn x=true:=by
      rcases hf with z | z
      · exact z
      · rw [z] at hk; cases hk
    obtain ⟨c,hc⟩:=I.ok.has x (.inl hk)
    obtain ⟨w',z⟩:=I.cell x c hc
    refine wpAny_storeName_cell I.ok.kind hk hc z (fun h' hc' hs=>?_)
    obtain ⟨oc,hoc,hocd⟩:=id z
    refine h { s with heap:=h' } ⟨I.ok,I.os,I.bare,⟨fun b o e n hb hx=>?_,fun b o e n hb hx=>?_,I.base.free,fun b o e hx=>?_,I.base.tups,I.base.frzs,I.base.tbls⟩,⟨m,hn.sameBut hs (Ne.symm (cne x c hc)),fun j y v' e1 e2 e3=>?_⟩,fun y c' e=>?_,I.free,I.freeC,fun p hp=>?_,tracked ⟨oc,hoc,(I.freeC x c hc).elim (fun n=>n) fun z=>by rw [hfn] at z; cases z.1⟩ hs,by simpa using I.len⟩ ⟨c,hs,.inr hc⟩
    · exact (hs.2 b (Nat.ne_of_lt (Nat.lt_of_lt_of_le (Heap.lt_size e) (I.ok.cab x c hfn hc)))).trans (I.base.keep b o e n hb hx)
    · obtain ⟨sl,e1⟩:=I.base.slot b o e n hb hx
      exact ⟨sl,(hs.2 b (Nat.ne_of_lt (Nat.lt_of_lt_of_le (Heap.lt_size e) (I.ok.cab x c hfn hc)))).trans e1⟩
    · obtain ⟨o',e1⟩:=I.base.there b o e hx
      exact ⟨o',(hs.2 b (Nat.ne_of_lt (Nat.lt_of_lt_of_le (Heap.lt_size e) (I.ok.cab x c hfn hc)))).trans e1⟩
    · by_cases hj:j=i
      · subst hj
        rw [hi] at e1; cases e1
        rw [List.getElem?_set_self hiσ] at e2
        cases e2
        exact ⟨u,r,.inr ⟨.inl hk,c,hc,hc'⟩⟩
      · rw [List.getElem?_set_ne (Ne.symm hj)] at e2
        obtain ⟨u',r',q⟩:=hl j y v' e1 e2 e3
        refine ⟨u',r',?_⟩
        rcases q with q | ⟨k,c',e,z'⟩
        · exact .inl q
        · refine .inr ⟨k,c',e,z'.sameBut hs ?_⟩
          rintro rfl
          exact hj (nodup_ix hN e1 (I.ok.inj _ _ _ e hc ▸ hi))
    · by_cases hcc:c'=c
      · subst hcc; exact ⟨_,hc'⟩
      · obtain ⟨w2,z2⟩:=I.cell y c' e
        exact ⟨w2,z2.sameBut hs hcc⟩
    · obtain ⟨e,n,ne,nf,d⟩:=I.pin p hp
      refine ⟨(hs.2 p.1 ?_).trans e,n,ne,nf,d⟩
      intro q
      rw [q,hoc] at e
      have q':oc=p.2:=Option.some.inj e
      exact d w' (by rw [← q']; exact hocd)
theorem store_ok {M:Model} {A:Around} {E:Value→Shared→Prop} {i:Nat} {x:Str} {v:V} {u:Value} {Q:Unit→Shared→Prop} (I:Inv X pins σ H s) (hN:X.N.Nodup) (hi:X.N[i]?=some x) (hx:Loc X.env.scope x) (r:RelV v u)
    (h:∀ s',Inv X pins (σ.set i (some v)) H s'→Q () s') (hf:X.fn x=true∨X.env.scope.names.lookup x=some .local:=by first | exact .inl rfl | exact .inr rfl | assumption):wpAny M A (storeName X.env x u) Q E s :=
  store_ok2 I hN hi hx r (fun s' I' _=>h s' I') hf
theorem Inv.call' {s':Shared} {ch:List Addr} (I:Inv X pins σ H s) (ho:s'.os=s.os) (u:Un (frs X.stack) ch H H' s.heap s'.heap) (hok:HOk X.prog X.w H' s'.heap) (hg:AllBare s'.gens)
    (hch:∀ b∈ch,(b∈X.ex∨X.s₀.heap.objs.size≤b)∧b≠X.env.locals∧(∀ x c,X.env.cells.lookup x=some c→c≠b)∧∀ p∈X.pn ++ pins,p.1≠b):Inv X pins σ H' s':=by
  obtain ⟨h',g',d',t',o'⟩:=s'
  have e:o'=s.os:=ho
  subst e
  exact I.call (g':=g') (t':=t') (d':=d') u hok hg hch
end
abbrev XK:=Value→Option Addr→Hp→Prop
abbrev St:=List (Option V)
abbrev VK:=V→Hp→Prop
abbrev TE:=St→Hp→VK→Prop
abbrev TT:=St→Hp→(Bool→Hp→Prop)→Prop
abbrev TA:=St→Hp→(List V→Hp→Prop)→Prop
structure Ends where
  nx:St→Hp→Prop
  rt:VK
  bk:St→Hp→Prop:=fun _ _=>False
  ct:St→Hp→Prop:=fun _ _=>False
abbrev TS:=Ends→St→Hp→Prop
def EP (X:Cx) (pins:List (Addr×Obj)) (σ:St) (Q:VK) (u:Value) (s':Shared):Prop:=∃ v H',Inv X pins σ H' s'∧RelV v u∧Q v H'
def TP (X:Cx) (pins:List (Addr×Obj)) (σ:St) (Q:Bool→Hp→Prop) (b:Bool) (s':Shared):Prop:=∃ H',Inv X pins σ H' s'∧Q b H'
def AP (X:Cx) (pins:List (Addr×Obj)) (σ:St) (Q:List V→Hp→Prop) (us:List Value) (s':Shared):Prop:=∃ vs H',Inv X pins σ H' s'∧Vals vs us∧Q vs H'
def SP (X:Cx) (pins:List (Addr×Obj)) (D:Ends) (f:Flow) (s':Shared):Prop :=
  match f with
  | .next=>∃ σ' H',Inv X pins σ' H' s'∧D.nx σ' H'
  | .brk=>∃ σ' H',Inv X pins σ' H' s'∧D.bk σ' H'
  | .cont=>∃ σ' H',Inv X pins σ' H' s'∧D.ct σ' H'
  | .ret u=>∃ v σ' H',Inv X pins σ' H' s'∧RelV v u∧D.rt v H'
def PE (X:Cx) (e:Expr) (t:TE):Prop :=
  ∀ (pins:List (Addr×Obj)) (s:Shared) (σ:St) (H:Hp) (Q:VK),Inv X pins σ H s→t σ H Q→wpAny (model X.prog X.w) X.A (eval e X.env) (EP X pins σ Q) X.xe s
def PT (X:Cx) (e:Expr) (t:TT):Prop :=
  ∀ (pins:List (Addr×Obj)) (s:Shared) (σ:St) (H:Hp) (Q:Bool→Hp→Prop),Inv X pins σ H s→t σ H Q→wpAny (model X.prog X.w) X.A (isTrue e X.env (eval e X.env)) (TP X pins σ Q) X.xe s
def PW (X:Cx) (e:Expr) (t:TT):Prop :=
  ∀ (whole:Sem Value) (pins:List (Addr×Obj)) (s:Shared) (σ:St) (H:Hp) (Q:Bool→Hp→Prop),Inv X pins σ H s→t σ H Q→wpAny (model X.prog X.w) X.A (isTrue e X.env whole) (TP X pins σ Q) X.xe s
theorem PW.pt {X:Cx} {e:Expr} {t:TT} (h:PW X e t):PT X e t:=h _
def PA (X:Cx) (es:List Expr) (t:TA):Prop :=
  ∀ (pos:Pos) (pins:List (Addr×Obj)) (s:Shared) (σ:St) (H:Hp) (Q:List V→Hp→Prop),Inv X pins σ H s→t σ H Q→wpAny (model X.prog X.w) X.A (spliced (backTo pos (starEach es X.env))) (AP X pins σ Q) X.xe s
def PS (X:Cx) (st:Stmt) (t:TS):Prop :=
  ∀ (pins:List (Addr×Obj)) (s:Shared) (σ:St) (H:Hp) (D:Ends),Inv X pins σ H s→t D σ H→wpAny (model X.prog X.w) X.A (exec st X.env) (SP X pins D) X.xe s
def PSs (X:Cx) (st:List Stmt) (t:TS):Prop :=
  ∀ (pins:List (Addr×Obj)) (s:Shared) (σ:St) (H:Hp) (D:Ends),Inv X pins σ H s→t D σ H→wpAny (model X.prog X.w) X.A (execs st X.env) (SP X pins D) X.xe s
theorem thn {α:Type} {t:Sem α} {Q Q':α→Shared→Prop} {M:Model} {A:Around} {E:Value→Shared→Prop} {s:Shared} (h:wpAny M A t Q E s) (hQ:∀ a s,Q a s→Q' a s):wpAny M A t Q' E s:=wpAny_mono h hQ fun _ _ x=>x
end L2
namespace L2
open PySem PySem.Spec PyProof.Rows
section
variable {X:Cx}
def tVar (i:Nat):TE:=fun σ H Q=>∃ v,σ[i]?=some (some v)∧Q v H
def tC (v:V):TE:=fun _ H Q=>Q v H
theorem pe_var {i:Nat} {x:Str} {pos:Pos} (hN:X.N[i]?=some x) (hv:Vis X.env.scope x) (hd:(x == ("__debug__" : Str))=false:=by decide) (hcd:(x == ("__classdict__" : Str))=false:=by decide):PE X (.Name x pos) (tVar i):=by
  intro pins s σ H Q I h
  obtain ⟨v,e,h⟩:=h
  obtain ⟨m,hn,hl⟩:=I.loc
  obtain ⟨u,r,l⟩:=hl i x v hN e hv
  have fin:EP X pins σ Q u s:=⟨v,H,I,r,h⟩
  rcases l with ⟨hk,hm⟩ | ⟨hk,c,hc,hcell⟩
  · exact wpAny_Name (wpAny_loadName_local I.ok.kind hk hn hm fin) hd
  · rcases hk with hk | hk
    · exact wpAny_Name (wpAny_loadName_cell I.ok.kind hk hc hcell fin) hd
    · exact wpAny_Name (wpAny_loadName_free I.ok.kind hk hc hcell fin hcd) hd
theorem pe_int {i j pos}:PE X (.Constant (.int i) j pos) (tC (.int i)):=fun _ _ _ H _ I h=>wpAny_Constant_int ⟨.int i,H,I.tok _,⟨_,rfl⟩,h⟩
theorem pe_bl {b j pos}:PE X (.Constant (.bool b) j pos) (tC (.bl b)):=fun _ _ _ H _ I h=>Constant_bool ⟨.bl b,H,I,rfl,h⟩
theorem pe_str {x j pos}:PE X (.Constant (.str x) j pos) (tC (.str x)):=fun _ _ _ H _ I h=>Calls.Constant_str ⟨.str x,H,I.tok _,⟨_,rfl⟩,h⟩
def Gl (X:Cx) (x:Str):Prop:=X.env.kindOf x=some .globalImplicit
theorem ld_glob {E:Value→Shared→Prop} {pins:List (Addr×Obj)} {s:Shared} {σ:St} {H:Hp} {x:Str} {u:Value} {pos:Pos} {Q:Value→Shared→Prop} (I:Inv X pins σ H s) (hg:Gl X x) (hm:X.mg x=some u) (h:Q u s)
    (hd:(x == ("__debug__" : Str))=false:=by decide):wpAny (model X.prog X.w) X.A (eval (.Name x pos) X.env) Q E s :=
  Calls.Name_function_global I.ok.kind hg (Calls.loadGlobal_global (by rw [I.ok.glob]; exact I.mod.glob.keeps I.bk) hm h) hd
theorem ld_blt {E:Value→Shared→Prop} {pins:List (Addr×Obj)} {s:Shared} {σ:St} {H:Hp} {x:Str} {u:Value} {pos:Pos} {Q:Value→Shared→Prop} (I:Inv X pins σ H s) (hg:Gl X x) (hm:X.mg x=none) (hv:bootBuiltins x=some u) (h:Q u s)
    (hn:x ≠ "__name__" := by decide) (hd:(x == ("__debug__" : Str))=false:=by decide):wpAny (model X.prog X.w) X.A (eval (.Name x pos) X.env) Q E s:=by
  obtain ⟨mb,h1,h2⟩:=I.mod.blt
  exact Calls.Name_function_global I.ok.kind hg (Calls.loadGlobal_builtin (by rw [I.ok.glob]; exact I.mod.glob.keeps I.bk) hm (by rw [I.ok.blt]; exact h1.keeps I.bk) ((h2 x hn).trans hv) h) hd
theorem pe_bltn {x:Str} {v:V} {u:Value} {pos:Pos} (hg:Gl X x) (hm:X.mg x=none) (hv:bootBuiltins x=some u) (r:RelV v u) (hn:x ≠ "__name__" := by decide) (hd:(x == ("__debug__" : Str))=false:=by decide):PE X (.Name x pos) (tC v) :=
  fun _ _ _ H _ I h=>ld_blt I hg hm hv ⟨v,H,I,r,h⟩ hn hd
variable {a b:Expr} {ta tb:TE} {pos:Pos}
def tB (t:TE):TT:=fun σ H Q=>t σ H fun x H1=>∃ c,x=.bl c∧Q c H1
theorem pt_val {e:Expr} {t:TE} (h:PE X e t) (he:∀ whole,isTrue e X.env whole=(do let v ← whole; standAt e.pos; holding [v] (truthy v)):=by intro _; rfl):PT X e (tB t):=by
  intro pins s σ H Q I hw
  refine isTrue_plain (thn (h pins s σ H _ I hw) fun v s1 ⟨x,H1,I1,r1,q1⟩=>?_) (he _)
  obtain ⟨d,rfl,q⟩:=q1
  cases r1
  exact wpAny_truthy_bool ⟨H1,I1,q⟩
variable {tA tB':TT} {rest:List Expr}
def tAnd (t u:TT):TT:=fun σ H Q=>t σ H fun c H1=>if c=true then u σ H1 Q else Q false H1
def tOr (t u:TT):TT:=fun σ H Q=>t σ H fun c H1=>if c=true then Q true H1 else u σ H1 Q
def tNot (t:TT):TT:=fun σ H Q=>t σ H fun c H1=>Q (!c) H1
theorem pw_and1 (ha:PT X a tA):PW X (.BoolOp .And [a] pos) tA:=by
  intro wh pins s σ H Q I h
  refine isTrue_and (thn (ha pins s σ H Q I h) fun c s1 e=>?_)
  cases c with
  | true=>exact isTrue_and_nil e
  | false=>exact e
theorem pw_or1 (ha:PT X a tA):PW X (.BoolOp .Or [a] pos) tA:=by
  intro wh pins s σ H Q I h
  refine isTrue_or (thn (ha pins s σ H Q I h) fun c s1 e=>?_)
  cases c with
  | false=>exact isTrue_or_nil e
  | true=>exact e
theorem pw_and (ha:PT X a tA) (hb:PW X (.BoolOp .And (b :: rest) pos) tB'):PW X (.BoolOp .And (a :: b :: rest) pos) (tAnd tA tB'):=by
  intro wh pins s σ H Q I h
  refine isTrue_and (thn (ha pins s σ H _ I h) fun c s1 ⟨H1,I1,q1⟩=>?_)
  cases c with
  | true=>exact hb wh pins s1 σ H1 Q I1 q1
  | false=>exact ⟨H1,I1,q1⟩
theorem pw_or (ha:PT X a tA) (hb:PW X (.BoolOp .Or (b :: rest) pos) tB'):PW X (.BoolOp .Or (a :: b :: rest) pos) (tOr tA tB'):=by
  intro wh pins s σ H Q I h
  refine isTrue_or (thn (ha pins s σ H _ I h) fun c s1 ⟨H1,I1,q1⟩=>?_)
  cases c with
  | true=>exact ⟨H1,I1,q1⟩
  | false=>exact hb wh pins s1 σ H1 Q I1 q1
theorem pt_not (ha:PT X a tA):PT X (.UnaryOp .Not a pos) (tNot tA):=by
  intro pins s σ H Q I h
  exact isTrue_not (ha pins s σ H (fun c H1=>Q (!c) H1) I h)
def tIf (t:TT) (ta tb:TE):TE:=fun σ H Q=>t σ H fun c H1=>if c=true then ta σ H1 Q else tb σ H1 Q
theorem pe_ifExp {c:Expr} (hc:PT X c tA) (ha:PE X a ta) (hb:PE X b tb):PE X (.IfExp c a b pos) (tIf tA ta tb):=by
  intro pins s σ H Q I h
  refine wpAny_IfExp (thn (hc pins s σ H _ I h) fun d s1 ⟨H1,I1,q1⟩=>?_)
  cases d with
  | true=>exact ha pins s1 σ H1 Q I1 q1
  | false=>exact hb pins s1 σ H1 Q I1 q1
end
end L2
namespace L2
open PySem PySem.Spec PyProof.Rows
def SqL (K:PySem.W.Frag) (H:Hp) (a:Addr) (xs:List V):Prop :=
  Rd H a (.lst xs) ∨
    ∃ (o:Obj) (its:Array Value) (n:Nat),K.lookup a=some o∧o.cls=.type "list" ∧ o.dict=none∧o.data=.seq its n∧its.size≤sizeLine∧Vals xs its.toList
def SqT (K:PySem.W.Frag) (H:Hp) (a:Addr) (xs:List V):Prop :=
  Rd H a (.tup xs) ∨
    ∃ (o:Obj) (its:Array Value) (n:Nat),K.lookup a=some o∧o.cls=.type "tuple" ∧ o.data=.seq its n∧its.size≤sizeLine∧Vals xs its.toList
def absV:Value→Option V
  | .none=>some .non
  | .bool b=>some (.bl b)
  | .int i _=>some (.int i)
  | .str x _=>some (.str x)
  | .bytes b _=>some (.byt b)
  | .float b _=>some (.flt b)
  | .ref a=>some (.ref a)
  | .type n=>some (.ty n)
  | _=>none
theorem RelV.abs {x:V} {u:Value} (r:RelV x u):absV u=some x:=by
  cases x with
  | non=>cases r; rfl
  | bl _=>cases r; rfl
  | int _=>obtain ⟨t,rfl⟩:=r; rfl
  | str _=>obtain ⟨t,rfl⟩:=r; rfl
  | byt _=>obtain ⟨t,rfl⟩:=r; rfl
  | flt _=>obtain ⟨t,rfl⟩:=r; rfl
  | ref _=>cases r; rfl
  | ty _=>cases r; rfl
theorem RelV.inj {x y:V} {u:Value} (r:RelV x u) (q:RelV y u):x=y:=Option.some.inj (r.abs.symm.trans q.abs)
theorem Vals.inj:∀ {xs ys:List V} {us:List Value},Vals xs us→Vals ys us→xs=ys
  | _,_,_,.nil,.nil=>rfl
  | _,_,_,.cons r t,.cons r' t'=>by rw [r.inj r',Vals.inj t t']
section
variable {X:Cx} {pins:List (Addr×Obj)} {σ:St} {H:Hp} {s:Shared} {a:Addr} {xs ys:List V}
theorem SqL.of {K:PySem.W.Frag} (h:H a=some (.lst xs)):SqL K H a xs:=.inl (.inl h)
theorem SqT.of {K:PySem.W.Frag} (h:H a=some (.tup xs)):SqT K H a xs:=.inl (.inl h)
theorem Inv.list (I:Inv X pins σ H s) (h:SqL X.K H a xs):∃ its:List Value,Vals xs its∧PlainL s.heap a its.toArray∧xs.length≤sizeLine:=by
  rcases h with h | ⟨o,its,n,hk,hc,hd,hs,hz,r⟩
  · obtain ⟨z,its,n,r,e⟩:=h.ok I.hok
    exact ⟨its,r,⟨_,n,e,rfl,rfl,rfl⟩,z⟩
  · refine ⟨its.toList,r,⟨o,n,I.kIn a o hk,hc,hd,by simpa using hs⟩,?_⟩
    have e:=r.length
    simp only [Array.length_toList] at e
    omega
theorem Inv.tuple (I:Inv X pins σ H s) (h:SqT X.K H a xs):∃ its:List Value,Vals xs its∧IsTup s.heap a its.toArray∧xs.length≤sizeLine:=by
  rcases h with h | ⟨o,its,n,hk,hc,hs,hz,r⟩
  · obtain ⟨z,its,r,p⟩:=h.ok I.hok
    exact ⟨its,r,p,z⟩
  · refine ⟨its.toList,r,⟨o,I.kIn a o hk,hc,n,by simpa using hs⟩,?_⟩
    have e:=r.length
    simp only [Array.length_toList] at e
    omega
theorem Inv.list_inj (I:Inv X pins σ H s) (h:SqL X.K H a xs) (h':SqL X.K H a ys):xs=ys:=by
  obtain ⟨its,r,⟨o,n,e,_,_,d⟩,_⟩:=I.list h
  obtain ⟨its',r',⟨o',n',e',_,_,d'⟩,_⟩:=I.list h'
  rw [e] at e'; cases e'
  rw [d] at d'
  injection d' with d1 _
  have:its=its':=by simpa using congrArg Array.toList d1
  subst this
  exact r.inj r'
end
abbrev Cx.wish (X:Cx) (E:Value→Shared→Prop):Cx:={ X with xe:=E }
abbrev Cx.nox (X:Cx):Cx:=X.wish fun _ _=>False
theorem Cx.Ok.wish {X:Cx} (ok:X.Ok) (E:Value→Shared→Prop):(X.wish E).Ok :=
  ⟨ok.mod,ok.kind,ok.glob,ok.blt,ok.above,ok.inj,ok.has,ok.cab,ok.hd,ok.frames,ok.stk,ok.exf,ok.bs,ok.bsz,ok.noex,ok.exfs,ok.funs,ok.frf,ok.tb⟩
theorem Cx.Ok.unwish {X:Cx} {E:Value→Shared→Prop} (ok:(X.wish E).Ok):X.Ok :=
  ⟨ok.mod,ok.kind,ok.glob,ok.blt,ok.above,ok.inj,ok.has,ok.cab,ok.hd,ok.frames,ok.stk,ok.exf,ok.bs,ok.bsz,ok.noex,ok.exfs,ok.funs,ok.frf,ok.tb⟩
section
variable {X:Cx} {pins:List (Addr×Obj)} {σ:St} {H:Hp} {s:Shared} {E:Value→Shared→Prop}
theorem Inv.wish (I:Inv X pins σ H s) (E:Value→Shared→Prop):Inv (X.wish E) pins σ H s:=⟨I.ok.wish E,I.os,I.bare,I.base,I.loc,I.cell,I.free,I.freeC,I.pin,I.hok,I.len⟩
theorem Inv.unwish (I:Inv (X.wish E) pins σ H s):Inv X pins σ H s:=⟨I.ok.unwish,I.os,I.bare,I.base,I.loc,I.cell,I.free,I.freeC,I.pin,I.hok,I.len⟩
theorem SP.unwish {D:Ends} {f:Flow} {s':Shared} (h:SP (X.wish E) pins D f s'):SP X pins D f s':=by
  cases f with
  | next=>obtain ⟨σ',H',I,q⟩:=h; exact ⟨σ',H',I.unwish,q⟩
  | brk=>obtain ⟨σ',H',I,q⟩:=h; exact ⟨σ',H',I.unwish,q⟩
  | cont=>obtain ⟨σ',H',I,q⟩:=h; exact ⟨σ',H',I.unwish,q⟩
  | ret u=>obtain ⟨v,σ',H',I,r,q⟩:=h; exact ⟨v,σ',H',I.unwish,r,q⟩
theorem PSs.nox {st:List Stmt} {t:TS} (h:PSs X.nox st t):PSs X st t:=fun pins s σ H D I hw =>
  wpAny_mono (h pins s σ H D (I.wish _) hw) (fun _ _ q=>q.unwish) fun _ _ z=>False.elim z
end
section
variable {X:Cx} {st:Stmt} {rest:List Stmt} {t u:TS} {e:Expr} {te:TE} {pos:Pos}
def tNext:TS:=fun D σ H=>D.nx σ H
def tSeq (t u:TS):TS:=fun D σ H=>t { D with nx:=u D } σ H
theorem pss_nil:PSs X [] tNext:=fun _ _ σ H _ I h=>wpAny_execs_nil ⟨σ,H,I,h⟩
theorem pss_cons (h1:PS X st t) (h2:PSs X rest u):PSs X (st :: rest) (tSeq t u):=by
  intro pins s σ H D I h
  refine wpAny_execs_cons (thn (h1 pins s σ H { D with nx:=u D } I h) fun f s1 q=>?_)
  cases f with
  | next =>
    obtain ⟨σ',H',I',q⟩:=q
    exact h2 pins s1 σ' H' D I' q
  | ret v=>exact q
  | brk=>exact q
  | cont=>exact q
theorem pss_one (h1:PS X st t):PSs X [st] t:=by
  intro pins s σ H D I h
  refine wpAny_execs_cons (thn (h1 pins s σ H D I h) fun f s1 q=>?_)
  cases f with
  | next=>exact wpAny_execs_nil q
  | ret v=>exact q
  | brk=>exact q
  | cont=>exact q
theorem Inv.quiet {pins:List (Addr×Obj)} {σ:St} {H:Hp} {s:Shared} (I:Inv X pins σ H s):interactive X.env=false:=by simp [interactive,I.ok.kind]
def tDrop (te:TE):TS:=fun D σ H=>te σ H fun _ H1=>D.nx σ H1
theorem ps_expr (he:PE X e te) (hs:swapsWith e none pos.line X.env=pure false:=by rfl):PS X (.Expr e pos) (tDrop te):=by
  intro pins s σ H D I h
  exact wpAny_Expr_any (thn (he pins s σ H _ I h) fun v s1 ⟨x,H1,I1,r1,q1⟩=>⟨σ,H1,I1,q1⟩) I.quiet hs
def tRet (te:TE):TS:=fun D σ H=>te σ H D.rt
theorem ps_ret (he:PE X e te):PS X (.Return (some e) pos) (tRet te):=by
  intro pins s σ H D I h
  exact wpAny_Return_some (thn (he pins s σ H _ I h) fun v s1 ⟨x,H1,I1,r1,q1⟩=>⟨x,σ,H1,I1,r1,q1⟩)
def tIfS (c:TT) (t u:TS):TS:=fun D σ H=>c σ H fun b H1=>if b=true then t D σ H1 else u D σ H1
theorem ps_if {c:Expr} {a b:List Stmt} {tc:TT} (hc:PT X c tc) (ha:PSs X a t) (hb:PSs X b u):PS X (.If c a b pos) (tIfS tc t u):=by
  intro pins s σ H D I h
  refine wpAny_If (thn (hc pins s σ H _ I h) fun d s1 ⟨H1,I1,q1⟩=>?_)
  cases d with
  | true=>exact ha pins s1 σ H1 D I1 q1
  | false=>exact hb pins s1 σ H1 D I1 q1
end
abbrev TG:=V→St→Hp→(St→Hp→Prop)→Prop
abbrev TGs:=List V→St→Hp→(St→Hp→Prop)→Prop
def PG (X:Cx) (target:Expr) (t:TG):Prop :=
  ∀ (pins:List (Addr×Obj)) (s:Shared) (σ:St) (H:Hp) (v:V) (u:Value) (Q:St→Hp→Prop),Inv X pins σ H s→RelV v u→t v σ H Q →
    wpAny (model X.prog X.w) X.A (assign target X.env u) (fun _ s'=>∃ σ' H',Inv X pins σ' H' s'∧Q σ' H') X.xe s
def PGs (X:Cx) (ts:List Expr) (t:TGs):Prop :=
  ∀ (pins:List (Addr×Obj)) (s:Shared) (σ:St) (H:Hp) (vs:List V) (us:List Value) (Q:St→Hp→Prop),Inv X pins σ H s→Vals vs us→t vs σ H Q →
    wpAny (model X.prog X.w) X.A (assignInOrder ((assignEach ts X.env).map (·.2)) us) (fun _ s'=>∃ σ' H',Inv X pins σ' H' s'∧Q σ' H') X.xe s
abbrev TSet:=V→V→V→Hp→(Hp→Prop)→Prop
def PSet (X:Cx) (t:TSet):Prop :=
  ∀ (pins:List (Addr×Obj)) (s:Shared) (σ:St) (H:Hp) (o i v:V) (ov iv u:Value) (Q:Hp→Prop),Inv X pins σ H s→RelV o ov→RelV i iv→RelV v u→t o i v H Q →
    wpAny (model X.prog X.w) X.A (setItem ov iv u) (fun _ s'=>∃ H',Inv X pins σ H' s'∧Q H') X.xe s
section
variable {X:Cx} {pos:Pos}
def gName (i:Nat):TG:=fun v σ H Q=>Q (σ.set i (some v)) H
theorem pg_name {i:Nat} {x:Str} (hN:X.N.Nodup) (hi:X.N[i]?=some x) (hx:Loc X.env.scope x) (hf:X.fn x=true∨X.env.scope.names.lookup x=some .local:=by first | exact .inl rfl | exact .inr rfl | assumption):PG X (.Name x pos) (gName i):=by
  intro pins s σ H v u Q I r h
  exact wpAny_assign_Name (store_ok I hN hi hx r (fun s' I'=>⟨_,H,I',h⟩) hf)
def gNil:TGs:=fun vs σ H Q=>vs=[]∧Q σ H
def gCons (t:TG) (u:TGs):TGs:=fun vs σ H Q=>∃ v r,vs=v :: r∧t v σ H fun σ' H'=>u r σ' H' Q
theorem pgs_nil:PGs X [] gNil:=by
  intro pins s σ H vs us Q I r h
  obtain ⟨e,h⟩:=h
  subst e
  cases r
  exact assignInOrder_nil ⟨σ,H,I,h⟩
theorem pgs_cons {e:Expr} {es:List Expr} {t:TG} {u:TGs} (h1:PG X e t) (h2:PGs X es u)
    (hs:(assignEach (e :: es) X.env).map (·.2)=assign e X.env :: (assignEach es X.env).map (·.2):=by rfl):PGs X (e :: es) (gCons t u):=by
  intro pins s σ H vs us Q I r h
  obtain ⟨v,vr,e1,h⟩:=h
  subst e1
  cases r with
  | cons r rr =>
    rw [hs]
    refine assignInOrder_cons (thn (h1 pins s σ H _ _ _ I r h) fun _ s1 ⟨σ1,H1,I1,q1⟩=>?_)
    exact h2 pins s1 σ1 H1 _ _ Q I1 rr q1
def gTup (K:PySem.W.Frag) (n:Nat) (t:TGs):TG:=fun v σ H Q=>∃ a xs,v=.ref a∧SqT K H a xs∧xs.length=n∧t xs σ H Q
theorem pg_tup {es:List Expr} {k:Nat} {t:TGs} {n:Nat} (hc:X.calm=true) (h:PGs X es t)
    (hn:(assignEach es X.env).length=n:=by rfl) (hst:(assignEach es X.env).findIdx? (·.1)=none:=by rfl):PG X (.Tuple es k pos) (gTup X.K n t):=by
  intro pins s σ H v u Q I r hw
  obtain ⟨a,xs,e1,hq,hl,hw⟩:=hw
  subst e1
  cases r
  obtain ⟨its,rv,ht,hz⟩:=I.tuple hq
  refine assign_Tuple_tuple (I.ok.hd hc) ht (by simp [hn,← hl,rv.length]) hst fun h' hx=>?_
  have I1:Inv X pins σ H { s with heap:=h' }:=I.kept (t':=s.toks) fun b o e=>hx b o (Nat.ne_of_lt (Heap.lt_size e)) e
  exact h pins _ σ H xs _ Q I1 (by simpa using rv) hw
def gSub (to ti:TE) (t:TSet):TG:=fun v σ H Q=>to σ H fun o H1=>ti σ H1 fun i H2=>t o i v H2 fun H3=>Q σ H3
theorem pg_sub {o i:Expr} {to ti:TE} {t:TSet} (ho:PE X o to) (hi:PE X i ti) (hs:PSet X t)
    (ha:∀ v,assign (.Subscript o i pos) X.env v=(do
      let ov ← holding [v] (eval o X.env)
      let iv ← holding [v,ov] (eval i X.env)
      standAt pos
      holding [v,ov,iv] (setItem ov iv v)
      release [v,ov,iv] []):=by intro _; rfl):PG X (.Subscript o i pos) (gSub to ti t):=by
  intro pins s σ H v u Q I r h
  rw [ha]
  refine wpAny_bind (wpAny_holding (thn (ho pins s σ H _ I h) fun ov s1 ⟨x,H1,I1,r1,q1⟩=>?_))
  refine wpAny_bind (wpAny_holding (thn (hi pins s1 σ H1 _ I1 q1) fun iv s2 ⟨y,H2,I2,r2,q2⟩=>?_))
  refine wpAny_bind (wpAny_standAt (wpAny_bind (wpAny_holding (thn (hs pins s2 σ H2 x y v ov iv u _ I2 r1 r2 r q2) fun _ s3 ⟨H3,I3,q3⟩=>?_))))
  exact wpAny_release ⟨σ,H3,I3,q3⟩
def tAsg (te:TE) (g:TG):TS:=fun D σ H=>te σ H fun x H1=>g x σ H1 D.nx
theorem ps_asg {tg e:Expr} {te:TE} {g:TG} (he:PE X e te) (hg:PG X tg g) (hs:swapsWithSole [tg] e pos.line X.env=pure false:=by rfl) (hw:swappedStores [tg] e X.env=pure none:=by rfl)
    (h1:(assignEach [tg] X.env).map (·.2)=[assign tg X.env]:=by rfl):PS X (.Assign [tg] e pos) (tAsg te g):=by
  intro pins s σ H D I h
  refine wpAny_Assign_stores (thn (he pins s σ H _ I h) fun v s1 ⟨x,H1,I1,r1,q1⟩=>?_) hs hw
  rw [h1]
  exact thn (hg pins s1 σ H1 x v _ I1 r1 q1) fun _ s2 q=>q
theorem ps_set {i:Nat} {x:Str} {e:Expr} {te:TE} {pos':Pos} (hN:X.N.Nodup) (hi:X.N[i]?=some x) (hx:Loc X.env.scope x) (he:PE X e te) (hs:swapsWith e (some (.Name x pos')) pos.line X.env=pure false:=by rfl) (hf:X.fn x=true∨X.env.scope.names.lookup x=some .local:=by first | exact .inl rfl | exact .inr rfl | assumption) :
    PS X (.Assign [.Name x pos'] e pos) (tAsg te (gName i)):=by
  intro pins s σ H D I h
  refine wpAny_Assign_Name (thn (he pins s σ H _ I h) fun v s1 ⟨y,H1,I1,r1,q1⟩=>?_) hs
  exact store_ok I1 hN hi hx r1 (fun s2 I2=>⟨_,H1,I2,q1⟩) hf
end
section
variable {X:Cx} {pos:Pos}
end
structure It where
  go:Nat→Hp→Prop
  yld:Nat→Hp→V→Hp→Prop
  stop:Nat→Hp→Prop
def FpOk (X:Cx) (pins:List (Addr×Obj)) (H:Hp) (b:Addr):Prop :=
  H b=none∧b≠X.env.locals∧b∉X.fs∧(b∈X.ex∨X.s₀.heap.objs.size≤b)∧(∀ x c,X.env.cells.lookup x=some c→c≠b)∧∀ p∈X.pn ++ pins,p.1≠b
theorem Inv.fpOk {X:Cx} {pins:List (Addr×Obj)} {σ:St} {H H':Hp} {s:Shared} {b:Addr} (I:Inv X pins σ H s) (hb:s.heap.objs.size≤b) (hn:H' b=none):FpOk X pins H' b:=by
  refine ⟨hn,Nat.ne_of_gt (Nat.lt_of_lt_of_le I.lt hb),I.nofs hb,.inr (Nat.le_trans I.sz hb),fun x c e z=>?_,fun p hp z=>?_⟩
  · obtain ⟨v,q⟩:=I.cell x c e
    exact absurd (Nat.lt_of_lt_of_le q.lt (by rw [z]; exact hb)) (Nat.lt_irrefl _)
  · exact absurd (Nat.lt_of_lt_of_le (Heap.lt_size (I.pin p hp).1) (by rw [z]; exact hb)) (Nat.lt_irrefl _)
structure Turn (P:Program) (w:World) (K:PySem.W.Frag) (tg:Expr) (J:It) (fp:List Addr) (it:Addr) (tn:Nat→Heap→Prop):Prop where
  mem:it∈fp
  obj:∀ i h,tn i h→∀ b∈fp,∃ o,h.get? b=some o∧∀ v,o.data≠.cell v
  keep:∀ i h h',tn i h→(∀ b∈fp,∀ o,h.get? b=some o→h'.get? b=some o)→tn i h'
  item:∀ (X:Cx),X.prog=P→X.w=w→X.K=K→X.calm=true→∀ (i:Nat) (pins:List (Addr×Obj)) (s:Shared) (σ:St) (H:Hp) (E:Value→Shared→Prop),Inv X pins σ H s→(∀ b∈fp,FpOk X pins H b)→tn i s.heap→J.go i H →
    wpAny (model P w) X.A (pyNext (.ref it)) (fun r s1=>∃ u,r=some u ∧
      wpAny (model P w) X.A (letOwnedTupleGo tg (.ref it) u) (fun _ s2=>∃ x H',Inv X pins σ H' s2∧RelV x u∧J.yld i H x H'∧tn (i + 1) s2.heap∧∀ b∈fp,H' b=none) E s1) E s
  done:∀ (X:Cx),X.prog=P→X.w=w→X.K=K→X.calm=true→∀ (i:Nat) (pins:List (Addr×Obj)) (s:Shared) (σ:St) (H:Hp) (E:Value→Shared→Prop),Inv X pins σ H s→(∀ b∈fp,FpOk X pins H b)→tn i s.heap→J.stop i H →
    wpAny (model P w) X.A (pyNext (.ref it)) (fun r s1=>r=none∧Inv X pins σ H s1) E s
  self:∀ (A:Around) (i:Nat) (s:Shared) (Q:Value→Shared→Prop) (E:Value→Shared→Prop),tn i s.heap→Q (.ref it) s→wpAny (model P w) A (pyIter (.ref it)) Q E s
abbrev TI:=St→Hp→(It→Hp→Prop)→Prop
def PIE (X:Cx) (pins:List (Addr×Obj)) (σ:St) (tg:Expr) (R:It→Hp→Prop) (itv:Value) (s2:Shared):Prop :=
  ∃ (it:Addr) (fp:List Addr) (tn:Nat→Heap→Prop) (J:It) (H':Hp),itv=.ref it∧Inv X pins σ H' s2∧Turn X.prog X.w X.K tg J fp it tn∧tn 0 s2.heap∧(∀ b∈fp,FpOk X pins H' b)∧R J H'
def PI (X:Cx) (tg iter:Expr) (wi:TI):Prop :=
  ∀ (pins:List (Addr×Obj)) (s:Shared) (σ:St) (H:Hp) (R:It→Hp→Prop),Inv X pins σ H s→wi σ H R →
    wpAny (model X.prog X.w) X.A (eval iter X.env) (fun v s1=>wpAny (model X.prog X.w) X.A (pyIter v) (PIE X pins σ tg R) X.xe s1) X.xe s
theorem go_of {M:Model} {A:Around} {E:Value→Shared→Prop} {s:Shared} {tg:Expr} {it:Addr} {u:Value} {o:Obj} {n:String} {vs:Array Value} {Q:Unit→Shared→Prop} (ho:s.heap.get? it=some o) (hc:o.cls=.type n) (hd:o.data=.fields vs)
    (hn:["enumerate", "zip", "dict_itemiterator", "dict_reverseitemiterator", "odict_iterator", "itertools.zip_longest", "itertools.pairwise"].contains n=false) (hQ:Q () s):wpAny M A (letOwnedTupleGo tg (.ref it) u) Q E s:=by
  unfold letOwnedTupleGo
  cases tg <;> first
    | exact wpAny_pure hQ
    | (cases u <;> first
        | exact wpAny_pure hQ
        | (refine wpAny_bind (wpAny_load ho ?_)
           rw [hc,hd]
           show wpAny M A (if (["enumerate", "zip", "dict_itemiterator", "dict_reverseitemiterator", "odict_iterator", "itertools.zip_longest", "itertools.pairwise"].contains n && vs[0]? == some (rawInt _))=true then _ else _) Q E s
           rw [if_neg (by intro h; rw [hn,Bool.false_and] at h; cases h)]
           exact wpAny_pure hQ))
def Itl (K:PySem.W.Frag) (a:Addr):It :=
  ⟨fun i H=>∃ xs x,SqL K H a xs∧xs[i]?=some x,fun i H x H'=>H'=H∧∀ xs,SqL K H a xs→xs[i]?=some x,fun i H=>∃ xs,SqL K H a xs∧xs.length≤i⟩
def Itr (lo:Int) (n:Nat):It:=⟨fun i _=>i < n,fun i H x H'=>H'=H∧x=.int (lo + i),fun i _=>n≤i⟩
theorem turn_list {P:Program} {w:World} {K:PySem.W.Frag} {tg:Expr} (a it:Addr):Turn P w K tg (Itl K a) [it] it (fun i h=>h.IsListIter it a i) where
  mem:=by simp
  obj:=fun i h st b hb=>by
    have e:b=it:=by simpa using hb
    subst e
    obtain ⟨o,e,c,d⟩:=st
    exact ⟨o,e,fun v z=>by rw [d] at z; cases z⟩
  keep:=fun i h h' st k=>st.at fun o e=>k it (by simp) o e
  item:=by
    intro X hP hw hK hc i pins s σ H E I hf st hg
    subst hP hw hK
    obtain ⟨xs,x,hq,hx⟩:=hg
    obtain ⟨its,rv,p,hz⟩:=I.list hq
    obtain ⟨u,hu,ru⟩:=rv.get hx
    obtain ⟨f0,f1,f2,f3,f4,f5⟩:=hf it (by simp)
    refine wpAny_pyNext_list_item st p.isList (x:=u) (by simpa using hu) fun h' st' sb=>?_
    have I1:Inv X pins σ H { s with heap:=h' }:=I.turned (t':=s.toks) (fun b o hb e=>(sb.2 b hb).trans e) f0 f1 f3 f4 f5
    obtain ⟨o,e,c,d⟩:=id st'
    exact ⟨u,rfl,go_of (s:={ s with heap:=h' }) e c d (by decide) ⟨x,H,I1,ru,⟨rfl,fun ys hy=>by rw [I.list_inj hy hq]; exact hx⟩,st',fun b hb=>(hf b hb).1⟩⟩
  done:=by
    intro X hP hw hK hc i pins s σ H E I hf st hg
    subst hP hw hK
    obtain ⟨xs,hq,hx⟩:=hg
    obtain ⟨its,rv,p,hz⟩:=I.list hq
    obtain ⟨f0,f1,f2,f3,f4,f5⟩:=hf it (by simp)
    have hl:=rv.length
    exact wpAny_pyNext_list_end (I.ok.hd hc) st p.isList (by simp; omega) fun h' eb=>⟨rfl,I.turned (t':=s.toks) (fun b o hb e=>eb b o hb e) f0 f1 f3 f4 f5⟩
  self:=fun _ _ _ _ _ st h=>wpAny_pyIter_listiter st h
theorem turn_range {P:Program} {w:World} {K:PySem.W.Frag} {tg:Expr} (it:Addr) (lo:Int) (n:Nat):Turn P w K tg (Itr lo n) [it] it (fun i h=>IsRangeIter h it (lo + (i:Nat) * 1) ((n:Int) - (i:Nat)) 1) where
  mem:=by simp
  obj:=fun i h st b hb=>by
    have e:b=it:=by simpa using hb
    subst e
    exact ⟨_,st,fun v z=>by
      have z':Data.fields _=Data.cell v:=z
      cases z'⟩
  keep:=fun i h h' st k=>k it (by simp) _ st
  item:=by
    intro X hP hw hK hc i pins s σ H E I hf st hg
    subst hP hw hK
    obtain ⟨f0,f1,f2,f3,f4,f5⟩:=hf it (by simp)
    have W:=Walks.range (prog:=X.prog) (w:=X.w) (I.ok.hd hc) it lo 1 n
    refine W.item i s _ _ hg st fun v h' tk hv st' kk=>?_
    obtain ⟨t,rfl⟩:=hv
    have I1:Inv X pins σ H { s with heap:=h',toks:=tk }:=I.turned (fun b o hb e=>kk b o (by simpa using hb) e) f0 f1 f3 f4 f5
    refine ⟨_,rfl,go_of (s:={ s with heap:=h',toks:=tk }) (n := "range_iterator") st' rfl rfl (by decide) ⟨.int (lo + i),H,I1,⟨t,?_⟩,⟨rfl,rfl⟩,st',fun b hb=>(hf b hb).1⟩⟩
    rw [Int.mul_one]
  done:=by
    intro X hP hw hK hc i pins s σ H E I hf st hg
    subst hP hw hK
    obtain ⟨f0,f1,f2,f3,f4,f5⟩:=hf it (by simp)
    exact wpAny_pyNext_range_end (I.ok.hd hc) st (by have:n≤i:=hg; omega) fun h' eb=>⟨rfl,I.turned (t':=s.toks) (fun b o hb e=>eb b o hb e) f0 f1 f3 f4 f5⟩
  self:=fun _ _ _ _ _ st h=>wpAny_pyIter_rangeiter st h
end L2
namespace L2
open PySem PySem.Spec PyProof.Rows
section
variable {X:Cx} {tg:Expr}
def iList (K:PySem.W.Frag) (tl:TE):TI:=fun σ H R=>tl σ H fun x H1=>∃ a,x=.ref a∧(∃ xs,SqL K H1 a xs)∧R (Itl K a) H1
theorem pi_list {l:Expr} {tl:TE} (hl:PE X l tl):PI X tg l (iList X.K tl):=by
  intro pins s σ H R I h
  refine thn (hl pins s σ H _ I h) fun v s1 ⟨x,H1,I1,r1,q1⟩=>?_
  obtain ⟨a,e,⟨xs,hq⟩,q⟩:=q1
  subst e
  cases r1
  obtain ⟨its,rv,p,hz⟩:=I1.list hq
  refine wpAny_pyIter_list p.isList ?_
  refine ⟨s1.heap.objs.size,[s1.heap.objs.size],_,_,H1,rfl,I1.kept (t':=s1.toks) fun b o e=>Heap.get?_push_of_some _ e,turn_list a _,⟨_,Heap.get?_push_size _ rfl,rfl,rfl⟩,fun b hb=>?_,q⟩
  have e:b=s1.heap.objs.size:=by simpa using hb
  subst e
  exact I1.fpOk (Nat.le_refl _) (I1.hok.fresh (Nat.le_refl _))
theorem range_it {pins:List (Addr×Obj)} {σ:St} {H:Hp} {s:Shared} {R:It→Hp→Prop} {E:Value→Shared→Prop} {lo hi:Int} {t u v:Tok} {tk:Nat} (I:Inv X pins σ H s) (h1:-(2 ^ 62)≤lo) (h2:lo < 2 ^ 62) (h3:-(2 ^ 62)≤hi) (h4:hi < 2 ^ 62)
    (q:R (Itr lo (hi - lo).toNat) H):wpAny (model X.prog X.w) X.A (pyIter (.ref s.heap.objs.size)) (PIE X pins σ tg R) E { s with heap:=s.heap.push { cls:=.type "range", data:=.fields #[.int lo t,.int hi u,.int 1 v] },toks:=tk }:=by
  refine wpAny_pyIter_range (IsRange.new ..) (small_one h1 h2 h3 h4) ?_
  have I1:Inv X pins σ H { s with heap:=s.heap.push { cls:=.type "range", data:=.fields #[.int lo t,.int hi u,.int 1 v] },toks:=tk }:=I.kept fun b o e=>Heap.get?_push_of_some _ e
  refine ⟨(s.heap.push { cls:=.type "range", data:=.fields #[.int lo t,.int hi u,.int 1 v] }).objs.size,[(s.heap.push { cls:=.type "range", data:=.fields #[.int lo t,.int hi u,.int 1 v] }).objs.size],_,_,H,rfl,
    I1.kept (t':=tk) fun b o e=>Heap.get?_push_of_some _ e,turn_range _ lo (hi - lo).toNat,?_,fun b hb=>?_,q⟩
  · have e1:lo + ((0:Nat):Int) * 1=lo:=by simp
    have e2:(((hi - lo).toNat:Nat):Int) - ((0:Nat):Int)=Builtin.Range.rangeSize lo hi 1:=by rw [rangeSize_one]; split <;> omega
    show IsRangeIter _ _ (lo + ((0:Nat):Int) * 1) ((((hi - lo).toNat:Nat):Int) - ((0:Nat):Int)) 1
    rw [e1,e2]
    exact Heap.get?_push_size _ rfl
  · have e:b=(s.heap.push { cls:=.type "range", data:=.fields #[.int lo t,.int hi u,.int 1 v] }).objs.size:=by simpa using hb
    subst e
    exact I1.fpOk (Nat.le_refl _) (I1.hok.fresh (Nat.le_refl _))
def iRng1 (ta:TA):TI:=fun σ H R=>ta σ H fun vs H1=>∃ j:Int,vs=[.int j]∧-(2 ^ 62)≤j∧j < 2 ^ 62∧R (Itr 0 j.toNat) H1
theorem pi_range1 {a:Expr} {ta:TA} {p pos:Pos} (hg:Gl X "range") (hm:X.mg "range" = none) (ha:PA X [a] ta) (hs:starEach [a] X.env=[(false,eval a X.env)]:=by rfl):PI X tg (.Call (.Name "range" p) [a] [] pos) (iRng1 ta):=by
  intro pins s σ H R I h
  refine Call_ (ld_blt I hg hm boot_range (PyProof.Rows.callWith_type1 (thn (ha pos pins s σ H _ I h) fun us s1 ⟨vs,H1,I1,r1,q1⟩=>?_) hs rfl))
  obtain ⟨j,e,q1,q2,q⟩:=q1
  subst e
  cases r1 with
  | cons r rr =>
    cases rr
    obtain ⟨t,rfl⟩:=r
    exact call_range_1 (range_it I1 (by omega) (by omega) q1 q2 (by simpa using q))
def tFor (wi:TI) (g:TG) (tb:TS):TS:=fun D σ H=>wi σ H fun J H1=>∃ W:Nat→Nat→St→Hp→Prop,(∃ m,W 0 m σ H1)∧∀ i m σ H,W i m σ H →
  (J.stop i H∧D.nx σ H)∨(J.go i H∧∃ N:St→Hp→Prop,(∀ σ' H',N σ' H'→∃ m',m' < m∧W (i + 1) m' σ' H')∧∀ x H',J.yld i H x H'→g x σ H' fun σ2 H2=>tb { D with nx:=N,ct:=N,bk:=D.nx } σ2 H2)
def pinsAt (fp:List Addr) (h:Heap):List (Addr×Obj):=fp.filterMap fun b=>(h.get? b).map fun o=>(b,o)
theorem mem_pinsAt {fp:List Addr} {h:Heap} {b:Addr} {o:Obj} (hb:b∈fp) (e:h.get? b=some o):(b,o)∈pinsAt fp h:=List.mem_filterMap.mpr ⟨b,hb,by rw [e]; rfl⟩
theorem of_pinsAt {fp:List Addr} {h:Heap} {p:Addr×Obj} (hp:p∈pinsAt fp h):p.1∈fp∧h.get? p.1=some p.2:=by
  obtain ⟨b,hb,e⟩:=List.mem_filterMap.mp hp
  cases q:h.get? b with
  | none=>rw [q] at e; cases e
  | some o =>
    rw [q] at e
    have e':(b,o)=p:=Option.some.inj e
    subst e'
    exact ⟨hb,q⟩
theorem Inv.pinned {pins:List (Addr×Obj)} {σ:St} {H:Hp} {s:Shared} {fp:List Addr} (I:Inv X pins σ H s) (hf:∀ b∈fp,FpOk X pins H b) (ho:∀ b∈fp,∃ o,s.heap.get? b=some o∧∀ v,o.data≠.cell v):Inv X (pins ++ pinsAt fp s.heap) σ H s :=
  I.pins_of fun p hp=>(List.mem_append.mp hp).elim (fun z=>I.pin p (List.mem_append_right _ z)) fun z=>by
    obtain ⟨hb,e⟩:=of_pinsAt z
    obtain ⟨f0,f1,f2,_⟩:=hf p.1 hb
    obtain ⟨o,e',d⟩:=ho p.1 hb
    rw [e] at e'; cases e'
    exact ⟨e,f0,f1,f2,d⟩
theorem Inv.unpinned {pins pl:List (Addr×Obj)} {σ:St} {H:Hp} {s:Shared} (I:Inv X (pins ++ pl) σ H s):Inv X pins σ H s:=I.pins_of fun p hp=>I.pin p (List.mem_append_right _ (List.mem_append_left _ hp))
theorem ps_for {iter:Expr} {body:List Stmt} {wi:TI} {g:TG} {tb:TS} {pos:Pos} (hp:PassesOwn (model X.prog X.w) X.A X.env X.xe) (hc:X.calm=true) (hi:PI X tg iter wi) (hg:PG X tg g) (hb:PSs X body tb)
    (hs:∀ x,foldedSetIterable iter X.env x=pure x:=by intro _; rfl):PS X (.For tg iter body [] pos) (tFor wi g tb):=by
  intro pins s σ H D I h
  refine wpAny_For (thn (hi pins s σ H _ I h) fun v s1 h1=>thn h1 fun itv s2 h2=>?_) hs
  obtain ⟨it,fp,tn,J,H2,e,I2,T,st2,f2,W,⟨m0,w0⟩,turn⟩:=h2
  subst e
  have stat:∀ {H':Hp},(∀ b∈fp,H' b=none)→∀ b∈fp,FpOk X pins H' b:=fun hn b hb=>⟨hn b hb,(f2 b hb).2⟩
  refine codeAny_forLoop_any (fun n s'=>∃ i σ' H',Inv X pins σ' H' s'∧tn i s'.heap∧(∀ b∈fp,H' b=none)∧W i n σ' H') ?_ m0 ⟨0,σ,H2,I2,st2,fun b hb=>(f2 b hb).1,w0⟩
  rintro n s3 ⟨i,σ3,H3,I3,st3,fr3,w3⟩
  rcases turn i n σ3 H3 w3 with ⟨stop,qn⟩ | ⟨go,N,hN,step⟩
  · refine wpAny_passesOwn hp (thn (T.done X rfl rfl rfl hc i pins s3 σ3 H3 X.xe I3 (stat fr3) st3 stop) fun r s4 ⟨hr,I4⟩=>?_)
    subst hr
    exact wpAny_execs_nil ⟨σ3,H3,I4,qn⟩
  · refine wpAny_passesOwn hp (thn (T.item X rfl rfl rfl hc i pins s3 σ3 H3 X.xe I3 (stat fr3) st3 go) fun r s4 ⟨u,hr,h4⟩=>?_)
    subst hr
    refine wpAny_passesOwn hp (thn h4 fun _ s5 ⟨x,H5,I5,r5,y5,st5,fr5⟩=>?_)
    have I5':=I5.pinned (stat fr5) (T.obj _ _ st5)
    refine wpAny_passesOwn hp (thn (hg _ s5 σ3 H5 x u _ I5' r5 (step x H5 y5)) fun _ s6 ⟨σ6,H6,I6,q6⟩=>?_)
    refine wpAny_passesOwn hp (thn (hb _ s6 σ6 H6 _ I6 q6) fun f s7 q7=>?_)
    have again:∀ {σ7:St} {H7:Hp},Inv X (pins ++ pinsAt fp s5.heap) σ7 H7 s7→N σ7 H7→∃ m,m < n∧∃ i σ' H',Inv X pins σ' H' s7∧tn i s7.heap∧(∀ b∈fp,H' b=none)∧W i m σ' H':=fun {σ7 H7} I7 n7=>by
      obtain ⟨m',hm,w7⟩:=hN σ7 H7 n7
      refine ⟨m',hm,i + 1,σ7,H7,I7.unpinned,T.keep _ _ _ st5 fun b hb o e=>(I7.pin (b,o) (List.mem_append_right _ (List.mem_append_right _ (mem_pinsAt hb e)))).1,fun b hb=>?_,w7⟩
      obtain ⟨o,e,d⟩:=T.obj _ _ st5 b hb
      exact (I7.pin (b,o) (List.mem_append_right _ (List.mem_append_right _ (mem_pinsAt hb e)))).2.1
    cases f with
    | next=>obtain ⟨σ7,H7,I7,n7⟩:=q7; exact again I7 n7
    | cont=>obtain ⟨σ7,H7,I7,n7⟩:=q7; exact again I7 n7
    | brk=>obtain ⟨σ7,H7,I7,q7⟩:=q7; exact ⟨σ7,H7,I7.unpinned,q7⟩
    | ret v=>obtain ⟨x7,σ7,H7,I7,r7,q7⟩:=q7; exact ⟨x7,σ7,H7,I7.unpinned,r7,q7⟩
end
end L2
namespace L2
open PySem PySem.Spec PyProof.Rows
abbrev R2:=V→V→Hp→VK→Prop
def OpR (X:Cx) (f:Value→Value→Sem Value) (r:R2):Prop :=
  ∀ (pins:List (Addr×Obj)) (s:Shared) (σ:St) (H:Hp) (x y:V) (v u:Value) (Q:VK),Inv X pins σ H s→RelV x v→RelV y u→r x y H Q →
    wpAny (model X.prog X.w) X.A (f v u) (EP X pins σ Q) X.xe s
def CallR (X:Cx) (f:Value) (r:List V→Hp→VK→Prop):Prop :=
  ∀ (pins:List (Addr×Obj)) (s:Shared) (σ:St) (H:Hp) (xs:List V) (us:List Value) (Q:VK),Inv X pins σ H s→Vals xs us→r xs H Q →
    wpAny (model X.prog X.w) X.A (call f us) (EP X pins σ Q) X.xe s
def tOp (r:R2) (ta tb:TE):TE:=fun σ H Q=>ta σ H fun x H1=>tb σ H1 fun y H2=>r x y H2 Q
def rI (C:Int→Int→Prop) (g:Int→Int→V):R2:=fun x y H Q=>∃ i j,x=.int i∧y=.int j∧C i j∧Q (g i j) H
def rI0 (g:Int→Int→V):R2:=fun x y H Q=>∃ i j,x=.int i∧y=.int j∧Q (g i j) H
section
variable {X:Cx} {a b c:Expr} {ta tb tc:TE} {pos:Pos}
theorem binT (ha:PE X a ta) (hb:PE X b tb) {pins:List (Addr×Obj)} {s:Shared} {σ:St} {H:Hp} {R:V→V→Hp→Prop} (I:Inv X pins σ H s)
    (h:ta σ H fun x H1=>tb σ H1 fun y H2=>R x y H2) {Q:Value→Shared→Prop} {f:Value→Value→Sem Value}
    (hf:∀ v u s2 x y H2,Inv X pins σ H2 s2→RelV x v→RelV y u→R x y H2→wpAny (model X.prog X.w) X.A (f v u) Q X.xe s2) :
    wpAny (model X.prog X.w) X.A (eval a X.env) (fun v s₁=>wpAny (model X.prog X.w) X.A (eval b X.env) (fun u s₂=>wpAny (model X.prog X.w) X.A (f v u) Q X.xe s₂) X.xe s₁) X.xe s:=by
  refine thn (ha pins s σ H _ I h) fun v s1 ⟨x,H1,I1,r1,q1⟩=>?_
  refine thn (hb pins s1 σ H1 _ I1 q1) fun u s2 ⟨y,H2,I2,r2,q2⟩=>?_
  exact hf v u s2 x y H2 I2 r1 r2 q2
theorem pe_op {op:Operator} {r:R2} (ho:OpR X (binaryOp op) r) (ha:PE X a ta) (hb:PE X b tb):PE X (.BinOp a op b pos) (tOp r ta tb):=by
  intro pins s σ H Q I h
  exact wpAny_BinOp (binT ha hb I h fun v u s2 x y H2 I2 rx ry q=>ho pins s2 σ H2 x y v u Q I2 rx ry q)
theorem opI {f:Value→Value→Sem Value} {C:Int→Int→Prop} {g:Int→Int→Int}
    (rule:∀ (i j:Int) (t u:Tok) (s:Shared) (Q:Value→Shared→Prop) (E:Value→Shared→Prop),C i j→Q (.int (g i j) s.toks) { s with toks:=s.toks + 1 }→wpAny (model X.prog X.w) X.A (f (.int i t) (.int j u)) Q E s) :
    OpR X f (rI C fun i j=>.int (g i j)):=by
  intro pins s σ H x y v u Q I rx ry h
  obtain ⟨i,j,rfl,rfl,hc,q⟩:=h
  obtain ⟨t,rfl⟩:=rx
  obtain ⟨t',rfl⟩:=ry
  exact rule i j t t' s _ _ hc ⟨.int (g i j),H,I.tok _,⟨_,rfl⟩,q⟩
theorem opI0 {f:Value→Value→Sem Value} {g:Int→Int→Int}
    (rule:∀ (i j:Int) (t u:Tok) (s:Shared) (Q:Value→Shared→Prop) (E:Value→Shared→Prop),Q (.int (g i j) s.toks) { s with toks:=s.toks + 1 }→wpAny (model X.prog X.w) X.A (f (.int i t) (.int j u)) Q E s) :
    OpR X f (rI0 fun i j=>.int (g i j)):=by
  intro pins s σ H x y v u Q I rx ry h
  obtain ⟨i,j,rfl,rfl,q⟩:=h
  obtain ⟨t,rfl⟩:=rx
  obtain ⟨t',rfl⟩:=ry
  exact rule i j t t' s _ _ ⟨.int (g i j),H,I.tok _,⟨_,rfl⟩,q⟩
theorem opB0 {f:Value→Value→Sem Value} {g:Int→Int→Bool}
    (rule:∀ (i j:Int) (t u:Tok) (s:Shared) (Q:Value→Shared→Prop) (E:Value→Shared→Prop),Q (.bool (g i j)) s→wpAny (model X.prog X.w) X.A (f (.int i t) (.int j u)) Q E s) :
    OpR X f (rI0 fun i j=>.bl (g i j)):=by
  intro pins s σ H x y v u Q I rx ry h
  obtain ⟨i,j,rfl,rfl,q⟩:=h
  obtain ⟨t,rfl⟩:=rx
  obtain ⟨t',rfl⟩:=ry
  exact rule i j t t' s _ _ ⟨.bl (g i j),H,I,rfl,q⟩
def CDiv (i j:Int):Prop:=0 < j∧j < 1073741824
def CPow (i j:Int):Prop:=0≤j∧j≤1000000∧i.natAbs < 2 ^ 64
theorem op_add:OpR X (binaryOp .Add) (rI0 fun i j=>.int (i + j)):=opI0 fun _ _ _ _ _ _ _ q=>add_int q
theorem op_sub:OpR X (binaryOp .Sub) (rI0 fun i j=>.int (i - j)):=opI0 fun _ _ _ _ _ _ _ q=>sub_int q
theorem op_fdiv:OpR X (binaryOp .FloorDiv) (rI CDiv fun i j=>.int (i / j)):=opI fun i j _ _ _ _ _ hc q=>by
  have h1:(0:Int) < j:=hc.1
  have h2:j < 1073741824:=hc.2
  exact floordiv_int (by omega) (by rw [Int.fdiv_eq_ediv_of_nonneg i (by omega)]; exact q) (.inl (PyProof.noPylong_small (by omega)))
theorem op_mod:OpR X (binaryOp .Mod) (rI (fun _ j=>0 < j) fun i j=>.int (i % j)):=opI fun i j _ _ _ _ _ hc q=>by
  have h1:(0:Int) < j:=hc
  exact mod_int' (by omega) (by rw [Int.fmod_eq_emod_of_nonneg i (by omega)]; exact q)
theorem op_pow:OpR X (binaryOp .Pow) (rI CPow fun i j=>.int (i ^ j.toNat)):=opI fun _ _ _ _ _ _ _ hc q=>pow_int_small hc.1 hc.2.1 hc.2.2 q
end
def scal:V→V→Bool
  | .non,.non=>true | .non,.int _=>true | .int _,.non=>true | .non,.bl _=>true | .bl _,.non=>true | .non,.str _=>true | .str _,.non=>true
  | .int _,.int _=>true | .bl _,.bl _=>true | .str _,.str _=>true | .byt _,.byt _=>true
  | .int _,.str _=>true | .str _,.int _=>true | .bl _,.str _=>true | .str _,.bl _=>true
  | _,_=>false
def rEq:R2:=fun x y H Q=>scal x y=true∧Q (.bl (decide (x=y))) H
def rNe:R2:=fun x y H Q=>scal x y=true∧Q (.bl (!decide (x=y))) H
theorem dec_int {i j:Int}:decide (V.int i=V.int j)=(i == j):=by
  rw [Bool.eq_iff_iff]
  simp
theorem dec_bl {i j:Bool}:decide (V.bl i=V.bl j)=(i == j):=by
  rw [Bool.eq_iff_iff]
  simp
theorem dec_str {i j:Str}:decide (V.str i=V.str j)=(i == j):=by
  rw [Bool.eq_iff_iff]
  simp
theorem dec_byt {i j:Array UInt8}:decide (V.byt i=V.byt j)=(i.toList == j.toList):=by
  rw [Bool.eq_iff_iff]
  cases i
  cases j
  simp
section
variable {X:Cx} {a b c:Expr} {ta tb tc:TE} {pos:Pos}
theorem fin_bl {pins:List (Addr×Obj)} {σ:St} {H:Hp} {s:Shared} {Q:VK} {k k':Bool} (I:Inv X pins σ H s) (q:Q (.bl k) H) (e:k=k'):EP X pins σ Q (.bool k') s:=by
  subst e
  exact ⟨.bl k,H,I,rfl,q⟩
theorem op_eq:OpR X (compareOp .Eq) rEq:=by
  intro pins s σ H x y v u Q I rx ry h
  obtain ⟨hs,q⟩:=h
  cases x with
  | non =>
    cases rx
    cases y with
    | non=>cases ry; exact PySem.EqNone.eq_none_none (fin_bl I q (by simp))
    | bl j=>cases ry; exact PySem.EqNone.eq_none_bool (fin_bl I q (by simp))
    | int j=>obtain ⟨t',rfl⟩:=ry; exact PySem.EqNone.eq_none_int (fin_bl I q (by simp))
    | str j=>obtain ⟨t',rfl⟩:=ry; exact PySem.EqNone.eq_none_str (fin_bl I q (by simp))
    | _=>exact absurd (show false=true from hs) Bool.false_ne_true
  | bl i =>
    cases rx
    cases y with
    | non=>cases ry; exact PySem.EqNone.eq_bool_none (fin_bl I q (by simp))
    | bl j=>cases ry; exact eq_bool (fin_bl I q dec_bl)
    | str j=>obtain ⟨t',rfl⟩:=ry; exact PySem.EqMixed.eq_bool_str (fin_bl I q (by simp))
    | _=>exact absurd (show false=true from hs) Bool.false_ne_true
  | int i =>
    obtain ⟨t,rfl⟩:=rx
    cases y with
    | non=>cases ry; exact PySem.EqNone.eq_int_none (fin_bl I q (by simp))
    | int j=>obtain ⟨t',rfl⟩:=ry; exact eq_int (fin_bl I q dec_int)
    | str j=>obtain ⟨t',rfl⟩:=ry; exact PySem.EqMixed.eq_int_str (fin_bl I q (by simp))
    | _=>exact absurd (show false=true from hs) Bool.false_ne_true
  | str i =>
    obtain ⟨t,rfl⟩:=rx
    cases y with
    | non=>cases ry; exact PySem.EqNone.eq_str_none (fin_bl I q (by simp))
    | bl j=>cases ry; exact PySem.EqMixed.eq_str_bool (fin_bl I q (by simp))
    | int j=>obtain ⟨t',rfl⟩:=ry; exact PySem.EqMixed.eq_str_int (fin_bl I q (by simp))
    | str j=>obtain ⟨t',rfl⟩:=ry; exact eq_str (fin_bl I q dec_str)
    | _=>exact absurd (show false=true from hs) Bool.false_ne_true
  | byt i =>
    obtain ⟨t,rfl⟩:=rx
    cases y with
    | byt j=>obtain ⟨t',rfl⟩:=ry; exact PySem.W.eq_bytes (fin_bl I q dec_byt)
    | _=>exact absurd (show false=true from hs) Bool.false_ne_true
  | _=>cases y <;> exact absurd (show false=true from hs) Bool.false_ne_true
theorem op_ne:OpR X (compareOp .NotEq) rNe:=by
  intro pins s σ H x y v u Q I rx ry h
  obtain ⟨hs,q⟩:=h
  cases x with
  | non =>
    cases rx
    cases y with
    | non=>cases ry; exact PySem.EqNone.ne_none_none (fin_bl I q (by simp))
    | bl j=>cases ry; exact PySem.EqNone.ne_none_bool (fin_bl I q (by simp))
    | int j=>obtain ⟨t',rfl⟩:=ry; exact PySem.EqNone.ne_none_int (fin_bl I q (by simp))
    | str j=>obtain ⟨t',rfl⟩:=ry; exact PySem.EqNone.ne_none_str (fin_bl I q (by simp))
    | _=>exact absurd (show false=true from hs) Bool.false_ne_true
  | bl i =>
    cases rx
    cases y with
    | non=>cases ry; exact PySem.EqNone.ne_bool_none (fin_bl I q (by simp))
    | bl j=>cases ry; exact ne_bool (fin_bl I q (congrArg not dec_bl))
    | str j=>obtain ⟨t',rfl⟩:=ry; exact PySem.EqMixed.ne_bool_str (fin_bl I q (by simp))
    | _=>exact absurd (show false=true from hs) Bool.false_ne_true
  | int i =>
    obtain ⟨t,rfl⟩:=rx
    cases y with
    | non=>cases ry; exact PySem.EqNone.ne_int_none (fin_bl I q (by simp))
    | int j=>obtain ⟨t',rfl⟩:=ry; exact ne_int (fin_bl I q (congrArg not dec_int))
    | str j=>obtain ⟨t',rfl⟩:=ry; exact PySem.EqMixed.ne_int_str (fin_bl I q (by simp))
    | _=>exact absurd (show false=true from hs) Bool.false_ne_true
  | str i =>
    obtain ⟨t,rfl⟩:=rx
    cases y with
    | non=>cases ry; exact PySem.EqNone.ne_str_none (fin_bl I q (by simp))
    | bl j=>cases ry; exact PySem.EqMixed.ne_str_bool (fin_bl I q (by simp))
    | int j=>obtain ⟨t',rfl⟩:=ry; exact PySem.EqMixed.ne_str_int (fin_bl I q (by simp))
    | str j=>obtain ⟨t',rfl⟩:=ry; exact ne_str (fin_bl I q (congrArg not dec_str))
    | _=>exact absurd (show false=true from hs) Bool.false_ne_true
  | byt i =>
    obtain ⟨t,rfl⟩:=rx
    cases y with
    | byt j=>obtain ⟨t',rfl⟩:=ry; exact PySem.W.ne_bytes (fin_bl I q (congrArg not dec_byt))
    | _=>exact absurd (show false=true from hs) Bool.false_ne_true
  | _=>cases y <;> exact absurd (show false=true from hs) Bool.false_ne_true
theorem op_lt:OpR X (compareOp .Lt) (rI0 fun i j=>.bl (decide (i < j))):=opB0 fun _ _ _ _ _ _ _ q=>lt_int q
theorem op_gt:OpR X (compareOp .Gt) (rI0 fun i j=>.bl (decide (j < i))):=opB0 fun _ _ _ _ _ _ _ q=>gt_int q
theorem nomark (b:Expr) {op:CmpOp} (h:op≠.In:=by decide) (h2:op≠.NotIn:=by decide):behindInMarks op b=false:=by
  have e1:(op == CmpOp.In)=false:=by cases op <;> first | rfl | exact absurd rfl h
  have e2:(op == CmpOp.NotIn)=false:=by cases op <;> first | rfl | exact absurd rfl h2
  cases b <;> simp [behindInMarks,e1,e2]
theorem pe_cmpR {op:CmpOp} {r:R2} (ho:OpR X (compareOp op) r) (ha:PE X a ta) (hb:PE X b tb) (hm:behindInMarks op b=false):PE X (.Compare a [op] [b] pos) (tOp r ta tb):=by
  intro pins s σ H Q I h
  exact wpAny_Compare1 (binT ha hb I h fun v u s2 x y H2 I2 rx ry q=>ho pins s2 σ H2 x y v u Q I2 rx ry q) hm
def tTest (t:TE):TT:=fun σ H Q=>t σ H fun x H'=>∃ k,x=.bl k∧Q k H'
theorem pt_cmpR {op:CmpOp} {r:R2} (ho:OpR X (compareOp op) r) (ha:PE X a ta) (hb:PE X b tb) (hm:behindInMarks op b=false):PT X (.Compare a [op] [b] pos) (tTest (tOp r ta tb)):=by
  intro pins s σ H Q I h
  refine wpAny_isTrue_Compare1 (thn (ha pins s σ H _ I h) fun v s1 ⟨x,H1,I1,r1,q1⟩=>thn (hb pins s1 σ H1 _ I1 q1) fun u s2 ⟨y,H2,I2,r2,q2⟩ =>
    thn (ho pins s2 σ H2 x y v u _ I2 r1 r2 q2) fun c s3 ⟨z,H3,I3,r3,k,e,q3⟩=>?_) hm
  subst e
  cases r3
  exact wpAny_truthy_bool ⟨H3,I3,q3⟩
theorem line63:(sizeLine:Nat) < 2 ^ 63:=by rw [sizeLine_eq]; decide
theorem op_add_str:OpR X (binaryOp .Add) (fun x y H Q=>∃ i j,x=.str i∧y=.str j∧i.length + j.length≤sizeLine∧Q (.str (i ++ j)) H):=by
  intro pins s σ H x y v u Q I rx ry h
  obtain ⟨i,j,rfl,rfl,hz,q⟩:=h
  obtain ⟨t,rfl⟩:=rx
  obtain ⟨t',rfl⟩:=ry
  exact add_str (fun t' tk=>⟨.str (i ++ j),H,I.tok _,⟨_,rfl⟩,q⟩) hz
theorem vals1 {x:V} {us:List Value} (r:Vals [x] us):∃ u,us=[u]∧RelV x u:=by
  cases r with
  | cons r1 r2=>cases r2; exact ⟨_,rfl,r1⟩
theorem call_str_int:CallR X (.type "str") (fun xs H Q=>∃ i,xs=[.int i]∧i.natAbs.log2 < 1920∧Q (.str (toString i)) H):=by
  intro pins s σ H xs us Q I r h
  obtain ⟨i,rfl,hz,q⟩:=h
  obtain ⟨u,rfl,t,rfl⟩:=vals1 r
  exact PySem.P.str_of_int hz ⟨.str _,H,I.tok _,⟨_,rfl⟩,q⟩
end
end L2
namespace L2
open PySem PySem.Spec PyProof.Rows
section
variable {prog:Program} {w:World} {A:Around} {E:Value→Shared→Prop} {s:Shared} {K:PySem.W.Frag} {x dx C f:Addr} {mA:Str→Option Value} {name:Str} {v:Value}
end
section
variable {P:Program} {w:World} {H H':Hp} {h h':Heap} {a C dx:Addr} {fs fs':List (Str×V)}
end
section
variable {X:Cx} {pins:List (Addr×Obj)} {σ:St} {H:Hp} {s:Shared} {a C dx:Addr} {fs:List (Str×V)} {f:Str} {v:V} {A:Around} {E:Value→Shared→Prop}
end
section
variable {X:Cx} {o e value:Expr} {f:Str} {pos pos' tpos:Pos} {ta tv:TE}
end
section
variable {X:Cx} {pins:List (Addr×Obj)} {σ:St} {H:Hp} {s:Shared} {A:Around} {E:Value→Shared→Prop} {Q:Value→Shared→Prop} {c:Value} {b:Bool}
end
end L2
namespace L2
open PySem PySem.Spec PyProof.Rows
structure Room (k:Nat) (A:Around):Prop where
  hd:A.handled=none
  dp:A.depth + 3 * k + 5 < recursionLimit
  un:A.units + 16 * k + 200 < cLine
theorem Room.mono {j k:Nat} {A:Around} (r:Room k A) (h:j≤k):Room j A:=⟨r.hd,by have:=r.dp; omega,by have:=r.un; omega⟩
theorem Room.deeper {k:Nat} {A:Around} (r:Room (k + 1) A) (env:Env):Room k (A.deeper env) :=
  ⟨r.hd,by have:=r.dp; show A.depth + 1 + 3 * k + 5 < _; omega,by have:=r.un; show A.units + 3 + 16 * k + 200 < _; omega⟩
theorem Room.depth {k:Nat} {A:Around} (r:Room k A):A.depth < recursionLimit:=by have:=r.dp; omega
theorem Room.units {k:Nat} {A:Around} (r:Room k A):A.units + 64 < cLine:=by have:=r.un; omega
def tNil:TA:=fun _ H Q=>Q [] H
def tCons (ta:TE) (tr:TA):TA:=fun σ H Q=>ta σ H fun x H1=>tr σ H1 fun xs H2=>Q (x :: xs) H2
section
variable {X:Cx} {e:Expr} {es:List Expr} {te:TE} {t:TA} {pos:Pos}
theorem pa_nil:PA X [] tNil:=fun _ _ _ _ H Q I h=>Calls.spliced_nil ⟨[],H,I,.nil,h⟩
theorem pa_cons (ha:PE X e te) (hr:PA X es t) (hs:starEach (e :: es) X.env=(false,eval e X.env) :: starEach es X.env:=by rfl):PA X (e :: es) (tCons te t):=by
  intro pos pins s σ H Q I h
  rw [hs]
  show wpAny _ _ (spliced ((false,eval e X.env) :: backTo pos (starEach es X.env))) _ _ s
  refine Calls.spliced_cons (thn (ha pins s σ H _ I h) fun u s1 ⟨x,H1,I1,r1,q1⟩=>?_)
  exact thn (hr pos pins s1 σ H1 _ I1 q1) fun us s2 ⟨xs,H2,I2,r2,q2⟩=>⟨x :: xs,H2,I2,.cons r1 r2,q2⟩
def tTup (t:TA):TE:=fun σ H Q=>t σ H fun xs H1=>xs.length≤sizeLine∧∀ p,H1 p=none→Q (.ref p) (upd H1 p (.tup xs))
def tLst (t:TA):TE:=fun σ H Q=>t σ H fun xs H1=>xs.length≤sizeLine∧∀ p,H1 p=none→Q (.ref p) (upd H1 p (.lst xs))
theorem pe_tup {x1} (h:PA X es t):PE X (.Tuple es x1 pos) (tTup t):=by
  intro pins s σ H Q I hq
  refine wpAny_Tuple_spliced (thn (h pos pins s σ H _ I hq) fun us s1 ⟨xs,H1,I1,r,z,q⟩=>⟨by rw [← r.length]; exact z,?_⟩)
  have hf:H1 s1.heap.objs.size=none:=I1.hok.fresh (Nat.le_refl _)
  refine ⟨.ref s1.heap.objs.size,upd H1 s1.heap.objs.size (.tup xs),I1.laid (t':=s1.toks) (fun b u e=>Heap.get?_push_of_some _ e) (Nat.le_refl _) ?_,rfl,q _ hf⟩
  exact ⟨z,us,r,⟨_,Heap.get?_push_size _ rfl,rfl,_,rfl⟩⟩
theorem pe_lst (h:PA X es t):PE X (.List es pos) (tLst t):=by
  intro pins s σ H Q I hq
  refine wpAny_List_spliced (thn (h pos pins s σ H _ I hq) fun us s1 ⟨xs,H1,I1,r,z,q⟩=>⟨by rw [← r.length]; exact z,?_⟩)
  have hf:H1 s1.heap.objs.size=none:=I1.hok.fresh (Nat.le_refl _)
  refine ⟨.ref s1.heap.objs.size,upd H1 s1.heap.objs.size (.lst xs),I1.laid (t':=s1.toks) (fun b u e=>Heap.get?_push_of_some _ e) (Nat.le_refl _) ?_,rfl,q _ hf⟩
  exact ⟨z,us,0,r,Heap.get?_push_size _ rfl⟩
end
abbrev Sp:=List V→Hp→VK→XK→Prop
abbrev CXT:=List Env→Hp→Shared→XK→Value→Shared→Prop
structure Env0 (P:Program) (w:World) (K:PySem.W.Frag) (mg:Str→Option Value) (base:Heap) (A:Around) (outer:List Env) (s:Shared) (H:Hp):Prop where
  frames:A.frames=some outer
  mod:Mod K mg base
  bs:∀ b o,base.get? b=some o→s.heap.get? b=some o∧H b=none
  bsz:base.objs.size≤s.heap.objs.size
  funs:s.heap.FunFrames base outer
  frf:∀ b∈frs outer,H b=none
  hok:HOk P w H s.heap
  bare:AllBare s.gens
  tb:TbOk K H
def CE (outer:List Env) (P:Program) (w:World) (H:Hp) (s:Shared) (Q:VK) (u:Value) (s':Shared):Prop :=
  ∃ v H',s'.os=s.os∧AllBare s'.gens∧Un (frs outer) [] H H' s.heap s'.heap∧HOk P w H' s'.heap∧RelV v u∧Q v H'
def CR (CX:CXT) (outer:List Env) (P:Program) (w:World) (H:Hp) (s:Shared) (Q:VK) (E:XK) (r:Result) (s':Shared):Prop :=
  match r with
  | .ok (.ret u)=>CE outer P w H s Q u s'
  | .ok _=>False
  | .error e=>CX outer H s E e s'
structure FnOk (P:Program) (w:World) (K:PySem.W.Frag) (mg:Str→Option Value) (base:Heap) (CX:CXT) (k:Nat) (f:Addr) (fd:FuncData) (ps:List Str) (sp:Sp):Prop where
  len:∀ vs H Q E,sp vs H Q E→vs.length=ps.length
  run:∀ (A:Around) (outer:List Env) (s:Shared) (H:Hp) (args:Args) (us:List Value) (vs:List V) (Q:VK) (E:XK),Room k A→Env0 P w K mg base A outer s H→BindsTo s fd args (ps.zip us)→Vals vs us→sp vs H Q E →
    codeAny (model P w) A (.call (.ref f) args) (CR CX outer P w H s Q E) s
section
variable {X:Cx} {pins:List (Addr×Obj)} {σ:St} {H:Hp} {s s':Shared}
theorem Inv.env0 (I:Inv X pins σ H s):Env0 X.prog X.w X.K X.mg X.base X.A X.stack s H :=
  ⟨I.ok.frames,I.ok.mod,I.bs,Nat.le_trans I.ok.bsz I.sz,I.stack,I.stkFree,I.hok,I.bare,I.ok.tb.un I.base⟩
theorem Inv.after {Q:VK} {u:Value} (I:Inv X pins σ H s) (h:CE X.stack X.prog X.w H s Q u s'):EP X pins σ Q u s':=by
  obtain ⟨v,H',os,bare,un,hok,r,q⟩:=h
  obtain ⟨hh,g,d,t,os'⟩:=s'
  obtain rfl:os'=s.os:=os
  exact ⟨v,H',I.call (h':=hh) (g':=g) (d':=d) (t':=t) (ch:=[]) un hok bare (fun b z=>absurd z (by simp)),r,q⟩
end
def tCall (sp:Sp) (dvs:List V) (E:XK) (t:TA):TE:=fun σ H Q=>t σ H fun vs H1=>sp (vs ++ dvs) H1 Q E
def Binds (K:PySem.W.Frag) (fd:FuncData) (ps:List Str) (ds:List Value):Prop :=
  ∀ (s:Shared) (us:List Value),K.In s.heap→(us ++ ds).length=ps.length→BindsTo s fd ⟨us,[]⟩ (ps.zip (us ++ ds))
theorem Binds.all {K:PySem.W.Frag} {fd:FuncData} {ps:List Str} (h:∀ us:List Value,us.length=ps.length→bindArgs fd ⟨us,[]⟩=pure (ps.zip us)):Binds K fd ps []:=fun s us _ hl=>by
  rw [List.append_nil] at hl ⊢
  exact .of_eq (h us hl)
def Passes (CX:CXT) (X:Cx) (E:XK):Prop:=∀ (pins:List (Addr×Obj)) (σ:St) (H:Hp) (s:Shared) (e:Value) (s':Shared),Inv X pins σ H s→CX X.stack H s E e s'→X.xe e s'
section
variable {X:Cx} {CX:CXT} {k:Nat} {f C:Addr} {fd:FuncData} {ps:List Str} {sp:Sp} {dvs:List V} {ds:List Value} {E:XK} {x m:Str} {p pos apos:Pos} {e o:Expr} {es:List Expr} {ta:TE} {t:TA}
theorem run_fn {pins:List (Addr×Obj)} {σ:St} {H:Hp} {s:Shared} {Q:VK} {us:List Value} {vs:List V} (F:FnOk X.prog X.w X.K X.mg X.base CX k f fd ps sp) (hr:Room k X.A) (hb:Binds X.K fd ps ds) (hd:Vals dvs ds) (hx:Passes CX X E)
    (I:Inv X pins σ H s) (r:Vals vs us) (h:sp (vs ++ dvs) H Q E):wpAny (model X.prog X.w) X.A (call (.ref f) us) (EP X pins σ Q) X.xe s:=by
  have r2:Vals (vs ++ dvs) (us ++ ds):=r.append hd
  have hl:(us ++ ds).length=ps.length:=by rw [← r2.length]; exact F.len _ _ _ _ h
  refine wpAny_call (codeAny_mono (F.run X.A X.stack s H ⟨us,[]⟩ (us ++ ds) (vs ++ dvs) Q E hr I.env0 (hb s us I.kIn hl) r2 h) fun r s' hq=>?_)
  cases r with
  | error e=>exact hx pins σ H s e s' I hq
  | ok fl =>
    cases fl with
    | ret u=>exact I.after hq
    | next=>exact False.elim hq
    | brk=>exact False.elim hq
    | cont=>exact False.elim hq
theorem pe_call (F:FnOk X.prog X.w X.K X.mg X.base CX k f fd ps sp) (hr:Room k X.A) (hg:Gl X x) (hm:X.mg x=some (.ref f)) (hk:PySem.W.keepIn X.K (.ref f)=true) (hb:Binds X.K fd ps ds) (hd:Vals dvs ds) (hx:Passes CX X E)
    (ha:PA X (e :: es) t) (hdb:(x == ("__debug__" : Str))=false:=by decide) (he:starEach (e :: es) X.env=(false,eval e X.env) :: starEach es X.env:=by rfl) (hpl:(backTo pos (starEach es X.env)).any (·.1)=false:=by rfl) :
    PE X (.Call (.Name x p) (e :: es) [] pos) (tCall sp dvs E t):=by
  intro pins s σ H Q I h
  refine wpAny_Call_Name_kw (ld_glob I hg hm ?_ hdb)
  refine PySem.W.callWith_K (h₀:=X.base) I.ok.mod.kin hk (thn (ha pos pins s σ H _ I h) fun us s1 ⟨vs,H1,I1,r,q⟩=>⟨I1.kIn,?_⟩) he hpl
  exact run_fn F hr hb hd hx I1 r q
end
section
variable {X:Cx} {CX:CXT} {k:Nat} {f C:Addr} {fd:FuncData} {ps ks:List Str} {sp:Sp} {E:XK} {x m:Str} {p pos apos kpos:Pos} {e o:Expr} {es:List Expr} {kws:List Keyword} {te ta:TE} {t tk:TA} {nm:Option Str}
variable {g:List Value→List Value→List Value} {gV:List V→List V→List V}
end
structure FnScope (N P:List Str) (sc:Scope):Prop where
  kind:sc.kind=.function
  co:sc.isCoroutine=false
  gen:sc.isGenerator=false
  nd:N.Nodup
  pre:N.take P.length=P
  par:∀ x∈P,sc.names.lookup x=some .local∨sc.names.lookup x=some .cell
  nofree:∀ y∈sc.names,y.2≠.free
theorem bindL_out {kindOf:Str→Option NameKind} {x:Str}:∀ {binds:List (Str×Value)} {m:Str→Option Value},(∀ v,(x,v)∉binds)→bindL kindOf binds m x=m x
  | [],_,_=>rfl
  | (n,v) :: r,m,h=>by
    unfold bindL
    rw [bindL_out fun w hw=>h w (List.mem_cons_of_mem _ hw)]
    split
    · have:x≠n:=by rintro rfl; exact h v List.mem_cons_self
      simp [this]
    · rfl
theorem bindC_out {kindOf:Str→Option NameKind} {x:Str}:∀ {binds:List (Str×Value)} {m:Str→Option Value},(∀ v,(x,v)∉binds)→bindC kindOf binds m x=m x
  | [],_,_=>rfl
  | (n,v) :: r,m,h=>by
    unfold bindC
    rw [bindC_out fun w hw=>h w (List.mem_cons_of_mem _ hw)]
    split
    · rfl
    · have:x≠n:=by rintro rfl; exact h v List.mem_cons_self
      simp [this]
theorem bindL_get {kindOf:Str→Option NameKind} {x:Str} {v:Value}:∀ {P:List Str} {vs:List Value} {i:Nat} {m:Str→Option Value},P.Nodup→P[i]?=some x→vs[i]?=some v→kindOf x=some .local →
    bindL kindOf (P.zip vs) m x=some v
  | [],_,_,_,_,h,_,_=>by simp at h
  | _ :: _,[],_,_,_,_,h,_=>by simp at h
  | p :: P,w :: vs,0,m,nd,h1,h2,hk=>by
    simp at h1 h2; subst h1; subst h2
    show bindL kindOf ((p,w) :: P.zip vs) m p=_
    unfold bindL
    rw [bindL_out fun v hv=>(List.nodup_cons.mp nd).1 (List.of_mem_zip hv).1,if_pos hk]
    simp
  | p :: P,w :: vs,i + 1,m,nd,h1,h2,hk=>by
    show bindL kindOf ((p,w) :: P.zip vs) m x=_
    unfold bindL
    exact bindL_get (i:=i) (List.nodup_cons.mp nd).2 (by simpa using h1) (by simpa using h2) hk
theorem bindC_get {kindOf:Str→Option NameKind} {x:Str} {v:Value}:∀ {P:List Str} {vs:List Value} {i:Nat} {m:Str→Option Value},P.Nodup→P[i]?=some x→vs[i]?=some v→kindOf x≠some .local →
    bindC kindOf (P.zip vs) m x=some v
  | [],_,_,_,_,h,_,_=>by simp at h
  | _ :: _,[],_,_,_,_,h,_=>by simp at h
  | p :: P,w :: vs,0,m,nd,h1,h2,hk=>by
    simp at h1 h2; subst h1; subst h2
    show bindC kindOf ((p,w) :: P.zip vs) m p=_
    unfold bindC
    rw [bindC_out fun v hv=>(List.nodup_cons.mp nd).1 (List.of_mem_zip hv).1,if_neg hk]
    simp
  | p :: P,w :: vs,i + 1,m,nd,h1,h2,hk=>by
    show bindC kindOf ((p,w) :: P.zip vs) m x=_
    unfold bindC
    exact bindC_get (i:=i) (List.nodup_cons.mp nd).2 (by simpa using h1) (by simpa using h2) hk
def start (N:List Str) (vs:List V):St:=vs.map some ++ List.replicate (N.length - vs.length) none
def cxOf (CX:CXT) (P:Program) (w:World) (K:PySem.W.Frag) (mg:Str→Option Value) (base:Heap) (N:List Str) (qual:Str) (scope:Scope) (f:Addr) (cd:Value) (A:Around) (outer:List Env) (s:Shared) (H:Hp) (E:XK):Cx where
  prog:=P
  w:=w
  K:=K
  mg:=mg
  base:=base
  A:=A.deeper (envOfC qual scope s.heap.objs.size f cd)
  N:=N
  s₀:=s
  H₀:=H
  env:=envOfC qual scope s.heap.objs.size f cd
  outer:=outer
  stack:=envOfC qual scope s.heap.objs.size f cd :: outer
  ex:=[]
  calm:=true
  fn:=fun _=>true
  pn:=[]
  xe:=fun e s'=>wpAny (model P w) (A.deeper (envOfC qual scope s.heap.objs.size f cd)) (leaving (envOfC qual scope s.heap.objs.size f cd) e) (fun _ s''=>CX outer H s E e s'') (fun e' s''=>CX outer H s E e' s'') s'
theorem cell_has {sc:Scope} {n:Nat} {x:Str} (h:sc.names.lookup x=some .cell):∃ c,(cellsFrom n sc.names []).lookup x=some c:=by
  have q:=PySem.W.cellsFrom_some sc.names n [] (.inl h)
  exact Option.isSome_iff_exists.mp q
theorem inv_start {CX:CXT} {P:Program} {w:World} {K:PySem.W.Frag} {mg:Str→Option Value} {base:Heap} {N ps:List Str} {qual:Str} {scope:Scope} {f:Addr} {cd:Value} {A:Around} {outer:List Env} {s s1:Shared} {H:Hp} {E:XK} {us:List Value} {vs:List V}
    (S:FnScope N ps scope) (hd:A.handled=none) (e0:Env0 P w K mg base A outer s H) (hl:vs.length=ps.length) (r:Vals vs us)
    (x:InCallC s s.heap.objs.size (bindL (envOfC qual scope s.heap.objs.size f cd).kindOf (ps.zip us) fun _=>none) (cellsFrom (s.heap.objs.size + 1) scope.names []) (bindC (envOfC qual scope s.heap.objs.size f cd).kindOf (ps.zip us) fun _=>none) s1) :
    Inv (cxOf CX P w K mg base N qual scope f cd A outer s H E) [] (start N vs) H s1:=by
  have hpl:ps.length≤N.length:=by have:=congrArg List.length S.pre; rw [List.length_take] at this; omega
  obtain ⟨h1,tk,rfl,hk⟩:=x.done
  have noA:∀ b:Addr,b∉(cxOf CX P w K mg base N qual scope f cd A outer s H E).ex:=fun b z=>absurd (show b∈([]:List Addr) from z) (by simp)
  refine ⟨⟨e0.mod,S.kind,rfl,rfl,Nat.le_refl _,fun y z c h1 h2=>?_,fun y hy=>?_,fun y c _ h=>?_,fun _=>hd,Around.frames_deeper e0.frames,.inr ⟨rfl,rfl⟩,fun b z=>absurd z (noA b),e0.bs,e0.bsz,fun b _ _=>noA b,fun b z=>absurd z (noA b),e0.funs,e0.frf,e0.tb⟩,
    rfl,e0.bare,Un.kept hk,⟨_,x.toInCall.ns,fun i y v h1 h2 h3=>?_⟩,fun y c h=>⟨_,x.cell y c h⟩,e0.hok.fresh (Nat.le_refl _),fun y c h=>?_,fun p hp=>absurd (show p∈([]:List (Addr×Obj)) from hp) (by simp),e0.hok.kept hk,?_⟩
  · exact name_of_addr x.apart (PySem.mem_of_lookup h1) (PySem.mem_of_lookup h2)
  · have hy:scope.names.lookup y=some .cell∨scope.names.lookup y=some .free:=hy
    rcases hy with hy | hy
    · exact cell_has hy
    · exact absurd rfl (S.nofree _ (PySem.mem_of_lookup hy))
  · exact Nat.le_of_lt (x.above y c (PySem.mem_of_lookup h))
  · have hi:i < vs.length:=by
      unfold start at h2
      by_cases hi:i < vs.length
      · exact hi
      · rw [List.getElem?_append_right (by simpa using hi)] at h2
        rw [List.getElem?_replicate] at h2
        split at h2 <;> cases h2
    have ha:vs[i]?=some v:=by
      unfold start at h2
      rw [List.getElem?_append_left (by simpa using hi),List.getElem?_map] at h2
      cases e:vs[i]? with
      | none=>rw [e] at h2; cases h2
      | some a=>rw [e] at h2; cases h2; rfl
    obtain ⟨u,hu,rv⟩:=r.get ha
    have hp:ps[i]?=some y:=by
      rw [← S.pre,List.getElem?_take_of_lt (by omega)]; exact h1
    have ndP:ps.Nodup:=by rw [← S.pre]; exact S.nd.sublist (List.take_sublist _ _)
    refine ⟨u,rv,?_⟩
    rcases S.par y (List.mem_of_getElem? hp) with k | k
    · exact .inl ⟨k,bindL_get ndP hp hu k⟩
    · obtain ⟨c,e⟩:=cell_has (n:=s.heap.objs.size + 1) k
      refine .inr ⟨.inl k,c,e,?_⟩
      have q:=x.cell y c e
      rw [bindC_get ndP hp hu (by show scope.names.lookup y≠_; rw [k]; decide)] at q
      exact q
  · exact .inl (e0.hok.fresh (Nat.le_of_lt (x.above y c (PySem.mem_of_lookup h))))
  · unfold start
    show _=N.length
    rw [List.length_append,List.length_map,List.length_replicate]
    omega
theorem fn_of {CX:CXT} {P:Program} {w:World} {K:PySem.W.Frag} {mg:Str→Option Value} {base:Heap} {k:Nat} {f:Addr} {name qual:Str} {params:Arguments} {body:List Stmt} {scope:Scope} {dV kV doc pm cdv ct oc:Value} {an od:Option Addr}
    {osl:Array (Option Value)} {N ps:List Str} {sp:Sp} (lk:K.lookup f=some ⟨oc,od,.func (PySem.W.fnOf name qual params body scope dV kV doc pm an cdv ct),osl⟩) (hcd:PySem.W.codeIn K cdv qual=true) (S:FnScope N ps scope)
    (len:∀ vs H Q E,sp vs H Q E→vs.length=ps.length)
    (hbody:∀ (A:Around) (outer:List Env) (s:Shared) (H:Hp) (vs:List V) (Q:VK) (E:XK),Room k (A.deeper (envOfC qual scope s.heap.objs.size f cdv))→sp vs H Q E →
      ∃ t,PSs (cxOf CX P w K mg base N qual scope f cdv A outer s H E) body t∧t { nx:=fun _ H'=>Q .non H',rt:=Q } (start N vs) H) :
    FnOk P w K mg base CX (k + 1) f (PySem.W.fnOf name qual params body scope dV kV doc pm an cdv ct) ps sp:=by
  refine ⟨len,fun A outer s H args us vs Q E hr e0 hb r hsp=>?_⟩
  have hl:=len _ _ _ _ hsp
  have KX:K.In s.heap:=e0.mod.kin.keeps fun b o e=>(e0.bs b o e).1
  have lim:s.heap.NoLimit:=e0.mod.nolimit.keeps fun b o e=>(e0.bs b o e).1
  have hkind:∀ y∈ps.zip us,scope.names.lookup y.1=some .local∨(scope.names.lookup y.1=some .cell∧((cellsFrom (s.heap.objs.size + 1) scope.names []).lookup y.1).isSome=true):=fun ⟨n,v⟩ hy=>by
    rcases S.par n (List.of_mem_zip hy).1 with q | q
    · exact .inl q
    · exact .inr ⟨q,PySem.W.cellsFrom_some _ _ _ (.inl q)⟩
  refine codeAny_call_function hr.depth (KX _ _ lk) rfl S.co S.gen rfl (PySem.W.codeRec_of KX hcd) (hb _ _ _ _ ?_)
  refine wpAny_newFunctionEnv_cells S.kind hkind fun env he s1 x=>?_
  subst he
  refine ⟨lim.keeps x.toInCall.keep,codeAny_func ?_⟩
  obtain ⟨t,ht,hq⟩:=hbody A outer s H vs Q E (hr.deeper _) hsp
  have I:Inv (cxOf CX P w K mg base N qual scope f cdv A outer s H E) [] (start N vs) H s1:=inv_start S hr.hd e0 hl r x
  refine wpAny_mono (ht [] s1 (start N vs) H _ I hq) (fun fl s' hs=>?_) fun e s' hs=>hs
  have fin:∀ {σ':St} {H':Hp} {v:V} {u:Value},Inv (cxOf CX P w K mg base N qual scope f cdv A outer s H E) [] σ' H' s'→RelV v u→Q v H'→CE outer P w H s Q u s' :=
    fun {σ' H' v u} J rv q=>⟨v,H',J.os,J.bare,J.base,J.hok,rv,q⟩
  cases fl with
  | ret u =>
    obtain ⟨v,σ',H',J,rv,q⟩:=hs
    exact fin J rv q
  | next =>
    obtain ⟨σ',H',J,q⟩:=hs
    exact fin (v:=V.non) (u:=Value.none) J rfl q
  | brk =>
    obtain ⟨_,_,_,q⟩:=hs
    exact False.elim q
  | cont =>
    obtain ⟨_,_,_,q⟩:=hs
    exact False.elim q
end L2
namespace L2
open PySem PySem.Spec PyProof.Rows
section
variable {X:Cx} {x:Str} {p pos:Pos} {e:Expr} {es:List Expr} {t:TA} {id T:String} {r:List V→Hp→VK→Prop}
def tCB (r:List V→Hp→VK→Prop) (t:TA):TE:=fun σ H Q=>t σ H fun vs H1=>r vs H1 Q
theorem pe_callB (hc:CallR X (.builtin id) r) (hg:Gl X x) (hm:X.mg x=none) (hv:bootBuiltins x=some (.builtin id)) (ha:PA X (e :: es) t) (hn:x ≠ "__name__" := by decide) (hdb:(x == ("__debug__" : Str))=false:=by decide)
    (he:starEach (e :: es) X.env=(false,eval e X.env) :: starEach es X.env:=by rfl) (hpl:(backTo pos (starEach es X.env)).any (·.1)=false:=by rfl):PE X (.Call (.Name x p) (e :: es) [] pos) (tCB r t):=by
  intro pins s σ H Q I h
  refine wpAny_Call_Name_kw (ld_blt I hg hm hv ?_ hn hdb)
  exact PyProof.Rows.callWith_builtin1 (thn (ha pos pins s σ H _ I h) fun us s1 ⟨vs,H1,I1,r1,q1⟩=>hc pins s1 σ H1 vs us Q I1 r1 q1) he hpl
theorem pe_callTy (hc:CallR X (.type T) r) (hg:Gl X x) (hm:X.mg x=none) (hv:bootBuiltins x=some (.type T)) (ha:PA X (e :: es) t) (hn:x ≠ "__name__" := by decide) (hdb:(x == ("__debug__" : Str))=false:=by decide)
    (he:starEach (e :: es) X.env=(false,eval e X.env) :: starEach es X.env:=by rfl) (hpl:(backTo pos (starEach es X.env)).any (·.1)=false:=by rfl):PE X (.Call (.Name x p) (e :: es) [] pos) (tCB r t):=by
  intro pins s σ H Q I h
  refine wpAny_Call_Name_kw (ld_blt I hg hm hv ?_ hn hdb)
  exact PyProof.Rows.callWith_type1 (thn (ha pos pins s σ H _ I h) fun us s1 ⟨vs,H1,I1,r1,q1⟩=>hc pins s1 σ H1 vs us Q I1 r1 q1) he hpl
end
end L2
namespace HT
open PySem PyProof.Rows
section
open PySem.SeqAt
open PySem.AutoSeq1 (wpAny_loadPart')
open PySem.MeetsSeq PySem.MeetsSeq2 PySem.MeetsSeq3
end
section
variable {prog:Program} {w:World} {A:Around} {E:Value→Shared→Prop} {s:Shared}
def sIx (n d:Nat):Option Int→Nat
  | none=>d
  | some v=>if v < 0 then (v + (n:Int)).toNat else min v.toNat n
theorem sIx_nat (n d k:Nat):sIx n d (some (k:Int))=min k n:=by
  show (if (k:Int) < 0 then ((k:Int) + (n:Int)).toNat else min (k:Int).toNat n)=min k n
  rw [if_neg (by omega),Int.toNat_natCast]
end
end HT
namespace L2
open PySem PySem.Spec PyProof.Rows
abbrev TO:=St→Hp→(Option Int→Hp→Prop)→Prop
def PO (X:Cx) (e:Option Expr) (t:TO):Prop :=
  ∀ (pins:List (Addr×Obj)) (s:Shared) (σ:St) (H:Hp) (Q:Option Int→Hp→Prop),Inv X pins σ H s→t σ H Q →
    wpAny (model X.prog X.w) X.A (evalPart e X.env) (fun u s'=>∃ o H',Inv X pins σ H' s'∧IsPart u o∧Q o H') X.xe s
def tNoPart:TO:=fun _ H Q=>Q none H
def tPart (t:TE):TO:=fun σ H Q=>t σ H fun x H1=>∃ i,x=.int i∧Q (some i) H1
theorem intsAre_of {ns:List Int}:∀ {us:List Value},Vals (ns.map V.int) us→IntsAre us ns:=by
  induction ns with
  | nil=>intro us r; rw [List.map_nil] at r; cases r; exact .nil
  | cons n ns ih =>
    intro us r
    rw [List.map_cons] at r
    cases r with
    | cons r1 r2 =>
      obtain ⟨t,e⟩:=r1
      subst e
      exact .cons n t (ih r2)
section
variable {X:Cx} {e:Expr} {te:TE} {lo hi:Option Expr} {tl th:TO} {pos p2:Pos}
theorem po_none:PO X none tNoPart:=by
  intro pins s σ H Q I h
  rw [evalPart_none]
  exact wpAny_pure ⟨none,H,I,.none,h⟩
theorem po_some (h:PE X e te):PO X (some e) (tPart te):=by
  intro pins s σ H Q I hw
  rw [evalPart_some]
  refine thn (h pins s σ H _ I hw) fun u s1 ⟨x,H1,I1,r1,q1⟩=>?_
  obtain ⟨i,rfl,q⟩:=q1
  obtain ⟨t,rfl⟩:=r1
  exact ⟨some i,H1,I1,.int i t,q⟩
def SlR (X:Cx) (r:V→Option Int→Option Int→Hp→VK→Prop):Prop :=
  ∀ (pins:List (Addr×Obj)) (s:Shared) (σ:St) (H:Hp) (x:V) (v vl vu:Value) (lo hi:Option Int) (sl:Addr) (Q:VK),Inv X pins σ H s→RelV x v→s.heap.IsSliceOf sl vl vu .none→IsPart vl lo→IsPart vu hi→r x lo hi H Q →
    ∃ T id,typeLookup (.type T) "__getitem__" = pure (some (.builtin id))∧s.TypeIs v T∧wpAny (model X.prog X.w) X.A (getItem v (.ref sl)) (EP X pins σ Q) X.xe s
def tSl (r:V→Option Int→Option Int→Hp→VK→Prop) (te:TE) (tl th:TO):TE:=fun σ H Q=>te σ H fun x H1=>tl σ H1 fun l H2=>th σ H2 fun u H3=>r x l u H3 Q
theorem pe_slice {r:V→Option Int→Option Int→Hp→VK→Prop} (hr:SlR X r) (he:PE X e te) (hl:PO X lo tl) (hu:PO X hi th):PE X (.Subscript e (.Slice lo hi none p2) pos) (tSl r te tl th):=by
  intro pins s σ H Q I h
  refine Subscript_ (thn (he pins s σ H _ I h) fun v s1 ⟨x,H1,I1,r1,q1⟩=>?_)
  refine wpAny_Slice (thn (hl pins s1 σ H1 _ I1 q1) fun vl s2 ⟨l,H2,I2,pl,q2⟩=>thn (hu pins s2 σ H2 _ I2 q2) fun vu s3 ⟨u,H3,I3,pu,q3⟩=>?_)
  rw [evalPart_none]
  refine wpAny_pure ?_
  have I4:Inv X pins σ H3 { s3 with heap:=s3.heap.push { cls:=.type "slice", data:=.fields #[vl,vu,.none] } }:=I3.kept (t':=s3.toks) fun b ob q=>Heap.get?_push_of_some _ q
  obtain ⟨T,id,hT,ht,hg⟩:=hr pins { s3 with heap:=s3.heap.push { cls:=.type "slice", data:=.fields #[vl,vu,.none] } } σ H3 x v vl vu l u s3.heap.objs.size Q I4 r1 (Heap.IsSliceOf.new ..) pl pu q3
  show wpAny (model X.prog X.w) X.A (subscriptTail e (.Slice lo hi none p2) v (.ref s3.heap.objs.size)) (EP X pins σ Q) X.xe { s3 with heap:=s3.heap.push { cls:=.type "slice", data:=.fields #[vl,vu,.none] } }
  exact tail_any (ops:=[.ref s3.heap.objs.size,v]) ht hT hg (by with_unfolding_all rfl)
def cutV (xs:List V) (lo hi:Option Int):List V:=(xs.drop (HT.sIx xs.length 0 lo)).take (HT.sIx xs.length xs.length hi - HT.sIx xs.length 0 lo)
theorem cutV_length (xs:List V) (lo hi:Option Int):(cutV xs lo hi).length≤xs.length:=by
  unfold cutV
  rw [List.length_take,List.length_drop]
  omega
end
end L2
namespace L2
open PySem PySem.Spec PyProof.Rows
def ixN (n:Nat) (i:Int):Option Nat:=if 0≤i then (if i < n then some i.toNat else none) else if -(n:Int)≤i then some (i + n).toNat else none
def atI {α:Type} (xs:List α) (i:Int):Option α:=(ixN xs.length i).bind fun j=>xs[j]?
theorem ixN_seq {n:Nat} {i:Int} {j:Nat} (h:ixN n i=some j):seqIndex? i n=some j∧j < n∧-(n:Int)≤i∧i < n:=by
  unfold ixN at h
  by_cases h0:0≤i
  · rw [if_pos h0] at h
    by_cases h1:i < n
    · rw [if_pos h1] at h
      have e:i.toNat=j:=Option.some.inj h
      exact ⟨by rw [seqIndex_of h0 h1,e],by omega,by omega,h1⟩
    · rw [if_neg h1] at h; cases h
  · rw [if_neg h0] at h
    by_cases h1:-(n:Int)≤i
    · rw [if_pos h1] at h
      have e:(i + n).toNat=j:=Option.some.inj h
      exact ⟨by rw [seqIndex_neg (by omega) h1,e],by omega,h1,by omega⟩
    · rw [if_neg h1] at h; cases h
theorem atI_get {α:Type} {xs:List α} {i:Int} {v:α} (h:atI xs i=some v):∃ j,seqIndex? i xs.length=some j∧xs[j]?=some v∧j < xs.length∧-(xs.length:Int)≤i∧i < xs.length:=by
  unfold atI at h
  cases e:ixN xs.length i with
  | none=>rw [e] at h; cases h
  | some j =>
    rw [e] at h
    obtain ⟨h1,h2,h3,h4⟩:=ixN_seq e
    exact ⟨j,h1,h,h2,h3,h4⟩
theorem atI_nat {α:Type} {xs:List α} {j:Nat} {v:α} (h:xs[j]?=some v):atI xs (j:Int)=some v:=by
  have hj:j < xs.length:=(List.getElem?_eq_some_iff.mp h).1
  have e:ixN xs.length (j:Int)=some j:=by
    unfold ixN
    rw [if_pos (by omega),if_pos (by omega)]; simp
  unfold atI; rw [e]; exact h
def PlainIx (b:Expr):Prop:=∀ o i,subscripted b false o i=operate [o,i] (getItem o i)
def IxR (X:Cx) (r:R2):Prop :=
  ∀ (value slice:Expr) (pins:List (Addr×Obj)) (s:Shared) (σ:St) (H:Hp) (x y:V) (v u:Value) (Q:VK),Inv X pins σ H s→RelV x v→RelV y u→r x y H Q →
    subscripted slice false v u=operate [v,u] (getItem v u)→wpAny (model X.prog X.w) X.A (subscriptTail value slice v u) (EP X pins σ Q) X.xe s
def MtR (X:Cx) (id:String) (r:V→List V→Hp→VK→Prop):Prop :=
  ∀ (pins:List (Addr×Obj)) (s:Shared) (σ:St) (H:Hp) (x:V) (xs:List V) (v:Value) (us:List Value) (Q:VK),Inv X pins σ H s→RelV x v→Vals xs us→r x xs H Q →
    wpAny (model X.prog X.w) X.A (call (.builtin id) (v :: us)) (EP X pins σ Q) X.xe s
section
variable {X:Cx} {a b:Expr} {ta tb:TE} {pos:Pos}
theorem pe_ix {r:R2} (hr:IxR X r) (ha:PE X a ta) (hb:PE X b tb) (hs:PlainIx b):PE X (.Subscript a b pos) (tOp r ta tb):=by
  intro pins s σ H Q I h
  exact Subscript_ (binT ha hb I h fun v u s2 x y H2 I2 rx ry q=>hr a b pins s2 σ H2 x y v u Q I2 rx ry q (hs _ _))
def rIxL (K:PySem.W.Frag):R2:=fun x y H Q=>∃ p xs i v,x=.ref p∧y=.int i∧SqL K H p xs∧atI xs i=some v∧Q v H
def rIxT (K:PySem.W.Frag):R2:=fun x y H Q=>∃ p xs i v,x=.ref p∧y=.int i∧SqT K H p xs∧atI xs i=some v∧Q v H
def rIxS:R2:=fun x y H Q=>∃ z i c,x=.str z∧y=.int i∧z.length≤sizeLine∧atI z.cps.toList i=some c∧Q (.str ⟨#[c]⟩) H
theorem ix_list:IxR X (rIxL X.K):=by
  intro value slice pins s σ H x y v u Q I rx ry h hs
  obtain ⟨p,xs,i,z,rfl,rfl,hq,he,q⟩:=h
  cases rx
  obtain ⟨t,rfl⟩:=ry
  obtain ⟨its,r,pl,hz⟩:=I.list hq
  obtain ⟨j,h1,h2,h3,h4,h5⟩:=atI_get he
  obtain ⟨w,ew,rw'⟩:=r.get h2
  have hl:=r.length
  have hn:=line63
  have fin:EP X pins σ Q w s:=⟨z,H,I,rw',q⟩
  by_cases h0:0≤i
  · have hj:i.toNat=j:=by
      rw [seqIndex_of h0 h5] at h1
      exact Option.some.inj h1
    exact item_listR pl.isList h0 (by omega) (by rw [hj]; simpa using ew) fin hs
  · have hj:(i + (its.toArray.size:Int)).toNat=j:=by
      rw [seqIndex_neg (by omega) h4] at h1
      rw [List.size_toArray,← hl]
      exact Option.some.inj h1
    exact subscriptTail_builtinR (x:=w) pl.isList.typeIs slot_list_getitem.lookup
      (wpAny_getItem_list_neg (Q:=fun r s'=>r=w∧EP X pins σ Q r s') pl.isList (by omega) (by rw [List.size_toArray] <;> omega) (by omega) (by rw [hj]; simpa using ew) ⟨rfl,fin⟩) hs
theorem ix_tup:IxR X (rIxT X.K):=by
  intro value slice pins s σ H x y v u Q I rx ry h hs
  obtain ⟨p,xs,i,z,rfl,rfl,hq,he,q⟩:=h
  cases rx
  obtain ⟨t,rfl⟩:=ry
  obtain ⟨its,r,pl,hz⟩:=I.tuple hq
  obtain ⟨j,h1,h2,h3,h4,h5⟩:=atI_get he
  obtain ⟨w,ew,rw'⟩:=r.get h2
  have hl:=r.length
  have hn:=line63
  have fin:EP X pins σ Q w s:=⟨z,H,I,rw',q⟩
  exact subscriptTail_builtinR (x:=w) pl.typeIs slot_tuple_getitem.lookup
    (getItem_tuple (j:=j) (Q:=fun r s'=>r=w∧EP X pins σ Q r s') pl (by omega) (by omega) (by rw [List.size_toArray,← hl]; exact h1) (by simpa using ew) ⟨rfl,fin⟩) hs
theorem ix_str:IxR X rIxS:=by
  intro value slice pins s σ H x y v u Q I rx ry h hs
  obtain ⟨z,i,c,rfl,rfl,hz,he,q⟩:=h
  obtain ⟨t,rfl⟩:=rx
  obtain ⟨t',rfl⟩:=ry
  obtain ⟨j,h1,h2,h3,h4,h5⟩:=atI_get he
  have hl:z.cps.toList.length=z.length:=by simp [Str.length]
  rw [hl] at h1 h4 h5
  have hn:=line63
  exact tail_any (typeIs_str s z t) slot_str_getitem.lookup (getItem_str (c:=c) (by
    have e1:decide (i < -(2 ^ 63:Int))=false:=decide_eq_false (by omega)
    have e2:decide (i≥2 ^ 63)=false:=decide_eq_false (by omega)
    rw [e1,e2,Bool.or_false]) (by rw [h1]; simpa using h2) ⟨.str ⟨#[c]⟩,H,I.tok _,⟨_,rfl⟩,q⟩) hs
theorem mapSeq_set (its:List Value) (n j:Nat) (u:Value):Obj.mapSeq (·.setIfInBounds j u) { cls:=.type "list", data:=.seq its.toArray n }={ cls:=.type "list", data:=.seq (its.set j u).toArray n }:=by
  simp [Obj.mapSeq]
theorem Inv.lst {pins:List (Addr×Obj)} {σ:St} {H:Hp} {s:Shared} {p:Addr} {xs:List V} (I:Inv X pins σ H s) (h:H p=some (.lst xs)) :
    ∃ (its:List Value) (n:Nat),Vals xs its∧s.heap.get? p=some { cls:=.type "list", data:=.seq its.toArray n }∧xs.length≤sizeLine:=by
  obtain ⟨z,its,n,r,e⟩:=I.hok p _ h
  exact ⟨its,n,r,e,z⟩
theorem Inv.lstUpd {pins:List (Addr×Obj)} {σ:St} {H:Hp} {s:Shared} {p:Addr} {xs ys:List V} {its its':List Value} {n n':Nat} {f:Obj→Obj} (I:Inv X pins σ H s) (h:H p=some (.lst xs))
    (ho:s.heap.get? p=some { cls:=.type "list", data:=.seq its.toArray n }) (hf:f { cls:=.type "list", data:=.seq its.toArray n }={ cls:=.type "list", data:=.seq its'.toArray n' }) (r:Vals ys its') (hz:ys.length≤sizeLine) (t:Nat) :
    Inv X pins σ (upd H p (.lst ys)) { s with heap:=s.heap.update p f,toks:=t }:=by
  have e:(s.heap.update p f).get? p=some { cls:=.type "list", data:=.seq its'.toArray n' }:=by
    rw [Heap.get?_update_self f ho (by rw [hf] <;> rfl),hf]
  refine I.write (x:=p) (e:=p) (by rw [h]; trivial) (.inl rfl) (fun b u hb q=>(Heap.get?_update_other _ _ (Ne.symm hb)).trans q) ⟨_,e⟩ ?_
  exact ⟨hz,its',n',r,e⟩
def rSetL:V→V→V→Hp→(Hp→Prop)→Prop:=fun o i v H Q=>∃ p xs k j,o=.ref p∧i=.int k∧H p=some (.lst xs)∧ixN xs.length k=some j∧Q (upd H p (.lst (xs.set j v)))
theorem set_list:PSet X rSetL:=by
  intro pins s σ H o i v ov iv u Q I ro ri rv h
  obtain ⟨p,xs,k,j,rfl,rfl,hp,hj,q⟩:=h
  cases ro
  obtain ⟨t,rfl⟩:=ri
  obtain ⟨its,n,r,ho,hz⟩:=I.lst hp
  obtain ⟨h1,h2,h3,h4⟩:=ixN_seq hj
  have hl:=r.length
  have hn:=line63
  have I':Inv X pins σ (upd H p (.lst (xs.set j v))) { s with heap:=s.heap.update p (Obj.mapSeq (·.setIfInBounds j u)) } :=
    I.lstUpd hp ho (mapSeq_set its n j u) (r.set rv j) (by rw [List.length_set]; exact hz) s.toks
  by_cases h0:0≤k
  · have hk:k.toNat=j:=by
      rw [seqIndex_of h0 h4] at h1
      exact Option.some.inj h1
    exact PySem.W.ki_setAt ho h0 (by omega) (by rw [List.size_toArray,← hl]; exact h4) (by rw [hk]; exact ⟨_,I',q⟩)
  · have hk:(k + (its.toArray.size:Int)).toNat=j:=by
      rw [seqIndex_neg (by omega) h3] at h1
      rw [List.size_toArray,← hl]
      exact Option.some.inj h1
    exact PySem.W.ki_setBack ho (by omega) (by rw [List.size_toArray,← hl]; exact h3) (by omega) (by rw [hk]; exact ⟨_,I',q⟩)
theorem slice_bounds (lo hi:Option Int) (n:Nat):(sliceBounds lo hi none n).1=((HT.sIx n 0 lo:Nat):Int)∧(sliceBounds lo hi none n).2.1=((HT.sIx n n hi:Nat):Int)∧(sliceBounds lo hi none n).2.2=1:=by
  refine ⟨?_,?_,rfl⟩
  · cases lo with
    | none=>simp [sliceBounds,HT.sIx]
    | some i =>
      simp only [sliceBounds,HT.sIx,Option.getD_none,show (1:Int) > 0 by decide,if_true]
      by_cases h:i < 0
      · simp only [h,if_true] <;> omega
      · simp only [h,if_false] <;> omega
  · cases hi with
    | none=>simp [sliceBounds,HT.sIx]
    | some i =>
      simp only [sliceBounds,HT.sIx,Option.getD_none,show (1:Int) > 0 by decide,if_true]
      by_cases h:i < 0
      · simp only [h,if_true] <;> omega
      · simp only [h,if_false] <;> omega
theorem slicePick_cut (its:List Value) (lo hi:Option Int):slicePick its.toArray lo hi none=((its.drop (HT.sIx its.length 0 lo)).take (HT.sIx its.length its.length hi - HT.sIx its.length 0 lo)).toArray:=by
  obtain ⟨h1,h2,h3⟩:=slice_bounds lo hi its.toArray.size
  unfold slicePick
  rw [h1,h2,h3]
  simp only [sliceRange_one,pick_run,List.size_toArray] <;> rfl
def rSlL (K:PySem.W.Frag):V→Option Int→Option Int→Hp→VK→Prop:=fun x lo hi H Q=>∃ a xs,x=.ref a∧SqL K H a xs∧∀ p,H p=none→Q (.ref p) (upd H p (.lst (cutV xs lo hi)))
theorem sl_list:SlR X (rSlL X.K):=by
  intro pins s σ H x v vl vu lo hi sl Q I rx hs pl pu h
  obtain ⟨a,xs,rfl,hx,q⟩:=h
  cases rx
  obtain ⟨its,r,ht,hz⟩:=I.list hx
  have hlen:=r.length
  refine ⟨"list", _,slot_list_getitem.lookup,ht.isList.typeIs,?_⟩
  refine wpAny_getItem_list_slice ht.isList hs pl pu .none (by simp) ?_ (by rw [List.size_toArray] <;> omega)
  rw [slicePick_cut,← hlen]
  refine ⟨.ref s.heap.objs.size,_,I.laid (t':=s.toks) (o:=.lst (cutV xs lo hi)) (fun b ob q=>Heap.get?_push_of_some _ q) (Nat.le_refl _) ?_,rfl,q _ (I.hok.fresh (Nat.le_refl _))⟩
  exact ⟨Nat.le_trans (cutV_length xs lo hi) hz,_,0,(r.drop (HT.sIx xs.length 0 lo)).take (HT.sIx xs.length xs.length hi - HT.sIx xs.length 0 lo),Heap.get?_push_size _ rfl⟩
def flatV:V→Bool
  | .non=>true
  | .bl _=>true
  | .int _=>true
  | .str _=>true
  | _=>false
def eqV:V→V→Bool
  | .non,.non=>true
  | .bl a,.bl b=>a == b
  | .bl a,.int b=>(if a then 1 else 0) == b
  | .int a,.bl b=>a == (if b then 1 else 0)
  | .int a,.int b=>a == b
  | .str a,.str b=>a == b
  | _,_=>false
theorem eqAt_V {A:Around} {s:Shared} {y x:V} {u v:Value} (ry:RelV y u) (rx:RelV x v) (fy:flatV y=true) (fx:flatV x=true):SeqAt.EqAt A s u v (eqV y x):=by
  cases y with
  | non =>
    cases ry
    cases x with
    | non=>cases rx; exact SeqAt.EqAt.same _
    | bl b=>cases rx; exact SeqAt.EqAt.none_bool b
    | int b=>obtain ⟨t,rfl⟩:=rx; exact SeqAt.EqAt.none_int b t
    | str b=>obtain ⟨t,rfl⟩:=rx; exact SeqAt.EqAt.none_str b t
    | _=>exact absurd (show false=true from fx) Bool.false_ne_true
  | bl a =>
    cases ry
    cases x with
    | non=>cases rx; exact SeqAt.EqAt.bool_none a
    | bl b=>cases rx; exact SeqAt.EqAt.bool_bool a b
    | int b=>obtain ⟨t,rfl⟩:=rx; exact SeqAt.EqAt.bool_int a b t
    | str b=>obtain ⟨t,rfl⟩:=rx; exact SeqAt.EqAt.bool_str a b t
    | _=>exact absurd (show false=true from fx) Bool.false_ne_true
  | int a =>
    obtain ⟨t',rfl⟩:=ry
    cases x with
    | non=>cases rx; exact SeqAt.EqAt.int_none a t'
    | bl b=>cases rx; exact SeqAt.EqAt.int_bool a t' b
    | int b=>obtain ⟨t,rfl⟩:=rx; exact SeqAt.EqAt.int_int a t' b t
    | str b=>obtain ⟨t,rfl⟩:=rx; exact SeqAt.EqAt.int_str a t' b t
    | _=>exact absurd (show false=true from fx) Bool.false_ne_true
  | str a =>
    obtain ⟨t',rfl⟩:=ry
    cases x with
    | non=>cases rx; exact SeqAt.EqAt.str_none a t'
    | bl b=>cases rx; exact SeqAt.EqAt.str_bool a t' b
    | int b=>obtain ⟨t,rfl⟩:=rx; exact SeqAt.EqAt.str_int a t' b t
    | str b=>obtain ⟨t,rfl⟩:=rx; exact SeqAt.EqAt.str_str a t' b t
    | _=>exact absurd (show false=true from fx) Bool.false_ne_true
  | _=>exact absurd (show false=true from fy) Bool.false_ne_true
def eqU (x:V) (u:Value):Bool:=match u with
  | .none=>eqV .non x
  | .bool b=>eqV (.bl b) x
  | .int i _=>eqV (.int i) x
  | .str z _=>eqV (.str z) x
  | _=>false
theorem eqU_of {x y:V} {u:Value} (r:RelV y u) (f:flatV y=true):eqU x u=eqV y x:=by
  cases y with
  | non=>cases r; rfl
  | bl b=>cases r; rfl
  | int i=>obtain ⟨t,rfl⟩:=r; rfl
  | str z=>obtain ⟨t,rfl⟩:=r; rfl
  | _=>exact absurd (show false=true from f) Bool.false_ne_true
theorem any_eqU {x:V}:∀ {xs:List V} {us:List Value},Vals xs us→xs.all flatV=true→us.any (eqU x)=xs.any fun y=>eqV y x
  | _,_,.nil,_=>rfl
  | y :: xs,u :: us,.cons r t,f=>by
    rw [List.all_cons,Bool.and_eq_true] at f
    rw [List.any_cons,List.any_cons,eqU_of r f.1,any_eqU t f.2]
theorem mem_eqAt {A:Around} {s:Shared} {x:V} {v:Value} (rx:RelV x v) (fx:flatV x=true):∀ {xs:List V} {us:List Value},Vals xs us→xs.all flatV=true→∀ u∈us,SeqAt.EqAt A s u v (eqU x u)
  | _,_,.nil,_=>fun u hu=>by cases hu
  | y :: xs,u :: us,.cons r t,f=>fun u' hu=>by
    rw [List.all_cons,Bool.and_eq_true] at f
    rcases List.mem_cons.mp hu with rfl | hu
    · rw [eqU_of r f.1]; exact eqAt_V r rx f.1 fx
    · exact mem_eqAt rx fx t f.2 u' hu
def inV (x:V) (xs:List V):Bool:=xs.any fun y=>eqV y x
def rIn (K:PySem.W.Frag) (neg:Bool):R2:=fun x y H Q=>∃ p xs,y=.ref p∧(SqL K H p xs∨SqT K H p xs)∧flatV x=true∧xs.all flatV=true∧Q (.bl (if neg then !inV x xs else inV x xs)) H
theorem op_in_seq:OpR X (compareOp .In) (rIn X.K false):=by
  intro pins s σ H x y v u Q I rx ry h
  obtain ⟨p,xs,rfl,hq,fx,fs,q⟩:=h
  cases ry
  rcases hq with hq | hq
  · obtain ⟨its,r,pl,hz⟩:=I.list hq
    refine SeqAt.in_listAt (eqU x) pl.isList (fun w hw=>mem_eqAt rx fx r fs w (by simpa using hw)) ⟨.bl _,H,I,rfl,?_⟩
    rw [show its.toArray.any (eqU x)=its.any (eqU x) by simp,any_eqU r fs]
    exact q
  · obtain ⟨its,r,pl,hz⟩:=I.tuple hq
    refine SeqAt.in_tupleAt (eqU x) pl (fun w hw=>mem_eqAt rx fx r fs w (by simpa using hw)) ⟨.bl _,H,I,rfl,?_⟩
    rw [show its.toArray.any (eqU x)=its.any (eqU x) by simp,any_eqU r fs]
    exact q
theorem call_len_seq:CallR X (.builtin "len") (fun xs H Q=>∃ p ys,xs=[.ref p]∧(SqL X.K H p ys∨SqT X.K H p ys)∧Q (.int ys.length) H):=by
  intro pins s σ H xs us Q I r h
  obtain ⟨p,ys,rfl,hq,q⟩:=h
  obtain ⟨u,rfl,rx⟩:=vals1 r
  cases rx
  have hn:=line63
  rcases hq with hq | hq
  · obtain ⟨its,r',pl,hz⟩:=I.list hq
    have hlen:=r'.length
    exact Calls.call_len_list pl.isList (by simp only [List.size_toArray] <;> omega) ⟨.int ys.length,H,I.tok _,⟨s.toks + 1,by rw [List.size_toArray,hlen]⟩,q⟩
  · obtain ⟨its,r',pl,hz⟩:=I.tuple hq
    have hlen:=r'.length
    exact len_tuple pl (by simp only [List.size_toArray] <;> omega) ⟨.int ys.length,H,I.tok _,⟨s.toks + 1,by rw [List.size_toArray,hlen]⟩,q⟩
theorem call_len_str:CallR X (.builtin "len") (fun xs H Q=>∃ z,xs=[.str z]∧z.length≤sizeLine∧Q (.int z.length) H):=by
  intro pins s σ H xs us Q I r h
  obtain ⟨z,rfl,hz,q⟩:=h
  obtain ⟨u,rfl,t,rfl⟩:=vals1 r
  have hn:=line63
  exact len_str (by omega) ⟨.int z.length,H,I.tok _,⟨_,rfl⟩,q⟩
theorem call_list_of:CallR X (.type "list") (fun xs H Q=>∃ p ys,xs=[.ref p]∧(SqL X.K H p ys∨SqT X.K H p ys)∧∀ l,H l=none→Q (.ref l) (upd H l (.lst ys))):=by
  intro pins s σ H xs us Q I r h
  obtain ⟨p,ys,rfl,hq,q⟩:=h
  obtain ⟨u,rfl,rx⟩:=vals1 r
  cases rx
  have fin:∀ (its:List Value),Vals ys its→ys.length≤sizeLine→∀ (h':Heap) (c':Nat),(∀ b o',s.heap.get? b=some o'→h'.get? b=some o') →
      h'.get? s.heap.objs.size=some { cls:=.type "list", dict:=none,data:=.seq its.toArray c',slots:=#[] }→EP X pins σ Q (.ref s.heap.objs.size) { s with heap:=h' }:=fun its r' hz h' c' kp e =>
    ⟨.ref s.heap.objs.size,_,I.laid (t':=s.toks) kp (Nat.le_refl _) (show ObjOk X.prog X.w _ h' _ (.lst ys) from ⟨hz,its,c',r',e⟩),rfl,q _ (I.hok.fresh (Nat.le_refl _))⟩
  rcases hq with hq | hq
  · obtain ⟨its,r',pl,hz⟩:=I.list hq
    have hlen:=r'.length
    obtain ⟨o,ho,hc,n,hd⟩:=pl.isList
    exact call_list_seq p (.inl rfl) ho hc hd (fun h' c' kp e=>fin its r' hz h' c' kp e) (by simp only [List.size_toArray] <;> omega)
  · obtain ⟨its,r',pl,hz⟩:=I.tuple hq
    have hlen:=r'.length
    obtain ⟨o,ho,hc,n,hd⟩:=pl
    exact call_list_seq p (.inr rfl) ho hc hd (fun h' c' kp e=>fin its r' hz h' c' kp e) (by simp only [List.size_toArray] <;> omega)
def tyV (K:PySem.W.Frag) (T:String) (x:V) (H:Hp):Prop:=match x with
  | .str _=>T = "str"
  | .int _=>T = "int"
  | .ref p=>(T = "list" ∧ ∃ xs,SqL K H p xs)∨(T = "tuple" ∧ ∃ o,K.lookup p=some o∧o.cls=.type "tuple" ∧ o.dict=none) ∨
      (T = "dict" ∧ ((∃ kvs,H p=some (.dK kvs))∨∃ kvs,H p=some (.dT kvs)))∨(T = "set" ∧ ∃ S n,H p=some (.set S n))
  | _=>False
theorem tyV_is {pins:List (Addr×Obj)} {σ:St} {H:Hp} {s:Shared} {T:String} {x:V} {v:Value} (I:Inv X pins σ H s) (r:RelV x v) (ty:tyV X.K T x H) :
    s.TypeIs v T∧∀ a,v=.ref a→∃ ob,s.heap.get? a=some ob∧ob.dict=none:=by
  cases x with
  | str z =>
    obtain ⟨t,rfl⟩:=r
    cases (show T = "str" from ty)
    exact ⟨typeIs_str s z t,fun _ e=>nomatch e⟩
  | int i =>
    obtain ⟨t,rfl⟩:=r
    cases (show T = "int" from ty)
    exact ⟨typeIs_int s i t,fun _ e=>nomatch e⟩
  | ref p =>
    cases r
    rcases ty with ⟨rfl,xs,hq⟩ | ⟨rfl,o,hk,hc,hd⟩ | ⟨rfl,hk⟩ | ⟨rfl,S,n,hk⟩
    · obtain ⟨its,_,pl,_⟩:=I.list hq
      refine ⟨pl.isList.typeIs,fun a e=>?_⟩
      cases e
      obtain ⟨o,n,e,c,hd,_⟩:=pl
      exact ⟨o,e,hd⟩
    · refine ⟨⟨o,I.kIn p o hk,hc⟩,fun a e=>?_⟩
      cases e
      exact ⟨o,I.kIn _ o hk,hd⟩
    · have z:∃ o,s.heap.get? p=some o∧o.ExactDict:=by
        rcases hk with ⟨kvs,hk⟩ | ⟨kvs,hk⟩
        · obtain ⟨_,_,_,_,o,_,_,e,ex,_⟩:=I.hok p _ hk
          exact ⟨o,e,ex⟩
        · obtain ⟨_,_,_,_,o,_,_,e,ex,_⟩:=I.hok p _ hk
          exact ⟨o,e,ex⟩
      obtain ⟨o,e,ex⟩:=z
      refine ⟨⟨o,e,ex.1⟩,fun a e2=>?_⟩
      cases e2
      exact ⟨o,e,ex.2.1⟩
    · obtain ⟨o,_,_,_,e,ex,_⟩:=I.hok p _ hk
      refine ⟨⟨o,e,ex.1⟩,fun a e2=>?_⟩
      cases e2
      exact ⟨o,e,ex.2.1⟩
  | _=>exact False.elim ty
def tBM0 (K:PySem.W.Frag) (T:String) (r:V→List V→Hp→VK→Prop) (to:TE):TE:=fun σ H Q=>to σ H fun x H1=>tyV K T x H1∧r x [] H1 Q
def tBM (K:PySem.W.Frag) (T:String) (r:V→List V→Hp→VK→Prop) (to:TE) (t:TA):TE:=fun σ H Q=>to σ H fun x H1=>tyV K T x H1∧t σ H1 fun xs H2=>r x xs H2 Q
variable {o e:Expr} {es:List Expr} {to:TE} {t:TA} {name:Str} {apos cpos:Pos} {T id:String} {r:V→List V→Hp→VK→Prop}
theorem pe_bm0 (pa:PlainAttrs T) (slot:Slot T name id) (hty:typeOf (.builtin id)=pure (.type "method_descriptor")) (hm:MtR X id r) (ho:PE X o to)
    (hbase:attributeBase o name X.env (eval o X.env)=eval o X.env:=by rfl) (hline:(apos.endLine == cpos.line)=true:=by rfl):PE X (.Call (.Attribute o name apos) [] [] cpos) (tBM0 X.K T r to):=by
  intro pins s σ H Q I h
  refine wpAny_Call_method0_late hbase hline (thn (ho pins s σ H _ I h) fun v s1 ⟨x,H1,I1,r1,ty,q1⟩=>?_)
  obtain ⟨h1,h2⟩:=tyV_is I1 r1 ty
  exact ⟨T,id,pa,slot,hty,h1,h2,Calls.callWith_builtin rfl (PySem.evalArgs_none (hm pins s1 σ H1 x [] v [] Q I1 r1 .nil q1))⟩
theorem pe_bm (pa:PlainAttrs T) (slot:Slot T name id) (hty:typeOf (.builtin id)=pure (.type "method_descriptor")) (hm:MtR X id r) (ho:PE X o to) (ha:PA X (e :: es) t)
    (hbase:attributeBase o name X.env (eval o X.env)=eval o X.env:=by rfl)
    (hfew:((backTo cpos (starEach (e :: es) X.env)).all (fun x=>!x.1) && (backToKw cpos (keywordEach [] X.env)).all (fun x=>x.1.isSome)
      && decide ((e :: es).length + ([]:List Keyword).length + (if ([]:List Keyword).isEmpty then 0 else 1) < 30))=true:=by rfl)
    (hline:(apos.endLine == cpos.line)=true:=by rfl) (hs:starEach (e :: es) X.env=(false,eval e X.env) :: starEach es X.env:=by rfl) (hplain:(backTo cpos (starEach es X.env)).any (·.1)=false:=by rfl) :
    PE X (.Call (.Attribute o name apos) (e :: es) [] cpos) (tBM X.K T r to t):=by
  intro pins s σ H Q I h
  refine wpAny_Call_method_late hbase hfew hline rfl (thn (ho pins s σ H _ I h) fun v s1 ⟨x,H1,I1,r1,ty,q1⟩=>?_)
  obtain ⟨h1,h2⟩:=tyV_is I1 r1 ty
  refine ⟨T,id,pa,slot,hty,h1,h2,?_⟩
  have hA:=ha cpos pins s1 σ H1 _ I1 q1
  rw [hs] at hA ⊢
  refine Calls.callWith_builtin (by show (false || (backTo cpos (starEach es X.env)).any (·.1))=false; rw [hplain] <;> rfl) (Calls.evalArgs_plain ?_)
  exact thn hA fun us s2 ⟨vs,H2,I2,r2,q2⟩=>hm pins s2 σ H2 x vs v us Q I2 r1 r2 q2
end
end L2
namespace L2
open PySem PySem.Spec PyProof.Rows
def MtM (X:Cx) (id:String) (r:V→List V→Hp→VK→Prop):Prop :=
  ∀ (pins:List (Addr×Obj)) (s:Shared) (σ:St) (H:Hp) (x:V) (xs:List V) (v:Value) (us:List Value) (Q:VK),Inv X pins σ H s→RelV x v→Vals xs us→r x xs H Q →
    wpAny (model X.prog X.w) X.A (call (.builtin id) (v :: us)) (EP X pins σ Q) X.xe s
theorem Vals.one:∀ {x:V} {us:List Value},Vals [x] us→∃ u,us=[u]∧RelV x u
  | _,_,.cons r .nil=>⟨_,rfl,r⟩
theorem Vals.two:∀ {x y:V} {us:List Value},Vals [x,y] us→∃ u v,us=[u,v]∧RelV x u∧RelV y v
  | _,_,_,.cons r (.cons q .nil)=>⟨_,_,rfl,r,q⟩
theorem Vals.zero:∀ {us:List Value},Vals [] us→us=[]
  | _,.nil=>rfl
theorem Vals.reverse {xs:List V} {us:List Value} (h:Vals xs us):Vals xs.reverse us.reverse:=by
  induction h with
  | nil=>exact .nil
  | cons r t ih=>rw [List.reverse_cons,List.reverse_cons]; exact Vals.append ih (.cons r .nil)
section
variable {X:Cx} {pins:List (Addr×Obj)} {σ:St} {H:Hp} {s:Shared} {l b:Addr} {xs ys zs:List V}
theorem Inv.lset {its its':List Value} {n:Nat} {f:Array Value→Array Value} {t':Nat} (I:Inv X pins σ H s) (hH:H l=some (.lst xs))
    (e:s.heap.get? l=some { cls:=.type "list", data:=.seq its.toArray n }) (hf:f its.toArray=its'.toArray) (hv:Vals ys its') (hz:ys.length≤sizeLine) :
    Inv X pins σ (upd H l (.lst ys)) { s with heap:=s.heap.update l (Obj.mapSeq f),toks:=t' }:=by
  have q:=PySem.IsL.update e f
  rw [hf] at q
  refine I.write (x:=l) (e:=l) (by rw [hH]; exact trivial) (.inl rfl) (fun b' u hb hu=>(Heap.get?_update_other s.heap (Obj.mapSeq f) (Ne.symm hb)).trans hu) ⟨_,q⟩ ?_
  exact ⟨hz,its',_,hv,q⟩
theorem Inv.lnew {its:List Value} {t':Nat} (I:Inv X pins σ H s) (hv:Vals ys its) (hz:ys.length≤sizeLine) :
    Inv X pins σ (upd H s.heap.objs.size (.lst ys)) { s with heap:=s.heap.push { cls:=.type "list", data:=.seq its.toArray },toks:=t' } :=
  I.laid (fun _ _ q=>Heap.get?_push_of_some _ q) (Nat.le_refl _) ⟨hz,its,0,hv,Heap.get?_push_size _ rfl⟩
theorem Inv.fresh (I:Inv X pins σ H s):H s.heap.objs.size=none:=I.hok.fresh (Nat.le_refl _)
theorem Inv.lstM (I:Inv X pins σ H s) (hH:H l=some (.lst xs)):xs.length≤sizeLine∧∃ (its:List Value) (n:Nat),Vals xs its∧xs.length=its.length∧s.heap.get? l=some { cls:=.type "list", data:=.seq its.toArray n }:=by
  obtain ⟨z,its,n,r,e⟩:=I.hok l _ hH
  exact ⟨z,its,n,r,r.length,e⟩
end
section
variable {X:Cx}
def rAppend:V→List V→Hp→VK→Prop:=fun x vs H Q=>∃ l xs y,x=.ref l∧vs=[y]∧H l=some (.lst xs)∧xs.length < sizeLine∧Q .non (upd H l (.lst (xs ++ [y])))
theorem mt_append:MtM X "list.append" rAppend:=by
  intro pins s σ H x vs v us Q I rx rv h
  obtain ⟨l,xs,y,rfl,rfl,hH,hz,q⟩:=h
  cases rx
  obtain ⟨u,rfl,ru⟩:=rv.one
  obtain ⟨z,its,n,r,hl,e⟩:=I.lstM hH
  refine call_meets F.slot_list_append ⟨_,e,rfl⟩ F.entry_list_append (F.args_list_append_2 _ _) (PySem.list_append l its.toArray n u (by rw [List.size_toArray]; omega)) ⟨e,?_⟩
  refine ⟨.non,_,I.lset (its':=its ++ [u]) hH e (by simp) (r.append (.cons ru .nil)) ?_,rfl,q⟩
  rw [List.length_append,List.length_singleton]
  omega
def rClear:V→List V→Hp→VK→Prop:=fun x vs H Q=>∃ l xs,x=.ref l∧vs=[]∧H l=some (.lst xs)∧Q .non (upd H l (.lst []))
theorem mt_clear:MtM X "list.clear" rClear:=by
  intro pins s σ H x vs v us Q I rx rv h
  obtain ⟨l,xs,rfl,rfl,hH,q⟩:=h
  cases rx
  have hus:=rv.zero
  subst hus
  obtain ⟨z,its,n,r,hl,e⟩:=I.lstM hH
  refine call_meets F.slot_list_clear ⟨_,e,rfl⟩ F.entry_list_clear (F.args_list_clear_1 _) (AutoSeq1.list_clear_list_0 l its.toArray n (by rw [List.size_toArray]; omega)) ⟨e,?_⟩
  exact ⟨.non,_,I.lset (its':=[]) (ys:=[]) hH e rfl .nil (Nat.zero_le _),rfl,q⟩
end
section
variable {prog:Program} {w:World} {A:Around} {E:Value→Shared→Prop} {s:Shared}
end
section
variable {X:Cx}
end
end L2
namespace Att
open PySem PySem.W PySem.Calls PyProof.Rows
theorem ints_of_wellAll {P:Params} {h:Heap}:∀ (ns:List Int) (vs:List Value),WellAll P h vs (ns.map WData.int)→IntsAre vs ns:=by
  intro ns
  induction ns with
  | nil =>
    intro vs w
    rw [List.map_nil] at w
    cases w
    exact .nil
  | cons n ns ih =>
    intro vs w
    rw [List.map_cons] at w
    cases w with
    | cons a b =>
      cases a
      exact .cons _ _ (ih _ b)
theorem script_of {l:OpenLaw} {n:Nat} (hn:l.most=some n) {P:Params} {h:Heap} {args:List WData} {vals:List Value}
    (hpre:l.row.toRowW.claim.pre args=true) (hwl:WellAll P h vals args) :
    ∃ a vs ns,vals=[Value.ref a]∧args=[WData.list (ns.map WData.int)]∧h.get? a=some { cls:=.type "list", data:=.seq vs.toArray }∧IntsAre vs ns∧ns.length≤n:=by
  have hsh:WShape.hasAll [] args [.list .int]=true:=(pre_splitW hpre).1
  have hc:l.pre.holds [] { args:=args }=true:=(pre_splitW hpre).2
  obtain ⟨d,r,rfl,h1,h2⟩:=hasAllW_cons hsh
  obtain rfl:=hasAllW_nil h2
  obtain ⟨xs,rfl,h3⟩:=hasW_list h1
  obtain ⟨ns,rfl⟩:=items_int h3
  have hlen:ns.length≤n:=by
    unfold OpenLaw.pre at hc
    have h4:(WTm.not (.lt (.lit (.int (n:Int))) (.len (.arg 0)))).holds [] { args:=[.list (ns.map .int)] }=true:=by
      have h4:=(holds_andW hc).1
      rw [hn] at h4
      exact h4
    have h5:=condW_of h4 (w_not (w_lt w_lit (w_len_list (w_arg rfl))))
    rw [List.length_map] at h5
    refine Nat.le_of_not_lt fun q=>?_
    have q':(n:Int) < ((ns.length:Nat):Int):=by omega
    first
      | (rw [decide_eq_true q'] at h5; exact absurd h5 (by decide))
      | (simp at h5; omega)
  cases hwl with
  | cons w1 w2 =>
    cases w2
    cases w1 with
    | list ho hall=>exact ⟨_,_,ns,rfl,rfl,ho,ints_of_wellAll ns _ hall,hlen⟩
theorem post_true (l:OpenLaw) (args:List WData):l.row.toRowW.claim.post args (.bool true) args=true :=
  postW_of (r:=l.row.toRowW) (X:=(true == true))
    (show WShape.has [] (.bool true) .bool=true by first | rfl | decide | simp [WShape.has,WShape.arms,WShape.armsAll])
    (show (WTm.eq .res (.lit (.bool true))).value [] { args:=args,res:=some (.bool true),after:=args }=some (.bool (true == true)) from w_eq_bool (w_res rfl) w_lit) rfl
theorem attach_call {l:OpenLaw} {n:Nat} {q:Program} {loose:List Str} {XP:(Str→Option Value)→Heap→Prop} {YP:World→Heap→Prop} {d:DefRec}
    (hn:l.most=some n) (hdf:d.params.defaults=[])
    (call:∀ (w:World) (s₀ s₁:Shared) (mg mb:Str→Option Value) (fa:Addr) (o:Obj) (pm cd doc:Value) (a:Addr) (vs:List Value) (ns:List Int),
      Ground q loose [] XP w s₀ mg mb s₁.heap→YP w s₁.heap →
      s₁.heap.get? fa=some o→o.data=.func (docDef d.name d.params d.body d.scope pm cd doc)→s₁.heap.CodeRec cd d.name→mg d.name=some (.ref fa) →
      s₁.heap.get? a=some { cls:=.type "list", data:=.seq vs.toArray }→IntsAre vs ns→ns.length≤n→s₁.gens=#[] →
      codeAny (model l.prog w) callerA (.call (.ref fa) ⟨[.ref a],[]⟩) (fun r s'=>r=.ok (.ret (.bool true))∧OldK s₁.heap s'.heap∧s'.os=s₁.os∧AllBare s'.gens) s₁) :
    WalkO q loose XP YP l.row.toRowW d [] (fun f vs=>PySem.call f vs):=by
  intro w s₀ s₁ mg mb G Y fa o pm cd doc dV kV ho hd hcd hD hmg hg args vals as hpre hlay hrd hwl hlo
  obtain rfl:dV=.none:=Dflts.none hD hdf
  obtain rfl:kV=.none:=Dflts.noKw hD
  obtain ⟨a,vs,ns,rfl,rfl,hobj,hints,hlen⟩:=script_of hn hpre hwl
  refine enter_call (codeAny_mono (call w s₀ s₁ mg mb fa o pm cd doc a vs ns G Y ho (fd_plain hd) hcd hmg hobj hints hlen hg) fun r s' hq=>?_)
  obtain ⟨rfl,h2,h3,h4⟩:=hq
  exact ⟨.inl ⟨.bool true,.bool true,[],rfl,fun _=>rfl,.bool true,post_true l _,fun _=>⟨List.Pairwise.nil,fun _ hm=>(nomatch hm)⟩⟩,h2,h3,h4⟩
section
variable {prog:Program} {w:World} {A:Around} {E:Value→Shared→Prop} {s:Shared} {K:Frag}
end
end Att
namespace L2
open PySem PySem.Spec PyProof.Rows
theorem vals_ints:∀ {vs:List Value} {ns:List Int},IntsAre vs ns→Vals (ns.map V.int) vs
  | _,_,.nil=>.nil
  | _,_,.cons n t h=>.cons ⟨t,rfl⟩ (vals_ints h)
theorem tabsOf_mem {K:PySem.W.Frag} {p:Addr×Str} (h:p∈tabsOf K):∃ c o vs,K.lookup c=some o∧o.cls=.type "code" ∧ o.data=.fields vs∧vs[11]?=some (.ref p.1):=by
  obtain ⟨⟨c,_⟩,_,e⟩:=List.mem_filterMap.mp h
  obtain ⟨o,e1,e2⟩:=Option.bind_eq_some_iff.mp e
  unfold tabAt at e2
  split at e2
  · rename_i vs h1 h2
    split at e2
    · rename_i q t P h3 h4
      split at e2
      · cases e2
        exact ⟨c,o,vs,e1,h1,h2,h4⟩
      · cases e2
    · cases e2
  · cases e2
theorem law_call {P:Program} {w:World} {K:PySem.W.Frag} {mg mb:Str→Option Value} {CX:CXT} {k:Nat} {fa a:Addr} {fd:FuncData} {x:Str} {sp:Sp} {s₁:Shared} {vs:List Value} {ns:List Int}
    (KX:K.In s₁.heap) (hT0:(∀ p∈tabsOf K,s₁.heap.get? p.1=some (PySem.W.tabObj #[]))∧tabsUq K=true)
    (hbm:∃ bm ob,mg "__builtins__" = some (.ref bm)∧bm≠builtinsNs∧s₁.heap.get? bm=some ob∧ob.cls=.type "module" ∧ ob.dict=some builtinsNs∧ob.data=.plain)
    (hns:s₁.heap.Ns mainGlobals mg) (hb:s₁.heap.Ns builtinsNs mb) (hbb:∀ x:Str,x ≠ "__name__" → mb x=bootBuiltins x) (hlim:s₁.heap.NoLimit) (hg:s₁.gens=#[])
    (ha:s₁.heap.get? a=some { cls:=.type "list", data:=.seq vs.toArray }) (hi:IntsAre vs ns) (hl:ns.length≤sizeLine) (hr:Room k callerA)
    (F:∀ base:Heap,K.In base→base.Ns mainGlobals mg→FnOk P w K mg base CX k fa fd [x] sp) (hbind:∀ (s:Shared) (u:Value),BindsTo s fd ⟨[u],[]⟩ [(x,u)])
    (hsp:∀ H:Hp,SqL K H a (ns.map V.int)→sp [.ref a] H (fun v _=>v=.bl true) fun _ _ _=>False)
    (hCX:∀ H e s',CX [] H s₁ (fun _ _ _=>False) e s'→False) :
    codeAny (model P w) callerA (.call (.ref fa) ⟨[.ref a],[]⟩) (fun r s'=>r=.ok (.ret (.bool true))∧OldK s₁.heap s'.heap∧s'.os=s₁.os∧AllBare s'.gens) s₁:=by
  have uq:=hT0.2
  unfold tabsUq at uq
  have hT:∀ p∈tabsOf K,s₁.heap.get? p.1=some (PySem.W.tabObj #[])∧K.lookup p.1=none:=fun p hp=>⟨hT0.1 p hp,by
    have:=List.all_eq_true.mp uq p hp
    simp only [Bool.and_eq_true] at this
    exact Option.isNone_iff_eq_none.mp this.1⟩
  have one:∀ p q:Addr×Str,p∈tabsOf K→q∈tabsOf K→p.1=q.1→p.2=q.2:=fun p q hp hq e=>by
    have:=List.all_eq_true.mp uq p hp
    simp only [Bool.and_eq_true] at this
    have:=List.all_eq_true.mp this.2 q hq
    simpa [e] using this
  have rv:=vals_ints hi
  have lenV:=hi.length
  have core:∀ H:Hp,SqL K H a (ns.map V.int)→HOk P w H s₁.heap→(∀ b,H b=none∨(b=a∧∃ o xs,H b=some (.frz o (.lst xs)))∨∃ p∈tabsOf K,b=p.1∧∃ ps,H b=some (.tbl ps))→(H a≠none→K.lookup a=none)→TbOk K H →
      codeAny (model P w) callerA (.call (.ref fa) ⟨[.ref a],[]⟩) (fun r s'=>r=.ok (.ret (.bool true))∧OldK s₁.heap s'.heap∧s'.os=s₁.os∧AllBare s'.gens) s₁:=by
    intro H hS hok hA hK hTb
    have base_of:∀ {b:Addr} {o:Obj},s₁.heap.get? b=some o→H b=none→(hidT s₁.heap H).get? b=some o:=fun e n=>hidT_get e n
    have noA:∀ {b:Addr} {o:Obj},s₁.heap.get? b=some o→(∀ vs:Array Value,∀ n,o.data≠.seq vs n)→(∀ vs,o.data≠.fields vs)→H b=none:=fun {b o} e d1 d2=>by
      rcases hA b with z | ⟨rfl,_⟩ | ⟨p,hp,rfl,_⟩
      · exact z
      · rw [ha] at e; cases e
        exact absurd rfl (d1 _ _)
      · rw [(hT p hp).1] at e; cases e
        exact absurd rfl (d2 _)
    have nsK:∀ {b:Addr} {m:Str→Option Value},s₁.heap.Ns b m→(hidT s₁.heap H).Ns b m:=fun {b m} ⟨o,es,ep,e,d,r⟩=>⟨o,es,ep,base_of e (noA e (fun _ _ z=>by rw [d] at z; cases z) fun _ z=>by rw [d] at z; cases z),d,r⟩
    have hKb:K.In (hidT s₁.heap H):=fun b o e=>base_of (KX b o e) (by
      rcases hA b with z | ⟨rfl,_,_,z⟩ | ⟨p,hp,rfl,_⟩
      · exact z
      · rw [hK (by rw [z]; simp)] at e; cases e
      · rw [(hT p hp).2] at e; cases e)
    have hM:Mod K mg (hidT s₁.heap H):=⟨hKb,nsK hns,⟨mb,nsK hb,hbb⟩,let ⟨mc,h1,h2⟩:=hlim; ⟨mc,nsK h1,h2⟩,let ⟨bm,ob,q1,q2,q3,q4,q5,q6⟩:=hbm; ⟨bm,ob,q1,q2,base_of q3 (noA q3 (fun _ _ z=>by rw [q6] at z; cases z) fun _ z=>by rw [q6] at z; cases z),q4,q5,q6⟩⟩
    have e0:Env0 P w K mg (hidT s₁.heap H) callerA [] s₁ H:=⟨rfl,hM,fun b o e=>of_hidT e,Nat.le_of_eq (hidT_size _ _),trivial,fun b hb=>absurd (show b∈([]:List Addr) from hb) (by simp),hok,.of_eq hg,hTb⟩
    refine codeAny_mono ((F _ hKb (nsK hns)).run callerA [] s₁ H ⟨[.ref a],[]⟩ [.ref a] [.ref a] _ _ hr e0 (hbind s₁ (.ref a)) (.cons rfl .nil) (hsp H hS)) fun r s' h=>?_
    cases r with
    | error e=>exact (hCX H e s' h).elim
    | ok fl =>
      cases fl with
      | next=>exact False.elim h
      | brk=>exact False.elim h
      | cont=>exact False.elim h
      | ret u =>
        obtain ⟨v,H',os,bare,un,hok',r',q⟩:=h
        have q':v=.bl true:=q
        subst q'
        obtain rfl:u=Value.bool true:=r'
        refine ⟨rfl,⟨fun b o e=>?_,fun b o e=>un.there b o e (by simp)⟩,os,bare⟩
        rcases hA b with z | ⟨rfl,ob,xs,z⟩ | ⟨p,hp,rfl,ps,z⟩
        · exact .inl (un.keep b o e z (by intro z; exact absurd (show b∈([]:List Addr) from z) (by simp)) (by simp))
        · have z2:=un.frzs _ ob _ z
          obtain ⟨e1,_⟩:=hok _ _ z
          obtain ⟨e2,_⟩:=hok' _ _ z2
          rw [e] at e1; cases e1
          exact .inl e2
        · obtain ⟨m,z2⟩:=un.tbls _ _ z
          obtain ⟨vs',e2,_⟩:=hok' _ _ z2
          obtain ⟨c,oc,cs,k1,k2,k3,k4⟩:=tabsOf_mem hp
          rw [(hT p hp).1] at e
          cases e
          exact .inr (.inl ⟨⟨c,oc,cs,KX _ _ k1,k2,k3,k4⟩,rfl,#[],vs',rfl,by simpa using e2⟩)
  have tabH:∀ {H:Hp} {p:Addr×Str},p∈tabsOf K→ObjOk P w H s₁.heap p.1 (.tbl #[.str p.2 0]):=fun {H p} hp=>⟨#[],(hT p hp).1,trivial,fun q v z=>by cases z⟩
  let HT:Hp:=fun b=>((tabsOf K).find? fun p=>p.1 == b).map fun p=>HO.tbl #[.str p.2 0]
  have HTat:∀ b,HT b=none∨∃ p∈tabsOf K,b=p.1∧HT b=some (.tbl #[.str p.2 0]):=fun b=>by
    cases q:(tabsOf K).find? fun p=>p.1 == b with
    | none=>exact .inl (by show Option.map _ _=none; rw [q]; rfl)
    | some p=>exact .inr ⟨p,List.mem_of_find?_eq_some q,(show p.1=b by have:=List.find?_some q; simpa using this).symm,by show Option.map _ _=_; rw [q]; rfl⟩
  have HTok:TbOk K HT:=fun p hp=>by
    rcases HTat p.1 with z | ⟨q,hq,e,z⟩
    · exfalso
      have z':Option.map _ ((tabsOf K).find? fun q=>q.1 == p.1)=none:=z
      rw [Option.map_eq_none_iff,List.find?_eq_none] at z'
      exact z' p hp (by simp)
    · exact ⟨0,#[],by rw [z,one p q hp hq e]; simp⟩
  cases hk:K.lookup a with
  | some o =>
    have e:=KX a o hk
    rw [ha] at e
    cases e
    refine core HT (.inr ⟨_,vs.toArray,_,hk,rfl,rfl,rfl,by rw [List.size_toArray,lenV]; exact hl,by simpa using rv⟩) (fun b u z=>?_) (fun b=>?_) (fun z=>?_) HTok
    · rcases HTat b with y | ⟨p,hp,rfl,y⟩
      · rw [y] at z; cases z
      · rw [y] at z; cases z; exact tabH hp
    · rcases HTat b with y | ⟨p,hp,e,y⟩
      · exact .inl y
      · exact .inr (.inr ⟨p,hp,e,_,y⟩)
    · rcases HTat a with y | ⟨p,hp,rfl,y⟩
      · exact absurd y z
      · exact (hT p hp).2
  | none =>
    have na:∀ p∈tabsOf K,p.1≠a:=fun p hp e=>by
      have:=(hT p hp).1
      rw [e,ha] at this; cases this
    refine core (fun b=>if b=a then some (.frz { cls:=.type "list", data:=.seq vs.toArray } (.lst (ns.map V.int))) else HT b) (.inl (.inr ⟨{ cls:=.type "list", data:=.seq vs.toArray },if_pos rfl⟩)) (fun b u z=>?_) (fun b=>?_) (fun _=>hk) fun p hp=>?_
    · by_cases hb:b=a
      · have z':=(if_pos hb).symm.trans z
        cases z'
        subst hb
        exact ⟨ha,by rw [List.length_map]; exact hl,vs,_,rv,ha⟩
      · have z':=(if_neg hb).symm.trans z
        rcases HTat b with y | ⟨p,hp,rfl,y⟩
        · rw [y] at z'; cases z'
        · rw [y] at z'; cases z'; exact tabH hp
    · by_cases hb:b=a
      · exact .inr (.inl ⟨hb,_,_,if_pos hb⟩)
      · rcases HTat b with y | ⟨p,hp,e,y⟩
        · exact .inl ((if_neg hb).trans y)
        · exact .inr (.inr ⟨p,hp,e,_,(if_neg hb).trans y⟩)
    · obtain ⟨t,m,e⟩:=HTok p hp
      exact ⟨t,m,(if_neg (na p hp)).trans e⟩
end L2
namespace L2
open PySem PySem.Spec PyProof.Rows
theorem walk_of {l:PySem.W.OpenLaw} {n k:Nat} {q:Program} {loose:List Str} {XP:(Str→Option Value)→Heap→Prop} {YP:World→Heap→Prop} {d:DefRec} {K:Params→PySem.W.Frag} {CX:World→CXT} {sp:World→Sp} {x:Str}
    (hn:l.most=some n) (hn2:n≤sizeLine) (hdf:d.params.defaults=[]) (hr:Room k callerA)
    (hY:∀ (w:World) (h:Heap),YP w h→(K w.params).In h) (hT:∀ (w:World) (h:Heap),YP w h→(∀ p∈tabsOf (K w.params),h.get? p.1=some (PySem.W.tabObj #[]))∧tabsUq (K w.params)=true)
    (F:∀ (w:World) (mg:Str→Option Value) (fa:Addr) (h:Heap),(K w.params).In h→h.Ns mainGlobals mg→mg d.name=some (.ref fa) →
      ∃ fd:FuncData,(∀ (s:Shared) (u:Value),BindsTo s fd ⟨[u],[]⟩ [(x,u)]) ∧
        ∀ base:Heap,(K w.params).In base→base.Ns mainGlobals mg→FnOk l.prog w (K w.params) mg base (CX w) k fa fd [x] (sp w))
    (hsp:∀ (w:World) (H:Hp) (a:Addr) (ns:List Int),ns.length≤n→SqL (K w.params) H a (ns.map V.int)→sp w [.ref a] H (fun v _=>v=.bl true) fun _ _ _=>False)
    (hCX:∀ (w:World) (H:Hp) (s:Shared) (e:Value) (s':Shared),CX w [] H s (fun _ _ _=>False) e s'→False) :
    PySem.W.WalkO q loose XP YP l.row.toRowW d [] (fun f vs=>PySem.call f vs):=by
  refine Att.attach_call hn hdf fun w s₀ s₁ mg mb fa o pm cd doc a vs ns G Y ho hd hcd hmg hobj hints hlen hg=>?_
  have KX:=hY w _ Y
  obtain ⟨fd,hb,hF⟩:=F w mg fa _ KX G.T.g hmg
  exact law_call KX (hT w _ Y) G.T.bmain G.T.g G.T.b G.T.builtins G.T.nolimit hg hobj hints (Nat.le_trans hlen hn2) hr hF hb (fun H hS=>hsp w H a ns hlen hS) fun H e s'=>hCX w H s₁ e s'
end L2
namespace L2
open PySem PySem.Spec PyProof.Rows
def defArgs (s:Stmt):Arguments:=match s with
  | .FunctionDef _ a _ _ _ _ _ _ _ _=>a
  | _=>{ posonlyargs:=[],args:=[],vararg:=none,kwonlyargs:=[],kw_defaults:=[],kwarg:=none,defaults:=[] }
def defBody (s:Stmt):List Stmt:=match s with
  | .FunctionDef _ _ b _ _ _ _ _ _ _=>b
  | _=>[]
def defScope (s:Stmt):Scope:=match s with
  | .FunctionDef _ _ _ _ _ _ sc _ _ _=>sc
  | _=>{ kind:=.function,names:=[],isGenerator:=false,isCoroutine:=false }
abbrev CX0:CXT:=fun _ _ _ _ _ _=>False
abbrev E0:XK:=fun _ _ _=>False
theorem pass0 {X:Cx}:Passes CX0 X E0:=fun _ _ _ _ _ _ _ h=>h.elim
structure Fun (K:PySem.W.Frag) (x qual:Str) (st:Stmt) (f:Addr) (fd:FuncData):Prop where
  ex:∃ (oc:Value) (od:Option Addr) (kV doc pm:Value) (an:Option Addr) (cdv ct:Value) (osl:Array (Option Value)),
    fd=PySem.W.fnOf x qual (defArgs st) (defBody st) (defScope st) .none kV doc pm an cdv ct∧K.lookup f=some ⟨oc,od,.func fd,osl⟩∧PySem.W.codeIn K cdv qual=true
  kp:PySem.W.keepIn K (.ref f)=true
section
variable {P:Program} {w:World} {K:PySem.W.Frag} {mg:Str→Option Value} {base:Heap}
theorem Fun.ok {x qual:Str} {st:Stmt} {f:Addr} {fd:FuncData} {N ps:List Str} {k:Nat} {sp:Sp} (F:Fun K x qual st f fd) (S:FnScope N ps (defScope st)) (len:∀ vs H Q E,sp vs H Q E→vs.length=ps.length)
    (hbody:∀ (cdv:Value) (A:Around) (outer:List Env) (s:Shared) (H:Hp) (vs:List V) (Q:VK) (E:XK),Room k (A.deeper (envOfC qual (defScope st) s.heap.objs.size f cdv))→sp vs H Q E →
      ∃ t,PSs (cxOf CX0 P w K mg base N qual (defScope st) f cdv A outer s H E).nox (defBody st) t∧t { nx:=fun _ H'=>Q .non H',rt:=Q } (start N vs) H):FnOk P w K mg base CX0 (k + 1) f fd ps sp:=by
  obtain ⟨oc,od,kV,doc,pm,an,cdv,ct,osl,rfl,lk,hcd⟩:=F.ex
  refine fn_of lk hcd S len fun A outer s H vs Q E hr hsp=>?_
  obtain ⟨t,h,q⟩:=hbody cdv A outer s H vs Q E hr hsp
  exact ⟨t,h.nox,q⟩
theorem Fun.binds {x qual:Str} {st:Stmt} {f:Addr} {fd:FuncData} {ps:List Str} (F:Fun K x qual st f fd)
    (h:∀ (kV doc pm:Value) (an:Option Addr) (cdv ct:Value) (us:List Value),us.length=ps.length→bindArgs (PySem.W.fnOf x qual (defArgs st) (defBody st) (defScope st) .none kV doc pm an cdv ct) ⟨us,[]⟩=pure (ps.zip us)):Binds K fd ps []:=by
  obtain ⟨oc,od,kV,doc,pm,an,cdv,ct,osl,rfl,lk,hcd⟩:=F.ex
  exact .all (h kV doc pm an cdv ct)
theorem fun_mk {x qual:Str} {st:Stmt} {f:Addr} {oc:Value} {od an:Option Addr} {osl:Array (Option Value)} {kV doc pm cdv ct:Value} (l:K.lookup f=some ⟨oc,od,.func (PySem.W.fnOf x qual (defArgs st) (defBody st) (defScope st) .none kV doc pm an cdv ct),osl⟩)
    (c:PySem.W.codeIn K cdv qual=true) (k:PySem.W.keepIn K (.ref f)=true):Fun K x qual st f (PySem.W.fnOf x qual (defArgs st) (defBody st) (defScope st) .none kV doc pm an cdv ct):=⟨⟨oc,od,kV,doc,pm,an,cdv,ct,osl,rfl,l,c⟩,k⟩
end
section
variable {X:Cx}
theorem pv (i:Nat) {x:Str} {pos:Pos} (hN:X.N[i]?=some x:=by rfl) (hv:Vis X.env.scope x:=by first | exact Or.inl rfl | exact Or.inr (Or.inl rfl) | exact Or.inr (Or.inr rfl)) (hd:(x == ("__debug__" : Str))=false:=by decide)
    (hcd:(x == ("__classdict__" : Str))=false:=by decide):PE X (.Name x pos) (tVar i):=pe_var hN hv hd hcd
end
theorem iteF {A B:Prop} (h:B):if false=true then A else B:=by
  rw [if_neg Bool.false_ne_true]
  exact h
theorem iteT {A B:Prop} (h:A):if true=true then A else B:=by
  rw [if_pos rfl]
  exact h
def Same (H H':Hp):Prop:=∀ b o,H b=some o→H' b=some o
theorem Same.refl (H:Hp):Same H H:=fun _ _ h=>h
theorem Same.trans {H H1 H2:Hp} (a:Same H H1) (b:Same H1 H2):Same H H2:=fun c o h=>b c o (a c o h)
theorem Same.free {H H':Hp} (e:Same H H') {l:Addr} (h:H' l=Option.none):H l=Option.none:=by
  cases q:H l with
  | none=>rfl
  | some o =>
    rw [e l o q] at h
    cases h
theorem Same.seq {K:PySem.W.Frag} {H H':Hp} {a:Addr} {xs:List V} (e:Same H H') (h:SqL K H a xs):SqL K H' a xs:=by
  rcases h with (h | ⟨o,h⟩) | h
  · exact .inl (.inl (e _ _ h))
  · exact .inl (.inr ⟨o,e _ _ h⟩)
  · exact .inr h
end L2
set_option maxHeartbeats 1000000
namespace Sh
abbrev co (a b:Int):Prop:=Int.gcd a b=1
def pl (a b c d:Int):Int×Int :=
  let g:Int:=(Int.gcd b d:Nat)
  let t:=a * (d / g) + c * (b / g)
  let r:Int:=(Int.gcd t g:Nat)
  (t / r,(b / g) * (d / r))
end Sh
namespace Sh
theorem pow_mono {m n:Nat} (h:m≤n):2 ^ m≤2 ^ n:=Nat.pow_le_pow_right (by decide) h
theorem up {a:Int} {m n:Nat} (h1:a.natAbs < 2 ^ m) (h:m≤n):a.natAbs < 2 ^ n:=Nat.lt_of_lt_of_le h1 (pow_mono h)
end Sh
namespace Wd
def rk:List Int→List Int→Int
  | s :: r,d :: e=>rk r e * s + d
  | _,_=>0
end Wd
namespace Wd
def rng (n:Nat):List Int:=(List.range n).map fun (i:Nat)=>(i:Int)
def nxt:List Int→List Int→Option (List Int)
  | s :: r,d :: e=>if d + 1 < s then some ((d + 1) :: e) else (nxt r e).map fun x=>0 :: x
  | _,_=>none
end Wd
namespace L2
open PySem PySem.Spec PyProof.Rows PySem.SeqAt
section
variable {X:Cx}
theorem op_mulB:OpR X (binaryOp .Mult) (rI IntMulOk fun i j=>.int (i * j)):=opI fun _ _ _ _ _ _ _ hc q=>mul_int q hc
mutual
inductive Dp (K:PySem.W.Frag) (H:Hp):V→PyData→Prop
  | non:Dp K H .non .none
  | bl (b:Bool):Dp K H (.bl b) (.bool b)
  | int (i:Int):Dp K H (.int i) (.int i)
  | str (x:Str):Dp K H (.str x) (.str x)
  | lst {a:Addr} {xs:List V} {ds:List PyData}:SqL K H a xs→DpAll K H xs ds→Dp K H (.ref a) (.list ds)
  | tup {a:Addr} {xs:List V} {ds:List PyData}:SqT K H a xs→DpAll K H xs ds→Dp K H (.ref a) (.tuple ds)
inductive DpAll (K:PySem.W.Frag) (H:Hp):List V→List PyData→Prop
  | nil:DpAll K H [] []
  | cons {v:V} {vs:List V} {d:PyData} {ds:List PyData}:Dp K H v d→DpAll K H vs ds→DpAll K H (v :: vs) (d :: ds)
end
mutual
theorem Dp.reads {pins:List (Addr×Obj)} {σ:St} {H:Hp} {s:Shared} (I:Inv X pins σ H s):∀ {x:V} {d:PyData} {u:Value},Dp X.K H x d→RelV x u→∃ as,Reads s.heap u d as
  | _,_,u,.non,r=>by cases (show u=Value.none from r); exact ⟨_,.none⟩
  | _,_,u,.bl b,r=>by cases (show u=Value.bool b from r); exact ⟨_,.bool b⟩
  | _,_,u,.int i,r=>by obtain ⟨t,e⟩:=(show ∃ t,u=Value.int i t from r); subst e; exact ⟨_,.int i t⟩
  | _,_,u,.str x,r=>by obtain ⟨t,e⟩:=(show ∃ t,u=Value.str x t from r); subst e; exact ⟨_,.str x t⟩
  | _,_,u,@Dp.lst _ _ a xs ds h k,r=>by
    cases (show u=Value.ref a from r)
    obtain ⟨its,rv,⟨o,n,e,c,_,d⟩,_⟩:=I.list h
    obtain ⟨as,ra⟩:=DpAll.reads I k rv
    exact ⟨_,.list e c d (by simpa using ra)⟩
  | _,_,u,@Dp.tup _ _ a xs ds h k,r=>by
    cases (show u=Value.ref a from r)
    obtain ⟨its,rv,⟨o,e,c,n,d⟩,_⟩:=I.tuple h
    obtain ⟨as,ra⟩:=DpAll.reads I k rv
    exact ⟨_,.tuple e c d (by simpa using ra)⟩
theorem DpAll.reads {pins:List (Addr×Obj)} {σ:St} {H:Hp} {s:Shared} (I:Inv X pins σ H s):∀ {xs:List V} {ds:List PyData} {us:List Value},DpAll X.K H xs ds→Vals xs us→∃ as,ReadsAll s.heap us ds as
  | _,_,_,.nil,.nil=>⟨_,.nil⟩
  | _,_,_,.cons h k,.cons r t=>by
    obtain ⟨as,ra⟩:=Dp.reads I h r
    obtain ⟨bs,rb⟩:=DpAll.reads I k t
    exact ⟨_,.cons ra rb⟩
end
end
theorem ad {m n:Nat} (h:m≠n):(show Addr from m)≠(show Addr from n):=h
section
variable {X:Cx}
end
end L2
namespace L2
open PySem PySem.Spec PyProof.Rows
def Cx.blk (X:Cx) (N:List Str) (scope:Scope) (cl:List (Str×Addr)) (C:Addr) (s:Shared) (H:Hp) (fp:List Addr):Cx :=
  { X with N:=N,s₀:=s,H₀:=H,env:=compEnvC scope cl C X.env,outer:=X.stack,stack:=X.stack,ex:=fp,fn:=fun _=>false,pn:=[],xe:=fun _ _=>False }
def capt (js:List (Option Nat)) (σ:St):St:=js.map fun o=>match o with | none=>none | some j=>(σ[j]?).join
structure CompOk (X:Cx) (N:List Str) (scope:Scope) (cl:List (Str×Addr)) (js:List (Option Nat)):Prop where
  clos:closureFor scope X.env=pure cl
  nocell:∀ y∈scope.names,y.2≠.cell
  kind:scope.kind=.function
  names:∀ y∈scope.names,y.2=.local→scope.names.lookup y.1=some .local
  cells:∀ p∈cl,X.env.cells.lookup p.1=some p.2
  has:∀ y∈scope.names,y.2=.free→(cl.lookup y.1).isSome=true
  len:js.length=N.length
  cap:∀ (i j:Nat),js[i]?=some (some j)→∃ x,N[i]?=some x∧X.N[j]?=some x∧scope.names.lookup x=some .free∧(X.env.scope.names.lookup x=some .cell∨X.env.scope.names.lookup x=some .free)
def Sub (σ σ':St):Prop:=σ.length=σ'.length∧∀ (i:Nat) v,σ[i]?=some (some v)→σ'[i]?=some (some v)
theorem relabel_free {env:Env} (hk:env.scope.kind=.function):∀ {names:List (Str×NameKind)} {x:Str},names.lookup x=some .free→env.scope.names.lookup x=some .cell →
    (names.map fun (n,k)=>if (k == NameKind.free && env.scope.kind == .function && env.kindOf n == some .cell) then (n,NameKind.cell) else (n,k)).lookup x=some .cell
  | [],_,h,_=>by simp at h
  | (n,k) :: r,x,h,hc=>by
    have ih:=@relabel_free env hk r x
    show List.lookup x ((if (k == NameKind.free && env.scope.kind == .function && env.kindOf n == some .cell)=true then (n,NameKind.cell) else (n,k)) :: _)=_
    cases hx:x == n with
    | true =>
      have e:x=n:=by simpa using hx
      subst e
      simp only [List.lookup_cons,hx] at h
      cases h
      have c:(NameKind.free == NameKind.free && env.scope.kind == .function && env.kindOf x == some .cell)=true:=by
        have q:env.kindOf x=some .cell:=hc
        rw [hk,q]; rfl
      rw [if_pos c,List.lookup_cons,hx]
    | false =>
      simp only [List.lookup_cons,hx] at h
      by_cases hcc:(k == NameKind.free && env.scope.kind == .function && env.kindOf n == some .cell)=true
      · rw [if_pos hcc,List.lookup_cons,hx]; exact ih h hc
      · rw [if_neg hcc,List.lookup_cons,hx]; exact ih h hc
theorem relabel_keep {env:Env}:∀ {names:List (Str×NameKind)} {x:Str},names.lookup x=some .free→env.scope.names.lookup x=some .free →
    (names.map fun (n,k)=>if (k == NameKind.free && env.scope.kind == .function && env.kindOf n == some .cell) then (n,NameKind.cell) else (n,k)).lookup x=some .free
  | [],_,h,_=>by simp at h
  | (n,k) :: r,x,h,hc=>by
    have ih:=@relabel_keep env r x
    show List.lookup x ((if (k == NameKind.free && env.scope.kind == .function && env.kindOf n == some .cell)=true then (n,NameKind.cell) else (n,k)) :: _)=_
    cases hx:x == n with
    | true =>
      have e:x=n:=by simpa using hx
      subst e
      simp only [List.lookup_cons,hx] at h
      cases h
      have q:env.kindOf x=some .free:=hc
      rw [if_neg (by rw [q]; simp),List.lookup_cons,hx]
    | false =>
      simp only [List.lookup_cons,hx] at h
      by_cases hcc:(k == NameKind.free && env.scope.kind == .function && env.kindOf n == some .cell)=true
      · rw [if_pos hcc,List.lookup_cons,hx]; exact ih h hc
      · rw [if_neg hcc,List.lookup_cons,hx]; exact ih h hc
theorem relabel_back {env:Env}:∀ {names:List (Str×NameKind)} {x:Str},(∀ y∈names,y.2≠.cell) →
    ((names.map fun (n,k)=>if (k == NameKind.free && env.scope.kind == .function && env.kindOf n == some .cell) then (n,NameKind.cell) else (n,k)).lookup x=some .cell ∨
     (names.map fun (n,k)=>if (k == NameKind.free && env.scope.kind == .function && env.kindOf n == some .cell) then (n,NameKind.cell) else (n,k)).lookup x=some .free)→∃ y∈names,y.1=x∧y.2=.free
  | [],_,_,h=>by simp at h
  | (n,k) :: r,x,hn,h=>by
    have ih:=@relabel_back env r x (fun y hy=>hn y (List.mem_cons_of_mem _ hy))
    have h':List.lookup x ((if (k == NameKind.free && env.scope.kind == .function && env.kindOf n == some .cell)=true then (n,NameKind.cell) else (n,k)) :: (r.map fun (n,k)=>if (k == NameKind.free && env.scope.kind == .function && env.kindOf n == some .cell) then (n,NameKind.cell) else (n,k)))=some .cell ∨
      List.lookup x ((if (k == NameKind.free && env.scope.kind == .function && env.kindOf n == some .cell)=true then (n,NameKind.cell) else (n,k)) :: (r.map fun (n,k)=>if (k == NameKind.free && env.scope.kind == .function && env.kindOf n == some .cell) then (n,NameKind.cell) else (n,k)))=some .free:=h
    cases hx:x == n with
    | true =>
      have e:x=n:=by simpa using hx
      subst e
      by_cases hcc:(k == NameKind.free && env.scope.kind == .function && env.kindOf x == some .cell)=true
      · have kf:k=.free:=by
          cases k <;> first | rfl | (simp at hcc)
        exact ⟨(x,k),List.mem_cons_self,rfl,kf⟩
      · rw [if_neg hcc] at h'
        simp only [List.lookup_cons,hx] at h'
        rcases h' with q | q
        · cases q; exact absurd rfl (hn (x,.cell) List.mem_cons_self)
        · cases q; exact ⟨(x,.free),List.mem_cons_self,rfl,rfl⟩
    | false =>
      by_cases hcc:(k == NameKind.free && env.scope.kind == .function && env.kindOf n == some .cell)=true
      · rw [if_pos hcc] at h'
        simp only [List.lookup_cons,hx] at h'
        obtain ⟨y,hy,e⟩:=ih h'
        exact ⟨y,List.mem_cons_of_mem _ hy,e⟩
      · rw [if_neg hcc] at h'
        simp only [List.lookup_cons,hx] at h'
        obtain ⟨y,hy,e⟩:=ih h'
        exact ⟨y,List.mem_cons_of_mem _ hy,e⟩
section
variable {X:Cx} {N:List Str} {scope:Scope} {cl:List (Str×Addr)} {js:List (Option Nat)} {pins:List (Addr×Obj)} {σ:St} {H:Hp} {s:Shared} {fp:List Addr}
theorem blk_start (K:CompOk X N scope cl js) (I:Inv X pins σ H s) (hf:∀ b∈fp,FpOk X pins H b) (hlt:∀ b∈fp,b < s.heap.objs.size) {h1:Heap} {m1:Str→Option Value} {tk:Nat} (hn:h1.Ns s.heap.objs.size m1)
    (hk:∀ b o,s.heap.get? b=some o→h1.get? b=some o) :
    Inv (X.blk N scope cl s.heap.objs.size s H fp) [] (capt js σ) H { s with heap:=h1,toks:=tk }:=by
  have bigC:∀ b∈fp,b≠s.heap.objs.size:=fun b hb=>Nat.ne_of_lt (hlt b hb)
  have hcl:∀ x c,cl.lookup x=some c→X.env.cells.lookup x=some c:=fun x c e=>K.cells (x,c) (PySem.mem_of_lookup e)
  refine ⟨⟨I.ok.mod,K.kind,I.ok.glob,I.ok.blt,Nat.le_refl _,fun x y c e1 e2=>I.ok.inj x y c (hcl x c e1) (hcl y c e2),fun x hx=>?_,fun x c z _=>absurd z (by intro q; cases q),I.ok.hd,I.ok.frames,.inl rfl,fun b hb=>⟨bigC b hb,fun x c e=>(hf b hb).2.2.2.2.1 x c (hcl x c e)⟩,
    I.bs,Nat.le_trans I.ok.bsz I.sz,fun b o e hb=>?_,fun b hb z=>?_,I.stack,I.stkFree,I.ok.tb.un I.base⟩,rfl,I.bare,Un.kept hk,⟨m1,hn,fun i x v e1 e2 e3=>?_⟩,fun x c e=>?_,I.hok.fresh (Nat.le_refl _),fun x c e=>(I.freeC x c (hcl x c e)).imp id fun z=>⟨rfl,z.2⟩,fun p hp=>absurd (show p∈([]:List (Addr×Obj)) from hp) (by simp),I.hok.kept hk,?_⟩
  · obtain ⟨y,hy,e1,e2⟩:=relabel_back K.nocell hx
    have q:=K.has y hy e2
    rw [e1] at q
    exact Option.isSome_iff_exists.mp q
  · rcases (hf b hb).2.2.2.1 with z | z
    · exact I.ok.noex b o e z
    · exact absurd (Nat.lt_of_lt_of_le (Heap.lt_size e) (Nat.le_trans I.ok.bsz z)) (Nat.lt_irrefl _)
  · rcases List.mem_cons.mp (I.stkSub b z) with q | q
    · exact (hf b hb).2.1 q
    · exact (hf b hb).2.2.1 q
  ·
    have hi:(capt js σ)[i]?=some (some v):=e2
    unfold capt at hi
    rw [List.getElem?_map] at hi
    cases ej:js[i]? with
    | none=>rw [ej] at hi; cases hi
    | some o =>
      rw [ej] at hi
      cases o with
      | none=>cases hi
      | some j =>
        obtain ⟨y,h1',h2',h3',h4'⟩:=K.cap i j ej
        have e1':N[i]?=some x:=e1
        rw [h1'] at e1'
        cases e1'
        have hj:σ[j]?=some (some v):=by
          cases q:σ[j]? with
          | none=>have hi':(Option.join σ[j]?)=some v:=Option.some.inj hi; rw [q] at hi'; cases hi'
          | some w=>have hi':(Option.join σ[j]?)=some v:=Option.some.inj hi; rw [q] at hi'; cases w with
            | none=>cases hi'
            | some w=>exact congrArg some hi'
        obtain ⟨m,_,hl⟩:=I.loc
        obtain ⟨u,r,l⟩:=hl j x v h2' hj (.inr h4')
        refine ⟨u,r,.inr ⟨h4'.imp (fun z=>relabel_free I.ok.kind h3' z) (fun z=>relabel_keep h3' z),?_⟩⟩
        rcases l with ⟨k,_⟩ | ⟨_,c,ec,hc⟩
        · rcases h4' with h4' | h4' <;> exact absurd (k.symm.trans h4') (by intro z; cases z)
        · obtain ⟨c',ec'⟩:=Option.isSome_iff_exists.mp (K.has (x,.free) (PySem.mem_of_lookup h3') rfl)
          have e3':=hcl x c' ec'
          rw [ec] at e3'
          cases e3'
          exact ⟨c,ec',hc.keeps hk⟩
  · obtain ⟨v,hv⟩:=I.cell x c (hcl x c e)
    exact ⟨v,hv.keeps hk⟩
  · show (capt js σ).length=N.length
    unfold capt
    rw [List.length_map]
    exact K.len
theorem blk_end {σ':St} {H':Hp} {s':Shared} {h':Heap} (I:Inv X pins σ H s) (hf:∀ b∈fp,FpOk X pins H b) (J:Inv (X.blk N scope cl s.heap.objs.size s H fp) [] σ' H' s') (hs:Heap.SameBut s.heap.objs.size s'.heap h') :
    Inv X pins σ H' { s' with heap:=h' }:=by
  have neC:∀ b o,s.heap.get? b=some o→b≠s.heap.objs.size:=fun b o e=>Nat.ne_of_lt (Heap.lt_size e)
  have u:=J.base
  have u':Un (frs X.stack) fp H H' s.heap s'.heap:=u
  refine I.call' (s':={ s' with heap:=h' }) (ch:=fp) J.os ⟨fun b o e n hb hx=>?_,fun b o e n hb hx=>?_,u'.free,fun b o e hx=>?_,u'.tups,u'.frzs,u'.tbls⟩ (fun b ob e=>?_) J.bare fun b hb=>?_
  · exact (hs.2 b (neC b o e)).trans (u'.keep b o e n hb hx)
  · obtain ⟨sl,q⟩:=u'.slot b o e n hb hx
    exact ⟨sl,(hs.2 b (neC b o e)).trans q⟩
  · obtain ⟨o',q⟩:=u'.there b o e hx
    exact ⟨o',(hs.2 b (neC b o e)).trans q⟩
  · have hfree:H' s.heap.objs.size=none:=J.free
    refine (J.hok b ob e).stay (fun c w' hc q=>(hs.2 c ?_).trans q) (fun _ q=>q) fun _ _ q=>q
    rintro rfl
    rcases hc with rfl | hc
    · rw [hfree] at e; cases e
    · rw [hfree] at hc; cases hc
  · obtain ⟨f0,f1,f2,f3,f4,f5⟩:=hf b hb
    exact ⟨f3,f1,f4,f5⟩
end
end L2
namespace L2
open PySem PySem.Spec PyProof.Rows
def PIf (X:Cx) (ifs:List Expr) (t:TT):Prop :=
  ∀ (pins:List (Addr×Obj)) (s:Shared) (σ:St) (H:Hp) (Q:Bool→Hp→Prop),Inv X pins σ H s→t σ H Q →
    wpAny (model X.prog X.w) X.A (forIn ifs true fun c r=>if r=true then (do let ok ← isTrue c X.env (eval c X.env); pure (ForInStep.yield ok)) else pure (ForInStep.yield r)) (TP X pins σ Q) X.xe s
def tYes:TT:=fun _ H Q=>Q true H
theorem pif_nil {X:Cx}:PIf X [] tYes:=fun _ _ _ H _ I h=>wpAny_tests_nil ⟨H,I,h⟩
def compR (J:It) (g:TG) (tt:TT) (te:TE) (σc:St) (Q:VK) (H1:Hp):Prop:=∀ D,H1 D=none →
  ∃ W:Nat→Nat→List V→Hp→Prop,(∃ m,W 0 m [] (upd H1 D (.lst [])))∧∀ i m ys H,W i m ys H →
    (J.stop i H∧Q (.ref D) H) ∨
    (J.go i H∧∃ N:List V→Hp→Prop,(∀ zs H',N zs H'→∃ m',m' < m∧W (i + 1) m' zs H')∧∀ x H',J.yld i H x H'→g x σc H' fun σ2 H2=>Sub σc σ2∧tt σ2 H2 fun b H3 =>
      if b=true then te σ2 H3 fun v H4=>H4 D=some (.lst ys)∧ys.length < sizeLine∧N (ys ++ [v]) (upd H4 D (.lst (ys ++ [v]))) else N ys H3)
def tComp (js:List (Option Nat)) (wi:TI) (g:TG) (tt:TT) (te:TE):TE:=fun σ H Q=>wi σ H fun J H1=>compR J g tt te (capt js σ) Q H1
section
variable {prog:Program} {w:World} {A:Around} {R:Result→Shared→Prop} {s:Shared}
theorem comp_loop {elt tg iter:Expr} {ifs:List Expr} {scope:Scope} {pos:Pos} {it acc:Value} {env:Env} (Iv:Nat→Shared→Prop) (F:Value→Shared→Prop) (hF:∀ e s,¬ F e s)
    (turn:∀ n s,Iv n s→wpAny (model prog w) A (pyNext it) (fun r s1=>(r=none→R (.ok .next) s1)∧∀ v,r=some v →
      wpAny (model prog w) A (letOwnedTupleGo tg it v) (fun _ s2=>wpAny (model prog w) A (assign tg env v) (fun _ s3 =>
        wpAny (model prog w) A (forIn ifs true fun c r=>if r=true then (do let ok ← isTrue c env (eval c env); pure (ForInStep.yield ok)) else pure (ForInStep.yield r)) (fun ok s4 =>
          (ok=false→∃ m,m < n∧Iv m s4)∧(ok=true→wpAny (model prog w) A (eval elt env) (fun x s5=>wpAny (model prog w) A (call (.builtin "list.append") [acc,x]) (fun _ s6=>∃ m,m < n∧Iv m s6) F s5) F s4)) F s3) F s2) F s1) F s)
    (n:Nat) (h:Iv n s):codeAny (model prog w) A (.compLoop (.ListComp elt [⟨tg,iter,ifs,0⟩] scope pos) 0 it acc env) R s:=by
  refine codeAny_loop rfl Iv (fun n s hI=>?_) n h
  show wpAny _ A (Sem.onRaise (compTurn (.ListComp elt [⟨tg,iter,ifs,0⟩] scope pos) 0 it acc env) (fun x=>do noteFrame x env; theTreesLotGoes x)) _ _ s
  refine wpAny_noted ?_
  rw [compTurn_list]
  have ff:∀ {E:Value→Shared→Prop} (e:Value) (s:Shared),F e s→E e s:=fun e s z=>(hF e s z).elim
  refine wpAny_bind (wpAny_standAt (wpAny_bind (wpAny_mono (turn n s hI) (fun r s1 h1=>?_) ff)))
  obtain ⟨h0,h1⟩:=h1
  cases r with
  | none=>exact wpAny_pure (h0 rfl)
  | some v =>
    refine wpAny_bind (wpAny_mono (h1 v rfl) (fun _ s2 h2=>?_) ff)
    refine wpAny_bind (wpAny_mono h2 (fun _ s3 h3=>?_) ff)
    refine wpAny_bind (wpAny_mono h3 (fun ok s4 h4=>?_) ff)
    cases ok with
    | false=>exact wpAny_pure ⟨rfl,h4.1 rfl⟩
    | true =>
      refine wpAny_bind (wpAny_bind (wpAny_mono (h4.2 rfl) (fun x s5 h5=>?_) ff))
      exact wpAny_bind (wpAny_mono h5 (fun _ s6 h6=>wpAny_pure (wpAny_pure ⟨rfl,h6⟩)) ff)
end
section
variable {X:Cx} {N:List Str} {scope:Scope} {cl:List (Str×Addr)} {js:List (Option Nat)} {pins:List (Addr×Obj)} {σ:St} {H:Hp} {s:Shared}
theorem comp_core {elt tg iter:Expr} {ifs:List Expr} {pos:Pos} {J:It} {fp:List Addr} {it:Addr} {tn:Nat→Heap→Prop} {g:TG} {tt:TT} {te:TE} {Q:VK} {E:Value→Shared→Prop} {RR:Value→Addr→Result→Shared→Prop}
    (hc:X.calm=true) (K:CompOk X N scope cl js) (I:Inv X pins σ H s) (T:Turn X.prog X.w X.K tg J fp it tn) (st:tn 0 s.heap) (hf:∀ b∈fp,FpOk X pins H b)
    (hg:∀ C s H fp,PG (X.blk N scope cl C s H fp) tg g) (ht:∀ C s H fp,PIf (X.blk N scope cl C s H fp) ifs tt) (he:∀ C s H fp,PE (X.blk N scope cl C s H fp) elt te)
    (hq:compR J g tt te (capt js σ) Q H)
    (hRR:∀ (D:Addr) (s3 s':Shared) (H':Hp) (σ':St),Inv X pins σ (upd H D (.lst [])) s3→(∀ b∈fp,FpOk X pins (upd H D (.lst [])) b)→Inv (X.blk N scope cl s3.heap.objs.size s3 (upd H D (.lst [])) fp) [] σ' H' s'→Q (.ref D) H'→RR (.ref D) s3.heap.objs.size (.ok .next) s') :
    wpAny (model X.prog X.w) X.A (newList []) (fun acc s3=>wpAny (model X.prog X.w) X.A (newFunctionEnv scope X.env.globals cl [] X.env.qual none .none (some X.env)) (fun cenv s4 =>
      codeAny (model X.prog X.w) X.A (.compStart (.ListComp elt [⟨tg,iter,ifs,0⟩] scope pos) 0 (.ref it) acc { cenv with scope:=relabel scope X.env }) (RR acc cenv.locals) s4) E s3) E s:=by
  have fresh:H s.heap.objs.size=none:=I.fresh
  have lt:∀ b∈fp,b < s.heap.objs.size:=fun b hb=>by
    obtain ⟨o,e,_⟩:=T.obj _ _ st b hb
    exact Heap.lt_size e
  obtain ⟨W,⟨m0,w0⟩,step⟩:=hq _ fresh
  refine wpAny_newObj_type ?_
  have I3:=I.lnew (ys:=[]) (its:=[]) (t':=s.toks) .nil (Nat.zero_le _)
  have f3:∀ b∈fp,FpOk X pins (upd H s.heap.objs.size (.lst [])) b:=fun b hb=>⟨by rw [upd_ne (Nat.ne_of_lt (lt b hb))]; exact (hf b hb).1,(hf b hb).2⟩
  generalize e3:({ s with heap:=s.heap.push { cls:=.type "list", data:=.seq ([]:List Value).toArray },toks:=s.toks }:Shared)=s3 at I3
  have st3:tn 0 s3.heap:=by
    rw [← e3]
    exact T.keep _ _ _ st fun b _ o e=>Heap.get?_push_of_some _ e
  have lt3:∀ b∈fp,b < s3.heap.objs.size:=fun b hb=>by
    obtain ⟨o,e,_⟩:=T.obj _ _ st3 b hb
    exact Heap.lt_size e
  refine wpAny_newFunctionEnv K.nocell (by intro y hy; simp at hy) (fun h4 n4 k4=>?_) K.kind
  have old:∀ b o,s3.heap.get? b=some o→h4.get? b=some o:=fun b o e=>(k4.2 b (Nat.ne_of_lt (Heap.lt_size e))).trans (Heap.get?_push_of_some _ e)
  have I4:=blk_start K I3 f3 lt3 (tk:=s3.toks + ([]:List (Str×Value)).length) n4 old
  have st4:tn 0 h4:=T.keep _ _ _ st3 fun b _ o e=>old b o e
  have fpB:∀ {H':Hp},(∀ b∈fp,H' b=none)→∀ b∈fp,FpOk (X.blk N scope cl s3.heap.objs.size s3 (upd H s.heap.objs.size (.lst [])) fp) [] H' b:=fun hn b hb =>
    ⟨hn b hb,Nat.ne_of_lt (lt3 b hb),fun z=>(List.mem_cons.mp (I3.stkSub b z)).elim (f3 b hb).2.1 (f3 b hb).2.2.1,.inl hb,fun x c e=>(f3 b hb).2.2.2.2.1 x c (K.cells (x,c) (PySem.mem_of_lookup e)),fun p hp=>absurd (show p∈([]:List (Addr×Obj)) from hp) (by simp)⟩
  have loop:codeAny (model X.prog X.w) X.A (.compLoop (.ListComp elt [⟨tg,iter,ifs,0⟩] scope pos) 0 (.ref it) (.ref s.heap.objs.size) (compEnvC scope cl s3.heap.objs.size X.env)) (RR (.ref s.heap.objs.size) s3.heap.objs.size)
      ({ s3 with heap:=h4,toks:=s3.toks + ([]:List (Str×Value)).length }:Shared):=by
    refine comp_loop (fun n s'=>∃ i ys H',Inv (X.blk N scope cl s3.heap.objs.size s3 (upd H s.heap.objs.size (.lst [])) fp) [] (capt js σ) H' s'∧tn i s'.heap∧(∀ b∈fp,H' b=none)∧W i n ys H') (fun _ _=>False) (fun _ _ z=>z) ?_ m0
      ⟨0,[],_,I4,st4,fun b hb=>(f3 b hb).1,w0⟩
    rintro n s5 ⟨i,ys,H5,I5,st5,fr5,w5⟩
    rcases step i n ys H5 w5 with ⟨stop,qn⟩ | ⟨go,Nn,hN,nxt⟩
    · refine thn (T.done (X.blk N scope cl s3.heap.objs.size s3 (upd H s.heap.objs.size (.lst [])) fp) rfl rfl rfl hc i [] s5 (capt js σ) H5 _ I5 (fpB fr5) st5 stop) fun r s6 ⟨hr,I6⟩=>⟨fun _=>?_,fun v e=>?_⟩
      · exact hRR _ s3 s6 H5 _ I3 f3 I6 qn
      · rw [hr] at e; cases e
    · refine thn (T.item (X.blk N scope cl s3.heap.objs.size s3 (upd H s.heap.objs.size (.lst [])) fp) rfl rfl rfl hc i [] s5 (capt js σ) H5 _ I5 (fpB fr5) st5 go) fun r s6 ⟨u,hr,h6⟩=>⟨fun e=>?_,fun v e=>?_⟩
      · rw [hr] at e; cases e
      rw [hr] at e; cases e
      refine thn h6 fun _ s7 ⟨x,H7,I7,r7,y7,st7,fr7⟩=>?_
      have I7':=I7.pinned (fpB fr7) (T.obj _ _ st7)
      have back:∀ {σ':St} {H':Hp} {s':Shared} {i' n':Nat} {zs:List V},Inv (X.blk N scope cl s3.heap.objs.size s3 (upd H s.heap.objs.size (.lst [])) fp) ([] ++ pinsAt fp s7.heap) σ' H' s'→Sub (capt js σ) σ'→W (i + 1) n' zs H' →
          ∃ i ys H',Inv (X.blk N scope cl s3.heap.objs.size s3 (upd H s.heap.objs.size (.lst [])) fp) [] (capt js σ) H' s'∧tn i s'.heap∧(∀ b∈fp,H' b=none)∧W i n' ys H':=fun {σ' H' s' i' n' zs} I' sb w'=>by
        refine ⟨i + 1,zs,H',(I'.unpinned).weak sb.1 sb.2,T.keep _ _ _ st7 fun b hb o e=>(I'.pin (b,o) (List.mem_append_right _ (List.mem_append_right _ (mem_pinsAt hb e)))).1,fun b hb=>?_,w'⟩
        obtain ⟨o,e,_⟩:=T.obj _ _ st7 b hb
        exact (I'.pin (b,o) (List.mem_append_right _ (List.mem_append_right _ (mem_pinsAt hb e)))).2.1
      refine thn (hg _ _ _ _ _ s7 (capt js σ) H7 x _ _ I7' r7 (nxt x H7 y7)) fun _ s8 ⟨σ8,H8,I8,sb8,q8⟩=>?_
      refine thn (ht _ _ _ _ _ s8 σ8 H8 _ I8 q8) fun ok s9 ⟨H9,I9,q9⟩=>⟨fun e=>?_,fun e=>?_⟩
      · rw [e,if_neg Bool.false_ne_true] at q9
        obtain ⟨m',hm,w'⟩:=hN _ _ q9
        exact ⟨m',hm,back (i':=0) I9 sb8 w'⟩
      · rw [e,if_pos rfl] at q9
        refine thn (he _ _ _ _ _ s9 σ8 H9 _ I9 q9) fun xv sa ⟨v,Ha,Ia,ra,qa,za,nn⟩=>?_
        obtain ⟨m',hm,w'⟩:=hN _ _ nn
        refine thn (mt_append (X:=X.blk N scope cl s3.heap.objs.size s3 (upd H s.heap.objs.size (.lst [])) fp) _ sa σ8 Ha (.ref s.heap.objs.size) [v] (.ref s.heap.objs.size) [xv] (fun y H'=>H'=upd Ha s.heap.objs.size (.lst (ys ++ [v]))) Ia rfl (.cons ra .nil) ⟨_,ys,v,rfl,rfl,qa,za,rfl⟩) fun y sb ⟨z,Hb,Ib,_,eb⟩=>?_
        rw [eb] at Ib
        exact ⟨m',hm,back (i':=0) Ib sb8 w'⟩
  exact codeAny_compStart_list loop (T.self _ 0 _ _ _ st4 loop)
theorem pe_comp {elt tg iter:Expr} {ifs:List Expr} {pos:Pos} {wi:TI} {g:TG} {tt:TT} {te:TE} (hc:X.calm=true) (K:CompOk X N scope cl js) (hi:PI X tg iter wi)
    (hg:∀ C s H fp,PG (X.blk N scope cl C s H fp) tg g) (ht:∀ C s H fp,PIf (X.blk N scope cl C s H fp) ifs tt) (he:∀ C s H fp,PE (X.blk N scope cl C s H fp) elt te)
    (hs:∀ x,foldedSetIterable iter X.env x=pure x:=by intro _; rfl):PE X (.ListComp elt [⟨tg,iter,ifs,0⟩] scope pos) (tComp js wi g tt te):=by
  intro pins s σ H Q I h
  rw [eval_ListComp]
  refine wpAny_comprehension_free (use:=none) rfl hs K.clos K.kind K.names (thn (hi pins s σ H _ I h) fun v s1 h1=>thn h1 fun itv s2 h2=>?_)
  obtain ⟨it,fp,tn,J,H2,e,I2,T,st2,f2,hq⟩:=h2
  subst e
  refine comp_core (RR:=fun acc C=>compPost (model X.prog X.w) X.A X.xe none (EP X pins σ Q) acc C) hc K I2 T st2 f2 hg ht he hq ?_
  intro D s3 s' H' σ' I3 f3 J' q
  obtain ⟨m,hn,_⟩:=J'.loc
  exact ⟨m,hn,fun h'' hs''=>⟨.ref D,H',blk_end I3 f3 J' hs'',rfl,q⟩⟩
theorem ps_setComp {elt tg iter:Expr} {ifs:List Expr} {pos spos py:Pos} {i:Nat} {y:Str} {wi:TI} {g:TG} {tt:TT} {te:TE} (hc:X.calm=true) (hN:X.N.Nodup) (hiN:X.N[i]?=some y) (hy:X.env.scope.names.lookup y=some .local) (K:CompOk X N scope cl js) (hi:PI X tg iter wi)
    (hg:∀ C s H fp,PG (X.blk N scope cl C s H fp) tg g) (ht:∀ C s H fp,PIf (X.blk N scope cl C s H fp) ifs tt) (he:∀ C s H fp,PE (X.blk N scope cl C s H fp) elt te)
    (hsw:swapsWith (.ListComp elt [⟨tg,iter,ifs,0⟩] scope pos) (some (.Name y py)) spos.line X.env=pure true:=by rfl)
    (hs:∀ x,foldedSetIterable iter X.env x=pure x:=by intro _; rfl):PS X (.Assign [.Name y py] (.ListComp elt [⟨tg,iter,ifs,0⟩] scope pos) spos) (tAsg (tComp js wi g tt te) (gName i)):=by
  intro pins s σ H D I h
  rw [exec_Assign_Name_used _ _ _ _ hsw]
  refine wpAny_bind (wpAny_standAt (wpAny_bind ?_))
  show wpAny _ X.A (do let _ ← comprehension (.ListComp elt [⟨tg,iter,ifs,0⟩] scope pos) scope X.env _ (newList []) false (eval iter X.env) (some (assign (.Name y py) X.env))) _ _ s
  refine wpAny_bind (wpAny_mono (wpAny_comprehension_free (use:=some (assign (.Name y py) X.env)) (Q:=fun _ s'=>SP X pins D .next s') rfl hs K.clos K.kind K.names
    (thn (hi pins s σ H _ I h) fun v s1 h1=>thn h1 fun itv s2 h2=>?_)) (fun _ s' hq=>wpAny_pure (wpAny_pure hq)) fun _ _ e=>e)
  obtain ⟨it,fp,tn,J,H2,e,I2,T,st2,f2,hq⟩:=h2
  subst e
  refine comp_core (RR:=fun acc C=>compPost (model X.prog X.w) X.A X.xe (some (assign (.Name y py) X.env)) (fun _ s'=>SP X pins D .next s') acc C) hc K I2 T st2 f2 hg ht he hq ?_
  intro Dl s3 s' H' σ' I3 f3 J' q
  have I':Inv X pins σ H' s':=blk_end I3 f3 J' (Heap.SameBut.refl ..)
  obtain ⟨m,hn,_⟩:=J'.loc
  have hC:s3.heap.objs.size≠X.env.locals:=Ne.symm (Nat.ne_of_lt I3.lt)
  have hcell:∀ x c,X.env.cells.lookup x=some c→c≠s3.heap.objs.size:=fun x c e z=>by
    obtain ⟨v,q⟩:=I3.cell x c e
    exact absurd q.lt (by rw [z]; exact Nat.lt_irrefl _)
  show wpAny _ X.A (assign (.Name y py) X.env (.ref Dl)) _ _ _
  refine wpAny_assign_Name (store_ok2 I' hN hiN (.inl hy) (v:=.ref Dl) rfl (fun s'' I'' ⟨a,hs2,ha⟩=>?_) (.inr hy))
  have ha':s3.heap.objs.size≠a:=by
    rcases ha with ha | ha
    · rw [ha]; exact hC
    · exact Ne.symm (hcell y a ha)
  refine ⟨m,hn.sameBut hs2 ha',fun h3 hs3=>?_⟩
  refine ⟨_,H',I''.turned (t':=s''.toks) (it:=s3.heap.objs.size) (fun b o hb e=>(hs3.2 b hb).trans e) J'.free hC (.inr I3.sz) hcell (fun p hp z=>?_),q⟩
  exact absurd (Heap.lt_size (I3.pin p hp).1) (by rw [z]; exact Nat.lt_irrefl _)
end
end L2
namespace L2
open PySem PySem.Spec PyProof.Rows
structure Callee (P:Program) (w:World) (K:PySem.W.Frag) (mg:Str→Option Value) (base:Heap) (CX:CXT) (x:Str) (ps:List Str) (k:Nat) (sp:Sp):Prop where
  ex:∃ f fd,FnOk P w K mg base CX k f fd ps sp∧mg x=some (.ref f)∧PySem.W.keepIn K (.ref f)=true∧Binds K fd ps []
section
variable {X:Cx} {CX:CXT} {k:Nat} {ps:List Str} {sp:Sp} {E:XK} {x:Str} {p pos:Pos} {e:Expr} {es:List Expr} {t:TA}
theorem pe_fn (C:Callee X.prog X.w X.K X.mg X.base CX x ps k sp) (hr:Room k X.A) (hg:Gl X x) (hx:Passes CX X E) (ha:PA X (e :: es) t)
    (hdb:(x == ("__debug__" : Str))=false:=by decide) (he:starEach (e :: es) X.env=(false,eval e X.env) :: starEach es X.env:=by rfl) (hpl:(backTo pos (starEach es X.env)).any (·.1)=false:=by rfl) :
    PE X (.Call (.Name x p) (e :: es) [] pos) (tCall sp [] E t):=by
  intro pins s σ H Q I h
  obtain ⟨f,fd,F,hm,hk,hb⟩:=C.ex
  exact (pe_call F hr hg hm hk hb .nil hx ha hdb he hpl) pins s σ H Q I h
end
theorem CompOk.of {X:Cx} {N:List Str} {scope:Scope} {cl:List (Str×Addr)} {js:List (Option Nat)} (clos:closureFor scope X.env=pure cl) (nc:(scope.names.all fun y=>y.2 != .cell)=true) (kind:scope.kind=.function)
    (nm:(scope.names.all fun y=>y.2 != .local || (scope.names.lookup y.1 == some .local))=true) (cells:∀ p∈cl,X.env.cells.lookup p.1=some p.2) (has:(scope.names.all fun y=>y.2 != .free || (cl.lookup y.1).isSome)=true)
    (len:js.length=N.length) (cap:((js.zip N).all fun p=>match p.1 with | none=>true | some j=>(X.N[j]? == some p.2) && (scope.names.lookup p.2 == some .free) && (X.env.scope.names.lookup p.2 == some .cell || X.env.scope.names.lookup p.2 == some .free))=true):CompOk X N scope cl js:=by
  rw [List.all_eq_true] at nc nm has cap
  refine ⟨clos,fun y hy=>by simpa using nc y hy,kind,fun y hy e=>?_,cells,fun y hy e=>?_,len,fun i j e=>?_⟩
  · have q:=nm y hy
    rw [e] at q
    simpa using q
  · have q:=has y hy
    rw [e] at q
    simpa using q
  · have hi:i < js.length:=(List.getElem?_eq_some_iff.mp e).1
    have hx:N[i]?=some (N[i]'(by omega)):=List.getElem?_eq_getElem (by omega)
    have hz:(js.zip N)[i]?=some (some j,N[i]'(by omega)):=by
      rw [List.getElem?_zip_eq_some]
      exact ⟨e,hx⟩
    have q:=cap _ (List.mem_of_getElem? hz)
    simp only [Bool.and_eq_true,Bool.or_eq_true,beq_iff_eq] at q
    exact ⟨_,hx,q.1.1,q.1.2,q.2⟩
theorem Same.new {H:Hp} {p:Addr} (h:H p=none) (o:HO):Same H (upd H p o):=fun b u q=>by rw [upd_ne (ne_of_none q h)]; exact q
def spLaw (K:PySem.W.Frag):Sp:=fun vs H Q _=>∃ (a:Addr) (ns:List Int),vs=[.ref a]∧SqL K H a (ns.map V.int)∧ns.length≤63∧∀ H',Q (.bl true) H'
end L2
namespace L2
open PySem PySem.Spec PyProof.Rows
theorem dp_ints {K:PySem.W.Frag} {H:Hp}:∀ ns:List Int,DpAll K H (ns.map V.int) (ns.map PyData.int)
  | []=>.nil
  | n :: r=>.cons (.int n) (dp_ints r)
end L2
namespace PySem
section
variable {prog:Program} {w:World} {A:Around} {E:Value→Shared→Prop} {s:Shared} {R:Result→Shared→Prop}
end
end PySem
namespace L2
open PySem PySem.Spec PyProof.Rows
section
variable {X:Cx}
end
end L2
namespace L2
open PySem PySem.Spec PyProof.Rows
section
variable {X:Cx} {K:PySem.W.Frag}
theorem ix_listK (hK:X.K=K):IxR X (rIxL K):=by subst hK; exact ix_list
theorem ix_tupK (hK:X.K=K):IxR X (rIxT K):=by subst hK; exact ix_tup
theorem call_len_seqK (hK:X.K=K):CallR X (.builtin "len") (fun xs H Q=>∃ p ys,xs=[.ref p]∧(SqL K H p ys∨SqT K H p ys)∧Q (.int ys.length) H):=by subst hK; exact call_len_seq
theorem call_list_ofK (hK:X.K=K):CallR X (.type "list") (fun xs H Q=>∃ p ys,xs=[.ref p]∧(SqL K H p ys∨SqT K H p ys)∧∀ l,H l=none→Q (.ref l) (upd H l (.lst ys))):=by subst hK; exact call_list_of
theorem sl_listK (hK:X.K=K):SlR X (rSlL K):=by subst hK; exact sl_list
theorem op_in_seqK (hK:X.K=K):OpR X (compareOp .In) (rIn K false):=by subst hK; exact op_in_seq
theorem pg_tupK {es:List Expr} {k:Nat} {t:TGs} {n:Nat} {pos:Pos} (hK:X.K=K) (hc:X.calm=true) (h:PGs X es t)
    (hn:(assignEach es X.env).length=n:=by rfl) (hst:(assignEach es X.env).findIdx? (·.1)=none:=by rfl):PG X (.Tuple es k pos) (gTup K n t):=by subst hK; exact pg_tup hc h hn hst
end
end L2
namespace L2
open PySem PySem.Spec PyProof.Rows PySem.SeqAt
section
variable {X:Cx} {K:PySem.W.Frag}
def rNeS (K:PySem.W.Frag):R2:=fun x y H Q=>∃ d,Dp K H x d∧Dp K H y d∧shaped d=true∧Q (.bl false) H
theorem op_neS (hu:X.A.units + 64 < cLine):OpR X (compareOp .NotEq) (rNeS X.K):=by
  intro pins s σ H x y v u Q I rx ry h
  obtain ⟨d,h1,h2,z,q⟩:=h
  obtain ⟨as,ra⟩:=h1.reads I rx
  obtain ⟨bs,rb⟩:=h2.reads I ry
  refine ne_dataH ra rb z z hu ?_
  rw [eqv_refl d (canLay_of_shaped z)]
  exact ⟨.bl false,H,I,rfl,q⟩
theorem op_neSK (hK:X.K=K) (hu:X.A.units + 64 < cLine):OpR X (compareOp .NotEq) (rNeS K):=by subst hK; exact op_neS hu
end
end L2
namespace L2
open PySem PySem.Spec PyProof.Rows
section
end
end L2
namespace Cm
open PySem L2
theorem take_succ {α:Type} {xs:List α} {i:Nat} {x:α} (h:xs[i]?=some x):xs.take (i + 1)=xs.take i ++ [x]:=by
  rw [List.take_add_one,h]; rfl
theorem callee {P:Program} {w:World} {K:PySem.W.Frag} {mg:Str→Option Value} {base:Heap} {x:Str} {st:Stmt} {f:Addr} {fd:FuncData} {ps:List Str} {k:Nat} {sp:Sp} (F:Fun K x x st f fd) (hm:mg x=some (.ref f)) (hb:Binds K fd ps []) (G:FnOk P w K mg base CX0 k f fd ps sp) :
    Callee P w K mg base CX0 x ps k sp:=⟨f,fd,G,hm,F.kp,hb⟩
structure At (K:PySem.W.Frag) (x:Str) (st:Stmt) (f:Addr) (fd:FuncData):Prop where
  ns:PySem.W.nsIn K mainGlobals x=some (some (.ref f))
  fn:Fun K x x st f fd
theorem top_mk {K:PySem.W.Frag} {x:Str} {st:Stmt} {f:Addr} {oc:Value} {od an:Option Addr} {osl:Array (Option Value)} {kV doc pm cdv ct:Value} (a:PySem.W.nsIn K mainGlobals x=some (some (.ref f)))
    (l:K.lookup f=some ⟨oc,od,.func (PySem.W.fnOf x x (defArgs st) (defBody st) (defScope st) .none kV doc pm an cdv ct),osl⟩) (c:PySem.W.codeIn K cdv x=true) (k:PySem.W.keepIn K (.ref f)=true):∃ f fd,At K x st f fd:=⟨f,_,a,fun_mk l c k⟩
end Cm
namespace Cm
open PySem L2
end Cm
namespace PD
open PySem L2
variable {K:PySem.W.Frag}
theorem Same.seqT {H H':Hp} {a:Addr} {xs:List V} (e:Same H H') (h:SqT K H a xs):SqT K H' a xs:=by
  rcases h with (h | ⟨o,h⟩) | h
  · exact .inl (.inl (e _ _ h))
  · exact .inl (.inr ⟨o,e _ _ h⟩)
  · exact .inr h
mutual
theorem dp_same {F F':Hp} (e:Same F F'):∀ {v:V} {d:PyData},Dp K F v d→Dp K F' v d
  | _,_,.non=>.non
  | _,_,.bl b=>.bl b
  | _,_,.int i=>.int i
  | _,_,.str x=>.str x
  | _,_,.lst h k=>.lst (e.seq h) (dpAll_same e k)
  | _,_,.tup h k=>.tup (Same.seqT e h) (dpAll_same e k)
theorem dpAll_same {F F':Hp} (e:Same F F'):∀ {vs:List V} {ds:List PyData},DpAll K F vs ds→DpAll K F' vs ds
  | _,_,.nil=>.nil
  | _,_,.cons h k=>.cons (dp_same e h) (dpAll_same e k)
end
theorem DpAll.length {F:Hp}:∀ {vs:List V} {ds:List PyData},DpAll K F vs ds→vs.length=ds.length
  | _,_,.nil=>rfl
  | _,_,.cons _ k=>congrArg (· + 1) (DpAll.length k)
theorem DpAll.get {F:Hp}:∀ {vs:List V} {ds:List PyData} {i:Nat} {d:PyData},DpAll K F vs ds→ds[i]?=some d→∃ v,vs[i]?=some v∧Dp K F v d
  | _,_,_,_,.nil,e=>by simp at e
  | _,_,0,_,.cons h _,e=>by simp at e; subst e; exact ⟨_,rfl,h⟩
  | _,_,i + 1,d,.cons _ k,e=>by
    obtain ⟨v,h1,h2⟩:=DpAll.get (i:=i) k (by simpa using e)
    exact ⟨v,by simpa using h1,h2⟩
theorem DpAll.append {F:Hp}:∀ {vs ws:List V} {ds es:List PyData},DpAll K F vs ds→DpAll K F ws es→DpAll K F (vs ++ ws) (ds ++ es)
  | _,_,_,_,.nil,k=>k
  | _,_,_,_,.cons h t,k=>.cons h (DpAll.append t k)
theorem DpAll.reverse {F:Hp}:∀ {vs:List V} {ds:List PyData},DpAll K F vs ds→DpAll K F vs.reverse ds.reverse
  | _,_,.nil=>.nil
  | _,_,.cons h t=>by
    rw [List.reverse_cons,List.reverse_cons]
    exact DpAll.append (DpAll.reverse t) (.cons h .nil)
theorem dpAll_ints {F:Hp} (ns:List Int):DpAll K F (ns.map V.int) (ns.map PyData.int):=dp_ints ns
theorem dpAll_of_ints {F:Hp}:∀ {vs:List V} {ns:List Int},DpAll K F vs (ns.map PyData.int)→vs=ns.map V.int
  | _,[],.nil=>rfl
  | _,n :: r,.cons h t=>by cases h; rw [List.map_cons,dpAll_of_ints t]
theorem dp_int {F:Hp} {v:V} {i:Int} (h:Dp K F v (.int i)):v=.int i:=by cases h; rfl
theorem dp_str {F:Hp} {v:V} {x:Str} (h:Dp K F v (.str x)):v=.str x:=by cases h; rfl
structure Gr (H F H' F':Hp):Prop where
  h:Same H H'
  f:Same F F'
  le:Same F' H'
  ap:∀ a o,H a=some o→F a=none→F' a=none
theorem Gr.refl {H F:Hp} (le:Same F H):Gr H F H F:=⟨.refl _,.refl _,le,fun _ _ _ h=>h⟩
theorem Gr.trans {H F H1 F1 H2 F2:Hp} (a:Gr H F H1 F1) (b:Gr H1 F1 H2 F2):Gr H F H2 F2:=⟨a.h.trans b.h,a.f.trans b.f,b.le,fun c o q n=>b.ap c o (a.h _ _ q) (a.ap c o q n)⟩
theorem Gr.new {H F:Hp} {p:Addr} (le:Same F H) (hp:H p=none) (o:HO):Gr H F (upd H p o) (upd F p o):=by
  have fp:F p=none:=le.free hp
  refine ⟨Same.new hp o,Same.new fp o,fun b u q=>?_,fun b u q n=>?_⟩
  · by_cases e:b=p
    · subst e; rw [upd_same] at q ⊢; exact q
    · rw [upd_ne e] at q ⊢; exact le _ _ q
  · rw [upd_ne (ne_of_none q hp)]; exact n
theorem Gr.newO {H F:Hp} {p:Addr} (le:Same F H) (hp:H p=none) (o:HO):Gr H F (upd H p o) F:=⟨Same.new hp o,.refl _,fun b u q=>by rw [upd_ne (ne_of_none (le _ _ q) hp)]; exact le _ _ q,fun _ _ _ n=>n⟩
inductive Sx where
  | fresh | spoil (T:Addr→Prop)
def Sx.has (S:Sx) (H0:Hp) (a:Addr):Prop:=match S with | .fresh=>H0 a≠none | .spoil T=>H0 a≠none∨T a
def LN (K:PySem.W.Frag) (κ:Bool) (S:Sx) (H0 F:Hp) (a:Addr) (xs:List V):Prop:=match κ with
  | true=>F a=some (.lst xs)∧¬ S.has H0 a
  | false=>SqL K F a xs
theorem LN.sq {κ:Bool} {S:Sx} {H0 F:Hp} {a:Addr} {xs:List V} (h:LN K κ S H0 F a xs):SqL K F a xs:=by
  cases κ with
  | true=>exact SqL.of h.1
  | false=>exact h
theorem LN.mono {κ:Bool} {S:Sx} {H0 F F':Hp} {a:Addr} {xs:List V} (h:LN K κ S H0 F a xs) (e:Same F F'):LN K κ S H0 F' a xs:=by
  cases κ with
  | true=>exact ⟨e _ _ h.1,h.2⟩
  | false=>exact e.seq h
theorem LN.new {κ:Bool} {S:Sx} {H0 F:Hp} {a:Addr} {xs:List V} (h:¬ S.has H0 a):LN K κ S H0 (upd F a (.lst xs)) a xs:=by
  cases κ with
  | true=>exact ⟨upd_same,h⟩
  | false=>exact SqL.of upd_same
mutual
inductive Rp (K:PySem.W.Frag) (κ:Bool) (S:Sx) (H0 F:Hp):V→PyData→Prop
  | non:Rp K κ S H0 F .non .none
  | bl (b:Bool):Rp K κ S H0 F (.bl b) (.bool b)
  | int (i:Int):Rp K κ S H0 F (.int i) (.int i)
  | str (x:Str):Rp K κ S H0 F (.str x) (.str x)
  | lst {a:Addr} {xs:List V} {ds:List PyData}:LN K κ S H0 F a xs→RpAll K κ S H0 F xs ds→Rp K κ S H0 F (.ref a) (.list ds)
  | tup {a:Addr} {xs:List V} {ds:List PyData}:SqT K F a xs→RpAll K κ S H0 F xs ds→Rp K κ S H0 F (.ref a) (.tuple ds)
inductive RpAll (K:PySem.W.Frag) (κ:Bool) (S:Sx) (H0 F:Hp):List V→List PyData→Prop
  | nil:RpAll K κ S H0 F [] []
  | cons {v:V} {vs:List V} {d:PyData} {ds:List PyData}:Rp K κ S H0 F v d→RpAll K κ S H0 F vs ds→RpAll K κ S H0 F (v :: vs) (d :: ds)
end
section
variable {κ κ':Bool} {S S':Sx} {H0 H0' F F':Hp}
mutual
theorem rp_map (hl:∀ a xs,LN K κ S H0 F a xs→LN K κ' S' H0' F' a xs) (ht:∀ a xs,SqT K F a xs→SqT K F' a xs):∀ {v:V} {d:PyData},Rp K κ S H0 F v d→Rp K κ' S' H0' F' v d
  | _,_,.non=>.non
  | _,_,.bl b=>.bl b
  | _,_,.int i=>.int i
  | _,_,.str x=>.str x
  | _,_,.lst h k=>.lst (hl _ _ h) (rpAll_map hl ht k)
  | _,_,.tup h k=>.tup (ht _ _ h) (rpAll_map hl ht k)
theorem rpAll_map (hl:∀ a xs,LN K κ S H0 F a xs→LN K κ' S' H0' F' a xs) (ht:∀ a xs,SqT K F a xs→SqT K F' a xs):∀ {vs:List V} {ds:List PyData},RpAll K κ S H0 F vs ds→RpAll K κ' S' H0' F' vs ds
  | _,_,.nil=>.nil
  | _,_,.cons h k=>.cons (rp_map hl ht h) (rpAll_map hl ht k)
end
theorem rp_mono (e:Same F F') {v:V} {d:PyData} (h:Rp K κ S H0 F v d):Rp K κ S H0 F' v d:=rp_map (fun _ _ z=>z.mono e) (fun _ _ z=>Same.seqT e z) h
theorem rpAll_mono (e:Same F F') {vs:List V} {ds:List PyData} (h:RpAll K κ S H0 F vs ds):RpAll K κ S H0 F' vs ds:=rpAll_map (fun _ _ z=>z.mono e) (fun _ _ z=>Same.seqT e z) h
mutual
theorem rp_dp:∀ {v:V} {d:PyData},Rp K κ S H0 F v d→Dp K F v d
  | _,_,.non=>.non
  | _,_,.bl b=>.bl b
  | _,_,.int i=>.int i
  | _,_,.str x=>.str x
  | _,_,.lst h k=>.lst h.sq (rpAll_dp k)
  | _,_,.tup h k=>.tup h (rpAll_dp k)
theorem rpAll_dp:∀ {vs:List V} {ds:List PyData},RpAll K κ S H0 F vs ds→DpAll K F vs ds
  | _,_,.nil=>.nil
  | _,_,.cons h k=>.cons (rp_dp h) (rpAll_dp k)
end
mutual
theorem dp_rp:∀ {v:V} {d:PyData},Dp K F v d→Rp K false S H0 F v d
  | _,_,.non=>.non
  | _,_,.bl b=>.bl b
  | _,_,.int i=>.int i
  | _,_,.str x=>.str x
  | _,_,.lst h k=>.lst h (dpAll_rp k)
  | _,_,.tup h k=>.tup h (dpAll_rp k)
theorem dpAll_rp:∀ {vs:List V} {ds:List PyData},DpAll K F vs ds→RpAll K false S H0 F vs ds
  | _,_,.nil=>.nil
  | _,_,.cons h k=>.cons (dp_rp h) (dpAll_rp k)
end
theorem rp_weak (hk:κ'=true→κ=true) {v:V} {d:PyData} (h:Rp K κ S H0 F v d):Rp K κ' S H0 F v d:=by
  cases κ' with
  | false=>exact dp_rp (rp_dp h)
  | true=>rw [hk rfl] at h; exact h
theorem RpAll.length {vs:List V} {ds:List PyData} (h:RpAll K κ S H0 F vs ds):vs.length=ds.length:=DpAll.length (rpAll_dp h)
theorem RpAll.get:∀ {vs:List V} {ds:List PyData} {i:Nat} {d:PyData},RpAll K κ S H0 F vs ds→ds[i]?=some d→∃ v,vs[i]?=some v∧Rp K κ S H0 F v d
  | _,_,_,_,.nil,e=>by simp at e
  | _,_,0,_,.cons h _,e=>by simp at e; subst e; exact ⟨_,rfl,h⟩
  | _,_,i + 1,d,.cons _ k,e=>by
    obtain ⟨v,h1,h2⟩:=RpAll.get (i:=i) k (by simpa using e)
    exact ⟨v,by simpa using h1,h2⟩
theorem RpAll.get':∀ {vs:List V} {ds:List PyData} {i:Nat} {v:V},RpAll K κ S H0 F vs ds→vs[i]?=some v→∃ d,ds[i]?=some d∧Rp K κ S H0 F v d
  | _,_,_,_,.nil,e=>by simp at e
  | _,_,0,_,.cons h _,e=>by simp at e; subst e; exact ⟨_,rfl,h⟩
  | _,_,i + 1,d,.cons _ k,e=>by
    obtain ⟨v,h1,h2⟩:=RpAll.get' (i:=i) k (by simpa using e)
    exact ⟨v,by simpa using h1,h2⟩
theorem RpAll.append:∀ {vs ws:List V} {ds es:List PyData},RpAll K κ S H0 F vs ds→RpAll K κ S H0 F ws es→RpAll K κ S H0 F (vs ++ ws) (ds ++ es)
  | _,_,_,_,.nil,k=>k
  | _,_,_,_,.cons h t,k=>.cons h (RpAll.append t k)
theorem RpAll.take:∀ {vs:List V} {ds:List PyData} (n:Nat),RpAll K κ S H0 F vs ds→RpAll K κ S H0 F (vs.take n) (ds.take n)
  | _,_,0,_=>.nil
  | _,_,_ + 1,.nil=>.nil
  | _,_,n + 1,.cons h t=>.cons h (RpAll.take n t)
theorem RpAll.drop:∀ {vs:List V} {ds:List PyData} (n:Nat),RpAll K κ S H0 F vs ds→RpAll K κ S H0 F (vs.drop n) (ds.drop n)
  | _,_,0,r=>r
  | _,_,_ + 1,.nil=>.nil
  | _,_,n + 1,.cons _ t=>RpAll.drop n t
theorem RpAll.set {v:V} {d:PyData} (h:Rp K κ S H0 F v d):∀ {vs:List V} {ds:List PyData} (n:Nat),RpAll K κ S H0 F vs ds→RpAll K κ S H0 F (vs.set n v) (ds.set n d)
  | _,_,_,.nil=>.nil
  | _,_,0,.cons _ t=>.cons h t
  | _,_,n + 1,.cons q t=>.cons q (RpAll.set h n t)
theorem RpAll.reverse:∀ {vs:List V} {ds:List PyData},RpAll K κ S H0 F vs ds→RpAll K κ S H0 F vs.reverse ds.reverse
  | _,_,.nil=>.nil
  | _,_,.cons h t=>by
    rw [List.reverse_cons,List.reverse_cons]
    exact RpAll.append (RpAll.reverse t) (.cons h .nil)
theorem rp_int {v:V} {i:Int} (h:Rp K κ S H0 F v (.int i)):v=.int i:=by cases h; rfl
theorem rp_bl {v:V} {b:Bool} (h:Rp K κ S H0 F v (.bool b)):v=.bl b:=by cases h; rfl
theorem rp_str {v:V} {x:Str} (h:Rp K κ S H0 F v (.str x)):v=.str x:=by cases h; rfl
theorem rp_lst {v:V} {ds:List PyData} (h:Rp K κ S H0 F v (.list ds)):∃ a vs,v=.ref a∧LN K κ S H0 F a vs∧RpAll K κ S H0 F vs ds:=by cases h with | lst h k=>exact ⟨_,_,rfl,h,k⟩
theorem rp_tup {v:V} {ds:List PyData} (h:Rp K κ S H0 F v (.tuple ds)):∃ a vs,v=.ref a∧SqT K F a vs∧RpAll K κ S H0 F vs ds:=by cases h with | tup h k=>exact ⟨_,_,rfl,h,k⟩
end
def imm:PyData→Bool
  | .none=>true
  | .bool _=>true
  | .int _=>true
  | .str _=>true
  | .tuple ds=>immAll ds
  | _=>false
where immAll:List PyData→Bool
  | []=>true
  | d :: r=>imm d && immAll r
mutual
theorem dp_imm {κ:Bool} {S:Sx} {H0 F:Hp}:∀ {v:V} {d:PyData},imm d=true→Dp K F v d→Rp K κ S H0 F v d
  | _,_,_,.non=>.non
  | _,_,_,.bl b=>.bl b
  | _,_,_,.int i=>.int i
  | _,_,_,.str x=>.str x
  | _,_,h,.lst _ _=>by unfold imm at h; cases h
  | _,_,h,.tup q k=>.tup q (dpAll_imm (by unfold imm at h; exact h) k)
theorem dpAll_imm {κ:Bool} {S:Sx} {H0 F:Hp}:∀ {vs:List V} {ds:List PyData},imm.immAll ds=true→DpAll K F vs ds→RpAll K κ S H0 F vs ds
  | _,_,_,.nil=>.nil
  | _,_,h,.cons p k=>by
    unfold imm.immAll at h
    rw [Bool.and_eq_true] at h
    exact .cons (dp_imm h.1 p) (dpAll_imm h.2 k)
end
theorem dpAll_immL {κ:Bool} {S:Sx} {H0 F:Hp} {vs:List V} {ds:List PyData} (h:∀ d∈ds,imm d=true) (k:DpAll K F vs ds):RpAll K κ S H0 F vs ds:=by
  refine dpAll_imm ?_ k
  clear k
  induction ds with
  | nil=>rfl
  | cons d r ih =>
    unfold imm.immAll
    rw [h d List.mem_cons_self,ih fun x hx=>h x (List.mem_cons_of_mem _ hx)]
    rfl
inductive DV where
  | fz (κ:Bool) (d:PyData) | ow (κ:Bool) (ds:List PyData) | tn (d:PyData) | ox | o2 (r:Option Addr) (dss:List (List PyData)) | fn (a:Addr) | xn (o:Addr→HO) | oa (a:Addr) (κ:Bool) (ds:List PyData) | xp (φ:Hp→V→Prop) | od (o:HO) | og (ad:Hp→V→Addr→Prop) (ψ:Sx→Hp→Hp→Hp→V→Prop)
abbrev Ctx:=List (Option DV)
structure OwnO (S:Sx) (H0 H F:Hp) (a:Addr) (o:HO):Prop where
  h:H a=some o
  f:F a=none
  n:H0 a=none
  s:¬ S.has H0 a
abbrev OwnAt (S:Sx) (H0 H F:Hp) (a:Addr) (vs:List V):Prop:=OwnO S H0 H F a (.lst vs)
structure IdA (r:Option Addr) (v:V) (a:Addr):Prop where
  eq:v=.ref a
  id:∀ b,r=some b→a=b
structure GOk (ad:Hp→V→Addr→Prop) (ψ:Sx→Hp→Hp→Hp→V→Prop):Prop where
  pl:∀ H H' v,(∀ a,ad H v a→H' a=H a)→∀ a,ad H' v a↔ad H v a
  ps:∀ S H0 H H' F F' v,(∀ a,ad H v a→H' a=H a)→Same F F'→ψ S H0 H F v→ψ S H0 H' F' v
def HasV (K:PySem.W.Frag) (S:Sx) (H0 H F:Hp) (v:V):DV→Prop
  | .fz κ d=>Rp K κ S H0 F v d
  | .ow κ ds=>∃ a vs,v=.ref a∧OwnAt S H0 H F a vs∧RpAll K κ S H0 F vs ds
  | .tn d=>∃ T,S=.spoil T∧Rp K true (.spoil fun a=>¬ T a) (fun _=>none) F v d
  | .ox=>∃ a vs,v=.ref a∧OwnAt S H0 H F a vs
  | .fn a=>v=.ref a
  | .xn o=>∃ a,v=.ref a∧F a=some (o a)
  | .oa a κ ds=>v=.ref a∧∃ vs,OwnAt S H0 H F a vs∧RpAll K κ S H0 F vs ds
  | .xp φ=>∃ F1,Same F1 F∧φ F1 v
  | .od o=>∃ a,v=.ref a∧OwnO S H0 H F a o
  | .og ad ψ=>GOk ad ψ∧(∀ a,ad H v a→∃ o,OwnO S H0 H F a o)∧ψ S H0 H F v
  | .o2 r dss=>∃ a vs,IdA r v a∧OwnAt S H0 H F a vs∧V.ref a∉vs∧vs.Nodup∧vs.length=dss.length∧∀ (j:Nat) x,vs[j]?=some x→∃ b us ds,x=.ref b∧OwnAt S H0 H F b us∧dss[j]?=some ds∧RpAll K true S H0 F us ds
def Owns (H:Hp) (v:V):DV→Addr→Prop
  | .ow _ _,a=>v=.ref a
  | .ox,a=>v=.ref a
  | .oa _ _ _,a=>v=.ref a
  | .od _,a=>v=.ref a
  | .og ad _,a=>ad H v a
  | .o2 _ _,a=>v=.ref a∨∃ p vs,v=.ref p∧H p=some (.lst vs)∧V.ref a∈vs
  | _,_=>False
structure DEnv (K:PySem.W.Frag) (S:Sx) (H0 F0 H F:Hp) (σ:St) (Γ:Ctx):Prop where
  gr:Gr H0 F0 H F
  l0:Same F0 H0
  sd:∀ a,S.has H0 a→∃ o,H a=some o
  s0:∀ T,S=.spoil T→∀ a,T a→H0 a=none
  len:σ.length=Γ.length
  has:∀ (i:Nat) (x:DV),Γ[i]?=some (some x)→∃ v,σ[i]?=some (some v)∧HasV K S H0 H F v x
  ne:∀ (i j:Nat) (x y:DV) (v w:V) (a:Addr),Γ[i]?=some (some x)→Γ[j]?=some (some y)→σ[i]?=some (some v)→σ[j]?=some (some w)→Owns H v x a→Owns H w y a→i=j
variable {S:Sx} {κ:Bool}
theorem DEnv.le {H0 F0 H F:Hp} {σ:St} {Γ:Ctx} (e:DEnv K S H0 F0 H F σ Γ):Same F H:=e.gr.le
theorem DEnv.out {H0 F0 H F:Hp} {σ:St} {Γ:Ctx} (e:DEnv K S H0 F0 H F σ Γ) {p:Addr} (hp:H p=none):¬ S.has H0 p:=fun c=>by
  obtain ⟨o,q⟩:=e.sd p c
  rw [hp] at q; cases q
theorem OwnO.mono {H0 H F H' F':Hp} {a:Addr} {u:HO} (o:OwnO S H0 H F a u) (g:Gr H F H' F'):OwnO S H0 H' F' a u:=⟨g.h _ _ o.h,g.ap _ _ o.h o.f,o.n,o.s⟩
theorem HasV.mono {H0 H F H' F':Hp} {v:V} {x:DV} (h:HasV K S H0 H F v x) (g:Gr H F H' F'):HasV K S H0 H' F' v x:=by
  cases x with
  | fz κ d=>exact rp_mono g.f h
  | ow κ ds=>obtain ⟨a,vs,e,o,k⟩:=h; exact ⟨a,vs,e,o.mono g,rpAll_mono g.f k⟩
  | tn d=>obtain ⟨T,e,k⟩:=h; exact ⟨T,e,rp_mono g.f k⟩
  | ox=>obtain ⟨a,vs,e,o⟩:=h; exact ⟨a,vs,e,o.mono g⟩
  | o2 r dss =>
    obtain ⟨a,vs,e,o,n1,n2,l,k⟩:=h
    refine ⟨a,vs,e,o.mono g,n1,n2,l,fun j x hx=>?_⟩
    obtain ⟨b,us,ds,e2,o2,h2,k2⟩:=k j x hx
    exact ⟨b,us,ds,e2,o2.mono g,h2,rpAll_mono g.f k2⟩
  | fn a=>exact h
  | xn φ=>obtain ⟨a,e,k⟩:=h; exact ⟨a,e,g.f _ _ k⟩
  | oa a κ ds=>obtain ⟨e,vs,o,k⟩:=h; exact ⟨e,vs,o.mono g,rpAll_mono g.f k⟩
  | xp φ=>obtain ⟨F1,s,k⟩:=h; exact ⟨F1,s.trans g.f,k⟩
  | od u=>obtain ⟨a,e,o⟩:=h; exact ⟨a,e,o.mono g⟩
  | og ad ψ =>
    obtain ⟨ok,w,p⟩:=h
    have eq:∀ a,ad H v a→H' a=H a:=fun a z=>by
      obtain ⟨o,y⟩:=w a z
      rw [y.h]
      exact g.h _ _ y.h
    refine ⟨ok,fun a z=>?_,ok.ps S H0 H H' F F' v eq g.f p⟩
    obtain ⟨o,y⟩:=w a ((ok.pl H H' v eq a).mp z)
    exact ⟨o,y.mono g⟩
theorem HasV.owns {H0 H F:Hp} {v:V} {x:DV} {a:Addr} (h:HasV K S H0 H F v x) (o:Owns H v x a):∃ u,OwnO S H0 H F a u:=by
  cases x with
  | fz _ _=>exact o.elim
  | tn _=>exact o.elim
  | ow κ ds=>obtain ⟨b,vs,e,w,_⟩:=h; cases (show v=.ref a from o); cases e; exact ⟨_,w⟩
  | ox=>obtain ⟨b,vs,e,w⟩:=h; cases (show v=.ref a from o); cases e; exact ⟨_,w⟩
  | o2 r dss =>
    obtain ⟨b,vs,e,w,_,_,_,k⟩:=h
    rcases o with o | ⟨p,us,e2,hp,hm⟩
    · cases o; cases e.eq; exact ⟨_,w⟩
    · cases e.eq
      cases e2
      have hw:=w.h
      rw [hp] at hw
      cases hw
      obtain ⟨j,hj⟩:=List.mem_iff_getElem?.mp hm
      obtain ⟨c,ws,ds,e3,o3,_⟩:=k j _ hj
      cases e3
      exact ⟨_,o3⟩
  | fn _=>exact o.elim
  | xn _=>exact o.elim
  | oa b κ ds=>obtain ⟨e,vs,w,_⟩:=h; cases (show v=.ref a from o); cases e; exact ⟨_,w⟩
  | xp _=>exact o.elim
  | od u=>obtain ⟨b,e,w⟩:=h; cases (show v=.ref a from o); cases e; exact ⟨u,w⟩
  | og ad ψ=>exact h.2.1 a o
theorem Owns.back {H0 H F H':Hp} {v:V} {x:DV} {a:Addr} (h:HasV K S H0 H F v x) (g:∀ b u,OwnO S H0 H F b u→H' b=some u) (o:Owns H' v x a):Owns H v x a:=by
  cases x with
  | fz _ _=>exact o.elim
  | tn _=>exact o.elim
  | ow κ ds=>exact o
  | ox=>exact o
  | o2 r dss =>
    rcases o with o | ⟨p,us,e2,hp,hm⟩
    · exact .inl o
    · obtain ⟨b,vs,e',w,_⟩:=h
      have e:=e'.eq
      rw [e2] at e
      cases e
      rw [g _ _ w] at hp
      cases hp
      exact .inr ⟨p,_,e2,w.h,hm⟩
  | fn _=>exact o.elim
  | xn _=>exact o.elim
  | oa b κ ds=>exact o
  | xp _=>exact o.elim
  | od _=>exact o
  | og ad ψ =>
    obtain ⟨ok,w,p⟩:=h
    exact (ok.pl H H' v (fun b z=>by
      obtain ⟨u,y⟩:=w b z
      rw [g _ _ y,y.h]) a).mp o
theorem DEnv.mono {H0 F0 H F H' F':Hp} {σ:St} {Γ:Ctx} (e:DEnv K S H0 F0 H F σ Γ) (g:Gr H F H' F'):DEnv K S H0 F0 H' F' σ Γ where
  gr:=e.gr.trans g
  l0:=e.l0
  sd:=fun a h=>let ⟨o,q⟩:=e.sd a h; ⟨o,g.h _ _ q⟩
  s0:=e.s0
  len:=e.len
  has:=fun i x h=>let ⟨v,a,b⟩:=e.has i x h; ⟨v,a,b.mono g⟩
  ne:=fun i j x y v w a h1 h2 h3 h4 o1 o2=>by
    obtain ⟨v',q1,q2⟩:=e.has i x h1
    obtain ⟨w',q3,q4⟩:=e.has j y h2
    rw [h3] at q1
    cases q1
    rw [h4] at q3
    cases q3
    exact e.ne i j x y v w a h1 h2 h3 h4 (o1.back q2 fun _ _ z=>g.h _ _ z.h) (o2.back q4 fun _ _ z=>g.h _ _ z.h)
section
variable {Γ:Ctx}
def EvE (K:PySem.W.Frag) (S:Sx) (κ:Bool) (t:TE) (Γ:Ctx) (d:PyData):Prop:=∀ (H0 F0 H F:Hp) (σ:St),DEnv K S H0 F0 H F σ Γ→∀ Q:VK,(∀ v H' F',Gr H F H' F'→Rp K κ S H0 F' v d→Q v H')→t σ H Q
def EvO (K:PySem.W.Frag) (S:Sx) (κ:Bool) (t:TE) (Γ:Ctx) (ds:List PyData):Prop:=∀ (H0 F0 H F:Hp) (σ:St),DEnv K S H0 F0 H F σ Γ→∀ Q:VK,(∀ a vs H' F',Gr H F H' F'→H a=none→H' a=some (.lst vs)→F' a=none→RpAll K κ S H0 F' vs ds→Q (.ref a) H')→t σ H Q
def EvL (K:PySem.W.Frag) (S:Sx) (κ:Bool) (t:TE) (Γ:Ctx) (ds:List PyData):Prop:=∀ (H0 F0 H F:Hp) (σ:St),DEnv K S H0 F0 H F σ Γ→∀ Q:VK,(∀ a vs H' F',Gr H F H' F'→SqL K H' a vs→RpAll K κ S H0 F' vs ds→Q (.ref a) H')→t σ H Q
def EvD (K:PySem.W.Frag) (S:Sx) (t:TE) (Γ:Ctx) (d:PyData):Prop:=∀ (H0 F0 H F:Hp) (σ:St),DEnv K S H0 F0 H F σ Γ→∀ Q:VK,(∀ v H' F',Gr H F H' F'→Dp K H' v d→Q v H')→t σ H Q
def EvT (K:PySem.W.Frag) (S:Sx) (t:TT) (Γ:Ctx) (b:Bool):Prop:=∀ (H0 F0 H F:Hp) (σ:St),DEnv K S H0 F0 H F σ Γ→∀ Q:Bool→Hp→Prop,(∀ H' F',Gr H F H' F'→Q b H')→t σ H Q
def EvA (K:PySem.W.Frag) (S:Sx) (κ:Bool) (t:TA) (Γ:Ctx) (ds:List PyData):Prop:=∀ (H0 F0 H F:Hp) (σ:St),DEnv K S H0 F0 H F σ Γ→∀ Q:List V→Hp→Prop,(∀ vs H' F',Gr H F H' F'→RpAll K κ S H0 F' vs ds→Q vs H')→t σ H Q
def EvP (K:PySem.W.Frag) (S:Sx) (t:TO) (Γ:Ctx) (o:Option Int):Prop:=∀ (H0 F0 H F:Hp) (σ:St),DEnv K S H0 F0 H F σ Γ→∀ Q:Option Int→Hp→Prop,(∀ H' F',Gr H F H' F'→Q o H')→t σ H Q
theorem EvE.toD {t:TE} {d:PyData} (h:EvE K S κ t Γ d):EvD K S t Γ d:=fun H0 F0 H F σ e Q q=>h H0 F0 H F σ e Q fun v H' F' g p=>q v H' F' g (dp_same g.le (rp_dp p))
theorem EvE.weak {κ':Bool} {t:TE} {d:PyData} (h:EvE K S κ t Γ d) (hk:κ'=true→κ=true):EvE K S κ' t Γ d:=fun H0 F0 H F σ e Q q=>h H0 F0 H F σ e Q fun v H' F' g p=>q v H' F' g (rp_weak hk p)
theorem EvE.imm {κ':Bool} {t:TE} {d:PyData} (h:EvE K S κ t Γ d) (hk:imm d=true):EvE K S κ' t Γ d:=fun H0 F0 H F σ e Q q=>h H0 F0 H F σ e Q fun v H' F' g p=>q v H' F' g (dp_imm hk (rp_dp p))
theorem EvE.toL {t:TE} {ds:List PyData} (h:EvE K S κ t Γ (.list ds)):EvL K S κ t Γ ds:=fun H0 F0 H F σ e Q q=>h H0 F0 H F σ e Q fun v H' F' g p=>by
  obtain ⟨a,vs,rfl,h1,h2⟩:=rp_lst p
  exact q a vs H' F' g (g.le.seq h1.sq) h2
theorem EvL.imm {κ':Bool} {t:TE} {ds:List PyData} (h:EvL K S κ t Γ ds) (hk:∀ d∈ds,imm d=true):EvL K S κ' t Γ ds:=fun H0 F0 H F σ e Q q=>h H0 F0 H F σ e Q fun a vs H' F' g p k=>q a vs H' F' g p (dpAll_immL hk (rpAll_dp k))
theorem EvO.toL {t:TE} {ds:List PyData} (h:EvO K S κ t Γ ds):EvL K S κ t Γ ds:=fun H0 F0 H F σ e Q q=>h H0 F0 H F σ e Q fun a vs H' F' g _ p _ k=>q a vs H' F' g (SqL.of p) k
theorem EvO.toE {t:TE} {ds:List PyData} (h:EvO K S κ t Γ ds):EvE K S κ t Γ (.list ds):=fun H0 F0 H F σ e Q q=>h H0 F0 H F σ e Q fun a vs H' F' g n p f k=>by
  have s:Same F' (upd F' a (.lst vs)):=Same.new f _
  refine q (.ref a) H' (upd F' a (.lst vs)) ⟨g.h,g.f.trans s,fun b u z=>?_,fun b u z y=>?_⟩ (.lst (LN.new (e.out n)) (rpAll_mono s k))
  · by_cases eb:b=a
    · subst eb; rw [upd_same] at z; rw [← z]; exact p
    · rw [upd_ne eb] at z; exact g.le _ _ z
  · rw [upd_ne (ne_of_none z n)]; exact g.ap _ _ z y
theorem ev_var {i:Nat} {d:PyData} (h:Γ[i]?=some (some (.fz κ d))):EvE K S κ (tVar i) Γ d:=fun H0 F0 H F σ e Q q=>by
  obtain ⟨v,hv,hd⟩:=e.has i _ h
  exact ⟨v,hv,q v H F (.refl e.le) hd⟩
theorem ev_int {i:Int}:EvE K S κ (tC (.int i)) Γ (.int i):=fun _ _ H F _ e _ q=>q _ H F (.refl e.le) (.int i)
theorem ev_str {x:Str}:EvE K S κ (tC (.str x)) Γ (.str x):=fun _ _ H F _ e _ q=>q _ H F (.refl e.le) (.str x)
theorem ev_op {r:R2} {ta tb:TE} {x y d:PyData} (ha:EvE K S false ta Γ x) (hb:EvE K S false tb Γ y) (hr:∀ v w H F (Q:VK),Same F H→Dp K F v x→Dp K F w y→(∀ z,(∀ F,Dp K F z d)→Q z H)→r v w H Q) (hi:imm d=true:=by rfl):EvE K S κ (tOp r ta tb) Γ d:=fun H0 F0 H F σ e Q q =>
  ha H0 F0 H F σ e _ fun v H1 F1 g1 p1=>hb H0 F0 H1 F1 σ (e.mono g1) _ fun w H2 F2 g2 p2=>by
    exact hr v w H2 F2 Q g2.le (dp_same g2.f (rp_dp p1)) (rp_dp p2) fun z p3=>q z H2 F2 (g1.trans g2) (dp_imm hi (p3 F2))
theorem ev_I0 {g:Int→Int→V} {ta tb:TE} {i j:Int} {d:PyData} (hi:imm d=true) (hg:∀ F,Dp K F (g i j) d) (ha:EvE K S false ta Γ (.int i)) (hb:EvE K S false tb Γ (.int j)):EvE K S κ (tOp (rI0 g) ta tb) Γ d :=
  ev_op ha hb (fun v w H F Q le p1 p2 k=>by cases dp_int p1; cases dp_int p2; exact ⟨i,j,rfl,rfl,k _ hg⟩) hi
theorem ev_I {C:Int→Int→Prop} {g:Int→Int→V} {ta tb:TE} {i j:Int} {d:PyData} (hi:imm d=true) (hg:∀ F,Dp K F (g i j) d) (ha:EvE K S false ta Γ (.int i)) (hb:EvE K S false tb Γ (.int j)) (hc:C i j):EvE K S κ (tOp (rI C g) ta tb) Γ d :=
  ev_op ha hb (fun v w H F Q le p1 p2 k=>by cases dp_int p1; cases dp_int p2; exact ⟨i,j,rfl,rfl,hc,k _ hg⟩) hi
theorem ev_add {ta tb:TE} {i j:Int} (ha:EvE K S false ta Γ (.int i)) (hb:EvE K S false tb Γ (.int j)):EvE K S κ (tOp (rI0 fun i j=>.int (i + j)) ta tb) Γ (.int (i + j)):=ev_I0 rfl (fun _=>.int _) ha hb
theorem ev_sub {ta tb:TE} {i j:Int} (ha:EvE K S false ta Γ (.int i)) (hb:EvE K S false tb Γ (.int j)):EvE K S κ (tOp (rI0 fun i j=>.int (i - j)) ta tb) Γ (.int (i - j)):=ev_I0 rfl (fun _=>.int _) ha hb
theorem ev_lt {ta tb:TE} {i j:Int} (ha:EvE K S false ta Γ (.int i)) (hb:EvE K S false tb Γ (.int j)):EvE K S κ (tOp (rI0 fun i j=>.bl (decide (i < j))) ta tb) Γ (.bool (decide (i < j))):=ev_I0 rfl (fun _=>.bl _) ha hb
theorem ev_gt {ta tb:TE} {i j:Int} (ha:EvE K S false ta Γ (.int i)) (hb:EvE K S false tb Γ (.int j)):EvE K S κ (tOp (rI0 fun i j=>.bl (decide (j < i))) ta tb) Γ (.bool (decide (j < i))):=ev_I0 rfl (fun _=>.bl _) ha hb
theorem ev_mul {ta tb:TE} {i j:Int} (ha:EvE K S false ta Γ (.int i)) (hb:EvE K S false tb Γ (.int j)) (hc:IntMulOk i j):EvE K S κ (tOp (rI IntMulOk fun i j=>.int (i * j)) ta tb) Γ (.int (i * j)):=ev_I rfl (fun _=>.int _) ha hb hc
theorem ev_fdiv {ta tb:TE} {i j:Int} (ha:EvE K S false ta Γ (.int i)) (hb:EvE K S false tb Γ (.int j)) (hc:CDiv i j):EvE K S κ (tOp (rI CDiv fun i j=>.int (i / j)) ta tb) Γ (.int (i / j)):=ev_I rfl (fun _=>.int _) ha hb hc
theorem ev_mod {ta tb:TE} {i j:Int} (ha:EvE K S false ta Γ (.int i)) (hb:EvE K S false tb Γ (.int j)) (hc:0 < j):EvE K S κ (tOp (rI (fun _ j=>0 < j) fun i j=>.int (i % j)) ta tb) Γ (.int (i % j)):=ev_I rfl (fun _=>.int _) ha hb hc
theorem ev_pow {ta tb:TE} {i j:Int} (ha:EvE K S false ta Γ (.int i)) (hb:EvE K S false tb Γ (.int j)) (hc:CPow i j):EvE K S κ (tOp (rI CPow fun i j=>.int (i ^ j.toNat)) ta tb) Γ (.int (i ^ j.toNat)):=ev_I rfl (fun _=>.int _) ha hb hc
theorem dec_int (i j:Int):decide (V.int i=V.int j)=decide (i=j):=by by_cases h:i=j <;> simp [h]
theorem dec_str (i j:Str):decide (V.str i=V.str j)=decide (i=j):=by by_cases h:i=j <;> simp [h]
theorem ev_eqI {ta tb:TE} {i j:Int} (ha:EvE K S false ta Γ (.int i)) (hb:EvE K S false tb Γ (.int j)):EvE K S κ (tOp rEq ta tb) Γ (.bool (decide (i=j))) :=
  ev_op ha hb fun v w H F Q le p1 p2 k=>by
    cases dp_int p1; cases dp_int p2
    refine ⟨rfl,?_⟩
    rw [dec_int]; exact k _ fun _=>.bl _
theorem ev_eqS {ta tb:TE} {i j:Str} (ha:EvE K S false ta Γ (.str i)) (hb:EvE K S false tb Γ (.str j)):EvE K S κ (tOp rEq ta tb) Γ (.bool (decide (i=j))) :=
  ev_op ha hb fun v w H F Q le p1 p2 k=>by
    cases dp_str p1; cases dp_str p2
    refine ⟨rfl,?_⟩
    rw [dec_str]; exact k _ fun _=>.bl _
theorem ev_neI {ta tb:TE} {i j:Int} (ha:EvE K S false ta Γ (.int i)) (hb:EvE K S false tb Γ (.int j)):EvE K S κ (tOp rNe ta tb) Γ (.bool (!(decide (i=j)))) :=
  ev_op ha hb fun v w H F Q le p1 p2 k=>by
    cases dp_int p1; cases dp_int p2
    refine ⟨rfl,?_⟩
    rw [dec_int]; exact k _ fun _=>.bl _
theorem ev_neS {ta tb:TE} {i j:Str} (ha:EvE K S false ta Γ (.str i)) (hb:EvE K S false tb Γ (.str j)):EvE K S κ (tOp rNe ta tb) Γ (.bool (!(decide (i=j)))) :=
  ev_op ha hb fun v w H F Q le p1 p2 k=>by
    cases dp_str p1; cases dp_str p2
    refine ⟨rfl,?_⟩
    rw [dec_str]; exact k _ fun _=>.bl _
theorem ev_neSm {ta tb:TE} {d:PyData} (ha:EvD K S ta Γ d) (hb:EvD K S tb Γ d) (z:SeqAt.shaped d=true):EvE K S κ (tOp (rNeS K) ta tb) Γ (.bool false):=fun H0 F0 H F σ e Q q =>
  ha H0 F0 H F σ e _ fun v H1 F1 g1 p1=>hb H0 F0 H1 F1 σ (e.mono g1) _ fun w H2 F2 g2 p2=>⟨d,dp_same g2.h p1,p2,z,q _ H2 F2 (g1.trans g2) (.bl _)⟩
theorem atI_dp {H0 F:Hp} {vs:List V} {ds:List PyData} {i:Int} {d:PyData} (k:RpAll K κ S H0 F vs ds) (h:atI ds i=some d):∃ v,atI vs i=some v∧Rp K κ S H0 F v d:=by
  unfold atI at h ⊢
  rw [RpAll.length k]
  cases e:ixN ds.length i with
  | none=>rw [e] at h; cases h
  | some j=>rw [e] at h; exact RpAll.get k h
theorem ev_ixL {ta tb:TE} {ds:List PyData} {i:Int} {d:PyData} (ha:EvL K S κ ta Γ ds) (hb:EvE K S false tb Γ (.int i)) (h:atI ds i=some d):EvE K S κ (tOp (rIxL K) ta tb) Γ d:=fun H0 F0 H F σ e Q q =>
  ha H0 F0 H F σ e _ fun a vs H1 F1 g1 p1 k1=>hb H0 F0 H1 F1 σ (e.mono g1) _ fun w H2 F2 g2 p2=>by
    cases rp_int p2
    obtain ⟨v,h1,h2⟩:=atI_dp (rpAll_mono g2.f k1) h
    exact ⟨a,vs,i,v,rfl,rfl,g2.h.seq p1,h1,q _ H2 F2 (g1.trans g2) h2⟩
theorem ev_ixT {ta tb:TE} {ds:List PyData} {i:Int} {d:PyData} (ha:EvE K S κ ta Γ (.tuple ds)) (hb:EvE K S false tb Γ (.int i)) (h:atI ds i=some d):EvE K S κ (tOp (rIxT K) ta tb) Γ d:=fun H0 F0 H F σ e Q q =>
  ha H0 F0 H F σ e _ fun v H1 F1 g1 p1=>hb H0 F0 H1 F1 σ (e.mono g1) _ fun w H2 F2 g2 p2=>by
    cases rp_int p2
    obtain ⟨a,vs,rfl,h1,h2⟩:=rp_tup p1
    obtain ⟨v,h3,h4⟩:=atI_dp (rpAll_mono g2.f h2) h
    exact ⟨a,vs,i,v,rfl,rfl,Same.seqT (g1.le.trans g2.h) h1,h3,q _ H2 F2 (g1.trans g2) h4⟩
theorem et_test {t:TE} {b:Bool} (h:EvE K S false t Γ (.bool b)):EvT K S (tTest t) Γ b:=fun H0 F0 H F σ e Q q =>
  h H0 F0 H F σ e _ fun v H1 F1 g1 p1=>by cases rp_bl p1; exact ⟨b,rfl,q H1 F1 g1⟩
theorem et_B {t:TE} {b:Bool} (h:EvE K S false t Γ (.bool b)):EvT K S (tB t) Γ b:=fun H0 F0 H F σ e Q q =>
  h H0 F0 H F σ e _ fun v H1 F1 g1 p1=>by cases rp_bl p1; exact ⟨b,rfl,q H1 F1 g1⟩
theorem et_and {t u:TT} {a b:Bool} (ha:EvT K S t Γ a) (hb:a=true→EvT K S u Γ b):EvT K S (tAnd t u) Γ (a && b):=fun H0 F0 H F σ e Q q =>
  ha H0 F0 H F σ e _ fun H1 F1 g1=>by
    cases a with
    | true=>exact iteT (hb rfl H0 F0 H1 F1 σ (e.mono g1) Q fun H2 F2 g2=>q H2 F2 (g1.trans g2))
    | false=>exact iteF (q H1 F1 g1)
theorem et_or {t u:TT} {a b:Bool} (ha:EvT K S t Γ a) (hb:a=false→EvT K S u Γ b):EvT K S (tOr t u) Γ (a || b):=fun H0 F0 H F σ e Q q =>
  ha H0 F0 H F σ e _ fun H1 F1 g1=>by
    cases a with
    | false=>exact iteF (hb rfl H0 F0 H1 F1 σ (e.mono g1) Q fun H2 F2 g2=>q H2 F2 (g1.trans g2))
    | true=>exact iteT (q H1 F1 g1)
theorem et_not {t:TT} {a:Bool} (ha:EvT K S t Γ a):EvT K S (tNot t) Γ (!a):=fun H0 F0 H F σ e Q q=>ha H0 F0 H F σ e _ fun H1 F1 g1=>q H1 F1 g1
theorem et_yes:EvT K S tYes Γ true:=fun H0 F0 H F σ e Q q=>q H F (.refl e.le)
theorem EvT.eq {t:TT} {a b:Bool} (h:EvT K S t Γ a) (e:a=b):EvT K S t Γ b:=e ▸ h
theorem EvE.eq {t:TE} {a b:PyData} (h:EvE K S κ t Γ a) (e:a=b):EvE K S κ t Γ b:=e ▸ h
theorem EvO.eq {t:TE} {a b:List PyData} (h:EvO K S κ t Γ a) (e:a=b):EvO K S κ t Γ b:=e ▸ h
theorem ea_nil:EvA K S κ tNil Γ []:=fun H0 F0 H F σ e Q q=>q [] H F (.refl e.le) .nil
theorem ea_cons {t:TE} {u:TA} {d:PyData} {ds:List PyData} (h:EvE K S κ t Γ d) (k:EvA K S κ u Γ ds):EvA K S κ (tCons t u) Γ (d :: ds):=fun H0 F0 H F σ e Q q =>
  h H0 F0 H F σ e _ fun v H1 F1 g1 p1=>k H0 F0 H1 F1 σ (e.mono g1) _ fun vs H2 F2 g2 p2=>q _ H2 F2 (g1.trans g2) (.cons (rp_mono g2.f p1) p2)
theorem ev_tup {t:TA} {ds:List PyData} (h:EvA K S κ t Γ ds) (hz:ds.length≤sizeLine):EvE K S κ (tTup t) Γ (.tuple ds):=fun H0 F0 H F σ e Q q =>
  h H0 F0 H F σ e _ fun vs H1 F1 g1 p1=>⟨by rw [RpAll.length p1]; exact hz,fun p hp=>q _ _ (upd F1 p (.tup vs)) (g1.trans (.new g1.le hp _)) (.tup (SqT.of upd_same) (rpAll_mono (Same.new (g1.le.free hp) _) p1))⟩
theorem evo_lst {t:TA} {ds:List PyData} (h:EvA K S κ t Γ ds) (hz:ds.length≤sizeLine):EvO K S κ (tLst t) Γ ds:=fun H0 F0 H F σ e Q q =>
  h H0 F0 H F σ e _ fun vs H1 F1 g1 p1=>⟨by rw [RpAll.length p1]; exact hz,fun p hp=>q p vs _ F1 (g1.trans (.newO g1.le hp _)) (g1.h.free hp) upd_same (g1.le.free hp) p1⟩
def spD (K:PySem.W.Frag) (κ:Bool) (pre:List PyData→PyData→Prop):Sp:=fun vs H Q _=>∃ F ds d,Same F H∧DpAll K F vs ds∧pre ds d∧∀ v H' F',Gr H F H' F'→Rp K κ .fresh H F' v d→Q v H'
theorem ev_callF {pre:List PyData→PyData→Prop} {E:XK} {t:TA} {ds:List PyData} {d:PyData} (h:EvA K S false t Γ ds) (hp:pre ds d):EvE K S κ (tCall (spD K true pre) [] E t) Γ d:=fun H0 F0 H F σ e Q q =>
  h H0 F0 H F σ e _ fun vs H1 F1 g1 p1=>⟨F1,ds,d,g1.le,by rw [List.append_nil]; exact rpAll_dp p1,hp,fun v H2 F2 g2 p2=>q v H2 F2 (g1.trans g2) (rp_weak (κ:=true) (fun _=>rfl) (rp_map (κ:=true) (κ':=true) (S':=S) (H0':=H0) (fun a xs z=>⟨z.1,fun c=>by
    obtain ⟨u,hu⟩:=(e.mono g1).sd a c
    exact z.2 (by show H1 a≠none; rw [hu]; simp)⟩) (fun _ _ z=>z) p2))⟩
theorem ev_len {ta:TE} {ds:List PyData} (h:EvL K S false ta Γ ds):EvE K S κ (tCB (fun xs H Q=>∃ p ys,xs=[.ref p]∧(SqL K H p ys∨SqT K H p ys)∧Q (.int ys.length) H) (tCons ta tNil)) Γ (.int ds.length):=fun H0 F0 H F σ e Q q =>
  h H0 F0 H F σ e _ fun a vs H1 F1 g1 p1 k1=>⟨a,vs,rfl,.inl p1,q _ H1 F1 g1 (by rw [RpAll.length k1]; exact .int _)⟩
theorem evo_list {ta:TE} {ds:List PyData} (h:EvL K S κ ta Γ ds):EvO K S κ (tCB (fun xs H Q=>∃ p ys,xs=[.ref p]∧(SqL K H p ys∨SqT K H p ys)∧∀ l,H l=none→Q (.ref l) (upd H l (.lst ys))) (tCons ta tNil)) Γ ds:=fun H0 F0 H F σ e Q q =>
  h H0 F0 H F σ e _ fun a vs H1 F1 g1 p1 k1=>⟨a,vs,rfl,.inl p1,fun p hp=>q p vs _ F1 (g1.trans (.newO g1.le hp _)) (g1.h.free hp) upd_same (g1.le.free hp) k1⟩
def cutD (xs:List PyData) (lo hi:Option Int):List PyData:=(xs.drop (HT.sIx xs.length 0 lo)).take (HT.sIx xs.length xs.length hi - HT.sIx xs.length 0 lo)
theorem cut_dp {H0 F:Hp} {vs:List V} {ds:List PyData} {lo hi:Option Int} (k:RpAll K κ S H0 F vs ds):RpAll K κ S H0 F (cutV vs lo hi) (cutD ds lo hi):=by
  unfold cutV cutD
  rw [RpAll.length k]
  exact RpAll.take _ (RpAll.drop _ k)
theorem ep_none:EvP K S tNoPart Γ none:=fun H0 F0 H F σ e Q q=>q H F (.refl e.le)
theorem ep_some {t:TE} {i:Int} (h:EvE K S false t Γ (.int i)):EvP K S (tPart t) Γ (some i):=fun H0 F0 H F σ e Q q =>
  h H0 F0 H F σ e _ fun v H1 F1 g1 p1=>by cases rp_int p1; exact ⟨i,rfl,q H1 F1 g1⟩
theorem evo_slice {t:TE} {tl th:TO} {ds:List PyData} {lo hi:Option Int} (h:EvL K S κ t Γ ds) (hl:EvP K S tl Γ lo) (hh:EvP K S th Γ hi):EvO K S κ (tSl (rSlL K) t tl th) Γ (cutD ds lo hi):=fun H0 F0 H F σ e Q q =>
  h H0 F0 H F σ e _ fun a vs H1 F1 g1 p1 k1=>hl H0 F0 H1 F1 σ (e.mono g1) _ fun H2 F2 g2=>hh H0 F0 H2 F2 σ ((e.mono g1).mono g2) _ fun H3 F3 g3 =>
    ⟨a,vs,rfl,(g2.h.trans g3.h).seq p1,fun p hp=>q p _ _ F3 (((g1.trans g2).trans g3).trans (.newO g3.le hp _)) (((g1.trans g2).trans g3).h.free hp) upd_same (g3.le.free hp) (cut_dp (rpAll_mono (g2.f.trans g3.f) k1))⟩
end
end PD
namespace L2
open PySem PySem.Spec PyProof.Rows
section
variable {X:Cx} {K:PySem.W.Frag}
def rCatS (K:PySem.W.Frag):R2:=fun x y H Q=>∃ l b xs zs,x=.ref l∧y=.ref b∧SqL K H l xs∧SqL K H b zs∧xs.length + zs.length≤sizeLine∧∀ p,H p=none→Q (.ref p) (upd H p (.lst (xs ++ zs)))
theorem op_catS:OpR X (binaryOp .Add) (rCatS X.K):=by
  intro pins s σ H x y v u Q I rx ry h
  obtain ⟨l,b,xs,zs,rfl,rfl,hH,hB,hz,q⟩:=h
  cases rx
  cases ry
  obtain ⟨its,r,pl,z⟩:=I.list hH
  obtain ⟨its2,r2,pl2,z2⟩:=I.list hB
  have l1:=r.length
  have l2:=r2.length
  obtain ⟨⟨cls,dd,data,sl⟩,ho,hc,n,hd⟩:=pl.isList
  obtain ⟨⟨cls2,dd2,data2,sl2⟩,ho2,hc2,n2,hd2⟩:=pl2.isList
  simp only at hc hd hc2 hd2
  subst hc hd hc2 hd2
  have e:its.toArray ++ its2.toArray=(its ++ its2).toArray:=by simp
  refine concat_meets ⟨_,ho,rfl⟩ ⟨_,ho2,rfl⟩ noFill_list_add seq_list_add PySem.F.slot_list_add PySem.F.entry_list_add (PySem.F.args_list_add_2 _ _) (list_addW l b its.toArray its2.toArray n n2 dd dd2 sl sl2 (by simp only [List.size_toArray]; omega)) ⟨ho,ho2,?_⟩
  rw [e]
  exact ⟨.ref _,_,I.lnew (t':=s.toks) (r.append r2) (by rw [List.length_append]; omega),rfl,q _ I.fresh⟩
def tyD:PyData→String
  | .none => "NoneType"
  | .bool _ => "bool"
  | .int _ => "int"
  | .str _ => "str"
  | .list _ => "list"
  | .tuple _ => "tuple"
  | _ => "object"
def rIsiD (K:PySem.W.Frag):List V→Hp→VK→Prop:=fun xs H Q=>∃ x d T b,xs=[x,.ty T]∧Dp K H x d∧PySem.W.kitOne K (.type (tyD d)) (.type T)=some b∧Q (.bl b) H
theorem call_isiD:CallR X (.builtin "isinstance") (rIsiD X.K):=by
  intro pins s σ H xs us Q I r h
  obtain ⟨x,d,T,b,rfl,dp,e,q⟩:=h
  obtain ⟨u,v,rfl,ru,rv⟩:=r.two
  cases (show v=Value.type T from rv)
  have fin:∀ tk,EP X pins σ Q (.bool b) { s with toks:=tk }:=fun tk=>⟨.bl b,H,I.tok tk,rfl,q⟩
  cases dp with
  | non=>cases (show u=Value.none from ru); exact PySem.W.kia_one PySem.W.kitx_none I.kIn True.intro e (fun z=>nomatch z) fin
  | bl y=>cases (show u=Value.bool y from ru); exact PySem.W.kia_one PySem.W.kitx_bool I.kIn True.intro e (fun z=>nomatch z) fin
  | int i=>obtain ⟨t,z⟩:=(show ∃ t,u=Value.int i t from ru); cases z; exact PySem.W.kia_one PySem.W.kitx_int I.kIn True.intro e (fun z=>nomatch z) fin
  | str y=>obtain ⟨t,z⟩:=(show ∃ t,u=Value.str y t from ru); cases z; exact PySem.W.kia_one PySem.W.kitx_str I.kIn True.intro e (fun z=>nomatch z) fin
  | @lst a xs ds h k =>
    cases (show u=Value.ref a from ru)
    obtain ⟨its,rv,⟨o,n,h1,h2,_⟩,_⟩:=I.list h
    exact PySem.W.kia_one PySem.W.kitx_list I.kIn ⟨_,h1,h2⟩ e (fun z=>nomatch z) fin
  | @tup a xs ds h k =>
    cases (show u=Value.ref a from ru)
    obtain ⟨its,rv,⟨o,h1,h2,_⟩,_⟩:=I.tuple h
    exact PySem.W.kia_one PySem.W.kitx_tuple I.kIn ⟨_,h1,h2⟩ e (fun z=>nomatch z) fin
theorem call_isiDK (hK:X.K=K):CallR X (.builtin "isinstance") (rIsiD K):=by subst hK; exact call_isiD
theorem op_catSK (hK:X.K=K):OpR X (binaryOp .Add) (rCatS K):=by subst hK; exact op_catS
end
end L2
namespace PD
open PySem L2
section
variable {K:PySem.W.Frag} {S:Sx} {κ:Bool} {Γ:Ctx}
theorem evo_cat {ta tb:TE} {xs ys:List PyData} (ha:EvL K S κ ta Γ xs) (hb:EvL K S κ tb Γ ys) (hz:xs.length + ys.length≤sizeLine):EvO K S κ (tOp (rCatS K) ta tb) Γ (xs ++ ys):=fun H0 F0 H F σ e Q q =>
  ha H0 F0 H F σ e _ fun a vs H1 F1 g1 p1 k1=>hb H0 F0 H1 F1 σ (e.mono g1) _ fun b ws H2 F2 g2 p2 k2 =>
    ⟨a,b,vs,ws,rfl,rfl,g2.h.seq p1,p2,by rw [RpAll.length k1,RpAll.length k2]; exact hz,fun p hp=>q p _ _ F2 ((g1.trans g2).trans (.newO g2.le hp _)) ((g1.trans g2).h.free hp) upd_same (g2.le.free hp) (RpAll.append (rpAll_mono g2.f k1) k2)⟩
theorem ev_isi {ta:TE} {d:PyData} {T:String} {b:Bool} (h:EvD K S ta Γ d) (hi:PySem.W.kitOne K (.type (tyD d)) (.type T)=some b):EvE K S κ (tCB (rIsiD K) (tCons ta (tCons (tC (.ty T)) tNil))) Γ (.bool b):=fun H0 F0 H F σ e Q q =>
  h H0 F0 H F σ e _ fun v H1 F1 g1 p1=>⟨v,d,T,b,rfl,p1,hi,q _ H1 F1 g1 (.bl b)⟩
theorem flat_int (ns:List Int):(ns.map V.int).all flatV=true:=by
  rw [List.all_eq_true]
  intro v hv
  obtain ⟨n,_,rfl⟩:=List.mem_map.mp hv
  rfl
theorem inV_int (i:Int) (ns:List Int):inV (.int i) (ns.map V.int)=decide (i∈ns):=by
  unfold inV
  rw [List.any_map]
  by_cases h:i∈ns
  · rw [decide_eq_true h,List.any_eq_true]
    exact ⟨i,h,by show eqV (.int i) (.int i)=true; simp [eqV]⟩
  · rw [decide_eq_false h,List.any_eq_false]
    intro x hx hq
    have:x=i:=by
      have q:eqV (.int x) (.int i)=true:=hq
      simpa [eqV] using q
    exact h (this ▸ hx)
theorem ev_inI {neg:Bool} {ta tb:TE} {i:Int} {ns:List Int} (ha:EvE K S false ta Γ (.int i)) (hb:EvL K S false tb Γ (ns.map .int)):EvE K S κ (tOp (rIn K neg) ta tb) Γ (.bool (if neg then !decide (i∈ns) else decide (i∈ns))):=fun H0 F0 H F σ e Q q =>
  ha H0 F0 H F σ e _ fun v H1 F1 g1 p1=>hb H0 F0 H1 F1 σ (e.mono g1) _ fun b ws H2 F2 g2 p2 k2=>by
    cases rp_int p1
    cases dpAll_of_ints (rpAll_dp k2)
    refine ⟨b,_,rfl,.inl p2,rfl,flat_int ns,?_⟩
    rw [inV_int]
    exact q _ H2 F2 (g1.trans g2) (.bl _)
def ExG (K:PySem.W.Frag) (S:Sx) (κ:Bool) (g:TG) (js:List Nat) (d:PyData) (Γ:Ctx) (k:Ctx→Prop):Prop:=∀ (H0 F0 H F:Hp) (σ:St) (v:V),DEnv K S H0 F0 H F σ Γ→Rp K κ S H0 F v d→∀ Q:St→Hp→Prop,
  (∀ Γ' σ' H' F',k Γ'→Gr H F H' F'→DEnv K S H0 F0 H' F' σ' Γ'→σ'.length=σ.length→(∀ j,j∉js→σ'[j]?=σ[j]?)→Q σ' H')→g v σ H Q
theorem DEnv.set {H0 F0 H F:Hp} {σ:St} {i:Nat} {v:V} {x:DV} (e:DEnv K S H0 F0 H F σ Γ) (p:HasV K S H0 H F v x)
    (hne:∀ a,Owns H v x a→∀ (j:Nat) y w,j≠i→Γ[j]?=some (some y)→σ[j]?=some (some w)→¬ Owns H w y a):DEnv K S H0 F0 H F (σ.set i (some v)) (Γ.set i (some x)):=by
  refine ⟨e.gr,e.l0,e.sd,e.s0,by simp [e.len],fun j f h=>?_,fun j k' x1 y1 v1 w1 b g1 g2 g3 g4 o1 o2=>?_⟩
  · by_cases hj:j=i
    · subst hj
      by_cases hl:j < Γ.length
      · rw [List.getElem?_set_self hl] at h
        cases h
        exact ⟨v,by rw [List.getElem?_set_self (by rw [e.len]; exact hl)],p⟩
      · rw [List.getElem?_eq_none (by simp; omega)] at h
        cases h
    · rw [List.getElem?_set_ne (Ne.symm hj)] at h ⊢
      exact e.has j f h
  · have li:∀ {j:Nat} {y:DV},(Γ.set i (some x))[j]?=some (some y)→j < Γ.length:=fun {j y} z=>by
      have:=(List.getElem?_eq_some_iff.mp z).1
      rw [List.length_set] at this
      exact this
    by_cases hj:j=i
    · subst hj
      by_cases hk:k'=j
      · exact hk.symm
      · rw [List.getElem?_set_self (by rw [e.len]; exact li g1)] at g3
        rw [List.getElem?_set_self (li g1)] at g1
        cases g1
        cases g3
        rw [List.getElem?_set_ne (Ne.symm hk)] at g4 g2
        exact absurd o2 (hne b o1 k' y1 w1 hk g2 g4)
    · rw [List.getElem?_set_ne (Ne.symm hj)] at g3 g1
      by_cases hk:k'=i
      · subst hk
        rw [List.getElem?_set_self (by rw [e.len]; exact li g2)] at g4
        rw [List.getElem?_set_self (li g2)] at g2
        cases g2
        cases g4
        exact absurd o1 (hne b o2 j x1 v1 hj g1 g3)
      · rw [List.getElem?_set_ne (Ne.symm hk)] at g4 g2
        exact e.ne j k' x1 y1 v1 w1 b g1 g2 g3 g4 o1 o2
theorem DEnv.setF {H0 F0 H F:Hp} {σ:St} {i:Nat} {v:V} {d:PyData} (e:DEnv K S H0 F0 H F σ Γ) (p:Rp K κ S H0 F v d):DEnv K S H0 F0 H F (σ.set i (some v)) (Γ.set i (some (.fz κ d))):=e.set (x:=.fz κ d) p fun _ z=>z.elim
theorem OwnO.other {H0 H F:Hp} {a b:Addr} {u oo:HO} (w:OwnO S H0 H F b u) (h:b≠a):OwnO S H0 (upd H a oo) F b u:=⟨by rw [upd_ne h]; exact w.h,w.f,w.n,w.s⟩
theorem HasV.other {H0 H F:Hp} {a:Addr} {v:V} {x:DV} {oo:HO} (h:HasV K S H0 H F v x) (n:¬ Owns H v x a):HasV K S H0 (upd H a oo) F v x:=by
  cases x with
  | fz κ d=>exact h
  | tn d=>exact h
  | ow κ ds=>obtain ⟨b,us,eb,wo,kk⟩:=h; exact ⟨b,us,eb,wo.other fun z=>n (by rw [eb,z]; rfl),kk⟩
  | ox=>obtain ⟨b,us,eb,wo⟩:=h; exact ⟨b,us,eb,wo.other fun z=>n (by rw [eb,z]; rfl)⟩
  | o2 r dss =>
    obtain ⟨b,us,eb,wo,n1,n2,l,k⟩:=h
    refine ⟨b,us,eb,wo.other fun z=>n (.inl (by rw [eb.eq,z])),n1,n2,l,fun j y hy=>?_⟩
    obtain ⟨c,ws,ds,e2,o2,h2,k2⟩:=k j y hy
    exact ⟨c,ws,ds,e2,o2.other fun z=>n (.inr ⟨b,us,eb.eq,wo.h,by rw [← z,← e2]; exact List.mem_of_getElem? hy⟩),h2,k2⟩
  | fn a=>exact h
  | xn φ=>exact h
  | oa b κ ds=>obtain ⟨eb,us,wo,kk⟩:=h; exact ⟨eb,us,wo.other fun z=>n (by rw [eb,z]; rfl),kk⟩
  | xp φ=>exact h
  | od u=>obtain ⟨b,eb,wo⟩:=h; exact ⟨b,eb,wo.other fun z=>n (by rw [eb,z]; rfl)⟩
  | og ad ψ =>
    obtain ⟨ok,w,p⟩:=h
    have eq:∀ b,ad H v b→upd H a oo b=H b:=fun b z=>upd_ne fun y=>n (y ▸ z)
    refine ⟨ok,fun b z=>?_,ok.ps S H0 H _ F F v eq (.refl _) p⟩
    have z:=(ok.pl H _ v eq b).mp z
    obtain ⟨o,y⟩:=w b z
    exact ⟨o,y.other fun q=>n (q ▸ z)⟩
theorem Owns.other {H0 H F:Hp} {a c:Addr} {v:V} {x:DV} {oo:HO} (h:HasV K S H0 H F v x) (n:¬ Owns H v x a) (o:Owns (upd H a oo) v x c):Owns H v x c:=by
  cases x with
  | fz _ _=>exact o.elim
  | tn _=>exact o.elim
  | ow κ ds=>exact o
  | ox=>exact o
  | o2 r dss =>
    rcases o with o | ⟨p,us,e2,hp,hm⟩
    · exact .inl o
    · rw [upd_ne (fun z=>n (.inl (by rw [e2,z])))] at hp
      exact .inr ⟨p,us,e2,hp,hm⟩
  | fn _=>exact o.elim
  | xn _=>exact o.elim
  | oa _ _ _=>exact o
  | xp _=>exact o.elim
  | od _=>exact o
  | og ad ψ=>exact (h.1.pl H (upd H a oo) v (fun b z=>upd_ne fun y:b=a=>n (y ▸ z)) c).mp o
theorem DEnv.putO {H0 F0 H F:Hp} {σ:St} {i:Nat} {a:Addr} {v:V} {oo:HO} {x y:DV} (e:DEnv K S H0 F0 H F σ Γ) (h:Γ[i]?=some (some x)) (ha:σ[i]?=some (some v)) (ho:Owns H v x a)
    (k:HasV K S H0 (upd H a oo) F v y) (ko:∀ c,Owns (upd H a oo) v y c→Owns H v x c):DEnv K S H0 F0 (upd H a oo) F σ (Γ.set i (some y)):=by
  obtain ⟨v',q1,q2⟩:=e.has i x h
  rw [ha] at q1
  cases q1
  obtain ⟨ws,w⟩:=q2.owns ho
  have hs:Same F (upd H a oo):=fun b u z=>by
    have:b≠a:=by rintro rfl; rw [w.f] at z; cases z
    rw [upd_ne this]; exact e.le _ _ z
  have li:=(List.getElem?_eq_some_iff.mp h).1
  have far:∀ {j:Nat} {f:DV} {u:V},j≠i→Γ[j]?=some (some f)→σ[j]?=some (some u)→¬ Owns H u f a:=fun {j f u} hj z r o=>hj (e.ne j i f x u v a z h r ha o ho)
  refine ⟨⟨fun b u z=>?_,e.gr.f,hs,e.gr.ap⟩,e.l0,fun b c=>?_,e.s0,by simp [e.len],fun j f z=>?_,fun j k' x1 y1 v1 w1 b g1 g2 g3 g4 o1 o2=>?_⟩
  · rw [upd_ne (ne_of_none z w.n)]; exact e.gr.h _ _ z
  · obtain ⟨o,q⟩:=e.sd b c
    by_cases hb:b=a
    · subst hb; exact ⟨_,upd_same⟩
    · exact ⟨o,by rw [upd_ne hb]; exact q⟩
  · by_cases hj:j=i
    · subst hj
      rw [List.getElem?_set_self li] at z
      cases z
      exact ⟨_,ha,k⟩
    · rw [List.getElem?_set_ne (Ne.symm hj)] at z
      obtain ⟨u,r1,r2⟩:=e.has j f z
      exact ⟨u,r1,r2.other (far hj z r1)⟩
  · have bk:∀ {j:Nat} {f:DV} {u:V},(Γ.set i (some y))[j]?=some (some f)→σ[j]?=some (some u)→Owns (upd H a oo) u f b→∃ g,Γ[j]?=some (some g)∧Owns H u g b:=fun {j f u} z r o=>by
      by_cases hj:j=i
      · subst hj
        rw [List.getElem?_set_self li] at z
        cases z
        rw [ha] at r
        cases r
        exact ⟨x,h,ko b o⟩
      · rw [List.getElem?_set_ne (Ne.symm hj)] at z
        obtain ⟨u',r1,r2⟩:=e.has j f z
        rw [r] at r1
        cases r1
        exact ⟨f,z,o.other r2 (far hj z r)⟩
    obtain ⟨f1,z1,w1'⟩:=bk g1 g3 o1
    obtain ⟨f2,z2,w2'⟩:=bk g2 g4 o2
    exact e.ne j k' f1 f2 v1 w1 b z1 z2 g3 g4 w1' w2'
theorem DEnv.put {H0 F0 H F:Hp} {σ:St} {i:Nat} {a:Addr} {v:V} {vs:List V} {x y:DV} (e:DEnv K S H0 F0 H F σ Γ) (h:Γ[i]?=some (some x)) (ha:σ[i]?=some (some v)) (ho:Owns H v x a)
    (k:HasV K S H0 (upd H a (.lst vs)) F v y) (ko:∀ c,Owns (upd H a (.lst vs)) v y c→Owns H v x c):DEnv K S H0 F0 (upd H a (.lst vs)) F σ (Γ.set i (some y)):=e.putO h ha ho k ko
theorem OwnO.frz {H0 H F:Hp} {a b:Addr} {u oo:HO} (w:OwnO S H0 H F b u) (h:b≠a):OwnO S H0 H (upd F a oo) b u:=⟨w.h,by rw [upd_ne h]; exact w.f,w.n,w.s⟩
theorem HasV.frz {H0 H F:Hp} {a:Addr} {v:V} {x:DV} {vs:List V} (h:HasV K S H0 H F v x) (s:Same F (upd F a (.lst vs))) (n:¬ Owns H v x a):HasV K S H0 H (upd F a (.lst vs)) v x:=by
  cases x with
  | fz κ d=>exact rp_mono s h
  | tn d=>obtain ⟨T,eT,k⟩:=h; exact ⟨T,eT,rp_mono s k⟩
  | ow κ ds=>obtain ⟨b,us,eb,wo,kk⟩:=h; exact ⟨b,us,eb,wo.frz fun z=>n (by rw [eb,z]; rfl),rpAll_mono s kk⟩
  | ox=>obtain ⟨b,us,eb,wo⟩:=h; exact ⟨b,us,eb,wo.frz fun z=>n (by rw [eb,z]; rfl)⟩
  | o2 r dss =>
    obtain ⟨b,us,eb,wo,n1,n2,l,k⟩:=h
    refine ⟨b,us,eb,wo.frz fun z=>n (.inl (by rw [eb.eq,z])),n1,n2,l,fun j y hy=>?_⟩
    obtain ⟨c,ws,ds,e2,o2,h2,k2⟩:=k j y hy
    exact ⟨c,ws,ds,e2,o2.frz fun z=>n (.inr ⟨b,us,eb.eq,wo.h,by rw [← z,← e2]; exact List.mem_of_getElem? hy⟩),h2,rpAll_mono s k2⟩
  | fn a=>exact h
  | xn φ=>obtain ⟨b,e,k⟩:=h; exact ⟨b,e,s _ _ k⟩
  | oa b κ ds=>obtain ⟨eb,us,wo,kk⟩:=h; exact ⟨eb,us,wo.frz fun z=>n (by rw [eb,z]; rfl),rpAll_mono s kk⟩
  | xp φ=>obtain ⟨F1,s1,k⟩:=h; exact ⟨F1,s1.trans s,k⟩
  | od u=>obtain ⟨b,eb,wo⟩:=h; exact ⟨b,eb,wo.frz fun z=>n (by rw [eb,z]; rfl)⟩
  | og ad ψ =>
    obtain ⟨ok,w,p⟩:=h
    refine ⟨ok,fun b z=>?_,ok.ps S H0 H H F _ v (fun _ _=>rfl) s p⟩
    obtain ⟨o,y⟩:=w b z
    exact ⟨o,y.frz fun q=>n (q ▸ z)⟩
theorem DEnv.froz {H0 F0 H F:Hp} {σ:St} {i:Nat} {a:Addr} {v:V} {vs:List V} {x y:DV} (e:DEnv K S H0 F0 H F σ Γ) (h:Γ[i]?=some (some x)) (hv:σ[i]?=some (some v)) (ho:Owns H v x a) (w:OwnAt S H0 H F a vs)
    (k:HasV K S H0 H (upd F a (.lst vs)) v y) (ko:∀ c,Owns H v y c→Owns H v x c):Same F (upd F a (.lst vs))∧DEnv K S H0 F0 H (upd F a (.lst vs)) σ (Γ.set i (some y)):=by
  have s:Same F (upd F a (.lst vs)):=Same.new w.f _
  have li:=(List.getElem?_eq_some_iff.mp h).1
  have g:Gr H0 F0 H (upd F a (.lst vs)):=⟨e.gr.h,e.gr.f.trans s,fun b u z=>by
    by_cases eb:b=a
    · subst eb; rw [upd_same] at z; rw [← z]; exact w.h
    · rw [upd_ne eb] at z; exact e.le _ _ z,fun b u z y=>by
    rw [upd_ne (ne_of_none z w.n)]; exact e.gr.ap _ _ z y⟩
  refine ⟨s,g,e.l0,e.sd,e.s0,by simp [e.len],fun j f z=>?_,fun j k' x1 y1 v1 w1 b g1 g2 g3 g4 o1 o2=>?_⟩
  · by_cases hj:j=i
    · subst hj
      rw [List.getElem?_set_self li] at z
      cases z
      exact ⟨v,hv,k⟩
    · rw [List.getElem?_set_ne (Ne.symm hj)] at z
      obtain ⟨u,r1,r2⟩:=e.has j f z
      exact ⟨u,r1,r2.frz s fun o=>hj (e.ne j i f x u v a z h r1 hv o ho)⟩
  · have bk:∀ {j:Nat} {f:DV} {u:V},(Γ.set i (some y))[j]?=some (some f)→σ[j]?=some (some u)→Owns H u f b→∃ g,Γ[j]?=some (some g)∧Owns H u g b:=fun {j f u} z r o=>by
      by_cases hj:j=i
      · subst hj
        rw [List.getElem?_set_self li] at z
        cases z
        rw [hv] at r
        cases r
        exact ⟨x,h,ko b o⟩
      · rw [List.getElem?_set_ne (Ne.symm hj)] at z
        exact ⟨f,z,o⟩
    obtain ⟨f1,z1,w1'⟩:=bk g1 g3 o1
    obtain ⟨f2,z2,w2'⟩:=bk g2 g4 o2
    exact e.ne j k' f1 f2 v1 w1 b z1 z2 g3 g4 w1' w2'
theorem DEnv.freeze {H0 F0 H F:Hp} {σ:St} {i:Nat} {ds:List PyData} (e:DEnv K S H0 F0 H F σ Γ) (h:Γ[i]?=some (some (.ow κ ds))):∃ F',Same F F'∧DEnv K S H0 F0 H F' σ (Γ.set i (some (.fz κ (.list ds)))):=by
  obtain ⟨v,q1,a,vs,rfl,w,q5⟩:=e.has i _ h
  exact ⟨_,e.froz (y:=.fz κ (.list ds)) h q1 rfl w (.lst (LN.new w.s) (rpAll_mono (Same.new w.f _) q5)) fun _ z=>z.elim⟩
theorem eg_name {i:Nat} {d:PyData} {k:Ctx→Prop} (h:k (Γ.set i (some (.fz κ d)))):ExG K S κ (gName i) [i] d Γ k:=fun H0 F0 H F σ v e p Q q =>
  q _ _ H F h (.refl e.le) (e.setF p) (by simp) fun j hj=>by rw [List.getElem?_set_ne (by intro z; exact hj (by simp [z]))]
theorem eg_two {i j:Nat} {x y:PyData} {k:Ctx→Prop} (h:k ((Γ.set i (some (.fz κ x))).set j (some (.fz κ y)))):ExG K S κ (gTup K 2 (gCons (gName i) (gCons (gName j) gNil))) [i,j] (.tuple [x,y]) Γ k:=fun H0 F0 H F σ v e p Q q=>by
  obtain ⟨a,vs,rfl,h1,h2⟩:=rp_tup p
  cases h2 with
  | cons px h2=>cases h2 with
    | cons py h2 =>
      cases h2
      refine ⟨a,_,rfl,Same.seqT e.le h1,rfl,_,_,rfl,_,_,rfl,rfl,?_⟩
      refine q _ _ H F h (.refl e.le) ((e.setF px).setF py) (by simp) fun m hm=>?_
      rw [List.getElem?_set_ne (by intro z; exact hm (by simp [z])),List.getElem?_set_ne (by intro z; exact hm (by simp [z]))]
structure ItD (K:PySem.W.Frag) (S:Sx) (κ:Bool) (H0 F:Hp) (J:It) (ds:List PyData):Prop where
  go:∀ i H F',Same F F'→Same F' H→i < ds.length→J.go i H
  yld:∀ i H F' x H',Same F F'→Same F' H→(∀ a,S.has H0 a→∃ o,H a=some o)→i < ds.length→J.yld i H x H'→∃ d F'',ds[i]?=some d∧Gr H F' H' F''∧Rp K κ S H0 F'' x d
  stop:∀ H F',Same F F'→Same F' H→J.stop ds.length H
def EvI (K:PySem.W.Frag) (S:Sx) (κ:Bool) (t:TI) (Γ:Ctx) (ds:List PyData):Prop:=∀ (H0 F0 H F:Hp) (σ:St),DEnv K S H0 F0 H F σ Γ→∀ R:It→Hp→Prop,(∀ J H' F',Gr H F H' F'→ItD K S κ H0 F' J ds→R J H')→t σ H R
theorem ei_list {t:TE} {ds:List PyData} (h:EvE K S κ t Γ (.list ds)):EvI K S κ (iList K t) Γ ds:=fun H0 F0 H F σ e R q =>
  h H0 F0 H F σ e _ fun v H1 F1 g1 p1=>by
    obtain ⟨a,vs,rfl,h1,h2⟩:=rp_lst p1
    have hl:=RpAll.length h2
    have up:∀ {F' H':Hp},Same F1 F'→Same F' H'→SqL K H' a vs:=fun s1 s2=>(s1.trans s2).seq h1.sq
    refine ⟨a,rfl,⟨vs,up (.refl _) g1.le⟩,q _ H1 F1 g1 ⟨fun i H' F' s1 s2 hi=>?_,fun i H' F' x H'' s1 s2 _ hi y=>?_,fun H' F' s1 s2=>?_⟩⟩
    · exact ⟨vs,vs[i]'(by omega),up s1 s2,by simp⟩
    · obtain ⟨rfl,y⟩:=y
      obtain ⟨d,hd,hp⟩:=RpAll.get' h2 (y vs (up s1 s2))
      exact ⟨d,F',hd,.refl s2,rp_mono s1 hp⟩
    · exact ⟨vs,up s1 s2,by omega⟩
theorem ei_rng1 {t:TA} {n:Int} (h:EvA K S false t Γ [.int n]) (h1:-(2 ^ 62)≤n) (h2:n < 2 ^ 62):EvI K S κ (iRng1 t) Γ ((List.range n.toNat).map fun i:Nat=>.int (i:Int)):=fun H0 F0 H F σ e R q =>
  h H0 F0 H F σ e _ fun vs H1 F1 g1 p1=>by
    cases p1 with
    | cons p p1 =>
      cases p1
      cases rp_int p
      refine ⟨n,rfl,h1,h2,q _ H1 F1 g1 ⟨fun i H' F' s1 s2 hi=>?_,fun i H' F' x H'' s1 s2 _ hi y=>?_,fun H' F' s1 s2=>?_⟩⟩
      · show i < n.toNat
        simpa using hi
      · obtain ⟨rfl,rfl⟩:=y
        have hi':i < n.toNat:=by simpa using hi
        refine ⟨.int i,F',by simp [hi'],.refl s2,?_⟩
        have:(0:Int) + (i:Int)=i:=by omega
        rw [this]; exact .int _
      · show n.toNat≤_
        simp
def captG (js:List (Option Nat)) (Γ:Ctx):Ctx:=js.map fun o=>match o with | none=>none | some j=>(Γ[j]?).join
theorem captG_get {js:List (Option Nat)} {i:Nat} {d:DV} (h:(captG js Γ)[i]?=some (some d)):∃ j,js[i]?=some (some j)∧Γ[j]?=some (some d):=by
  unfold captG at h
  rw [List.getElem?_map] at h
  cases e:js[i]? with
  | none=>rw [e] at h; cases h
  | some o =>
    rw [e] at h
    cases o with
    | none=>cases h
    | some j =>
      refine ⟨j,rfl,?_⟩
      have h':(Γ[j]?).join=some d:=Option.some.inj h
      cases q:Γ[j]? with
      | none=>rw [q] at h'; cases h'
      | some o=>rw [q] at h'; exact congrArg some h'
theorem capt_get {js:List (Option Nat)} {σ:St} {i j:Nat} {v:V} (h:js[i]?=some (some j)) (k:σ[j]?=some (some v)):(capt js σ)[i]?=some (some v):=by
  unfold capt
  rw [List.getElem?_map,h]
  show some ((σ[j]?).join)=_
  rw [k]; rfl
theorem DEnv.capt {H0 F0 H F:Hp} {σ:St} {js:List (Option Nat)} (e:DEnv K S H0 F0 H F σ Γ) (hj:∀ i j k:Nat,js[i]?=some (some k)→js[j]?=some (some k)→i=j):DEnv K S H0 F0 H F (L2.capt js σ) (captG js Γ):=by
  refine ⟨e.gr,e.l0,e.sd,e.s0,by unfold L2.capt captG; simp,fun i d h=>?_,fun i j x y v w a h1 h2 h3 h4 o1 o2=>?_⟩
  · obtain ⟨j,e1,e2⟩:=captG_get h
    obtain ⟨v,e3,e4⟩:=e.has j d e2
    exact ⟨v,capt_get e1 e3,e4⟩
  · obtain ⟨m,e1,e2⟩:=captG_get h1
    obtain ⟨n,e3,e4⟩:=captG_get h2
    obtain ⟨v1,q1,_⟩:=e.has m x e2
    obtain ⟨v2,q2,_⟩:=e.has n y e4
    have c1:=capt_get (σ:=σ) e1 q1
    have c2:=capt_get (σ:=σ) e3 q2
    rw [h3] at c1
    rw [h4] at c2
    cases c1
    cases c2
    have:=e.ne m n x y v w a e2 e4 q1 q2 o1 o2
    subst this
    exact hj i j m e1 e3
theorem evo_comp {κ':Bool} {js:List (Option Nat)} {wi:TI} {g:TG} {tt:TT} {te:TE} {is:List Nat} {ds:List PyData} (p:PyData→Bool) (f:PyData→PyData) (hi:EvI K S κ' wi Γ ds) (hjs:∀ i∈is,js[i]?=some none) (hj:∀ i j k:Nat,js[i]?=some (some k)→js[j]?=some (some k)→i=j)
    (hz:ds.length≤sizeLine) (hb:∀ d∈ds,ExG K S κ' g is d (captG js Γ) fun Γ'=>EvT K S tt Γ' (p d)∧(p d=true→EvE K S κ te Γ' (f d))):EvO K S κ (tComp js wi g tt te) Γ ((ds.filter p).map f):=fun H0 F0 H F σ e Q q =>
  hi H0 F0 H F σ e _ fun J H1 F1 g1 I1=>by
    intro D hD
    have sdm:∀ {H2 F2:Hp},Gr H1 F1 H2 F2→∀ a,S.has H0 a→∃ o,H2 a=some o:=fun g2 a c=>let ⟨o,z⟩:=(e.mono g1).sd a c; ⟨o,g2.h _ _ z⟩
    refine ⟨fun i m ys H2=>m=ds.length - i∧i≤ds.length∧∃ F2,Gr H1 F1 H2 F2∧H2 D=some (.lst ys)∧F2 D=none∧RpAll K κ S H0 F2 ys (((ds.take i).filter p).map f),⟨_,rfl,Nat.zero_le _,F1,.newO g1.le hD _,upd_same,g1.le.free hD,.nil⟩,?_⟩
    rintro i m ys H2 ⟨rfl,hi,F2,g2,hl,fl,k2⟩
    by_cases hlt:i < ds.length
    · refine .inr ⟨I1.go i H2 F2 g2.f g2.le hlt,fun zs H3=>i + 1≤ds.length∧∃ F2,Gr H1 F1 H3 F2∧H3 D=some (.lst zs)∧F2 D=none∧RpAll K κ S H0 F2 zs (((ds.take (i + 1)).filter p).map f),fun zs H3 h3=>⟨ds.length - (i + 1),by omega,rfl,h3⟩,fun x H3 y=>?_⟩
      obtain ⟨d,F3,hd,g3,p3⟩:=I1.yld i H2 F2 x H3 g2.f g2.le (sdm g2) hlt y
      have hl3:=g3.h _ _ hl
      have fl3:=g3.ap _ _ hl fl
      have E3:=((e.mono g1).mono (g2.trans g3)).capt hj
      refine hb d (List.mem_of_getElem? hd) H0 F0 H3 F3 _ x E3 p3 _ fun Γ' σ' H4 F4 hΓ g4 E4 len4 out4=>?_
      obtain ⟨ht,he⟩:=hΓ
      have hl4:=g4.h _ _ hl3
      have fl4:=g4.ap _ _ hl3 fl3
      have tk:ds.take (i + 1)=ds.take i ++ [d]:=by rw [List.take_add_one,hd]; rfl
      refine ⟨⟨len4.symm,fun j v hv=>?_⟩,ht H0 F0 H4 F4 σ' E4 _ fun H5 F5 g5=>?_⟩
      · by_cases hjj:j∈is
        · have:=hjs j hjj
          unfold L2.capt at hv
          rw [List.getElem?_map,this] at hv
          cases hv
        · rw [out4 j hjj]; exact hv
      have hl5:=g5.h _ _ hl4
      have fl5:=g5.ap _ _ hl4 fl4
      cases hpd:p d with
      | false =>
        refine iteF ⟨hlt,F5,g2.trans ((g3.trans g4).trans g5),hl5,fl5,?_⟩
        rw [tk,List.filter_append,List.map_append]
        simp only [List.filter_cons,hpd,List.filter_nil]
        simpa using rpAll_mono ((g3.trans g4).trans g5).f k2
      | true =>
        refine iteT (he hpd H0 F0 H5 F5 σ' (E4.mono g5) _ fun v H6 F6 g6 p6=>?_)
        have hl6:=g6.h _ _ hl5
        have fl6:=g6.ap _ _ hl5 fl5
        have gg:=(g3.trans g4).trans (g5.trans g6)
        have G6:=g2.trans gg
        refine ⟨hl6,?_,hlt,F6,⟨fun b u z=>?_,G6.f,fun b u z=>?_,G6.ap⟩,upd_same,fl6,?_⟩
        · have h1:=RpAll.length k2
          rw [List.length_map] at h1
          have h2:=List.length_filter_le p (ds.take i)
          rw [List.length_take] at h2
          omega
        · rw [upd_ne (ne_of_none z hD)]; exact G6.h _ _ z
        · rw [upd_ne (by rintro rfl; rw [fl6] at z; cases z)]; exact G6.le _ _ z
        · rw [tk,List.filter_append,List.map_append]
          simp only [List.filter_cons,hpd,List.filter_nil,if_true,List.map_cons,List.map_nil]
          exact RpAll.append (rpAll_mono gg.f k2) (.cons p6 .nil)
    · have ei:i=ds.length:=by omega
      subst ei
      rw [List.take_length] at k2
      exact .inl ⟨I1.stop H2 F2 g2.f g2.le,q D ys H2 F2 (g1.trans g2) (g1.h.free hD) hl fl k2⟩
end
end PD
namespace PD
open PySem L2
section
variable {K:PySem.W.Frag} {S:Sx} {κ:Bool} {Γ:Ctx}
structure Post where
  nx:Ctx→Prop
  rt:PyData→Prop
  bk:Ctx→Prop:=fun _=>False
  ct:Ctx→Prop:=fun _=>False
  kr:Bool:=false
structure Into (K:PySem.W.Frag) (S:Sx) (H0 F0 B:Hp) (P:Post) (D:Ends):Prop where
  nx:∀ Γ' σ' H' F',P.nx Γ'→Same B F'→DEnv K S H0 F0 H' F' σ' Γ'→D.nx σ' H'
  rt:∀ d v H' F',P.rt d→Gr H0 F0 H' F'→Rp K P.kr .fresh H0 F' v d→D.rt v H'
  bk:∀ Γ' σ' H' F',P.bk Γ'→Same B F'→DEnv K S H0 F0 H' F' σ' Γ'→D.bk σ' H'
  ct:∀ Γ' σ' H' F',P.ct Γ'→Same B F'→DEnv K S H0 F0 H' F' σ' Γ'→D.ct σ' H'
def Avoid (S:Sx) (B:Hp):Prop:=∀ T,S=.spoil T→∀ a xs,B a=some (.lst xs)→¬ T a
def ExT (K:PySem.W.Frag) (S S':Sx) (t:TS) (Γ:Ctx) (P:Post):Prop:=∀ (H0 F0 H F:Hp) (σ:St) (B:Hp),DEnv K S H0 F0 H F σ Γ→Same B F→(S'=S∨Avoid S B)→∀ D:Ends,Into K S' H0 F0 B P D→t D σ H
abbrev ExS (K:PySem.W.Frag) (S:Sx) (t:TS) (Γ:Ctx) (P:Post):Prop:=ExT K S S t Γ P
variable {S':Sx}
variable {P:Post}
theorem ex_next (h:P.nx Γ):ExS K S tNext Γ P:=fun H0 F0 H F σ B e b _ D I=>I.nx Γ σ H F h b e
theorem ex_seq {t u:TS} (N:Ctx→Prop) (h1:ExT K S S t Γ { P with nx:=N,bk:=fun _=>False,ct:=fun _=>False }) (h2:∀ Γ',N Γ'→ExT K S S' u Γ' P):ExT K S S' (tSeq t u) Γ P:=fun H0 F0 H F σ B e b v D I =>
  h1 H0 F0 H F σ B e b (.inl rfl) { D with nx:=u D } ⟨fun Γ' σ' H' F' n s e'=>h2 Γ' n H0 F0 H' F' σ' B e' s v D I,I.rt,fun _ _ _ _ z=>z.elim,fun _ _ _ _ z=>z.elim⟩
theorem has_fresh {H0:Hp} {a:Addr} (h:¬ S.has H0 a):¬ Sx.has .fresh H0 a:=by
  cases S with
  | fresh=>exact h
  | spoil T=>exact fun c=>h (.inl c)
theorem ret_kind {H0 F:Hp} {kr:Bool} {v:V} {d:PyData} (hk:(S=S∧κ=kr)∨kr=false) (p:Rp K κ S H0 F v d):Rp K kr .fresh H0 F v d:=by
  rcases hk with ⟨_,rfl⟩ | rfl
  · cases κ with
    | false=>exact dp_rp (rp_dp p)
    | true=>exact rp_map (κ:=true) (κ':=true) (fun a xs z=>⟨z.1,has_fresh z.2⟩) (fun _ _ z=>z) p
  · exact dp_rp (rp_dp p)
theorem ex_ret {te:TE} {d:PyData} (κ:Bool) (h:EvE K S κ te Γ d) (hr:P.rt d) (hk:(S=S∧κ=P.kr)∨P.kr=false):ExT K S S' (tRet te) Γ P:=fun H0 F0 H F σ B e b _ D I=>h H0 F0 H F σ e _ fun v H' F' g p=>I.rt d v H' F' hr (e.gr.trans g) (ret_kind hk p)
theorem ex_freeze {t:TS} (i:Nat) {ds:List PyData} (h:Γ[i]?=some (some (.ow κ ds))) (k:ExT K S S' t (Γ.set i (some (.fz κ (.list ds)))) P):ExT K S S' t Γ P:=fun H0 F0 H F σ B e b v D I=>by
  obtain ⟨F',s,e'⟩:=e.freeze h
  exact k H0 F0 H F' σ B e' (b.trans s) v D I
theorem ex_retO {i:Nat} {ds:List PyData} (h:Γ[i]?=some (some (.ow κ ds))) (hr:P.rt (.list ds)) (hk:(S=S∧κ=P.kr)∨P.kr=false):ExT K S S' (tRet (tVar i)) Γ P :=
  ex_freeze i h (ex_ret κ (ev_var (by rw [List.getElem?_set_self (List.getElem?_eq_some_iff.mp h).1])) hr hk)
theorem ex_set {te:TE} {i:Nat} {d:PyData} (h:EvE K S κ te Γ d) (k:P.nx (Γ.set i (some (.fz κ d)))):ExS K S (tAsg te (gName i)) Γ P:=fun H0 F0 H F σ B e b _ D I =>
  h H0 F0 H F σ e _ fun v H' F' g p=>I.nx _ _ H' F' k (b.trans g.f) ((e.mono g).setF p)
theorem ex_setO {te:TE} {i:Nat} {ds:List PyData} (h:EvO K S κ te Γ ds) (k:P.nx (Γ.set i (some (.ow κ ds)))):ExS K S (tAsg te (gName i)) Γ P:=fun H0 F0 H F σ B e b _ D I =>
  h H0 F0 H F σ e _ fun a vs H' F' g n p f q=>I.nx _ _ H' F' k (b.trans g.f) ((e.mono g).set (x:=.ow κ ds) ⟨a,vs,rfl,⟨p,f,e.gr.h.free n,e.out n⟩,q⟩ fun c oc j y w hj z hw o=>by
    cases (show V.ref a=.ref c from oc)
    obtain ⟨v,q1,q2⟩:=e.has j y z
    rw [hw] at q1
    cases q1
    obtain ⟨us,w1⟩:=q2.owns (o.back q2 fun _ _ z=>g.h _ _ z.h)
    have:=w1.h
    rw [n] at this; cases this)
theorem ex_drop {te:TE} {d:PyData} (h:EvE K S κ te Γ d) (k:P.nx Γ):ExS K S (tDrop te) Γ P:=fun H0 F0 H F σ B e b _ D I =>
  h H0 F0 H F σ e _ fun v H' F' g p=>I.nx _ _ H' F' k (b.trans g.f) (e.mono g)
theorem ex_append {te:TE} {i:Nat} {ds:List PyData} {d:PyData} (h:Γ[i]?=some (some (.ow κ ds))) (he:EvE K S κ te Γ d) (hz:ds.length < sizeLine) (k:P.nx (Γ.set i (some (.ow κ (ds ++ [d]))))):ExS K S (tDrop (tBM K "list" rAppend (tVar i) (tCons te tNil))) Γ P:=fun H0 F0 H F σ B e b _ D I=>by
  obtain ⟨v0,q1,a,vs,rfl,w,q5⟩:=e.has i _ h
  refine ⟨_,q1,.inl ⟨rfl,_,SqL.of w.h⟩,he H0 F0 H F σ e _ fun v H' F' g p=>?_⟩
  have k':=rpAll_mono g.f q5
  refine ⟨a,vs,v,rfl,rfl,g.h _ _ w.h,by rw [RpAll.length q5]; exact hz,?_⟩
  exact I.nx _ _ _ F' k (b.trans g.f) ((e.mono g).put (y:=.ow κ (ds ++ [d])) h q1 (show Owns H' (.ref a) (.ow κ ds) a from rfl) ⟨a,_,rfl,⟨upd_same,(w.mono g).f,w.n,w.s⟩,RpAll.append k' (.cons p .nil)⟩ fun _ z=>z)
theorem ex_setItem {te ti:TE} {i j:Nat} {m:Int} {ds:List PyData} {d:PyData} (h:Γ[i]?=some (some (.ow κ ds))) (he:EvE K S κ te Γ d) (hi:EvE K S false ti Γ (.int m)) (hm:ixN ds.length m=some j) (k:P.nx (Γ.set i (some (.ow κ (ds.set j d))))) :
    ExS K S (tAsg te (gSub (tVar i) ti rSetL)) Γ P:=fun H0 F0 H F σ B e b _ D I=>by
  obtain ⟨v0,q1,a,vs,rfl,w,q5⟩:=e.has i _ h
  refine he H0 F0 H F σ e _ fun v H1 F1 g1 p1=>⟨_,q1,hi H0 F0 H1 F1 σ (e.mono g1) _ fun w' H2 F2 g2 p2=>?_⟩
  cases rp_int p2
  have k':=rpAll_mono (g1.trans g2).f q5
  refine ⟨a,vs,m,j,rfl,rfl,(g1.trans g2).h _ _ w.h,by rw [RpAll.length q5]; exact hm,?_⟩
  exact I.nx _ _ _ F2 k (b.trans (g1.trans g2).f) ((e.mono (g1.trans g2)).put (y:=.ow κ (ds.set j d)) h q1 (show Owns H2 (.ref a) (.ow κ ds) a from rfl) ⟨a,_,rfl,⟨upd_same,(w.mono (g1.trans g2)).f,w.n,w.s⟩,RpAll.set (rp_mono g2.f p1) _ k'⟩ fun _ z=>z)
theorem ex_if {c:TT} {t u:TS} {b:Bool} (hc:EvT K S c Γ b) (h1:b=true→ExT K S S' t Γ P) (h2:b=false→ExT K S S' u Γ P):ExT K S S' (tIfS c t u) Γ P:=fun H0 F0 H F σ B e bb v D I =>
  hc H0 F0 H F σ e _ fun H' F' g=>by
    cases b with
    | true=>exact iteT (h1 rfl H0 F0 H' F' σ B (e.mono g) (bb.trans g.f) v D I)
    | false=>exact iteF (h2 rfl H0 F0 H' F' σ B (e.mono g) (bb.trans g.f) v D I)
theorem ex_for {wi:TI} {g:TG} {tb:TS} {ds:List PyData} (κ:Bool) (Iv:Nat→Ctx→Prop) (hi:EvI K S κ wi Γ ds) (h0:Iv 0 Γ)
    (hs:∀ i d Γ',ds[i]?=some d→Iv i Γ'→∃ js,ExG K S κ g js d Γ' fun Γ''=>ExS K S tb Γ'' { nx:=Iv (i + 1),rt:=P.rt,bk:=P.nx,ct:=Iv (i + 1),kr:=P.kr }) (hd:∀ Γ',Iv ds.length Γ'→P.nx Γ'):ExS K S (tFor wi g tb) Γ P:=fun H0 F0 H F σ B e b _ D I =>
  hi H0 F0 H F σ e _ fun J H1 F1 g1 I1=>by
    refine ⟨fun i m σ2 H2=>m=ds.length - i∧i≤ds.length∧∃ Γ2 F2,Iv i Γ2∧Same F1 F2∧DEnv K S H0 F0 H2 F2 σ2 Γ2,⟨_,rfl,Nat.zero_le _,Γ,F1,h0,.refl _,e.mono g1⟩,?_⟩
    rintro i m σ2 H2 ⟨rfl,hi,Γ2,F2,v2,s2,e2⟩
    have b1:Same B F1:=b.trans g1.f
    by_cases hlt:i < ds.length
    · refine .inr ⟨I1.go i H2 F2 s2 e2.le hlt,fun σ3 H3=>i + 1≤ds.length∧∃ Γ3 F3,Iv (i + 1) Γ3∧Same F1 F3∧DEnv K S H0 F0 H3 F3 σ3 Γ3,fun σ3 H3 h3=>⟨_,by omega,rfl,h3⟩,fun x H3 y=>?_⟩
      obtain ⟨d,F3,hd,g3,p3⟩:=I1.yld i H2 F2 x H3 s2 e2.le e2.sd hlt y
      obtain ⟨js,hg⟩:=hs i d Γ2 hd v2
      refine hg H0 F0 H3 F3 σ2 x (e2.mono g3) p3 _ fun Γ' σ' H4 F4 k4 g4 e4 _ _=>?_
      have s4:Same F1 F4:=s2.trans (g3.f.trans g4.f)
      exact k4 H0 F0 H4 F4 σ' F1 e4 s4 (.inl rfl) _ ⟨fun Γ5 σ5 H5 F5 n s5 e5=>⟨hlt,Γ5,F5,n,s5,e5⟩,I.rt,fun Γ5 σ5 H5 F5 n s5 e5=>I.nx Γ5 σ5 H5 F5 n (b1.trans s5) e5,fun Γ5 σ5 H5 F5 n s5 e5=>⟨hlt,Γ5,F5,n,s5,e5⟩⟩
    · have ei:i=ds.length:=by omega
      subst ei
      exact .inl ⟨I1.stop H2 F2 s2 e2.le,I.nx Γ2 σ2 H2 F2 (hd Γ2 v2) (b1.trans s2) e2⟩
def startG (n:Nat) (ds:List PyData):Ctx:=ds.map (fun d=>some (.fz false d)) ++ List.replicate (n - ds.length) none
theorem denv_start {H F:Hp} {N:List Str} {vs:List V} {ds:List PyData} (le:Same F H) (k:DpAll K F vs ds):DEnv K .fresh H F H F (L2.start N vs) (startG N.length ds):=by
  have l:=DpAll.length k
  have no:∀ (i:Nat) (x:DV),(startG N.length ds)[i]?=some (some x)→∃ d,x=.fz false d∧ds[i]?=some d:=fun i x h=>by
    unfold startG at h
    by_cases hi:i < ds.length
    · rw [List.getElem?_append_left (by simpa using hi),List.getElem?_map] at h
      rw [List.getElem?_eq_getElem hi] at h ⊢
      have h':some (DV.fz false ds[i])=some x:=Option.some.inj h
      exact ⟨_,(Option.some.inj h').symm,rfl⟩
    · rw [List.getElem?_append_right (by simpa using Nat.le_of_not_lt hi)] at h
      rw [List.getElem?_replicate] at h
      split at h <;> cases h
  refine ⟨.refl le,le,fun a c=>?_,fun T z=>(nomatch z),by unfold L2.start startG; simp [l],fun i x h=>?_,fun i j x y v w a h _ _ _ o=>?_⟩
  · cases q:H a with
    | none=>exact absurd q c
    | some o=>exact ⟨o,rfl⟩
  · obtain ⟨d',e,h'⟩:=no i _ h
    cases e
    obtain ⟨v,h1,h2⟩:=DpAll.get k h'
    refine ⟨v,?_,dp_rp h2⟩
    unfold L2.start
    have hi:=(List.getElem?_eq_some_iff.mp h1).1
    rw [List.getElem?_append_left (by simpa using hi),List.getElem?_map,h1]
    rfl
  · obtain ⟨d',e,_⟩:=no i _ h
    cases e
    exact o.elim
theorem run_body {t:TS} {N:List Str} {H F:Hp} {vs:List V} {ds:List PyData} {d:PyData} {Q:VK} {Γ:Ctx} (hΓ:startG N.length ds=Γ) (h:ExS K .fresh t Γ { nx:=fun _=>d=.none,rt:=fun x=>x=d,kr:=κ }) (le:Same F H) (k:DpAll K F vs ds)
    (q:∀ v H' F',Gr H F H' F'→Rp K κ .fresh H F' v d→Q v H'):t { nx:=fun _ H'=>Q .non H',rt:=Q } (L2.start N vs) H:=by
  subst hΓ
  refine h H F H F (L2.start N vs) F (denv_start le k) (.refl _) (.inl rfl) _ ⟨fun Γ' σ' H' F' n _ e=>?_,fun d' v H' F' e g p=>?_,fun _ _ _ _ z=>z.elim,fun _ _ _ _ z=>z.elim⟩
  · have n':d=.none:=n
    subst n'
    exact q .non H' F' e.gr .non
  · have e':d'=d:=e
    subst e'
    exact q v H' F' g p
theorem spD_len {pre:List PyData→PyData→Prop} {n:Nat} (h:∀ ds d,pre ds d→ds.length=n) {vs:List V} {H:Hp} {Q:VK} {E:XK} (s:spD K κ pre vs H Q E):vs.length=n:=by
  obtain ⟨F,ds,d,_,k,p,_⟩:=s
  rw [DpAll.length k]
  exact h ds d p
def isLst:Option HO→Bool
  | some (.lst _)=>true
  | _=>false
open Classical in
noncomputable def drop (T:Addr→Prop) (F:Hp):Hp:=fun a=>if T a∧isLst (F a)=true then none else F a
theorem drop_some {T:Addr→Prop} {F:Hp} {a:Addr} {o:HO}:drop T F a=some o↔F a=some o∧¬ (T a∧isLst (some o)=true):=by
  unfold drop
  constructor
  · intro h
    split at h
    · cases h
    · rename_i c; rw [h] at c; exact ⟨h,c⟩
  · rintro ⟨h,c⟩
    rw [h,if_neg c]
def atom:PyData→Bool
  | .none=>true
  | .bool _=>true
  | .int _=>true
  | .str _=>true
  | _=>false
end
end PD
namespace PD
open PySem L2
inductive SetC:Ctx→Nat→Option DV→Ctx→Prop
  | zero {a x:Option DV} {l:Ctx}:SetC (a :: l) 0 x (x :: l)
  | succ {a x:Option DV} {l l':Ctx} {i:Nat}:SetC l i x l'→SetC (a :: l) (i + 1) x (a :: l')
theorem SetC.eq {Γ Γ':Ctx} {i:Nat} {x:Option DV} (h:SetC Γ i x Γ'):Γ.set i x=Γ':=by
  induction h with
  | zero=>rfl
  | succ _ ih=>rw [List.set_cons_succ,ih]
inductive GetC:Ctx→Nat→DV→Prop
  | zero {x:DV} {l:Ctx}:GetC (some x :: l) 0 x
  | succ {a:Option DV} {x:DV} {l:Ctx} {i:Nat}:GetC l i x→GetC (a :: l) (i + 1) x
theorem GetC.eq {Γ:Ctx} {i:Nat} {x:DV} (h:GetC Γ i x):Γ[i]?=some (some x):=by
  induction h with
  | zero=>rfl
  | succ _ ih=>rw [List.getElem?_cons_succ,ih]
inductive CaptC:List (Option Nat)→Ctx→Ctx→Prop
  | nil {Γ:Ctx}:CaptC [] Γ []
  | no {js:List (Option Nat)} {Γ Γ':Ctx}:CaptC js Γ Γ'→CaptC (none :: js) Γ (none :: Γ')
  | got {js:List (Option Nat)} {Γ Γ':Ctx} {j:Nat} {x:DV}:GetC Γ j x→CaptC js Γ Γ'→CaptC (some j :: js) Γ (some x :: Γ')
theorem CaptC.eq {js:List (Option Nat)} {Γ Γ':Ctx} (h:CaptC js Γ Γ'):captG js Γ=Γ':=by
  induction h with
  | nil=>rfl
  | no _ ih =>
    unfold captG at ih ⊢
    rw [List.map_cons,ih]
  | got g _ ih =>
    unfold captG at ih ⊢
    rw [List.map_cons,ih]
    show (Option.join _ :: _)=_
    rw [g.eq]
    rfl
section
variable {K:PySem.W.Frag} {S S':Sx} {κ κ':Bool} {Γ Γ' Γ'':Ctx} {P:Post}
theorem evv {i:Nat} {d:PyData} (h:GetC Γ i (.fz κ' d)) (hk:κ=true→κ'=true):EvE K S κ (tVar i) Γ d:=(ev_var h.eq).weak hk
theorem exs {te:TE} {u:TS} {i:Nat} {d:PyData} (κ:Bool) (h:EvE K S κ te Γ d) (e:SetC Γ i (some (.fz κ d)) Γ') (k:ExT K S S' u Γ' P):ExT K S S' (tSeq (tAsg te (gName i)) u) Γ P:=ex_seq (·=Γ') (ex_set h e.eq) fun _ z=>z ▸ k
theorem exs1 {te:TE} {i:Nat} {d:PyData} (κ:Bool) (h:EvE K S κ te Γ d) (e:SetC Γ i (some (.fz κ d)) Γ') (k:P.nx Γ'):ExS K S (tAsg te (gName i)) Γ P:=ex_set h (e.eq ▸ k)
theorem exo {te:TE} {u:TS} {i:Nat} {ds:List PyData} (κ:Bool) (h:EvO K S κ te Γ ds) (e:SetC Γ i (some (.ow κ ds)) Γ') (k:ExT K S S' u Γ' P):ExT K S S' (tSeq (tAsg te (gName i)) u) Γ P:=ex_seq (·=Γ') (ex_setO h e.eq) fun _ z=>z ▸ k
theorem exa1 {te:TE} {i:Nat} {ds:List PyData} {d:PyData} (h:GetC Γ i (.ow κ ds)) (he:EvE K S κ te Γ d) (e:SetC Γ i (some (.ow κ (ds ++ [d]))) Γ') (hz:ds.length < sizeLine) (k:P.nx Γ'):ExS K S (tDrop (tBM K "list" rAppend (tVar i) (tCons te tNil))) Γ P:=ex_append h.eq he hz (e.eq ▸ k)
theorem exi1 {te ti:TE} {i j:Nat} {m:Int} {ds:List PyData} {d:PyData} (h:GetC Γ i (.ow κ ds)) (he:EvE K S κ te Γ d) (hi:EvE K S false ti Γ (.int m)) (hm:ixN ds.length m=some j) (e:SetC Γ i (some (.ow κ (ds.set j d))) Γ') (k:P.nx Γ'):ExS K S (tAsg te (gSub (tVar i) ti rSetL)) Γ P:=ex_setItem h.eq he hi hm (e.eq ▸ k)
theorem exfz {t:TS} (i:Nat) {ds:List PyData} (h:GetC Γ i (.ow κ ds)) (e:SetC Γ i (some (.fz κ (.list ds))) Γ') (k:ExT K S S' t Γ' P):ExT K S S' t Γ P:=ex_freeze i h.eq (by rw [e.eq]; exact k)
theorem egn {i:Nat} {d:PyData} {k:Ctx→Prop} (e:SetC Γ i (some (.fz κ d)) Γ') (h:k Γ'):ExG K S κ (gName i) [i] d Γ k:=eg_name (by rw [e.eq]; exact h)
theorem egt {i j:Nat} {x y:PyData} {k:Ctx→Prop} (e1:SetC Γ i (some (.fz κ x)) Γ') (e2:SetC Γ' j (some (.fz κ y)) Γ'') (h:k Γ''):ExG K S κ (gTup K 2 (gCons (gName i) (gCons (gName j) gNil))) [i,j] (.tuple [x,y]) Γ k:=eg_two (by rw [e1.eq,e2.eq]; exact h)
theorem exro {i:Nat} {ds:List PyData} (h:GetC Γ i (.ow κ ds)) (hr:P.rt (.list ds)) (hk:(S=S∧κ=P.kr)∨P.kr=false):ExT K S S' (tRet (tVar i)) Γ P:=ex_retO h.eq hr hk
theorem exif {c:TT} {t u v:TS} {b:Bool} (N:Ctx→Prop) (hc:EvT K S c Γ b) (h1:b=true→ExS K S t Γ { P with nx:=N,bk:=fun _=>False,ct:=fun _=>False }) (h2:b=false→ExS K S u Γ { P with nx:=N,bk:=fun _=>False,ct:=fun _=>False }) (k:∀ Γ',N Γ'→ExT K S S' v Γ' P):ExT K S S' (tSeq (tIfS c t u) v) Γ P:=ex_seq N (ex_if hc h1 h2) k
theorem exif2 {c:TT} {t u v:TS} {b:Bool} (hc:EvT K S c Γ b) (h1:b=true→ExT K S S' (tSeq t v) Γ P) (h2:b=false→ExT K S S' (tSeq u v) Γ P):ExT K S S' (tSeq (tIfS c t u) v) Γ P:=fun H0 F0 H F σ B e bb vv D I=>by
  refine hc H0 F0 H F σ e _ fun H' F' g=>?_
  cases b with
  | true=>exact iteT (h1 rfl H0 F0 H' F' σ B (e.mono g) (bb.trans g.f) vv D I)
  | false=>exact iteF (h2 rfl H0 F0 H' F' σ B (e.mono g) (bb.trans g.f) vv D I)
theorem exn {v:TS} (k:ExT K S S' v Γ P):ExT K S S' (tSeq tNext v) Γ P:=ex_seq (·=Γ) (ex_next rfl) fun _ z=>z ▸ k
theorem exifF {c:TT} {t v:TS} {b:Bool} (hc:EvT K S c Γ b) (hb:b=false) (k:ExT K S S' v Γ P):ExT K S S' (tSeq (tIfS c t tNext) v) Γ P:=exif2 hc (fun h=>by rw [hb] at h; cases h) fun _=>exn k
theorem exfor {wi:TI} {g:TG} {tb u:TS} {ds:List PyData} (κ:Bool) (Iv:Nat→Ctx→Prop) (hi:EvI K S κ wi Γ ds) (h0:Iv 0 Γ)
    (hs:∀ i d Γ',ds[i]?=some d→Iv i Γ'→∃ js,ExG K S κ g js d Γ' fun Γ''=>ExS K S tb Γ'' { nx:=Iv (i + 1),rt:=P.rt,bk:=Iv ds.length,ct:=Iv (i + 1),kr:=P.kr }) (hd:∀ Γ',Iv ds.length Γ'→ExT K S S' u Γ' P):ExT K S S' (tSeq (tFor wi g tb) u) Γ P:=ex_seq (Iv ds.length) (ex_for κ Iv hi h0 hs fun _ h=>h) hd
theorem evo_comp' {js:List (Option Nat)} {Γc:Ctx} {wi:TI} {g:TG} {tt:TT} {te:TE} {is:List Nat} {ds:List PyData} (κ':Bool) (p:PyData→Bool) (f:PyData→PyData) (hi:EvI K S κ' wi Γ ds) (hc:CaptC js Γ Γc) (hjs:(is.all fun i=>js[i]? == some none)=true)
    (hj:(js.filterMap id).Nodup) (hz:ds.length≤sizeLine) (hb:∀ d∈ds,ExG K S κ' g is d Γc fun Γ'=>EvT K S tt Γ' (p d)∧(p d=true→EvE K S κ te Γ' (f d))):EvO K S κ (tComp js wi g tt te) Γ ((ds.filter p).map f):=by
  refine evo_comp p f hi (fun i hi=>?_) ?_ hz (by rw [hc.eq]; exact hb)
  · have:=List.all_eq_true.mp hjs i hi
    simpa using this
  · intro i j k h1 h2
    clear hc hjs hi hb
    induction js generalizing i j with
    | nil=>simp at h1
    | cons o js ih =>
      cases o with
      | none =>
        cases i with
        | zero=>simp at h1
        | succ i =>
          cases j with
          | zero=>simp at h2
          | succ j=>rw [ih (by simpa using hj) i j (by simpa using h1) (by simpa using h2)]
      | some m =>
        have hj':(m :: js.filterMap id).Nodup:=by simpa using hj
        have hm:=(List.nodup_cons.mp hj').1
        cases i with
        | zero =>
          cases j with
          | zero=>rfl
          | succ j =>
            have e1:m=k:=by simpa using h1
            subst e1
            have h2':js[j]?=some (some m):=by simpa using h2
            exact absurd (show m∈js.filterMap id from List.mem_filterMap.mpr ⟨some m,List.mem_of_getElem? h2',rfl⟩) hm
        | succ i =>
          cases j with
          | zero =>
            have e1:m=k:=by simpa using h2
            subst e1
            have h2':js[i]?=some (some m):=by simpa using h1
            exact absurd (show m∈js.filterMap id from List.mem_filterMap.mpr ⟨some m,List.mem_of_getElem? h2',rfl⟩) hm
          | succ j=>rw [ih (List.nodup_cons.mp hj').2 i j (by simpa using h1) (by simpa using h2)]
theorem evo_map {js:List (Option Nat)} {Γc:Ctx} {wi:TI} {g:TG} {te:TE} {is:List Nat} {ds:List PyData} (κ':Bool) (f:PyData→PyData) (hi:EvI K S κ' wi Γ ds) (hc:CaptC js Γ Γc) (hjs:(is.all fun i=>js[i]? == some none)=true)
    (hj:(js.filterMap id).Nodup) (hz:ds.length≤sizeLine) (hb:∀ d∈ds,ExG K S κ' g is d Γc fun Γ'=>EvE K S κ te Γ' (f d)):EvO K S κ (tComp js wi g tYes te) Γ (ds.map f):=by
  have h:=evo_comp' (K:=K) (S:=S) (κ:=κ) (g:=g) (tt:=tYes) (te:=te) (is:=is) κ' (fun _=>true) f hi hc hjs hj hz fun d hd H0 F0 H F σ v e p Q q=>hb d hd H0 F0 H F σ v e p Q fun Γ' σ' H' F' k=>q Γ' σ' H' F' ⟨et_yes,fun _=>k⟩
  rwa [List.filter_eq_self.mpr (fun _ _=>rfl)] at h
end
end PD
namespace PD
open PySem L2
inductive StartC:Nat→List PyData→Ctx→Prop
  | z:StartC 0 [] []
  | no {n:Nat} {Γ:Ctx}:StartC n [] Γ→StartC (n + 1) [] (none :: Γ)
  | got {n:Nat} {d:PyData} {ds:List PyData} {Γ:Ctx}:StartC n ds Γ→StartC (n + 1) (d :: ds) (some (.fz false d) :: Γ)
theorem StartC.eq {n:Nat} {ds:List PyData} {Γ:Ctx} (h:StartC n ds Γ):startG n ds=Γ:=by
  induction h with
  | z=>rfl
  | @no n Γ _ ih =>
    rw [← ih]
    unfold startG
    simp [List.replicate_succ]
  | @got n d ds Γ _ ih =>
    rw [← ih]
    unfold startG
    simp
theorem run_def {K:PySem.W.Frag} {κ:Bool} {t:TS} {N:List Str} {n:Nat} {H F:Hp} {vs:List V} {ds:List PyData} {d:PyData} {Q:VK} {Γ:Ctx} (le:Same F H) (k:DpAll K F vs ds) (q:∀ v H' F',Gr H F H' F'→Rp K κ .fresh H F' v d→Q v H') (hn:N.length=n) (hΓ:StartC n ds Γ)
    (h:ExS K .fresh t Γ { nx:=fun _=>d=.none,rt:=fun x=>x=d,kr:=κ }):t { nx:=fun _ H'=>Q .non H',rt:=Q } (L2.start N vs) H:=run_body (hn ▸ hΓ.eq) h le k q
end PD
namespace PD
open PySem L2
section
variable {K:PySem.W.Frag} {S:Sx} {κ:Bool} {Γ:Ctx}
end
theorem atI0 {α:Type} {a:α} {l:List α}:atI (a :: l) 0=some a:=by
  unfold atI ixN
  simp
theorem atI1 {α:Type} {a b:α} {l:List α}:atI (a :: b :: l) 1=some b:=by
  unfold atI ixN
  have h:(1:Int) < ((a :: b :: l).length:Int):=by simp; omega
  rw [if_pos (by decide),if_pos h]
  rfl
theorem kit_of {K:PySem.W.Frag} {t c:Value} {b:Bool} (h:PySem.W.kitOne K t c=some b):PySem.W.kitOne K t c=some b:=h
end PD
namespace L2
open PySem PySem.Spec PyProof.Rows
section
variable {X:Cx} {K:PySem.W.Frag}
theorem pi_listK {tg l:Expr} {tl:TE} (hK:X.K=K) (hl:PE X l tl):PI X tg l (iList K tl):=by subst hK; exact pi_list hl
variable {o e:Expr} {es:List Expr} {to:TE} {t:TA} {name:Str} {apos cpos:Pos} {T id:String} {r:V→List V→Hp→VK→Prop}
theorem pe_bm0K (hK:X.K=K) (pa:PlainAttrs T) (slot:Slot T name id) (hty:typeOf (.builtin id)=pure (.type "method_descriptor")) (hm:MtR X id r) (ho:PE X o to)
    (hbase:attributeBase o name X.env (eval o X.env)=eval o X.env:=by rfl) (hline:(apos.endLine == cpos.line)=true:=by rfl):PE X (.Call (.Attribute o name apos) [] [] cpos) (tBM0 K T r to):=by subst hK; exact pe_bm0 pa slot hty hm ho hbase hline
theorem pe_bmK (hK:X.K=K) (pa:PlainAttrs T) (slot:Slot T name id) (hty:typeOf (.builtin id)=pure (.type "method_descriptor")) (hm:MtR X id r) (ho:PE X o to) (ha:PA X (e :: es) t)
    (hbase:attributeBase o name X.env (eval o X.env)=eval o X.env:=by rfl)
    (hfew:((backTo cpos (starEach (e :: es) X.env)).all (fun x=>!x.1) && (backToKw cpos (keywordEach [] X.env)).all (fun x=>x.1.isSome)
      && decide ((e :: es).length + ([]:List Keyword).length + (if ([]:List Keyword).isEmpty then 0 else 1) < 30))=true:=by rfl)
    (hline:(apos.endLine == cpos.line)=true:=by rfl) (hs:starEach (e :: es) X.env=(false,eval e X.env) :: starEach es X.env:=by rfl) (hplain:(backTo cpos (starEach es X.env)).any (·.1)=false:=by rfl):PE X (.Call (.Attribute o name apos) (e :: es) [] cpos) (tBM K T r to t):=by subst hK; exact pe_bm pa slot hty hm ho ha hbase hfew hline hs hplain
end
end L2
namespace PD
open PySem L2
abbrev il (ns:List Int):PyData:=.list (ns.map .int)
def optD:Option Int→PyData
  | none=>.none
  | some i=>.int i
abbrev vl (vw:List (Option Int)):PyData:=.list (vw.map optD)
theorem imm_ints (ns:List Int):∀ d∈ns.map PyData.int,imm d=true:=fun d hd=>by
  obtain ⟨n,_,rfl⟩:=List.mem_map.mp hd
  rfl
section
variable {K:PySem.W.Frag} {S:Sx} {κ:Bool} {Γ:Ctx}
theorem evl_ints {t:TE} {ns:List Int} (h:EvE K S false t Γ (.list (ns.map .int))):EvL K S κ t Γ (ns.map .int):=h.toL.imm (imm_ints ns)
end
theorem get_map {α:Type} {g:α→PyData} {ns:List α} {i:Nat} {d:PyData} (h:(ns.map g)[i]?=some d):∃ n,ns[i]?=some n∧d=g n:=by
  rw [List.getElem?_map] at h
  cases e:ns[i]? with
  | none=>rw [e] at h; cases h
  | some n=>rw [e] at h; exact ⟨n,rfl,(Option.some.inj h).symm⟩
theorem small_mul {i j:Int} (h0:-(2 ^ 64) < j) (h1:j < 2 ^ 64):IntMulOk i j:=.of_right (intBits_le_64 h0 h1)
theorem atI_map {α:Type} {g:α→PyData} {xs:List α} {i:Nat} {x:α} (h:xs[i]?=some x):atI (xs.map g) (i:Int)=some (g x):=atI_nat (by rw [List.getElem?_map,h]; rfl)
theorem ixN_nat {n i:Nat} (h:i < n):ixN n (i:Int)=some i:=by
  unfold ixN
  rw [if_pos (by omega),if_pos (by omega)]
  simp
theorem range_get {n i:Nat} {d:PyData} (h:((List.range n).map fun k:Nat=>PyData.int (k:Int))[i]?=some d):i < n∧d=.int i:=by
  rw [List.getElem?_map] at h
  by_cases hi:i < n
  · rw [List.getElem?_range hi] at h
    exact ⟨hi,(Option.some.inj h).symm⟩
  · rw [List.getElem?_eq_none (by simp; omega)] at h
    cases h
theorem range_len (n:Nat):((List.range n).map fun k:Nat=>PyData.int (k:Int)).length=n:=by rw [List.length_map,List.length_range]
end PD
namespace PD
open PySem L2
end PD
namespace L2
open PySem PySem.Spec PyProof.Rows
section
variable {X:Cx} {CX:CXT} {k:Nat} {ps:List Str} {sp:Sp} {E:XK} {x:Str} {p pos:Pos} {e:Expr} {es:List Expr} {t:TA}
end
end L2
namespace PD
open PySem L2
section
variable {K:PySem.W.Frag} {S S':Sx} {κ:Bool} {Γ:Ctx} {P:Post}
end
end PD
namespace Sx2
open Sh Wd
def pk (ss:List Int) (ks:List Nat):List Int:=ks.map fun k=>ss.getD k 0
end Sx2
namespace PD
open PySem L2
section
variable {K:PySem.W.Frag} {S S':Sx} {κ:Bool} {Γ:Ctx} {P:Post}
end
theorem lay_map {α:Type} {g:α→PyData} (h:∀ x,PyData.canLay0 (g x)=true):∀ xs:List α,PyData.canLayAll0 (xs.map g)=true
  | []=>rfl
  | x :: r=>by
    show (PyData.canLay0 (g x) && PyData.canLayAll0 (r.map g))=true
    rw [h,lay_map h r]
    rfl
theorem depth_map {α:Type} {g:α→PyData} {n:Nat} (h:∀ x,PyData.depth (g x)≤n):∀ xs:List α,PyData.depthAll (xs.map g)≤n
  | []=>Nat.zero_le _
  | x :: r=>by
    show max (PyData.depth (g x)) (PyData.depthAll (r.map g))≤n
    have:=depth_map h r
    have:=h x
    omega
theorem shaped_of {d:PyData} (h1:PyData.canLay0 d=true) (h2:PyData.depth d≤50):SeqAt.shaped d=true:=by
  unfold SeqAt.shaped
  rw [h1]
  simp
  omega
end PD
namespace L2
open PySem PySem.Spec PyProof.Rows
def srt (ns:List Int):List Int:=ns.mergeSort fun a b=>decide (a≤b)
theorem perm_sorted:∀ {a b:List Int},a.Perm b→a.Pairwise (·≤·)→b.Pairwise (·≤·)→a=b
  | [],b,p,_,_=>p.nil_eq
  | x :: r,[],p,_,_=>absurd p.length_eq (by simp)
  | x :: r,y :: t,p,h1,h2=>by
    have a1:=List.pairwise_cons.mp h1
    have a2:=List.pairwise_cons.mp h2
    have hx:x∈y :: t:=p.mem_iff.mp List.mem_cons_self
    have hy:y∈x :: r:=p.mem_iff.mpr List.mem_cons_self
    have e:x=y:=by
      rcases List.mem_cons.mp hx with e | hx
      · exact e
      · rcases List.mem_cons.mp hy with e | hy
        · exact e.symm
        · have:=a2.1 x hx
          have:=a1.1 y hy
          omega
    subst e
    rw [perm_sorted p.cons_inv a1.2 a2.2]
theorem srt_perm (ns:List Int):(srt ns).Perm ns:=List.mergeSort_perm ns _
theorem srt_sorted (ns:List Int):(srt ns).Pairwise (·≤·):=by
  have:=List.pairwise_mergeSort (le:=fun a b:Int=>decide (a≤b)) (fun a b c h1 h2=>by simp at *; omega) (fun a b=>by simp; omega) ns
  exact this.imp fun h=>by simpa using h
theorem srt_eq {a ns:List Int} (p:a.Perm ns) (h:a.Pairwise (·≤·)):a=srt ns:=perm_sorted (p.trans (srt_perm ns).symm) h (srt_sorted ns)
section
variable {X:Cx} {K:PySem.W.Frag}
theorem vals_of_ints:∀ {ns:List Int} {us:List Value},IntsAre us ns→Vals (ns.map V.int) us
  | _,_,.nil=>.nil
  | _,_,.cons _ t r=>.cons ⟨t,rfl⟩ (vals_of_ints r)
def rSorted (K:PySem.W.Frag):List V→Hp→VK→Prop:=fun xs H Q=>∃ p ns,xs=[.ref p]∧SqL K H p (ns.map V.int)∧ns.length < 64∧∀ l,H l=none→Q (.ref l) (upd H l (.lst ((srt ns).map V.int)))
theorem call_sorted:CallR X (.builtin "sorted") (rSorted X.K):=by
  intro pins s σ H xs us Q I r h
  obtain ⟨p,ns,rfl,hq,h64,q⟩:=h
  obtain ⟨u,rfl,rx⟩:=vals1 r
  cases rx
  obtain ⟨its,r',pl,hz⟩:=I.list hq
  have hl:=r'.length
  rw [List.length_map] at hl hz
  refine sorted_ints (vs:=its) pl.isList (intsAre_of r') (by omega) fun out ns' a1 a2 a3=>?_
  have e:=srt_eq a2 a3
  subst e
  obtain ⟨c,hc⟩:=sortedAll_at s.heap its out
  exact ⟨.ref (s.heap.objs.size + 1),_,I.laid (t':=s.toks) (fun _ _=>sortedAll_old) (Nat.le_succ _) (show ObjOk X.prog X.w _ _ _ (.lst ((srt ns).map V.int)) from ⟨by rw [List.length_map,(srt_perm ns).length_eq]; exact hz,out.toList,c,vals_of_ints a1,by simpa using hc⟩),rfl,q _ (I.hok.fresh (Nat.le_succ _))⟩
theorem call_sortedK (hK:X.K=K):CallR X (.builtin "sorted") (rSorted K):=by subst hK; exact call_sorted
def rInsert:V→List V→Hp→VK→Prop:=fun x vs H Q=>∃ l xs j y,x=.ref l∧vs=[.int j,y]∧H l=some (.lst xs)∧0≤j∧j≤(xs.length:Int)∧xs.length < sizeLine∧Q .non (upd H l (.lst (xs.take j.toNat ++ y :: xs.drop j.toNat)))
theorem mt_insert:MtM X "list.insert" rInsert:=by
  intro pins s σ H x vs v us Q I rx rv h
  obtain ⟨l,xs,j,y,rfl,rfl,hH,h0,hj,hz,q⟩:=h
  cases rx
  cases rv with
  | cons ru rv' =>
    obtain ⟨t,rfl⟩:=ru
    obtain ⟨u,rfl,ry⟩:=Vals.one rv'
    obtain ⟨z,its,n,r,hl,e⟩:=I.lstM hH
    have hb:sizeLine < 2 ^ 62:=by decide
    have hf:Builtin.List.listFitsIndex j=true:=fitsIndex_both (by omega) (by omega)
    have hs:its.toArray.size≤sizeLine:=by rw [List.size_toArray]; omega
    have e1:¬ (j < 0):=by omega
    have e2:min j.toNat its.length=j.toNat:=by omega
    refine call_meets F.slot_list_insert ⟨_,e,rfl⟩ F.entry_list_insert (F.args_list_insert_3 _ _ _) (AutoSeq1.list_insert_list_int_val_1 l its.toArray n j t u (by rw [hf]; decide) hs) ⟨e,?_⟩
    refine ⟨.non,_,I.lset (its':=its.take j.toNat ++ u :: its.drop j.toNat) hH e ?_ ((r.take j.toNat).append (.cons ry (r.drop j.toNat))) ?_,rfl,q⟩
    · simp only [e1,if_false,List.size_toArray,e2]
      apply Array.toList_inj.mp
      simp
      exact List.take_of_length_le (by rw [List.length_drop]; exact Nat.le_refl _)
    · rw [List.length_append,List.length_cons,List.length_take,List.length_drop]
      omega
end
end L2
namespace PD
open PySem L2
section
variable {K:PySem.W.Frag} {S S':Sx} {κ κ':Bool} {Γ Γ' Γ'':Ctx} {P:Post}
theorem rpAll_ints {H0 F:Hp} (ns:List Int):RpAll K κ S H0 F (ns.map V.int) (ns.map .int):=dpAll_immL (imm_ints ns) (dpAll_ints ns)
theorem evo_sorted {ta:TE} {ns:List Int} (h:EvL K S false ta Γ (ns.map .int)) (h64:ns.length < 64):EvO K S κ (tCB (rSorted K) (tCons ta tNil)) Γ ((srt ns).map .int):=fun H0 F0 H F σ e Q q =>
  h H0 F0 H F σ e _ fun a vs H1 F1 g1 p1 k1=>by
    cases dpAll_of_ints (rpAll_dp k1)
    exact ⟨a,ns,rfl,p1,h64,fun p hp=>q p _ _ F1 (g1.trans (.newO g1.le hp _)) (g1.h.free hp) upd_same (g1.le.free hp) (rpAll_ints _)⟩
theorem ex_insert {te ti:TE} {i:Nat} {m:Int} {ds:List PyData} {d:PyData} (h:Γ[i]?=some (some (.ow κ ds))) (hi:EvE K S false ti Γ (.int m)) (he:EvE K S κ te Γ d) (h0:0≤m) (h1:m≤ds.length) (hz:ds.length < sizeLine) (k:P.nx (Γ.set i (some (.ow κ (ds.take m.toNat ++ d :: ds.drop m.toNat))))) :
    ExS K S (tDrop (tBM K "list" rInsert (tVar i) (tCons ti (tCons te tNil)))) Γ P:=fun H0 F0 H F σ B e b _ D I=>by
  obtain ⟨v0,q1,a,vs,rfl,w,q5⟩:=e.has i _ h
  refine ⟨_,q1,.inl ⟨rfl,_,SqL.of w.h⟩,hi H0 F0 H F σ e _ fun v1 H1 F1 g1 p1=>he H0 F0 H1 F1 σ (e.mono g1) _ fun v H' F' g2 p=>?_⟩
  cases rp_int p1
  have g:=g1.trans g2
  have k':=rpAll_mono g.f q5
  have hl:=RpAll.length q5
  refine ⟨a,vs,m,v,rfl,rfl,g.h _ _ w.h,h0,by rw [hl]; exact h1,by rw [hl]; exact hz,?_⟩
  exact I.nx _ _ _ F' k (b.trans g.f) ((e.mono g).put (y:=.ow κ (ds.take m.toNat ++ d :: ds.drop m.toNat)) h q1 (show Owns H' (.ref a) (.ow κ ds) a from rfl) ⟨a,_,rfl,⟨upd_same,(w.mono g).f,w.n,w.s⟩,RpAll.append (RpAll.take _ k') (.cons p (RpAll.drop _ k'))⟩ fun _ z=>z)
theorem exin {te ti:TE} {i:Nat} {m:Int} {ds:List PyData} {d:PyData} (h:GetC Γ i (.ow κ ds)) (hi:EvE K S false ti Γ (.int m)) (he:EvE K S κ te Γ d) (h0:0≤m) (h1:m≤ds.length) (hz:ds.length < sizeLine) (e:SetC Γ i (some (.ow κ (ds.take m.toNat ++ d :: ds.drop m.toNat))) Γ') (k:P.nx Γ') :
    ExS K S (tDrop (tBM K "list" rInsert (tVar i) (tCons ti (tCons te tNil)))) Γ P:=ex_insert h.eq hi he h0 h1 hz (e.eq ▸ k)
theorem tup_drop {T:Addr→Prop} {F:Hp} {a:Addr} {xs:List V} (z:SqT K F a xs):SqT K (drop T F) a xs:=by
  rcases z with (z | ⟨o,z⟩) | z
  · exact .inl (.inl (drop_some.mpr ⟨z,fun c=>nomatch c.2⟩))
  · exact .inl (.inr ⟨o,drop_some.mpr ⟨z,fun c=>nomatch c.2⟩⟩)
  · exact .inr z
theorem drop_none {T:Addr→Prop} {F:Hp} {a:Addr} {xs:List V} (h:F a=some (.lst xs)) (t:T a):drop T F a=none:=by
  cases q:drop T F a with
  | none=>rfl
  | some o =>
    obtain ⟨q1,q2⟩:=drop_some.mp q
    rw [h] at q1
    cases q1
    exact absurd ⟨t,rfl⟩ q2
end
end PD
namespace L2
open PySem PySem.Spec PyProof.Rows
section
variable {X:Cx} {K:PySem.W.Frag}
end
end L2
namespace PD
open PySem L2
section
variable {K:PySem.W.Frag} {S S':Sx} {κ κ':Bool} {Γ Γ' Γ'':Ctx} {P:Post}
theorem HasV.frzG {H0 H F F':Hp} {v:V} {x:DV} (h:HasV K S H0 H F v x) (s:Same F F') (n:∀ c,Owns H v x c→F' c=none):HasV K S H0 H F' v x:=by
  cases x with
  | fz κ d=>exact rp_mono s h
  | tn d=>obtain ⟨T,eT,k⟩:=h; exact ⟨T,eT,rp_mono s k⟩
  | ow κ ds=>obtain ⟨b,us,eb,wo,kk⟩:=h; exact ⟨b,us,eb,⟨wo.h,n b eb,wo.n,wo.s⟩,rpAll_mono s kk⟩
  | ox=>obtain ⟨b,us,eb,wo⟩:=h; exact ⟨b,us,eb,⟨wo.h,n b eb,wo.n,wo.s⟩⟩
  | o2 r dss =>
    obtain ⟨b,us,eb,wo,n1,n2,l,k⟩:=h
    refine ⟨b,us,eb,⟨wo.h,n b (.inl eb.eq),wo.n,wo.s⟩,n1,n2,l,fun j y hy=>?_⟩
    obtain ⟨c,ws,ds,e2,o2,h2,k2⟩:=k j y hy
    exact ⟨c,ws,ds,e2,⟨o2.h,n c (.inr ⟨b,us,eb.eq,wo.h,by rw [← e2]; exact List.mem_of_getElem? hy⟩),o2.n,o2.s⟩,h2,rpAll_mono s k2⟩
  | fn a=>exact h
  | xn φ=>obtain ⟨b,e,k⟩:=h; exact ⟨b,e,s _ _ k⟩
  | oa b κ ds=>obtain ⟨eb,us,wo,kk⟩:=h; exact ⟨eb,us,⟨wo.h,n b eb,wo.n,wo.s⟩,rpAll_mono s kk⟩
  | xp φ=>obtain ⟨F1,s1,k⟩:=h; exact ⟨F1,s1.trans s,k⟩
  | od u=>obtain ⟨b,eb,wo⟩:=h; exact ⟨b,eb,⟨wo.h,n b eb,wo.n,wo.s⟩⟩
  | og ad ψ =>
    obtain ⟨ok,w,p⟩:=h
    refine ⟨ok,fun b z=>?_,ok.ps S H0 H H F F' v (fun _ _=>rfl) s p⟩
    obtain ⟨o,y⟩:=w b z
    exact ⟨o,⟨y.h,n b z,y.n,y.s⟩⟩
theorem imm_drop {H0 F:Hp} {T:Addr→Prop} {vs:List V} {ds:List PyData} (h:∀ d∈ds,imm d=true) (k:DpAll K F vs ds):RpAll K κ S H0 (drop T F) vs ds :=
  dpAll_immL h (rpAll_dp (rpAll_map (κ:=true) (κ':=true) (S:=.spoil T) (S':=.fresh) (H0:=fun _=>none) (H0':=fun _=>none) (F:=F) (F':=drop T F) (fun a xs z=>⟨drop_some.mpr ⟨z.1,fun c=>z.2 (.inr c.1)⟩,fun c=>z.2 (.inl c)⟩) (fun _ _ z=>tup_drop z) (dpAll_immL h k)))
theorem thaw {H0 F0 H F:Hp} {σ:St} {i:Nat} {ds:List PyData} {Γf:Ctx} (e:DEnv K S H0 F0 H F σ Γ) (h:GetC Γ i (.ow κ ds)) (es:SetC Γ i (some (.fz κ (.list ds))) Γf) :
    ∃ a Ff,DEnv K S H0 F0 H Ff σ Γf∧∀ H' F',Gr H Ff H' F'→Gr H F H' (drop (fun c=>c=a) F'):=by
  obtain ⟨v,q1,a,vs,rfl,w,q5⟩:=e.has i _ h.eq
  obtain ⟨s,e'⟩:=e.froz (y:=.fz κ (.list ds)) h.eq q1 rfl w (.lst (LN.new w.s) (rpAll_mono (Same.new w.f _) q5)) fun _ z=>z.elim
  rw [es.eq] at e'
  refine ⟨a,_,e',fun H' F' g=>⟨g.h,fun c o z=>drop_some.mpr ⟨g.f _ _ (s _ _ z),?_⟩,fun c o z=>g.le _ _ (drop_some.mp z).1,fun c o z n=>?_⟩⟩
  · rintro ⟨rfl,_⟩
    rw [w.f] at z; cases z
  · by_cases hc:c=a
    · subst hc
      exact drop_none (g.f _ _ upd_same) rfl
    · cases q':drop (fun c=>c=a) F' c with
      | none=>rfl
      | some o' =>
        have:=(drop_some.mp q').1
        rw [g.ap _ _ z (by rw [upd_ne hc]; exact n)] at this; cases this
theorem et_thaw (i:Nat) {t:TT} {b:Bool} {ds:List PyData} {Γf:Ctx} (h:GetC Γ i (.ow κ ds)) (es:SetC Γ i (some (.fz κ (.list ds))) Γf) (k:EvT K S t Γf b):EvT K S t Γ b:=fun H0 F0 H F σ e Q q=>by
  obtain ⟨a,Ff,e',g⟩:=thaw e h es
  exact k H0 F0 H Ff σ e' Q fun H' F' g'=>q H' _ (g H' F' g')
end
end PD
namespace PD
open PySem L2
section
variable {K:PySem.W.Frag} {S S':Sx} {κ κ':Bool} {Γ Γ' Γ'':Ctx} {P:Post}
theorem evo_each {α:Type} {js:List (Option Nat)} {Γc:Ctx} {wi:TI} {g:TG} {te:TE} {is:List Nat} {xs:List α} (κ':Bool) (u f:α→PyData) (hu:∀ x∈xs,∀ y∈xs,u x=u y→f x=f y) (hi:EvI K S κ' wi Γ (xs.map u)) (hc:CaptC js Γ Γc) (hjs:(is.all fun i=>js[i]? == some none)=true)
    (hj:(js.filterMap id).Nodup) (hz:xs.length≤sizeLine) (hb:∀ x∈xs,ExG K S κ' g is (u x) Γc fun Γ'=>EvE K S κ te Γ' (f x)):EvO K S κ (tComp js wi g tYes te) Γ (xs.map f):=by
  classical
  let F:PyData→PyData:=fun d=>if h:∃ x,x∈xs∧u x=d then f h.choose else .none
  have hF:∀ x∈xs,F (u x)=f x:=fun x hx=>by
    have h:∃ y,y∈xs∧u y=u x:=⟨x,hx,rfl⟩
    show (if h:∃ y,y∈xs∧u y=u x then f h.choose else .none)=_
    rw [dif_pos h]
    exact hu _ h.choose_spec.1 _ hx h.choose_spec.2
  refine EvO.eq (evo_map (κ:=κ) κ' F hi hc hjs hj (by rw [List.length_map]; exact hz) fun d hd=>?_) ?_
  · obtain ⟨x,hx,rfl⟩:=List.mem_map.mp hd
    rw [hF x hx]
    exact hb x hx
  · rw [List.map_map]
    exact List.map_congr_left fun x hx=>hF x hx
theorem line62:sizeLine < 2 ^ 62:=by decide
theorem evo_rng {js:List (Option Nat)} {Γc:Ctx} {ta:TA} {g:TG} {te:TE} {is:List Nat} {n:Nat} (f:Nat→PyData) (hi:EvA K S false ta Γ [.int n]) (hn:n≤sizeLine) (hc:CaptC js Γ Γc) (hjs:(is.all fun i=>js[i]? == some none)=true)
    (hj:(js.filterMap id).Nodup) (hb:∀ k:Nat,k < n→ExG K S true g is (.int k) Γc fun Γ'=>EvE K S κ te Γ' (f k)):EvO K S κ (tComp js (iRng1 ta) g tYes te) Γ ((List.range n).map f) :=
  evo_each true (fun k:Nat=>.int (k:Int)) f (fun x _ y _ h=>by cases Int.ofNat.inj (PyData.int.inj h); rfl) (ei_rng1 (n:=(n:Int)) hi (by omega) (by have:=line62; omega)) hc hjs hj (by rw [List.length_range]; exact hn) fun k hk=>hb k (List.mem_range.mp hk)
end
end PD
namespace L2
open PySem PySem.Spec PyProof.Rows
section
variable {X:Cx} {K:PySem.W.Frag}
end
end L2
namespace PD
open PySem L2
section
variable {K:PySem.W.Frag} {S S':Sx} {κ κ':Bool} {Γ Γ' Γ'':Ctx} {P:Post} {E:XK} {C:Addr}
end
end PD
namespace L2
open PySem PySem.Spec PyProof.Rows
section
variable {P:Program} {w:World} {K:PySem.W.Frag} {mg:Str→Option Value} {base:Heap}
end
section
variable {X:Cx} {k:Nat} {ps:List Str} {sp:Sp} {x:Str} {p pos:Pos} {e:Expr} {es:List Expr} {t:TA}
end
end L2
namespace PD
open PySem L2
section
variable {K:PySem.W.Frag} {S S':Sx} {κ κ':Bool} {Γ Γ' Γ'':Ctx} {P:Post}
theorem ev_strI {ta:TE} {i:Int} (h:EvE K S false ta Γ (.int i)) (hz:i.natAbs.log2 < 1920):EvE K S κ (tCB (fun xs H Q=>∃ i,xs=[.int i]∧i.natAbs.log2 < 1920∧Q (.str (toString i)) H) (tCons ta tNil)) Γ (.str (toString i)):=fun H0 F0 H F σ e Q q =>
  h H0 F0 H F σ e _ fun v H1 F1 g1 p1=>by
    cases rp_int p1
    exact ⟨i,rfl,hz,q _ H1 F1 g1 (.str _)⟩
end
end PD
namespace PD
open PySem L2
section
variable {K:PySem.W.Frag} {S S':Sx} {κ κ':Bool} {Γ Γ' Γ'':Ctx} {P:Post}
end
end PD
namespace PD
open PySem L2
section
variable {K:PySem.W.Frag} {S S':Sx} {κ κ':Bool} {Γ Γ' Γ'':Ctx} {P:Post} {E:XK}
theorem DEnv.newOwn {H0 F0 H F H' F':Hp} {σ:St} {b:Addr} (e:DEnv K S H0 F0 H F σ Γ) (g:Gr H F H' F') (hb:H b=none) (j:Nat) (f:DV) (u:V) (z:Γ[j]?=some (some f)) (r:σ[j]?=some (some u)):¬ Owns H' u f b:=fun o=>by
  obtain ⟨u',q1,q2⟩:=e.has j f z
  rw [r] at q1
  cases q1
  obtain ⟨us,w⟩:=q2.owns (o.back q2 fun _ _ z=>g.h _ _ z.h)
  have:=w.h
  rw [hb] at this; cases this
end
end PD
namespace PD
open PySem L2
section
variable {K:PySem.W.Frag} {S S':Sx} {κ κ':Bool} {Γ Γ' Γ'':Ctx} {P:Post} {E:XK}
end
end PD
namespace L2
open PySem PySem.Spec PyProof.Rows
section
variable {X:Cx}
end
end L2
namespace PD
open PySem L2
section
variable {K:PySem.W.Frag} {S S':Sx} {κ κ':Bool} {Γ Γ' Γ'' Γ3:Ctx} {P:Post}
end
end PD
namespace L2
open PySem PySem.Spec PyProof.Rows
section
variable {X:Cx} {K:PySem.W.Frag}
def dd (ns:List Int):List Int:=ns.foldl step_dedup []
end
end L2
namespace PD
open PySem L2
section
variable {K:PySem.W.Frag} {S S':Sx} {κ κ':Bool} {Γ Γ' Γ'':Ctx} {P:Post}
end
end PD
namespace PD
open PySem L2
section
variable {K:PySem.W.Frag} {S S':Sx} {κ κ':Bool} {Γ Γ' Γ'':Ctx} {P:Post}
def EvG (K:PySem.W.Frag) (S:Sx) (κ:Bool) (t:TE) (Γ:Ctx) (G:PyData→Prop):Prop:=∀ (H0 F0 H F:Hp) (σ:St),DEnv K S H0 F0 H F σ Γ→∀ Q:VK,(∀ d v H' F',G d→Gr H F H' F'→Rp K κ S H0 F' v d→Q v H')→t σ H Q
def spW (K:PySem.W.Frag) (κ:Bool) (pre:List PyData→(PyData→Prop)→Prop):Sp:=fun vs H Q _=>∃ F ds G,Same F H∧DpAll K F vs ds∧pre ds G∧∀ d v H' F',G d→Gr H F H' F'→Rp K κ .fresh H F' v d→Q v H'
theorem spW_len {pre:List PyData→(PyData→Prop)→Prop} {n:Nat} (h:∀ ds G,pre ds G→ds.length=n) {vs:List V} {H:Hp} {Q:VK} {E:XK} (s:spW K κ pre vs H Q E):vs.length=n:=by
  obtain ⟨F,ds,d,_,k,p,_⟩:=s
  rw [DpAll.length k]
  exact h ds d p
theorem evg_call {pre:List PyData→(PyData→Prop)→Prop} {E:XK} {t:TA} {ds:List PyData} {G:PyData→Prop} (h:EvA K S false t Γ ds) (hp:pre ds G):EvG K S κ (tCall (spW K true pre) [] E t) Γ G:=fun H0 F0 H F σ e Q q =>
  h H0 F0 H F σ e _ fun vs H1 F1 g1 p1=>⟨F1,ds,G,g1.le,by rw [List.append_nil]; exact rpAll_dp p1,hp,fun d v H2 F2 hd g2 p2=>q d v H2 F2 hd (g1.trans g2) (rp_weak (κ:=true) (fun _=>rfl) (rp_map (κ:=true) (κ':=true) (S':=S) (H0':=H0) (fun a xs z=>⟨z.1,fun c=>by
    obtain ⟨u,hu⟩:=(e.mono g1).sd a c
    exact z.2 (by show H1 a≠none; rw [hu]; simp)⟩) (fun _ _ z=>z) p2))⟩
theorem exg {te:TE} {u:TS} {i:Nat} {G:PyData→Prop} {Γ':PyData→Ctx} (κ:Bool) (h:EvG K S κ te Γ G) (es:∀ d,SetC Γ i (some (.fz κ d)) (Γ' d)) (k:∀ d,G d→ExT K S S' u (Γ' d) P):ExT K S S' (tSeq (tAsg te (gName i)) u) Γ P :=
  ex_seq (fun Γ1=>∃ d,G d∧Γ1=Γ' d) (fun H0 F0 H F σ B e b _ D I=>h H0 F0 H F σ e _ fun d v H' F' hd g p=>I.nx _ _ H' F' ⟨d,hd,rfl⟩ (b.trans g.f) (by rw [← (es d).eq]; exact (e.mono g).setF p)) fun Γ1 ⟨d,hd,z⟩=>z ▸ k d hd
theorem run_defW {t:TS} {N:List Str} {n:Nat} {H F:Hp} {vs:List V} {ds:List PyData} {G:PyData→Prop} {Q:VK} {Γ:Ctx} (le:Same F H) (k:DpAll K F vs ds) (q:∀ d v H' F',G d→Gr H F H' F'→Rp K κ .fresh H F' v d→Q v H') (hn:N.length=n) (hΓ:StartC n ds Γ)
    (h:ExS K .fresh t Γ { nx:=fun _=>False,rt:=G,kr:=κ }):t { nx:=fun _ H'=>Q .non H',rt:=Q } (L2.start N vs) H:=by
  have e:=denv_start (N:=N) le k
  rw [hn,hΓ.eq] at e
  exact h H F H F _ F e (.refl _) (.inl rfl) _ ⟨fun _ _ _ _ z=>z.elim,fun d v H' F' r g p=>q d v H' F' r g p,fun _ _ _ _ z=>z.elim,fun _ _ _ _ z=>z.elim⟩
end
end PD
namespace L2
open PySem
end L2
namespace L2
open PySem PySem.Spec PyProof.Rows
section
variable {prog:Program} {w:World} {A:Around} {E:Value→Shared→Prop} {s:Shared} {b:Bool} {a:Addr} {l:List Int}
end
end L2
namespace L2
open PySem PySem.Spec PyProof.Rows
end L2
namespace L2
open PySem PySem.Spec PyProof.Rows
section
variable {prog:Program} {w:World} {A:Around} {E:Value→Shared→Prop} {s:Shared} {b:Bool} {a I:Addr} {l:List Int}
end
end L2
namespace L2
open PySem PySem.Spec PyProof.Rows
section
variable {prog:Program} {w:World} {A:Around} {E:Value→Shared→Prop} {s:Shared} {b:Bool} {a I:Addr} {l:List Int}
end
end L2
namespace L2
open PySem PySem.Spec PyProof.Rows
section
variable {prog:Program} {w:World} {A:Around} {E:Value→Shared→Prop} {s:Shared} {b:Bool} {a I T:Addr} {l:List Int}
end
end L2
namespace L2
open PySem PySem.Spec PyProof.Rows
section
variable {prog:Program} {w:World} {A:Around} {E:Value→Shared→Prop} {s:Shared} {b:Bool} {a I T:Addr} {l:List Int}
end
end L2
namespace L2
open PySem PySem.Spec PyProof.Rows
section
variable {prog:Program} {w:World} {A:Around} {E:Value→Shared→Prop} {s:Shared} {b:Bool} {a I T:Addr} {l:List Int}
end
end L2
namespace L2
open PySem PySem.Spec PyProof.Rows
section
variable {prog:Program} {w:World} {A:Around} {E:Value→Shared→Prop} {s:Shared} {b:Bool} {a I T:Addr} {l:List Int}
end
end L2
namespace L2
open PySem PySem.Spec PyProof.Rows
section
variable {X:Cx} {K:PySem.W.Frag} {b:Bool}
end
end L2
namespace PD
open PySem L2
section
variable {K:PySem.W.Frag} {S S':Sx} {κ κ' b:Bool} {Γ Γ' Γ'':Ctx} {P:Post}
end
end PD
namespace L2
open PySem PySem.Spec PyProof.Rows
section
variable {X:Cx} {K:PySem.W.Frag}
end
end L2
namespace PD
open PySem L2
section
variable {K:PySem.W.Frag} {S S':Sx} {κ κ':Bool} {Γ Γ' Γ'':Ctx} {P:Post}
end
end PD
namespace L2
open PySem PySem.Spec PyProof.Rows
section
variable {X:Cx} {K:PySem.W.Frag} {e:Expr} {te:TE} {lo hi:Option Expr} {st:Expr} {tl th ts:TO} {p2 pos:Pos}
end
end L2
namespace PD
open PySem L2
section
variable {K:PySem.W.Frag} {S S':Sx} {κ κ':Bool} {Γ Γ' Γ'':Ctx} {P:Post}
end
end PD
namespace PD
open PySem L2
section
variable {K:PySem.W.Frag} {S S':Sx} {κ κ':Bool} {Γ Γ' Γ'':Ctx} {P:Post}
end
end PD
namespace PD
open PySem L2
section
variable {K:PySem.W.Frag} {S S':Sx} {κ κ':Bool} {Γ Γ' Γ'':Ctx} {P:Post}
theorem exag1 {te:TE} {i:Nat} {ds:List PyData} {G:PyData→Prop} {Γd:PyData→Ctx} (h:GetC Γ i (.ow κ ds)) (he:EvG K S κ te Γ G) (es:∀ d,SetC Γ i (some (.ow κ (ds ++ [d]))) (Γd d)) (hz:ds.length < sizeLine) (k:∀ d,G d→P.nx (Γd d)) :
    ExS K S (tDrop (tBM K "list" rAppend (tVar i) (tCons te tNil))) Γ P:=fun H0 F0 H F σ B e b _ D I=>by
  obtain ⟨v0,q1,a,vs,rfl,w,q5⟩:=e.has i _ h.eq
  refine ⟨_,q1,.inl ⟨rfl,_,SqL.of w.h⟩,he H0 F0 H F σ e _ fun d v H' F' hd g p=>?_⟩
  have k':=rpAll_mono g.f q5
  refine ⟨a,vs,v,rfl,rfl,g.h _ _ w.h,by rw [RpAll.length q5]; exact hz,?_⟩
  have kk:=k d hd
  rw [← (es d).eq] at kk
  exact I.nx _ _ _ F' kk (b.trans g.f) ((e.mono g).put (y:=.ow κ (ds ++ [d])) h.eq q1 (show Owns H' (.ref a) (.ow κ ds) a from rfl) ⟨a,_,rfl,⟨upd_same,(w.mono g).f,w.n,w.s⟩,RpAll.append k' (.cons p .nil)⟩ fun _ z=>z)
end
end PD
namespace L2
open PySem
end L2
namespace L2
open PySem
end L2
namespace L2
open PySem PySem.Spec PyProof.Rows
section
variable {prog:Program} {w:World} {A:Around} {E:Value→Shared→Prop} {s:Shared} {b:Bool} {a r o:Addr} {l l1 l2:List Int} {m:Nat}
end
end L2
namespace L2
open PySem PySem.Spec PyProof.Rows
section
variable {prog:Program} {w:World} {A:Around} {E:Value→Shared→Prop} {s:Shared} {bt:Bool} {a r o:Addr} {l l1 l2:List Int} {m:Nat}
end
end L2
namespace L2
open PySem PySem.Spec PyProof.Rows
section
variable {prog:Program} {w:World} {A:Around} {E:Value→Shared→Prop} {s:Shared} {bt:Bool} {a r o p q:Addr} {l l1 l2:List Int} {m:Nat}
end
end L2
namespace L2
open PySem PySem.Spec PyProof.Rows
section
variable {X:Cx} {K:PySem.W.Frag} {b:Bool}
end
end L2
namespace PD
open PySem L2
section
variable {K:PySem.W.Frag} {S S':Sx} {κ κ' b:Bool} {Γ Γ' Γ'':Ctx} {P:Post}
end
end PD
namespace PD
open PySem L2
section
variable {K:PySem.W.Frag} {S S':Sx} {κ κ':Bool} {Γ Γ' Γ'':Ctx} {P:Post}
end
end PD
namespace L2
open PySem PySem.Spec PyProof.Rows
section
variable {prog:Program} {w:World} {A:Around} {E:Value→Shared→Prop} {s:Shared}
end
section
variable {X:Cx} {K:PySem.W.Frag} {pos:Pos}
end
section
variable {P:Program} {w:World} {K:PySem.W.Frag} {mg:Str→Option Value} {base:Heap}
end
section
variable {X:Cx} {CX:CXT} {k:Nat} {ps:List Str} {sp:Sp} {E:XK} {x:Str} {p pos:Pos} {e:Expr} {es:List Expr} {t:TA}
end
end L2
namespace Cm
open PySem L2
end Cm
namespace PD
open PySem L2
section
variable {K:PySem.W.Frag} {S S':Sx} {κ κ':Bool} {Γ Γ' Γ'':Ctx} {P:Post}
theorem ex_asgG {te:TE} {g:TG} {js:List Nat} {G:PyData→Prop} (h:EvG K S κ te Γ G) (hg:∀ d,G d→ExG K S κ g js d Γ P.nx):ExS K S (tAsg te g) Γ P:=fun H0 F0 H F σ B e b _ D I =>
  h H0 F0 H F σ e _ fun d v H1 F1 hd g1 p1=>hg d hd H0 F0 H1 F1 σ v (e.mono g1) p1 _ fun Γ' σ' H' F' n g2 e' _ _=>I.nx Γ' σ' H' F' n (b.trans (g1.f.trans g2.f)) e'
end
end PD
namespace PD
open PySem L2
section
variable {K:PySem.W.Frag} {S S':Sx} {κ:Bool} {Γ:Ctx} {P:Post}
end
end PD
namespace L2
open PySem PySem.Spec PyProof.Rows
section
variable {P:Program} {w:World} {K:PySem.W.Frag} {mg:Str→Option Value} {base:Heap}
end
end L2
namespace PD
open PySem L2
section
variable {K:PySem.W.Frag} {S S':Sx} {κ κ':Bool} {Γ Γ' Γ'':Ctx} {P:Post} {E:XK} {C:Addr}
end
end PD
namespace PD
open PySem L2
section
variable {K:PySem.W.Frag} {S S':Sx} {κ κ':Bool} {Γ Γ' Γ'':Ctx} {P:Post} {E:XK} {C:Addr}
theorem ev_ifE {c:TT} {t u:TE} {b:Bool} {d:PyData} (hc:EvT K S c Γ b) (h1:b=true→EvE K S κ t Γ d) (h2:b=false→EvE K S κ u Γ d):EvE K S κ (tIf c t u) Γ d:=fun H0 F0 H F σ e Q q =>
  hc H0 F0 H F σ e _ fun H1 F1 g=>by
    cases b with
    | true=>exact iteT (h1 rfl H0 F0 H1 F1 σ (e.mono g) Q fun v H2 F2 g2 p=>q v H2 F2 (g.trans g2) p)
    | false=>exact iteF (h2 rfl H0 F0 H1 F1 σ (e.mono g) Q fun v H2 F2 g2 p=>q v H2 F2 (g.trans g2) p)
end
end PD
namespace PD
open PySem L2
section
variable {K:PySem.W.Frag} {S S':Sx} {κ κ':Bool} {Γ Γ' Γ'':Ctx} {P:Post}
def EvIG (K:PySem.W.Frag) (S:Sx) (κ:Bool) (t:TI) (Γ:Ctx) (G:List PyData→Prop):Prop:=∀ (H0 F0 H F:Hp) (σ:St),DEnv K S H0 F0 H F σ Γ→∀ R:It→Hp→Prop,(∀ ds J H' F',G ds→Gr H F H' F'→ItD K S κ H0 F' J ds→R J H')→t σ H R
theorem eig_list {t:TE} {G:PyData→Prop} (h:EvG K S κ t Γ G) (hg:∀ d,G d→∃ ds,d=.list ds):EvIG K S κ (iList K t) Γ (fun ds=>G (.list ds)):=fun H0 F0 H F σ e R q =>
  h H0 F0 H F σ e _ fun d v H1 F1 hd g1 p1=>by
    obtain ⟨ds,rfl⟩:=hg d hd
    obtain ⟨a,vs,rfl,h1,h2⟩:=rp_lst p1
    have hl:=RpAll.length h2
    have up:∀ {F' H':Hp},Same F1 F'→Same F' H'→SqL K H' a vs:=fun s1 s2=>(s1.trans s2).seq h1.sq
    refine ⟨a,rfl,⟨vs,up (.refl _) g1.le⟩,q ds _ H1 F1 hd g1 ⟨fun i H' F' s1 s2 hi=>?_,fun i H' F' x H'' s1 s2 _ hi y=>?_,fun H' F' s1 s2=>?_⟩⟩
    · exact ⟨vs,vs[i]'(by omega),up s1 s2,by simp⟩
    · obtain ⟨rfl,y⟩:=y
      obtain ⟨d,hd,hp⟩:=RpAll.get' h2 (y vs (up s1 s2))
      exact ⟨d,F',hd,.refl s2,rp_mono s1 hp⟩
    · exact ⟨vs,up s1 s2,by omega⟩
end
end PD
namespace PD
open PySem L2
section
variable {K:PySem.W.Frag} {S S':Sx} {κ κ':Bool} {Γ Γ' Γ'':Ctx} {P:Post} {xs ys zs:List PyData}
end
end PD
namespace PD
open PySem L2
section
variable {K:PySem.W.Frag} {S S':Sx} {κ κ':Bool} {Γ Γ' Γ'':Ctx} {P:Post} {E:XK}
end
end PD
namespace PD
open PySem L2
section
variable {K:PySem.W.Frag} {S S':Sx} {κ κ':Bool} {Γ Γ' Γ'':Ctx} {P:Post}
end
end PD
namespace PD
open PySem L2
section
variable {K:PySem.W.Frag} {S S':Sx} {κ κ':Bool} {Γ Γ' Γ'':Ctx} {P:Post}
end
end PD
namespace L2
open PySem PySem.Spec PyProof.Rows
section
variable {prog:Program} {w:World} {A:Around} {E:Value→Shared→Prop} {s:Shared} {b bt:Bool} {a r o p q:Addr} {l l1 l2:List Int}
end
end L2
namespace L2
open PySem PySem.Spec PyProof.Rows
section
variable {X:Cx} {K:PySem.W.Frag} {b:Bool}
end
end L2
namespace PD
open PySem L2
section
variable {K:PySem.W.Frag} {S S':Sx} {κ κ' b:Bool} {Γ Γ' Γ'':Ctx} {P:Post}
end
end PD
namespace L2
open PySem PySem.Spec PyProof.Rows
section
variable {X:Cx} {K:PySem.W.Frag}
end
end L2
namespace PD
open PySem L2
section
variable {K:PySem.W.Frag} {S S':Sx} {κ κ':Bool} {Γ Γ' Γ'':Ctx} {P:Post}
end
end PD
namespace L2
open PySem PySem.Spec PyProof.Rows
section
variable {X:Cx} {K:PySem.W.Frag}
end
end L2
namespace PD
open PySem L2
section
variable {K:PySem.W.Frag} {S S':Sx} {κ κ':Bool} {Γ Γ' Γ'':Ctx} {P:Post}
end
end PD
namespace PD
open PySem L2
section
variable {K:PySem.W.Frag} {S S' S1 S2:Sx} {κ κ':Bool} {Γ Γ' Γ'':Ctx} {P:Post} {C:List PyData→Prop}
mutual
inductive Tn (C:List PyData→Prop):PyData→PyData→Prop
  | same {d:PyData}:Tn C d d
  | rev {ds:List PyData}:C ds→Tn C (.list ds) (.list ds.reverse)
  | lst {ds es:List PyData}:TnA C ds es→Tn C (.list ds) (.list es)
  | tup {ds es:List PyData}:TnA C ds es→Tn C (.tuple ds) (.tuple es)
inductive TnA (C:List PyData→Prop):List PyData→List PyData→Prop
  | nil:TnA C [] []
  | cons {d e:PyData} {ds es:List PyData}:Tn C d e→TnA C ds es→TnA C (d :: ds) (e :: es)
end
theorem rpAll_ints' {S:Sx} {H0 F:Hp}:∀ {ns:List Int} {ds:List PyData},RpAll K κ S H0 F (ns.map V.int) ds→ds=ns.map PyData.int
  | [],_,h=>by cases h; rfl
  | n :: r,_,h=>by
    cases h with
    | cons h1 h2=>cases h1; rw [rpAll_ints' h2]; rfl
section
variable {H1 H2 F:Hp} {b:Addr} {ns:List Int}
mutual
theorem rp_turn (hb:F b=some (.lst (ns.map V.int))) (hC:C (ns.map PyData.int)):∀ {v:V} {d:PyData},Rp K true S1 H1 F v d→∃ d',Tn C d d'∧Rp K true S1 H1 (upd F b (.lst (ns.map V.int).reverse)) v d'
  | _,_,.non=>⟨_,.same,.non⟩
  | _,_,.bl x=>⟨_,.same,.bl x⟩
  | _,_,.int x=>⟨_,.same,.int x⟩
  | _,_,.str x=>⟨_,.same,.str x⟩
  | _,_,@Rp.lst _ _ _ _ _ a xs ds h k=>by
    by_cases e:a=b
    · subst e
      have h1:=h.1
      rw [hb] at h1
      cases h1
      cases rpAll_ints' k
      exact ⟨_,.rev hC,.lst ⟨upd_same,h.2⟩ (RpAll.reverse (dpAll_immL (fun d hd=>by obtain ⟨i,_,rfl⟩:=List.mem_map.mp hd; rfl) (dpAll_ints ns)))⟩
    · obtain ⟨es,t,q⟩:=rpAll_turn hb hC k
      exact ⟨_,.lst t,.lst ⟨by rw [upd_ne e]; exact h.1,h.2⟩ q⟩
  | _,_,@Rp.tup _ _ _ _ _ a xs ds h k=>by
    obtain ⟨es,t,q⟩:=rpAll_turn hb hC k
    refine ⟨_,.tup t,.tup ?_ q⟩
    have ne:∀ {o:HO},F a=some o→isLst (some o)=false→upd F b (.lst (ns.map V.int).reverse) a=some o:=fun {o} z n=>by
      rw [upd_ne fun c=>by rw [c,hb] at z; cases z; cases n]
      exact z
    rcases h with (z | ⟨o,z⟩) | z
    · exact .inl (.inl (ne z rfl))
    · exact .inl (.inr ⟨o,ne z rfl⟩)
    · exact .inr z
theorem rpAll_turn (hb:F b=some (.lst (ns.map V.int))) (hC:C (ns.map PyData.int)):∀ {vs:List V} {ds:List PyData},RpAll K true S1 H1 F vs ds→∃ es,TnA C ds es∧RpAll K true S1 H1 (upd F b (.lst (ns.map V.int).reverse)) vs es
  | _,_,.nil=>⟨_,.nil,.nil⟩
  | _,_,.cons h k=>by
    obtain ⟨d,t,q⟩:=rp_turn hb hC h
    obtain ⟨es,t',q'⟩:=rpAll_turn hb hC k
    exact ⟨_,.cons t t',.cons q q'⟩
end
end
end
end PD
namespace L2
open PySem PySem.Spec PyProof.Rows PySem.W
section
variable {X:Cx} {k:Nat} {ps:List Str} {sp:Sp} {x:Str} {p cpos pos:Pos} {e:Expr} {es:List Expr} {ta:TA} {te:TE}
end
section
variable {X:Cx} {k:Nat} {y n:Str} {np epos hpos tpos:Pos} {e:Expr} {te:XK→TE} {C D:Addr} {i:Nat} {b0:Stmt} {suite:List Stmt} {th:TS}
end
end L2
namespace L2
open PySem PySem.Spec PyProof.Rows PySem.W
section
variable {X:Cx} {k k2:Nat} {ps:List Str} {sp sp2:Sp} {x:Str} {p cpos pos:Pos} {e:Expr} {es:List Expr} {ta:TA}
end
end L2
namespace L2
open PySem PySem.Spec PyProof.Rows PySem.W
section
variable {X:Cx} {K:PySem.W.Frag}
end
end L2
namespace PD
open PySem L2
section
variable {K:PySem.W.Frag} {S S':Sx} {κ κ':Bool} {Γ Γ' Γ'':Ctx} {P:Post} {E:XK} {C:Addr}
end
end PD
namespace L2
open PySem PySem.Spec PyProof.Rows PySem.W
section
variable {P:Program} {w:World} {K:PySem.W.Frag} {mg:Str→Option Value} {base:Heap} {x:Str} {ys:List Str} {va:Str→V} {qual:Str} {scope:Scope} {f:Addr} {cd:Value} {cl:List (Str×Addr)} {A:Around} {outer:List Env} {s:Shared} {H:Hp}
end
end L2
namespace L2
open PySem PySem.Spec PyProof.Rows PySem.W
section
variable {X:Cx} {pins:List (Addr×Obj)} {σ:St} {H:Hp} {s:Shared}
end
end L2
namespace L2
open PySem PySem.Spec PyProof.Rows PySem.W
section
variable {X:Cx} {k:Nat} {ps:List Str} {sp:Sp} {g:Str} {p cpos lpos:Pos} {e:Expr} {te:TE} {params:Arguments} {body:Expr} {lsc:Scope} {q:Str} {c P:Addr} {clos:List (Str×Addr)} {caps:List (Str×Nat)}
end
end L2
namespace L2
open PySem PySem.Spec PyProof.Rows PySem.W
section
variable {X:Cx} {k:Nat} {ps:List Str} {sp:Sp} {x:Str} {p pos:Pos} {e:Expr} {es:List Expr} {t:TA}
end
end L2
namespace PD
open PySem L2 PySem.W
section
variable {P:Program} {w:World} {K:PySem.W.Frag} {mg:Str→Option Value} {base:Heap} {S S':Sx} {κ κ':Bool} {Γ Γ' Γ'':Ctx}
end
end PD
namespace L2
open PySem PySem.Spec PyProof.Rows PySem.W
section
variable {P:Program} {w:World} {K:PySem.W.Frag} {mg:Str→Option Value} {base:Heap}
end
end L2
namespace Cm
open PySem L2
end Cm
namespace L2
open PySem
theorem tabs_no {K:PySem.W.Frag} {h:Heap} (e:(tabsOf K).isEmpty=true):∀ p∈tabsOf K,h.get? p.1=some (PySem.W.tabObj #[]):=fun p hp=>by
  rw [List.isEmpty_iff.mp e] at hp
  cases hp
end L2
namespace L2
open PySem
end L2
namespace PD
open PySem L2
end PD
namespace L2
open PySem PySem.Spec PyProof.Rows PySem.AutoSeq1
section
variable {X:Cx} {K:PySem.W.Frag}
end
end L2
namespace PD
open PySem L2
section
variable {K:PySem.W.Frag} {S S':Sx} {κ κ':Bool} {Γ Γ' Γ'':Ctx} {P:Post}
end
end PD
namespace L2
open PySem PySem.Spec PyProof.Rows
section
variable {X:Cx} {K:PySem.W.Frag}
end
end L2
namespace PD
open PySem L2
section
variable {K:PySem.W.Frag} {S S':Sx} {κ κ':Bool} {Γ Γ' Γ'':Ctx} {P:Post} {E:XK}
end
end PD
namespace PD
open PySem L2
section
variable {K:PySem.W.Frag} {S S':Sx} {κ κ':Bool} {Γ Γ' Γ'':Ctx} {P:Post} {E:XK}
def Rows (xs:List PyData):Prop:=∀ d∈xs,∃ ns:List Int,d=.list (ns.map .int)
end
end PD
namespace L2
open PySem PySem.Spec PyProof.Rows
section
variable {X:Cx} {K:PySem.W.Frag}
end
end L2
namespace PD
open PySem L2
section
variable {K:PySem.W.Frag} {S S':Sx} {κ κ':Bool} {Γ Γ' Γ'':Ctx} {P:Post}
end
end PD
namespace L2
open PySem PySem.Spec PyProof.Rows PySem.Calls
section
variable {κ:Type} [DecidableEq κ]
theorem RelO.getD {o:Option V} {u:Option Value} {d:V} {d':Value} (r:RelO o u) (rd:RelV d d'):RelV (o.getD d) (u.getD d'):=by
  cases o with
  | none=>cases u with
    | none=>exact rd
    | some _=>exact (show False from r).elim
  | some _=>cases u with
    | none=>exact (show False from r).elim
    | some _=>exact r
end
section
variable {P:Program} {w:World} {H:Hp} {h:Heap} {a:Addr}
end
section
variable {X:Cx} {pins:List (Addr×Obj)} {σ:St} {H:Hp} {s:Shared} {a:Addr} {y v:V} {u r:Value} {o:Option V} {A:Around} {E:Value→Shared→Prop}
end
section
variable {X:Cx} {pins:List (Addr×Obj)} {σ:St} {H:Hp} {s:Shared} {a:Addr} {kvs:List (Key×V)} {k:Key} {u:Value} {A:Around} {E:Value→Shared→Prop}
end
section
variable {X:Cx} {o i e value:Expr} {pos pos' tpos:Pos} {td ty tv:TE}
end
section
variable {X:Cx} {pos:Pos}
end
section
variable {X:Cx} {pins:List (Addr×Obj)} {σ:St} {H:Hp} {s:Shared} {a:Addr} {y d:V} {u r:Value} {o:Option V} {A:Around} {E:Value→Shared→Prop}
end
section
variable {X:Cx} {o e f:Expr} {apos cpos:Pos} {td ty tx:TE}
end
section
variable {X:Cx} {pins:List (Addr×Obj)} {σ:St} {H:Hp} {s:Shared} {a:Addr} {kvs:List (Key×V)} {A:Around} {E:Value→Shared→Prop}
end
section
variable {X:Cx} {pins:List (Addr×Obj)} {σ:St} {H:Hp} {s:Shared} {a:Addr} {y:V} {u:Value} {A:Around} {E:Value→Shared→Prop}
end
end L2
namespace PD
open PySem L2
section
variable {K:PySem.W.Frag} {S S':Sx} {κ κ':Bool} {Γ Γ' Γ'':Ctx} {P:Post} {E:XK}
end
end PD
namespace L2
open PySem PySem.Spec PyProof.Rows PySem.W
end L2
namespace PD
open PySem L2
section
variable {K:PySem.W.Frag} {S S':Sx} {κ κ':Bool} {Γ Γ' Γ'':Ctx} {P:Post} {E:XK}
end
end PD
namespace PD
open PySem L2
section
variable {K:PySem.W.Frag} {S S':Sx} {κ κ':Bool} {Γ Γ' Γ'':Ctx} {P:Post} {E:XK}
end
end PD
namespace PD
open PySem L2
section
variable {K:PySem.W.Frag} {S S':Sx} {κ κ':Bool} {Γ Γ' Γ'':Ctx} {P:Post} {E:XK}
end
end PD
namespace So
open PySem PySem.W PyProof.Rows
section
variable {α β:Type} {lt:Nat→Nat→Bool} {n:Nat} {key:Nat→Int}
def ev (lt:Nat→Nat→Bool):KasT α→α
  | .ret a=>a
  | .ask i j k=>ev lt (k (lt i j))
end
section
variable {n:Nat} {key:Nat→Int}
end
end So
namespace L2
open PySem PySem.Spec PySem.W PyProof.Rows
def pk (q:Int×Int):Int:=q.1 * 1000 + q.2
section
variable {prog:Program} {w:World} {A:Around} {E:Value→Shared→Prop} {s:Shared} {vs:List Value} {ps:List (Int×Int)}
end
end L2
namespace L2
open PySem PySem.Spec PySem.W PyProof.Rows
section
variable {X:Cx} {K:PySem.W.Frag}
end
end L2
namespace PD
open PySem L2
section
variable {K:PySem.W.Frag} {S S':Sx} {κ κ':Bool} {Γ Γ':Ctx}
end
end PD
namespace Dsp
section
variable {pa:Nat→Nat→Prop} {Z:Nat→Prop} {x y:Nat} {rk:Nat→Nat}
end
section
variable {pa:Nat→Nat→Prop} {Z:Nat→Prop} {x y:Nat} {rk:Nat→Nat}
end
end Dsp
namespace PD
open PySem L2
section
variable {K:PySem.W.Frag} {S S':Sx} {κ κ':Bool} {Γ Γ' Γ'' Γ3 Γ4:Ctx} {P:Post}
end
end PD
namespace L2
open PySem PySem.Spec PyProof.Rows
section
variable {X:Cx} {y:Str} {N:List Str} {scope:Scope} {cl:List (Str×Addr)} {js:List (Option Nat)} {pins:List (Addr×Obj)} {σ:St} {H:Hp} {s:Shared} {fp:List Addr}
end
section
variable {X:Cx} {y:Str} {N:List Str} {scope:Scope} {cl:List (Str×Addr)} {js:List (Option Nat)} {pins:List (Addr×Obj)} {σ:St} {H:Hp} {s:Shared}
end
end L2
namespace L2
open PySem PySem.Spec PyProof.Rows
section
variable {X:Cx} {K:PySem.W.Frag}
end
end L2
namespace PD
open PySem L2
section
variable {K:PySem.W.Frag} {S S':Sx} {κ κ':Bool} {Γ Γ' Γ'':Ctx} {P:Post}
end
section
open PySem.W PyProof.Rows
variable {K:PySem.W.Frag} {P:Program} {w:World} {mg:Str→Option Value} {base:Heap} {S:Sx} {κ:Bool} {Γ:Ctx}
end
end PD
namespace L2
open PySem PySem.Spec PyProof.Rows PySem.Calls
end L2
namespace PD
open PySem L2
section
variable {K:PySem.W.Frag} {S S':Sx} {κ κ':Bool} {Γ Γ' Γ'':Ctx} {P:Post}
end
end PD
namespace PD
open PySem L2
section
open PySem.W PyProof.Rows
variable {K:PySem.W.Frag} {P:Program} {w:World} {mg:Str→Option Value} {base:Heap} {S S':Sx} {κ:Bool} {Γ Γ':Ctx} {Po:Post}
end
end PD
namespace L2
open PySem PySem.Spec PyProof.Rows PySem.Calls
section
variable {prog:Program} {w:World} {κ:Type} [DecidableEq κ] {kd:HeapKind prog w κ} {A:Around} {E:Value→Shared→Prop} {s:Shared}
end
section
variable {X:Cx} {o e f:Expr} {apos cpos:Pos} {td ty tx:TE}
end
end L2
namespace PD
open PySem L2
section
variable {K:PySem.W.Frag} {S S':Sx} {κ κ':Bool} {Γ Γ' Γ'':Ctx} {P:Post} {E:XK}
end
end PD
namespace L2
open PySem PySem.Spec PyProof.Rows PySem.SeqAt PySem.MeetsSeq PySem.MeetsSeq2 PySem.MeetsSeq3
open AutoSeq1 (wpAny_loadPart')
section
variable {prog:Program} {w:World} {A:Around} {E:Value→Shared→Prop} {s:Shared}
end
section
variable {prog:Program} {w:World} {A:Around} {E:Value→Shared→Prop} {s:Shared}
end
section
variable {prog:Program} {w:World} {A:Around} {R:Result→Shared→Prop} {T S l:Addr} {xs:Array Value} {bt:Nat→Nat→Bool} {h0:Heap}
end
section
variable {prog:Program} {w:World} {A:Around} {E:Value→Shared→Prop} {s:Shared}
end
end L2
namespace L2
open PySem PySem.Spec PyProof.Rows
theorem vals_getD:∀ {ws:List V} {its:List Value} {i:Nat} {u:Value},Vals ws its→its[i]?=some u→∃ v,ws[i]?=some v∧RelV v u
  | _,_,_,_,.nil,h=>by cases h
  | _,_,0,_,.cons r _,h=>by cases h; exact ⟨_,rfl,r⟩
  | _,_,i + 1,_,.cons _ t,h=>vals_getD (i:=i) t (by simpa using h)
section
variable {X:Cx} {K:PySem.W.Frag}
end
end L2
namespace PD
open PySem L2
section
variable {K:PySem.W.Frag} {S S':Sx} {κ κ':Bool} {Γ Γ' Γ'':Ctx} {P:Post}
end
end PD
namespace PD
open PySem L2
section
variable {K:PySem.W.Frag} {S S':Sx} {κ κ':Bool} {Γ Γ' Γ'':Ctx} {P:Post} {E:XK}
end
end PD
namespace PD
open PySem L2
section
variable {K:PySem.W.Frag} {S S':Sx} {κ κ':Bool} {Γ Γ' Γ'' Γ3:Ctx} {P:Post} {E:XK}
end
end PD
namespace PD
open PySem L2
section
variable {K:PySem.W.Frag} {S S':Sx} {κ κ':Bool} {Γ Γ' Γ'' Γ3:Ctx} {P:Post} {E:XK}
end
end PD
namespace PD
open PySem L2
section
variable {K:PySem.W.Frag} {S S':Sx} {κ κ':Bool} {Γ Γ' Γ'' Γ3:Ctx} {P:Post} {E:XK}
theorem ex_forGD {wi:TI} {g:TG} {tb:TS} {G:List PyData→Prop} (κ:Bool) (Iv:List PyData→Nat→Ctx→Prop) (hi:EvIG K S κ wi Γ G) (h0:∀ ds,G ds→Iv ds 0 Γ)
    (hs:∀ ds i d Γ',G ds→ds[i]?=some d→Iv ds i Γ'→∃ js,ExG K S κ g js d Γ' fun Γ''=>ExS K S tb Γ'' { nx:=Iv ds (i + 1),rt:=P.rt,bk:=P.nx,ct:=Iv ds (i + 1),kr:=P.kr }) (hd:∀ ds Γ',G ds→Iv ds ds.length Γ'→P.nx Γ'):ExS K S (tFor wi g tb) Γ P:=fun H0 F0 H F σ B e b _ D I =>
  hi H0 F0 H F σ e _ fun ds J H1 F1 hG g1 I1=>by
    refine ⟨fun i m σ2 H2=>m=ds.length - i∧i≤ds.length∧∃ Γ2 F2,Iv ds i Γ2∧Same F1 F2∧DEnv K S H0 F0 H2 F2 σ2 Γ2,⟨_,rfl,Nat.zero_le _,Γ,F1,h0 ds hG,.refl _,e.mono g1⟩,?_⟩
    rintro i m σ2 H2 ⟨rfl,hi,Γ2,F2,v2,s2,e2⟩
    have b1:Same B F1:=b.trans g1.f
    by_cases hlt:i < ds.length
    · refine .inr ⟨I1.go i H2 F2 s2 e2.le hlt,fun σ3 H3=>i + 1≤ds.length∧∃ Γ3 F3,Iv ds (i + 1) Γ3∧Same F1 F3∧DEnv K S H0 F0 H3 F3 σ3 Γ3,fun σ3 H3 h3=>⟨_,by omega,rfl,h3⟩,fun x H3 y=>?_⟩
      obtain ⟨d,F3,hd,g3,p3⟩:=I1.yld i H2 F2 x H3 s2 e2.le e2.sd hlt y
      obtain ⟨js,hg⟩:=hs ds i d Γ2 hG hd v2
      refine hg H0 F0 H3 F3 σ2 x (e2.mono g3) p3 _ fun Γ' σ' H4 F4 k4 g4 e4 _ _=>?_
      have s4:Same F1 F4:=s2.trans (g3.f.trans g4.f)
      exact k4 H0 F0 H4 F4 σ' F1 e4 s4 (.inl rfl) _ ⟨fun Γ5 σ5 H5 F5 n s5 e5=>⟨hlt,Γ5,F5,n,s5,e5⟩,I.rt,fun Γ5 σ5 H5 F5 n s5 e5=>I.nx Γ5 σ5 H5 F5 n (b1.trans s5) e5,fun Γ5 σ5 H5 F5 n s5 e5=>⟨hlt,Γ5,F5,n,s5,e5⟩⟩
    · have ei:i=ds.length:=by omega
      subst ei
      exact .inl ⟨I1.stop H2 F2 s2 e2.le,I.nx Γ2 σ2 H2 F2 (hd ds Γ2 hG v2) (b1.trans s2) e2⟩
end
end PD
namespace Dsp
variable {pa:Nat→Nat→Prop} {Z:Nat→Prop} {rk:Nat→Nat} {q:Nat→Nat→Nat→Bool} {x y:Nat}
def vv (q:Nat→Nat→Nat→Bool):Option Nat→Nat→Option Nat→Nat
  | some a,v,some b=>if q a v b=true then 1 else 0
  | _,_,_=>0
section
variable (dag:∀ a b,pa a b→rk a < rk b) (hq:∀ a v b,q a v b=true↔pa a v∧pa b v)
include dag hq
end
end Dsp
namespace PD
open PySem L2
section
variable {K:PySem.W.Frag} {S S':Sx} {κ κ':Bool} {Γ Γ' Γ'' Γ3:Ctx} {P:Post}
theorem ex_dropE {te:TE} {u:TS} {d:PyData} (h:EvE K S false te Γ d) (k:ExT K S S' u Γ P):ExT K S S' (tSeq (tDrop te) u) Γ P:=ex_seq (·=Γ) (ex_drop h rfl) fun _ z=>z ▸ k
end
end PD
namespace PD
open PySem L2
section
variable {K:PySem.W.Frag} {S S':Sx} {κ κ':Bool} {Γ Γ' Γ'' Γ3:Ctx} {P:Post}
end
end PD
namespace L2
open PySem
end L2
namespace L2
open PySem PySem.Spec PyProof.Rows
section
variable {prog:Program} {w:World} {A:Around} {E:Value→Shared→Prop} {s:Shared} {b:Bool} {a:Addr} {l:List (Int×Value)}
end
end L2
namespace L2
open PySem PySem.Spec PySem.W PyProof.Rows
section
variable {prog:Program} {w:World} {A:Around} {E:Value→Shared→Prop} {s:Shared} {b:Bool} {a I T:Addr} {l:List (Int×Value)}
end
end L2
namespace L2
open PySem PySem.Spec PySem.W PyProof.Rows
def hP (q:Int×Int):Int:=reduceHash (Builtin.Tuple.tupleHashOf [hashInt q.1,hashInt q.2])
section
variable {prog:Program} {w:World} {A:Around} {E:Value→Shared→Prop} {s:Shared} {b:Bool} {a I T:Addr}
end
end L2
namespace L2
open PySem PySem.Spec PySem.W PyProof.Rows
section
variable {prog:Program} {w:World} {A:Around} {E:Value→Shared→Prop} {s:Shared} {b:Bool} {a I T:Addr}
end
end L2
namespace L2
open PySem PySem.Spec PySem.W PyProof.Rows
def vv:V→Value
  | .ref a=>.ref a
  | _=>.none
section
variable {X:Cx} {K:PySem.W.Frag} {b:Bool}
end
end L2
namespace PD
open PySem L2
section
variable {K:PySem.W.Frag} {S S':Sx} {κ κ' b:Bool} {Γ Γ' Γ'':Ctx}
end
end PD
namespace PD
open PySem L2
mutual
inductive Tr (H:Hp):V→PyData→List Addr→Prop
  | non:Tr H .non .none []
  | bl (b:Bool):Tr H (.bl b) (.bool b) []
  | int (i:Int):Tr H (.int i) (.int i) []
  | str (x:Str):Tr H (.str x) (.str x) []
  | lst {a:Addr} {xs:List V} {ds:List PyData} {as:List Addr}:H a=some (.lst xs)→TrAll H xs ds as→a∉as→Tr H (.ref a) (.list ds) (a :: as)
inductive TrAll (H:Hp):List V→List PyData→List Addr→Prop
  | nil:TrAll H [] [] []
  | cons {v:V} {vs:List V} {d:PyData} {ds:List PyData} {as bs:List Addr}:Tr H v d as→TrAll H vs ds bs→(∀ a∈as,a∉bs)→TrAll H (v :: vs) (d :: ds) (as ++ bs)
end
mutual
theorem tr_same {H H':Hp}:∀ {v:V} {d:PyData} {as:List Addr},(∀ a∈as,H' a=H a)→Tr H v d as→Tr H' v d as
  | _,_,_,_,.non=>.non
  | _,_,_,_,.bl b=>.bl b
  | _,_,_,_,.int i=>.int i
  | _,_,_,_,.str x=>.str x
  | _,_,_,h,.lst e k n=>.lst (by rw [h _ List.mem_cons_self]; exact e) (trAll_same (fun a m=>h a (List.mem_cons_of_mem _ m)) k) n
theorem trAll_same {H H':Hp}:∀ {vs:List V} {ds:List PyData} {as:List Addr},(∀ a∈as,H' a=H a)→TrAll H vs ds as→TrAll H' vs ds as
  | _,_,_,_,.nil=>.nil
  | _,_,_,h,.cons p q r=>.cons (tr_same (fun a m=>h a (List.mem_append_left _ m)) p) (trAll_same (fun a m=>h a (List.mem_append_right _ m)) q) r
end
inductive Rc (H:Hp):V→Addr→Prop
  | here (a:Addr):Rc H (.ref a) a
  | on {p a:Addr} {xs:List V} {x:V}:H p=some (.lst xs)→x∈xs→Rc H x a→Rc H (.ref p) a
mutual
theorem tr_rc {H:Hp} {b:Addr}:∀ {v:V} {d:PyData} {as:List Addr},Tr H v d as→(Rc H v b↔b∈as)
  | _,_,_,.non=>⟨fun z=>(nomatch z),fun z=>(nomatch z)⟩
  | _,_,_,.bl b=>⟨fun z=>(nomatch z),fun z=>(nomatch z)⟩
  | _,_,_,.int i=>⟨fun z=>(nomatch z),fun z=>(nomatch z)⟩
  | _,_,_,.str x=>⟨fun z=>(nomatch z),fun z=>(nomatch z)⟩
  | _,_,_,.lst e k n=>⟨fun z=>by
      cases z with
      | here=>exact List.mem_cons_self
      | on e' hx r =>
        rw [e] at e'
        cases e'
        exact List.mem_cons_of_mem _ ((trAll_rc k).mp ⟨_,hx,r⟩),fun z=>by
      rcases List.mem_cons.mp z with rfl | z
      · exact .here _
      · obtain ⟨x,hx,r⟩:=(trAll_rc k).mpr z
        exact .on e hx r⟩
theorem trAll_rc {H:Hp} {b:Addr}:∀ {vs:List V} {ds:List PyData} {as:List Addr},TrAll H vs ds as→((∃ x,x∈vs∧Rc H x b)↔b∈as)
  | _,_,_,.nil=>⟨fun ⟨_,z,_⟩=>(nomatch z),fun z=>(nomatch z)⟩
  | _,_,_,.cons p q r=>⟨fun ⟨x,hx,z⟩=>by
      rcases List.mem_cons.mp hx with rfl | hx
      · exact List.mem_append_left _ ((tr_rc p).mp z)
      · exact List.mem_append_right _ ((trAll_rc q).mp ⟨x,hx,z⟩),fun z=>by
      rcases List.mem_append.mp z with z | z
      · exact ⟨_,List.mem_cons_self,(tr_rc p).mpr z⟩
      · obtain ⟨x,hx,w⟩:=(trAll_rc q).mpr z
        exact ⟨x,List.mem_cons_of_mem _ hx,w⟩⟩
end
theorem rc_on {H H':Hp} {v:V} {a:Addr} (z:Rc H v a):(∀ a,Rc H v a→H' a=H a)→Rc H' v a:=by
  induction z with
  | here a=>exact fun _=>.here a
  | on e hx r ih=>exact fun c=>.on (by rw [c _ (.here _)]; exact e) hx (ih fun a z=>c a (.on e hx z))
theorem rc_bk {H H':Hp} {v:V} {a:Addr} (z:Rc H' v a):(∀ a,Rc H v a→H' a=H a)→Rc H v a:=by
  induction z with
  | here a=>exact fun _=>.here a
  | on e hx r ih =>
    intro c
    rw [c _ (.here _)] at e
    exact .on e hx (ih fun a z=>c a (.on e hx z))
def psT (φ:V→Prop) (d:PyData):Sx→Hp→Hp→Hp→V→Prop:=fun _ _ H _ v=>φ v∧∃ as,Tr H v d as
theorem gokT (φ:V→Prop) (d:PyData):GOk Rc (psT φ d) :=
  ⟨fun _ _ _ c _=>⟨fun z=>rc_bk z c,fun z=>rc_on z c⟩,fun _ _ _ _ _ _ _ c _ ⟨f,as,t⟩=>⟨f,as,tr_same (fun a m=>c a ((tr_rc t).mpr m)) t⟩⟩
abbrev trP (φ:V→Prop) (d:PyData):DV:=.og Rc (psT φ d)
def anyV:V→Prop:=fun _=>True
abbrev trD (d:PyData):DV:=trP anyV d
section
variable {K:PySem.W.Frag} {S S':Sx} {κ κ':Bool} {Γ Γ' Γ'':Ctx} {P:Post} {E:XK}
variable {φ:V→Prop}
theorem hasP {H0 H F:Hp} {v:V} {d:PyData} {as:List Addr} (f:φ v) (t:Tr H v d as) (o:∀ a∈as,∃ u,OwnO S H0 H F a u):HasV K S H0 H F v (trP φ d):=⟨gokT φ d,fun a z=>o a ((tr_rc t).mp z),f,as,t⟩
theorem hasT {H0 H F:Hp} {v:V} {d:PyData} {as:List Addr} (t:Tr H v d as) (o:∀ a∈as,∃ u,OwnO S H0 H F a u):HasV K S H0 H F v (trD d):=hasP trivial t o
theorem ofP {H0 H F:Hp} {v:V} {d:PyData} (h:HasV K S H0 H F v (trP φ d)):φ v:=by
  obtain ⟨_,_,f,_⟩:=h
  exact f
theorem ofT {H0 H F:Hp} {v:V} {d:PyData} (h:HasV K S H0 H F v (trP φ d)):∃ as,Tr H v d as∧∀ a∈as,∃ u,OwnO S H0 H F a u:=by
  obtain ⟨_,o,f,as,t⟩:=h
  exact ⟨as,t,fun a m=>o a ((tr_rc t).mpr m)⟩
mutual
theorem tr_rp {H0 H F:Hp}:∀ {v:V} {d:PyData} {as:List Addr},(∀ a∈as,F a=H a∧¬ S.has H0 a)→Tr H v d as→Rp K true S H0 F v d
  | _,_,_,_,.non=>.non
  | _,_,_,_,.bl b=>.bl b
  | _,_,_,_,.int i=>.int i
  | _,_,_,_,.str x=>.str x
  | _,_,_,h,.lst e k _=>.lst ⟨by rw [(h _ List.mem_cons_self).1]; exact e,(h _ List.mem_cons_self).2⟩ (trAll_rp (fun a m=>h a (List.mem_cons_of_mem _ m)) k)
theorem trAll_rp {H0 H F:Hp}:∀ {vs:List V} {ds:List PyData} {as:List Addr},(∀ a∈as,F a=H a∧¬ S.has H0 a)→TrAll H vs ds as→RpAll K true S H0 F vs ds
  | _,_,_,_,.nil=>.nil
  | _,_,_,h,.cons p q _=>.cons (tr_rp (fun a m=>h a (List.mem_append_left _ m)) p) (trAll_rp (fun a m=>h a (List.mem_append_right _ m)) q)
end
theorem TrAll.length {H:Hp}:∀ {vs:List V} {ds:List PyData} {as:List Addr},TrAll H vs ds as→vs.length=ds.length
  | _,_,_,.nil=>rfl
  | _,_,_,.cons _ k _=>congrArg (· + 1) (TrAll.length k)
theorem tr_atom {H H0 F:Hp} {v:V} {d:PyData} (h:Rp K κ S H0 F v d) (a:atom d=true):Tr H v d []:=by
  cases h with
  | non=>exact .non
  | bl b=>exact .bl b
  | int i=>exact .int i
  | str x=>exact .str x
  | lst _ _=>exact nomatch a
  | tup _ _=>exact nomatch a
theorem trAll_atoms {H H0 F:Hp}:∀ {vs:List V} {ds:List PyData},RpAll K κ S H0 F vs ds→(∀ d∈ds,atom d=true)→TrAll H vs ds []
  | _,_,.nil,_=>.nil
  | _,_,.cons p q,h=>.cons (as:=[]) (tr_atom p (h _ List.mem_cons_self)) (trAll_atoms q fun d m=>h d (List.mem_cons_of_mem _ m)) fun _ z=>nomatch z
theorem TrAll.snoc {H:Hp} {v:V} {d:PyData} {bs:List Addr} (t:Tr H v d bs):∀ {vs:List V} {ds:List PyData} {as:List Addr},TrAll H vs ds as→(∀ a∈as,a∉bs)→TrAll H (vs ++ [v]) (ds ++ [d]) (as ++ bs)
  | _,_,_,.nil,_=>by
    have:=TrAll.cons t (.nil) (fun _ _ z=>nomatch z)
    rw [List.append_nil] at this
    exact this
  | _,_,_,.cons (as:=as) (bs:=cs) p q r,h=>by
    rw [List.append_assoc]
    exact .cons p (q.snoc t fun a m=>h a (List.mem_append_right _ m)) fun a m z=>by
      rcases List.mem_append.mp z with z | z
      · exact r a m z
      · exact h a (List.mem_append_left _ m) z
theorem trAll_at {H:Hp}:∀ {vs:List V} {ds:List PyData} {as:List Addr} {j:Nat} {d:PyData},TrAll H vs ds as→ds[j]?=some d→∃ x bs,vs[j]?=some x∧Tr H x d bs∧(∀ a∈bs,a∈as)∧∀ H' d',(∀ a∈as,a∉bs→H' a=H a)→Tr H' x d' bs→TrAll H' vs (ds.set j d') as
  | _,_,_,_,_,.nil,h=>nomatch h
  | _,_,_,0,_,.cons (as:=as) (bs:=bs) p q r,h=>by
    cases h
    exact ⟨_,as,rfl,p,fun a m=>List.mem_append_left _ m,fun H' d' c t=>.cons t (trAll_same (fun a m=>c a (List.mem_append_right _ m) fun z=>r a z m) q) r⟩
  | _,_,_,j + 1,_,.cons (as:=as) (bs:=bs) p q r,h=>by
    obtain ⟨x,cs,e,t,s,k⟩:=trAll_at (j:=j) q (by simpa using h)
    exact ⟨x,cs,by simpa using e,t,fun a m=>List.mem_append_right _ (s a m),fun H' d' c t'=>.cons (tr_same (fun a m=>c a (List.mem_append_left _ m) fun z=>r a m (s a z)) p) (k H' d' (fun a m n=>c a (List.mem_append_right _ m) n) t') r⟩
def Hole (H:Hp) (v:V) (d:PyData) (b:Addr) (es:List PyData) (fill:List PyData→PyData):Prop:=∃ as cs,Tr H v d as∧Tr H (.ref b) (.list es) (b :: cs)∧(∀ a∈b :: cs,a∈as)∧∀ H' es',(∀ a∈as,a∉b :: cs→H' a=H a)→Tr H' (.ref b) (.list es') (b :: cs)→Tr H' v (fill es') as
theorem hole_top {H:Hp} {v:V} {ds:List PyData} {as:List Addr} (t:Tr H v (.list ds) as):∃ b,v=.ref b∧Hole H v (.list ds) b ds .list:=by
  cases t with
  | lst e k n=>exact ⟨_,rfl,_,_,.lst e k n,.lst e k n,fun _ m=>m,fun H' es' _ t=>t⟩
theorem Hole.sub {H:Hp} {v:V} {d:PyData} {b:Addr} {ds es:List PyData} {fill:List PyData→PyData} {j:Nat} (h:Hole H v d b ds fill) (e:ds[j]?=some (.list es)):∃ vs c,H b=some (.lst vs)∧vs.length=ds.length∧vs[j]?=some (.ref c)∧Hole H v d c es fun es'=>fill (ds.set j (.list es')):=by
  obtain ⟨as,cs,t,tb,sb,k⟩:=h
  cases tb with
  | lst eb kb nb =>
    obtain ⟨x,bs,ex,tx,sx,kx⟩:=trAll_at kb e
    cases tx with
    | lst ec kc nc =>
      refine ⟨_,_,eb,kb.length,ex,as,_,t,.lst ec kc nc,fun a m=>sb a (List.mem_cons_of_mem _ (sx a m)),fun H' es' c t'=>k H' _ (fun a m n=>c a m fun z=>n (List.mem_cons_of_mem _ (sx a z))) ?_⟩
      exact .lst (by rw [c b (sb b List.mem_cons_self) fun z=>nb (sx b z)]; exact eb) (kx H' _ (fun a m n=>c a (sb a (List.mem_cons_of_mem _ m)) n) t') nb
def EvTr (K:PySem.W.Frag) (S:Sx) (t:TE) (Γ:Ctx) (d:PyData):Prop:=∀ (H0 F0 H F:Hp) (σ:St),DEnv K S H0 F0 H F σ Γ→∀ Q:VK,(∀ v as H' F',Gr H F H' F'→Tr H' v d as→(∀ a∈as,H a=none∧F' a=none)→Q v H')→t σ H Q
theorem EvTr.eq {t:TE} {a b:PyData} (h:EvTr K S t Γ a) (e:a=b):EvTr K S t Γ b:=e ▸ h
theorem evr_ints {t:TE} {ds:List PyData} (h:EvO K S κ t Γ ds) (hd:∀ d∈ds,atom d=true):EvTr K S t Γ (.list ds):=fun H0 F0 H F σ e Q q =>
  h H0 F0 H F σ e Q fun a vs H' F' g n p f k=>q (.ref a) [a] H' F' g (.lst p (trAll_atoms k hd) (by simp)) fun b m=>by rw [List.mem_singleton.mp m]; exact ⟨n,f⟩
noncomputable def frzT (as:List Addr) (F H:Hp):Hp:=open Classical in fun c=>if c∈as then H c else F c
theorem frzT_in {as:List Addr} {F H:Hp} {c:Addr} (h:c∈as):frzT as F H c=H c:=if_pos h
theorem frzT_out {as:List Addr} {F H:Hp} {c:Addr} (h:c∉as):frzT as F H c=F c:=if_neg h
theorem tr_own {H0 F0 H F H' F':Hp} {σ:St} {v:V} {d:PyData} {as:List Addr} (e:DEnv K S H0 F0 H F σ Γ) (t:Tr H' v d as) (n:∀ a∈as,H a=none∧F' a=none) (a:Addr) (m:a∈as):∃ u,OwnO S H0 H' F' a u:=by
  have:∃ u,H' a=some u:=by
    obtain z:=(tr_rc t).mpr m
    clear n m
    suffices h:∀ {v:V} {d:PyData} {as:List Addr},Tr H' v d as→a∈as→∃ u,H' a=some u from h t ((tr_rc t).mp z)
    exact fun t m=>tr_there t m
  obtain ⟨u,hu⟩:=this
  exact ⟨u,hu,(n a m).2,e.gr.h.free (n a m).1,e.out (n a m).1⟩
where
  tr_there {H:Hp} {a:Addr}:∀ {v:V} {d:PyData} {as:List Addr},Tr H v d as→a∈as→∃ u,H a=some u
  | _,_,_,.non,m=>nomatch m
  | _,_,_,.bl _,m=>nomatch m
  | _,_,_,.int _,m=>nomatch m
  | _,_,_,.str _,m=>nomatch m
  | _,_,_,.lst e k _,m=>by
    rcases List.mem_cons.mp m with rfl | m
    · exact ⟨_,e⟩
    · exact trAll_there k m
  trAll_there {H:Hp} {a:Addr}:∀ {vs:List V} {ds:List PyData} {as:List Addr},TrAll H vs ds as→a∈as→∃ u,H a=some u
  | _,_,_,.nil,m=>nomatch m
  | _,_,_,.cons p q _,m=>by
    rcases List.mem_append.mp m with m | m
    · exact tr_there p m
    · exact trAll_there q m
theorem exr {te:TE} {u:TS} {i:Nat} {d:PyData} (h:EvTr K S te Γ d) (es:SetC Γ i (some (trD d)) Γ') (k:ExT K S S' u Γ' P):ExT K S S' (tSeq (tAsg te (gName i)) u) Γ P:=fun H0 F0 H F σ B e bb vv D I =>
  h H0 F0 H F σ e _ fun v as H' F' g t n=>k H0 F0 H' F' _ B (by
    rw [← es.eq]
    exact (e.mono g).set (x:=trD d) (hasT t (tr_own e t n)) fun c oc j y w hj z hw o=>e.newOwn g (n c ((tr_rc t).mp oc)).1 j y w z hw o) (bb.trans g.f) vv D I
theorem evr_nil:EvTr K S (tLst tNil) Γ (.list []):=evr_ints (κ:=true) (evo_lst ea_nil (by decide)) fun _ z=>nomatch z
def EvQ (K:PySem.W.Frag) (S:Sx) (t:TE) (Γ:Ctx) (i:Nat) (d:PyData) (es:List PyData) (fill:List PyData→PyData):Prop:=∀ (H0 F0 H F:Hp) (σ:St),DEnv K S H0 F0 H F σ Γ→∀ Q:VK,(∀ v b H' F',Gr H F H' F'→σ[i]?=some (some v)→Hole H' v d b es fill→Q (.ref b) H')→t σ H Q
theorem eq_var {i:Nat} {ds:List PyData} (h:GetC Γ i (trP φ (.list ds))):EvQ K S (tVar i) Γ i (.list ds) ds .list:=fun H0 F0 H F σ e Q q=>by
  obtain ⟨v0,q1,hv⟩:=e.has i _ h.eq
  obtain ⟨as,t,_⟩:=ofT hv
  obtain ⟨b,rfl,hh⟩:=hole_top t
  exact ⟨_,q1,q _ b H F (.refl e.le) q1 hh⟩
theorem Hole.grow {H F H' F':Hp} {v:V} {d:PyData} {b:Addr} {es:List PyData} {fill:List PyData→PyData} (h:Hole H v d b es fill) (g:Gr H F H' F'):Hole H' v d b es fill:=by
  obtain ⟨as,cs,t,tb,sb,k⟩:=h
  have eq:∀ a∈as,H' a=H a:=fun a m=>by
    obtain ⟨u,z⟩:=tr_own.tr_there t m
    rw [z]
    exact g.h _ _ z
  exact ⟨as,cs,tr_same eq t,tr_same (fun a m=>eq a (sb a m)) tb,sb,fun H'' es' c t'=>k H'' es' (fun a m n=>(c a m n).trans (eq a m)) t'⟩
theorem eq_ix {t ti:TE} {i j:Nat} {d:PyData} {ds es:List PyData} {fill:List PyData→PyData} {m:Int} (h:EvQ K S t Γ i d ds fill) (hi:EvE K S false ti Γ (.int m)) (hm:ixN ds.length m=some j) (he:ds[j]?=some (.list es)):EvQ K S (tOp (rIxL K) t ti) Γ i d es (fun es'=>fill (ds.set j (.list es'))):=fun H0 F0 H F σ e Q q =>
  h H0 F0 H F σ e _ fun v b H1 F1 g1 q1 hh=>hi H0 F0 H1 F1 σ (e.mono g1) _ fun w H2 F2 g2 p2=>by
    cases rp_int p2
    obtain ⟨vs,c,eb,el,ev,hc⟩:=(hh.grow g2).sub he
    refine ⟨b,vs,m,.ref c,rfl,rfl,SqL.of eb,?_,q v c H2 F2 (g1.trans g2) q1 hc⟩
    unfold atI
    rw [el,hm]
    exact ev
theorem exq_app {t te:TE} {u:TS} {i:Nat} {d x:PyData} {es:List PyData} {fill:List PyData→PyData} (hg:GetC Γ i (trP φ d)) (h:EvQ K S t Γ i d es fill) (he:EvE K S false te Γ x) (hx:atom x=true) (hz:es.length < sizeLine) (es':SetC Γ i (some (trP φ (fill (es ++ [x])))) Γ') (k:ExT K S S' u Γ' P) :
    ExT K S S' (tSeq (tDrop (tBM K "list" rAppend t (tCons te tNil))) u) Γ P:=fun H0 F0 H F σ B e bb vv D I =>
  h H0 F0 H F σ e _ fun v b H1 F1 g1 q1 hh=>by
    obtain ⟨vs,ks,eb0⟩:∃ vs ks,H1 b=some (.lst vs)∧TrAll H1 vs es ks:=by
      obtain ⟨_,_,_,tb,_⟩:=hh
      cases tb with
      | lst eb kb nb=>exact ⟨_,_,eb,kb⟩
    refine .inl ⟨rfl,_,SqL.of eb0.1⟩ |> fun s=>⟨s,he H0 F0 H1 F1 σ (e.mono g1) _ fun w H2 F2 g2 p2=>?_⟩
    have hh2:=hh.grow g2
    have e2:=(e.mono g1).mono g2
    obtain ⟨v',q1',hv⟩:=e2.has i _ hg.eq
    rw [q1] at q1'
    cases q1'
    have hf:=ofP hv
    obtain ⟨as0,t0,oo⟩:=ofT hv
    obtain ⟨as,cs,ta,tb,sb,kk⟩:=hh2
    cases tb with
    | lst eb kb nb =>
      rename_i us
      refine ⟨b,us,w,rfl,rfl,eb,by rw [kb.length]; exact hz,?_⟩
      obtain rfl:=es'.eq
      have kb1:TrAll (upd H2 b (.lst (us ++ [w]))) us es cs:=trAll_same (fun c m=>upd_ne fun z=>nb (z ▸ m)) kb
      have kb2:=kb1.snoc (tr_atom p2 hx) fun _ _ z=>nomatch z
      rw [List.append_nil] at kb2
      have tt:=kk (upd H2 b (.lst (us ++ [w]))) (es ++ [x]) (fun a m n=>upd_ne fun z=>n (z ▸ List.mem_cons_self)) (.lst upd_same kb2 nb)
      have iff1:∀ c,c∈as↔c∈as0:=fun c=>(tr_rc ta).symm.trans (tr_rc t0)
      have mb:b∈as:=sb b List.mem_cons_self
      refine k H0 F0 _ F2 _ B (e2.putO (y:=trP φ (fill (es ++ [x]))) hg.eq q1 (show Rc H2 v b from (tr_rc ta).mpr mb) (hasP hf tt fun c m=>?_) fun c z=>(tr_rc ta).mpr ((tr_rc tt).mp z)) (bb.trans (g1.f.trans g2.f)) vv D I
      obtain ⟨u,o⟩:=oo c ((iff1 c).mp m)
      by_cases ca:c=b
      · subst ca; exact ⟨_,upd_same,o.f,o.n,o.s⟩
      · exact ⟨u,by rw [upd_ne ca]; exact o.h,o.f,o.n,o.s⟩
theorem thawT {i:Nat} {d:PyData} {H0 F0 H F:Hp} {σ:St} {Γf:Ctx} (e:DEnv K S H0 F0 H F σ Γ) (h:GetC Γ i (trP φ d)) (es:SetC Γ i (some (.fz true d)) Γf) :
    ∃ (A:Addr→Prop) (Ff:Hp),DEnv K S H0 F0 H Ff σ Γf∧Same F Ff∧∀ H' F',Gr H Ff H' F'→Gr H F H' (drop A F'):=by
  have h':=h.eq
  obtain ⟨v,q1,hv⟩:=e.has i _ h'
  obtain ⟨as,t,oo⟩:=ofT hv
  have s:Same F (frzT as F H):=fun c o z=>by
    rw [frzT_out fun m=>by obtain ⟨u,w⟩:=oo c m; rw [w.f] at z; cases z]
    exact z
  have le:Same (frzT as F H) H:=fun c o z=>by
    by_cases m:c∈as
    · rw [frzT_in m] at z; exact z
    · rw [frzT_out m] at z; exact e.le _ _ z
  have li:=(List.getElem?_eq_some_iff.mp h').1
  obtain rfl:=es.eq
  have hr:Rp K true S H0 (frzT as F H) v d:=tr_rp (fun a m=>⟨frzT_in m,by obtain ⟨u,w⟩:=oo a m; exact w.s⟩) t
  refine ⟨fun c=>c∈as,frzT as F H,⟨⟨e.gr.h,e.gr.f.trans s,le,fun c o hc hn=>?_⟩,e.l0,e.sd,e.s0,by simp [e.len],fun j f z=>?_,fun j k' x1 y1 v1 w1 b g1 g2 g3 g4 o1 o2=>?_⟩,s,fun H' F' g=>⟨g.h,fun c o z=>drop_some.mpr ⟨g.f _ _ (s _ _ z),?_⟩,fun c o z=>g.le _ _ (drop_some.mp z).1,fun c o z n=>?_⟩⟩
  · rw [frzT_out fun m=>by obtain ⟨u,w⟩:=oo c m; rw [w.n] at hc; cases hc]
    exact e.gr.ap c o hc hn
  · by_cases hj:j=i
    · subst hj
      rw [List.getElem?_set_self li] at z
      cases z
      exact ⟨_,q1,hr⟩
    · rw [List.getElem?_set_ne (Ne.symm hj)] at z
      obtain ⟨u,r1,r2⟩:=e.has j f z
      refine ⟨u,r1,r2.frzG s fun c oc=>?_⟩
      by_cases zc:c∈as
      · exact absurd (e.ne j i f _ u _ c z h' r1 q1 oc ((tr_rc t).mpr zc)) hj
      · rw [frzT_out zc]
        obtain ⟨us,wo⟩:=r2.owns oc
        exact wo.f
  · have bk:∀ {j:Nat} {f:DV} {u:V},(Γ.set i (some (.fz true d)))[j]?=some (some f)→σ[j]?=some (some u)→Owns H u f b→Γ[j]?=some (some f):=fun {j f u} z r o=>by
      by_cases hj:j=i
      · subst hj
        rw [List.getElem?_set_self li] at z
        cases z
        exact o.elim
      · rw [List.getElem?_set_ne (Ne.symm hj)] at z
        exact z
    exact e.ne j k' x1 y1 v1 w1 b (bk g1 g3 o1) (bk g2 g4 o2) g3 g4 o1 o2
  · rintro ⟨hc,_⟩
    obtain ⟨u,w⟩:=oo c hc
    rw [w.f] at z; cases z
  · by_cases hc:c∈as
    · obtain ⟨u,w⟩:=oo c hc
      have hl:∃ vs,H c=some (.lst vs):=tr_lst t hc
      obtain ⟨vs,hl⟩:=hl
      exact drop_none (g.f _ _ (by rw [frzT_in hc]; exact hl)) hc
    · cases q':drop (fun c=>c∈as) F' c with
      | none=>rfl
      | some o' =>
        have:=(drop_some.mp q').1
        rw [g.ap _ _ z (by rw [frzT_out hc]; exact n)] at this; cases this
where
  tr_lst {H:Hp} {a:Addr}:∀ {v:V} {d:PyData} {as:List Addr},Tr H v d as→a∈as→∃ u,H a=some (.lst u)
  | _,_,_,.non,m=>nomatch m
  | _,_,_,.bl _,m=>nomatch m
  | _,_,_,.int _,m=>nomatch m
  | _,_,_,.str _,m=>nomatch m
  | _,_,_,.lst e k _,m=>by
    rcases List.mem_cons.mp m with rfl | m
    · exact ⟨_,e⟩
    · exact trAll_lst k m
  trAll_lst {H:Hp} {a:Addr}:∀ {vs:List V} {ds:List PyData} {as:List Addr},TrAll H vs ds as→a∈as→∃ u,H a=some (.lst u)
  | _,_,_,.nil,m=>nomatch m
  | _,_,_,.cons p q _,m=>by
    rcases List.mem_append.mp m with m | m
    · exact tr_lst p m
    · exact trAll_lst q m
theorem et_thawT (i:Nat) {t:TT} {b:Bool} {d:PyData} {Γf:Ctx} (h:GetC Γ i (trP φ d)) (es:SetC Γ i (some (.fz true d)) Γf) (k:EvT K S t Γf b):EvT K S t Γ b:=fun H0 F0 H F σ e Q q=>by
  obtain ⟨A,Ff,e',_,g⟩:=thawT e h es
  exact k H0 F0 H Ff σ e' Q fun H' F' g'=>q H' _ (g H' F' g')
theorem ext_fz {t:TS} (i:Nat) {d:PyData} (h:GetC Γ i (trP φ d)) (es:SetC Γ i (some (.fz true d)) Γ') (k:ExT K S S' t Γ' P):ExT K S S' t Γ P:=fun H0 F0 H F σ B e bb vv D I=>by
  obtain ⟨A,Ff,e',s,_⟩:=thawT e h es
  exact k H0 F0 H Ff σ B e' (bb.trans s) vv D I
theorem evr_comp {js:List (Option Nat)} {wi:TI} {g:TG} {te:TE} {is:List Nat} {ds:List PyData} (κ':Bool) (f:PyData→PyData) (hi:EvI K S κ' wi Γ ds) (hjs:∀ i∈is,js[i]?=some none) (hj:∀ i j k:Nat,js[i]?=some (some k)→js[j]?=some (some k)→i=j)
    (hz:ds.length≤sizeLine) (hb:∀ d∈ds,ExG K S κ' g is d (captG js Γ) fun Γ'=>EvTr K S te Γ' (f d)):EvTr K S (tComp js wi g tYes te) Γ (.list (ds.map f)):=fun H0 F0 H F σ e Q q =>
  hi H0 F0 H F σ e _ fun J H1 F1 g1 I1=>by
    intro D hD
    have sdm:∀ {H2 F2:Hp},Gr H1 F1 H2 F2→∀ a,S.has H0 a→∃ o,H2 a=some o:=fun g2 a c=>let ⟨o,z⟩:=(e.mono g1).sd a c; ⟨o,g2.h _ _ z⟩
    refine ⟨fun i m ys H2=>m=ds.length - i∧i≤ds.length∧∃ F2 as,Gr H1 F1 H2 F2∧H2 D=some (.lst ys)∧F2 D=none∧TrAll H2 ys ((ds.take i).map f) as∧D∉as∧∀ a∈as,H1 a=none∧F2 a=none,⟨_,rfl,Nat.zero_le _,F1,[],.newO g1.le hD _,upd_same,g1.le.free hD,.nil,by simp,fun _ z=>nomatch z⟩,?_⟩
    rintro i m ys H2 ⟨rfl,hi,F2,as,g2,hl,fl,k2,nD,nw⟩
    by_cases hlt:i < ds.length
    · refine .inr ⟨I1.go i H2 F2 g2.f g2.le hlt,fun zs H3=>i + 1≤ds.length∧∃ F2 as,Gr H1 F1 H3 F2∧H3 D=some (.lst zs)∧F2 D=none∧TrAll H3 zs ((ds.take (i + 1)).map f) as∧D∉as∧∀ a∈as,H1 a=none∧F2 a=none,fun zs H3 h3=>⟨ds.length - (i + 1),by omega,rfl,h3⟩,fun x H3 y=>?_⟩
      obtain ⟨d,F3,hd,g3,p3⟩:=I1.yld i H2 F2 x H3 g2.f g2.le (sdm g2) hlt y
      have E3:=((e.mono g1).mono (g2.trans g3)).capt hj
      refine hb d (List.mem_of_getElem? hd) H0 F0 H3 F3 _ x E3 p3 _ fun Γ' σ' H4 F4 he g4 E4 len4 out4=>?_
      have tk:ds.take (i + 1)=ds.take i ++ [d]:=by rw [List.take_add_one,hd]; rfl
      refine ⟨⟨len4.symm,fun j v hv=>?_⟩,?_⟩
      · by_cases hjj:j∈is
        · have:=hjs j hjj
          unfold L2.capt at hv
          rw [List.getElem?_map,this] at hv
          cases hv
        · rw [out4 j hjj]; exact hv
      refine et_yes (K:=K) (S:=S) H0 F0 H4 F4 σ' E4 _ fun H5 F5 g5=>iteT ((he H0 F0 H5 F5 σ' (E4.mono g5) _ fun v bs H6 F6 g6' t6 n6'=>?_))
      have g6:=g5.trans g6'
      have n6:∀ a∈bs,H4 a=none∧F6 a=none:=fun a m=>⟨g5.h.free (n6' a m).1,(n6' a m).2⟩
      have gg:=(g3.trans g4).trans g6
      have hl6:=gg.h _ _ hl
      have fl6:=gg.ap _ _ hl fl
      have G6:=g2.trans gg
      have there:∀ a∈as,∃ u,H2 a=some u:=fun a m=>tr_own.trAll_there k2 m
      have dis:∀ a∈as,a∉bs:=fun a m z=>by
        obtain ⟨u,hu⟩:=there a m
        have:=(g3.trans g4).h _ _ hu
        rw [(n6 a z).1] at this; cases this
      have nDb:D∉bs:=fun z=>by
        have:=(g3.trans g4).h _ _ hl
        rw [(n6 D z).1] at this; cases this
      refine ⟨hl6,?_,hlt,F6,as ++ bs,⟨fun b u z=>?_,G6.f,fun b u z=>?_,G6.ap⟩,upd_same,fl6,?_,?_,?_⟩
      · have h1:=k2.length
        rw [List.length_map,List.length_take] at h1
        omega
      · rw [upd_ne (ne_of_none z hD)]; exact G6.h _ _ z
      · rw [upd_ne (by rintro rfl; rw [fl6] at z; cases z)]; exact G6.le _ _ z
      · rw [tk,List.map_append]
        refine (trAll_same (fun a m=>?_) k2).snoc (tr_same (fun a m=>upd_ne (show a≠D from fun z=>nDb (z ▸ m))) t6) dis
        obtain ⟨u,hu⟩:=there a m
        rw [upd_ne (show a≠D from fun z=>nD (z ▸ m)),hu]
        exact gg.h _ _ hu
      · intro z
        rcases List.mem_append.mp z with z | z
        · exact nD z
        · exact nDb z
      · intro a m
        rcases List.mem_append.mp m with m | m
        · obtain ⟨u,hu⟩:=there a m
          exact ⟨(nw a m).1,gg.ap _ _ hu (nw a m).2⟩
        · exact ⟨((g2.trans g3).trans g4).h.free (n6 a m).1,(n6 a m).2⟩
    · have ei:i=ds.length:=by omega
      subst ei
      rw [List.take_length] at k2
      refine .inl ⟨I1.stop H2 F2 g2.f g2.le,q (.ref D) (D :: as) H2 F2 (g1.trans g2) (.lst hl k2 nD) fun a m=>?_⟩
      rcases List.mem_cons.mp m with rfl | m
      · exact ⟨g1.h.free hD,fl⟩
      · exact ⟨g1.h.free (nw a m).1,(nw a m).2⟩
end
end PD
namespace L2
open PySem PySem.Spec PyProof.Rows
def mxL (ns:List Int):Int:=ns.getD (argBest (fun i j=>decide (ns.getD i 0 > ns.getD j 0)) (ns.length - 1)) 0
section
variable {X:Cx} {K:PySem.W.Frag}
def rBestI (K:PySem.W.Frag) (f:List Int→Int):List V→Hp→VK→Prop:=fun xs H Q=>∃ p,∃ ns:List Int,xs=[.ref p]∧SqL K H p (ns.map V.int)∧ns≠[]∧Q (.int (f ns)) H
theorem call_maxI (hc:X.calm=true):CallR X (.builtin "max") (rBestI X.K mxL):=by
  intro pins s σ H xs us Q I r h
  obtain ⟨p,ns,rfl,hq,h0,q⟩:=h
  obtain ⟨u,rfl,rx⟩:=vals1 r
  cases rx
  obtain ⟨its,r',pl,hz⟩:=I.list hq
  have hl:=pl.isList
  have hi:=r'.length
  rw [List.length_map] at hi
  refine call_max_walk (wpAny_pyIter_list hl ?_)
  have hne:p≠s.heap.objs.size:=by
    obtain ⟨o,ho,_⟩:=hl
    exact Nat.ne_of_lt (Heap.lt_size ho)
  have val:∀ (i:Nat) (v:Value),its.toArray[i]?=some v→∃ t,v=.int (ns.getD i 0) t:=fun i v hv=>by
    obtain ⟨y,hy,ry⟩:=vals_getD (u:=v) r' (by simpa using hv)
    rw [List.getElem?_map] at hy
    cases e:ns[i]? with
    | none=>rw [e] at hy; cases hy
    | some n =>
      rw [e] at hy
      cases hy
      obtain ⟨t,rfl⟩:=ry
      exact ⟨t,by rw [List.getD_eq_getElem?_getD,e]; rfl⟩
  have l0:=List.length_pos_iff.mpr h0
  refine ⟨s.heap.objs.size,_,_,_,_,_,_,rfl,Walks.list (A:=X.A.in1) (I.ok.hd hc) _ p hne its.toArray,⟨⟨_,Heap.get?_push_size _ rfl,rfl,rfl⟩,hl.push _⟩,?_,?_,CmpOf.ints_gt (fun i=>ns.getD i 0) val,fun v h' tk hP hk=>?_⟩
  · intro b hb
    simp at hb
    rw [Heap.size_push]
    rcases hb with rfl | rfl
    · exact Nat.lt_succ_self _
    · obtain ⟨o,ho,_⟩:=hl
      exact Nat.lt_succ_of_lt (Heap.lt_size ho)
  · simp; omega
  · obtain ⟨t,rfl⟩:=val _ v hP
    refine ⟨.int _,H,I.kept fun b o eb=>hk b o (by simpa using Nat.ne_of_lt (Heap.lt_size eb)) (Heap.get?_push_of_some _ eb),⟨t,rfl⟩,?_⟩
    have e:its.toArray.size - 1=ns.length - 1:=by simp; omega
    rw [e]
    exact q
theorem call_maxIK (hK:X.K=K) (hc:X.calm=true):CallR X (.builtin "max") (rBestI K mxL):=by subst hK; exact call_maxI hc
end
end L2
namespace PD
open PySem L2
section
variable {K:PySem.W.Frag} {S S':Sx} {κ κ':Bool} {Γ Γ' Γ'':Ctx} {P:Post}
theorem ev_bestI {f:List Int→Int} {ta:TE} {ns:List Int} (h:EvL K S false ta Γ (ns.map .int)) (h0:ns≠[]):EvE K S κ (tCB (rBestI K f) (tCons ta tNil)) Γ (.int (f ns)):=fun H0 F0 H F σ e Q q =>
  h H0 F0 H F σ e _ fun a vs H1 F1 g1 p1 k1=>by
    cases dpAll_of_ints (rpAll_dp k1)
    exact ⟨a,ns,rfl,p1,h0,q _ H1 F1 g1 (.int _)⟩
end
end PD
namespace PD
open PySem L2
section
variable {K:PySem.W.Frag} {S S':Sx} {κ κ':Bool} {Γ Γ' Γ'':Ctx} {P:Post}
theorem evr_map {js:List (Option Nat)} {Γc:Ctx} {wi:TI} {g:TG} {te:TE} {is:List Nat} {ds:List PyData} (κ':Bool) (f:PyData→PyData) (hi:EvI K S κ' wi Γ ds) (hc:CaptC js Γ Γc) (hjs:(is.all fun i=>js[i]? == some none)=true)
    (hj:(js.filterMap id).Nodup) (hz:ds.length≤sizeLine) (hb:∀ d∈ds,ExG K S κ' g is d Γc fun Γ'=>EvTr K S te Γ' (f d)):EvTr K S (tComp js wi g tYes te) Γ (.list (ds.map f)):=by
  refine evr_comp κ' f hi (fun i hi=>?_) ?_ hz (by rw [hc.eq]; exact hb)
  · have:=List.all_eq_true.mp hjs i hi
    simpa using this
  · intro i j k h1 h2
    clear hc hjs hi hb
    induction js generalizing i j with
    | nil=>simp at h1
    | cons o js ih =>
      cases o with
      | none =>
        cases i with
        | zero=>simp at h1
        | succ i =>
          cases j with
          | zero=>simp at h2
          | succ j=>rw [ih (by simpa using hj) i j (by simpa using h1) (by simpa using h2)]
      | some m =>
        have hj':(m :: js.filterMap id).Nodup:=by simpa using hj
        have hm:=(List.nodup_cons.mp hj').1
        cases i with
        | zero =>
          cases j with
          | zero=>rfl
          | succ j =>
            have e1:m=k:=by simpa using h1
            subst e1
            have h2':js[j]?=some (some m):=by simpa using h2
            exact absurd (show m∈js.filterMap id from List.mem_filterMap.mpr ⟨some m,List.mem_of_getElem? h2',rfl⟩) hm
        | succ i =>
          cases j with
          | zero =>
            have e1:m=k:=by simpa using h2
            subst e1
            have h2':js[i]?=some (some m):=by simpa using h1
            exact absurd (show m∈js.filterMap id from List.mem_filterMap.mpr ⟨some m,List.mem_of_getElem? h2',rfl⟩) hm
          | succ j=>rw [ih (List.nodup_cons.mp hj').2 i j (by simpa using h1) (by simpa using h2)]
theorem evr_each {α:Type} {js:List (Option Nat)} {Γc:Ctx} {wi:TI} {g:TG} {te:TE} {is:List Nat} {xs:List α} (κ':Bool) (u f:α→PyData) (hu:∀ x∈xs,∀ y∈xs,u x=u y→f x=f y) (hi:EvI K S κ' wi Γ (xs.map u)) (hc:CaptC js Γ Γc) (hjs:(is.all fun i=>js[i]? == some none)=true)
    (hj:(js.filterMap id).Nodup) (hz:xs.length≤sizeLine) (hb:∀ x∈xs,ExG K S κ' g is (u x) Γc fun Γ'=>EvTr K S te Γ' (f x)):EvTr K S (tComp js wi g tYes te) Γ (.list (xs.map f)):=by
  classical
  let F:PyData→PyData:=fun d=>if h:∃ x,x∈xs∧u x=d then f h.choose else .none
  have hF:∀ x∈xs,F (u x)=f x:=fun x hx=>by
    have h:∃ y,y∈xs∧u y=u x:=⟨x,hx,rfl⟩
    show (if h:∃ y,y∈xs∧u y=u x then f h.choose else .none)=_
    rw [dif_pos h]
    exact hu _ h.choose_spec.1 _ hx h.choose_spec.2
  refine EvTr.eq (evr_map κ' F hi hc hjs hj (by rw [List.length_map]; exact hz) fun d hd=>?_) ?_
  · obtain ⟨x,hx,rfl⟩:=List.mem_map.mp hd
    rw [hF x hx]
    exact hb x hx
  · rw [List.map_map]
    exact congrArg PyData.list (List.map_congr_left fun x hx=>hF x hx)
theorem exq_appE {φ:V→Prop} {t te:TE} {u:TS} {i:Nat} {d x d':PyData} {es:List PyData} {fill:List PyData→PyData} (hg:GetC Γ i (trP φ d)) (h:EvQ K S t Γ i d es fill) (he:EvE K S false te Γ x) (hx:atom x=true) (hz:es.length < sizeLine) (hf:fill (es ++ [x])=d') (es':SetC Γ i (some (trP φ d')) Γ') (k:ExT K S S' u Γ' P) :
    ExT K S S' (tSeq (tDrop (tBM K "list" rAppend t (tCons te tNil))) u) Γ P:=by
  subst hf
  exact exq_app hg h he hx hz es' k
end
end PD
namespace PD
open PySem L2
section
variable {K:PySem.W.Frag} {S S':Sx} {κ κ':Bool} {Γ Γ' Γ'':Ctx} {P:Post} {E:XK}
theorem ex_end {t:TS} (h:ExT K S S' (tSeq t tNext) Γ P):ExT K S S' t Γ P:=h
end
end PD
namespace PD
open PySem L2
section
variable {K:PySem.W.Frag} {S S':Sx} {κ κ':Bool} {Γ Γ' Γ'':Ctx} {P:Post} {E:XK} {φ:V→Prop}
end
end PD
namespace L2
open PySem PySem.Spec PyProof.Rows
section
variable {X:Cx} {K:PySem.W.Frag}
def rSlS:V→Option Int→Option Int→Hp→VK→Prop:=fun x lo hi H Q=>∃ z,x=.str z∧z.length≤sizeLine∧Q (.str (Txt.slice z lo hi)) H
theorem sl_str:SlR X rSlS:=by
  intro pins s σ H x v vl vu lo hi sl Q I rx hs pl pu h
  obtain ⟨z,rfl,hz,q⟩:=h
  obtain ⟨t,rfl⟩:=rx
  refine ⟨"str", _,F.slot_str_getitem.lookup,typeIs_str _ _ _,?_⟩
  cases pl with
  | none=>cases pu with
    | none=>exact wpAny_getItem_str_slice (l:=none) (u:=none) (st:=none) hs rfl (post_val_or_str ⟨Nat.le_trans (Txt.slice_le z _ _) hz,fun t' k=>⟨.str _,H,I.tok _,⟨_,rfl⟩,q⟩⟩)
    | int j tj=>exact wpAny_getItem_str_slice (l:=none) (u:=some (j,tj)) (st:=none) hs rfl (post_val_or_str ⟨Nat.le_trans (Txt.slice_le z _ _) hz,fun t' k=>⟨.str _,H,I.tok _,⟨_,rfl⟩,q⟩⟩)
  | int i ti=>cases pu with
    | none=>exact wpAny_getItem_str_slice (l:=some (i,ti)) (u:=none) (st:=none) hs rfl (post_val_or_str ⟨Nat.le_trans (Txt.slice_le z _ _) hz,fun t' k=>⟨.str _,H,I.tok _,⟨_,rfl⟩,q⟩⟩)
    | int j tj=>exact wpAny_getItem_str_slice (l:=some (i,ti)) (u:=some (j,tj)) (st:=none) hs rfl (post_val_or_str ⟨Nat.le_trans (Txt.slice_le z _ _) hz,fun t' k=>⟨.str _,H,I.tok _,⟨_,rfl⟩,q⟩⟩)
def rAddS:R2:=fun x y H Q=>∃ i j,x=.str i∧y=.str j∧i.length + j.length≤sizeLine∧Q (.str (i ++ j)) H
theorem op_addS:OpR X (binaryOp .Add) rAddS:=op_add_str
def rLenS:List V→Hp→VK→Prop:=fun xs H Q=>∃ z,xs=[.str z]∧z.length≤sizeLine∧Q (.int z.length) H
theorem call_lenS:CallR X (.builtin "len") rLenS:=call_len_str
theorem strs_of:∀ {zs:List PySem.Str} {its:List Value},Vals (zs.map V.str) its→∃ l:List (PySem.Str×Tok),strValues l=its∧l.map (·.1)=zs
  | [],_,.nil=>⟨[],rfl,rfl⟩
  | z :: r,_,.cons h t=>by
    obtain ⟨l,rfl,e⟩:=strs_of t
    obtain ⟨u,rfl⟩:=h
    exact ⟨(z,u) :: l,rfl,by rw [List.map_cons,e]⟩
def rJoin (K:PySem.W.Frag):V→List V→Hp→VK→Prop:=fun x vs H Q=>∃ sep p,∃ zs:List PySem.Str,x=.str sep∧vs=[.ref p]∧SqL K H p (zs.map V.str)∧JoinOk sep zs=true∧Q (.str (PySem.Str.join sep zs)) H
theorem mt_join:MtM X "str.join" (rJoin X.K):=by
  intro pins s σ H x vs v us Q I rx rv h
  obtain ⟨sep,p,zs,rfl,rfl,hq,ok,q⟩:=h
  obtain ⟨t,rfl⟩:=rx
  obtain ⟨u,rfl,ru⟩:=rv.one
  cases ru
  obtain ⟨its,r,pl,hz⟩:=I.list hq
  obtain ⟨l,rfl,ht⟩:=strs_of r
  refine SC.join pl.isList ht ok fun t' k=>⟨.str _,H,I.tok _,⟨_,rfl⟩,?_⟩
  rw [show Txt.join sep zs=PySem.Str.join sep zs from StrLaws.glued_eq_join sep zs]
  exact q
theorem mt_joinK (hK:X.K=K):MtM X "str.join" (rJoin K):=by subst hK; exact mt_join
def rIdxS:V→List V→Hp→VK→Prop:=fun x vs H Q=>∃ z y i rest,x=.str z∧vs=[.str y]∧Builtin.Str.occurrences z y 0 z.length 1=i :: rest∧Q (.int (i:Nat)) H
theorem mt_indexS:MtM X "str.index" rIdxS:=by
  intro pins s σ H x vs v us Q I rx rv h
  obtain ⟨z,y,i,rest,rfl,rfl,ho,q⟩:=h
  obtain ⟨t,rfl⟩:=rx
  obtain ⟨u,rfl,ru⟩:=rv.one
  obtain ⟨t',rfl⟩:=ru
  exact SC.index ho ⟨.int _,H,I.tok _,⟨_,rfl⟩,q⟩
end
end L2
namespace PD
open PySem L2
section
variable {K:PySem.W.Frag} {S S':Sx} {κ κ':Bool} {Γ Γ' Γ'' Γ3:Ctx} {P:Post} {E:XK}
theorem dpAll_of_strs {F:Hp}:∀ {vs:List V} {zs:List Str},DpAll K F vs (zs.map PyData.str)→vs=zs.map V.str
  | _,[],.nil=>rfl
  | _,n :: r,.cons h t=>by cases h; rw [List.map_cons,dpAll_of_strs t]
theorem ev_addS {ta tb:TE} {i j:Str} (ha:EvE K S false ta Γ (.str i)) (hb:EvE K S false tb Γ (.str j)) (hz:i.length + j.length≤sizeLine):EvE K S κ (tOp rAddS ta tb) Γ (.str (i ++ j)):=fun H0 F0 H F σ e Q q =>
  ha H0 F0 H F σ e _ fun v H1 F1 g1 p1=>hb H0 F0 H1 F1 σ (e.mono g1) _ fun w H2 F2 g2 p2=>by
    cases rp_str p1
    cases rp_str p2
    exact ⟨i,j,rfl,rfl,hz,q _ H2 F2 (g1.trans g2) (.str _)⟩
theorem ev_ixS {ta tb:TE} {z:Str} {i:Int} {c:Nat} (ha:EvE K S false ta Γ (.str z)) (hb:EvE K S false tb Γ (.int i)) (hz:z.length≤sizeLine) (h:atI z.cps.toList i=some c):EvE K S κ (tOp rIxS ta tb) Γ (.str ⟨#[c]⟩):=fun H0 F0 H F σ e Q q =>
  ha H0 F0 H F σ e _ fun v H1 F1 g1 p1=>hb H0 F0 H1 F1 σ (e.mono g1) _ fun w H2 F2 g2 p2=>by
    cases rp_str p1
    cases rp_int p2
    exact ⟨z,i,c,rfl,rfl,hz,h,q _ H2 F2 (g1.trans g2) (.str _)⟩
theorem ev_slS {t:TE} {tl th:TO} {z:Str} {lo hi:Option Int} (h:EvE K S false t Γ (.str z)) (hz:z.length≤sizeLine) (hl:EvP K S tl Γ lo) (hh:EvP K S th Γ hi):EvE K S κ (tSl rSlS t tl th) Γ (.str (Txt.slice z lo hi)):=fun H0 F0 H F σ e Q q =>
  h H0 F0 H F σ e _ fun v H1 F1 g1 p1=>by
    cases rp_str p1
    exact hl H0 F0 H1 F1 σ (e.mono g1) _ fun H2 F2 g2=>hh H0 F0 H2 F2 σ ((e.mono g1).mono g2) _ fun H3 F3 g3=>⟨z,rfl,hz,q _ H3 F3 ((g1.trans g2).trans g3) (.str _)⟩
theorem ev_lenS {ta:TE} {z:Str} (h:EvE K S false ta Γ (.str z)) (hz:z.length≤sizeLine):EvE K S κ (tCB rLenS (tCons ta tNil)) Γ (.int (z.length:Nat)):=fun H0 F0 H F σ e Q q =>
  h H0 F0 H F σ e _ fun v H1 F1 g1 p1=>by
    cases rp_str p1
    exact ⟨z,rfl,hz,q _ H1 F1 g1 (.int _)⟩
theorem ev_join {ta:TE} {sep:Str} {zs:List Str} (h:EvL K S false ta Γ (zs.map .str)) (ok:JoinOk sep zs=true):EvE K S κ (tBM K "str" (rJoin K) (tC (.str sep)) (tCons ta tNil)) Γ (.str (Str.join sep zs)):=fun H0 F0 H F σ e Q q =>
  ⟨rfl,h H0 F0 H F σ e _ fun a vs H1 F1 g1 p1 k1=>by
    cases dpAll_of_strs (rpAll_dp k1)
    exact ⟨sep,a,zs,rfl,rfl,p1,ok,q _ H1 F1 g1 (.str _)⟩⟩
theorem ev_indexS {ta tb:TE} {z y:Str} {i:Nat} {rest:List Nat} (ha:EvE K S false ta Γ (.str z)) (hb:EvE K S false tb Γ (.str y)) (h:Builtin.Str.occurrences z y 0 z.length 1=i :: rest):EvE K S κ (tBM K "str" rIdxS ta (tCons tb tNil)) Γ (.int (i:Nat)):=fun H0 F0 H F σ e Q q =>
  ha H0 F0 H F σ e _ fun v H1 F1 g1 p1=>by
    cases rp_str p1
    exact ⟨rfl,hb H0 F0 H1 F1 σ (e.mono g1) _ fun w H2 F2 g2 p2=>by
      cases rp_str p2
      exact ⟨z,y,i,rest,rfl,rfl,h,q _ H2 F2 (g1.trans g2) (.int _)⟩⟩
theorem join_ok {sep:Str} {zs:List Str} (B:Nat) (hB:∀ y∈zs,y.length≤B) (h:zs.length * B + zs.length * sep.length≤16777216):JoinOk sep zs=true:=by
  unfold JoinOk
  rw [StrLaws.joinFits hB h]
  rfl
end
end PD
namespace PD
open PySem L2
section
variable {K:PySem.W.Frag} {S S':Sx} {κ κ':Bool} {Γ Γ' Γ'' Γ3:Ctx} {P:Post} {E:XK}
def psH (K:PySem.W.Frag) (l:Addr) (d0 d1:PyData) (ds:List PyData):Sx→Hp→Hp→Hp→V→Prop:=fun S H0 H F v=>∃ t v0 v1 vs,v=.ref t∧SqT K F t [v0,v1,.ref l]∧Rp K true S H0 F v0 d0∧Rp K true S H0 F v1 d1∧H l=some (.lst vs)∧RpAll K true S H0 F vs ds
abbrev hdD (K:PySem.W.Frag) (l:Addr) (d0 d1:PyData) (ds:List PyData):DV:=.og (fun _ _ a=>a=l) (psH K l d0 d1 ds)
theorem gokH (l:Addr) (d0 d1:PyData) (ds:List PyData):GOk (fun _ _ a=>a=l) (psH K l d0 d1 ds):=⟨fun _ _ _ _ _=>Iff.rfl,fun S H0 H H' F F' v h s ⟨t,v0,v1,vs,e,ht,r0,r1,hl,k⟩=>⟨t,v0,v1,vs,e,Same.seqT s ht,rp_mono s r0,rp_mono s r1,by rw [h l rfl]; exact hl,rpAll_mono s k⟩⟩
theorem ex_hand {t0 t1 t2:TE} {u:TS} {i:Nat} {d0 d1:PyData} {ds:List PyData} {Γ':Addr→Ctx} (h0:EvE K S true t0 Γ d0) (h1:EvE K S true t1 Γ d1) (h2:EvO K S true t2 Γ ds) (es:∀ l,SetC Γ i (some (hdD K l d0 d1 ds)) (Γ' l)) (k:∀ l,ExT K S S' u (Γ' l) P) :
    ExT K S S' (tSeq (tAsg (tTup (tCons t0 (tCons t1 (tCons t2 tNil)))) (gName i)) u) Γ P:=fun H0 F0 H F σ B e bb vv D I =>
  h0 H0 F0 H F σ e _ fun v0 H1 F1 g1 p1=>h1 H0 F0 H1 F1 σ (e.mono g1) _ fun v1 H2 F2 g2 p2=>h2 H0 F0 H2 F2 σ ((e.mono g1).mono g2) _ fun l vs H3 F3 g3 n3 e3 f3 k3=>⟨by show 3≤sizeLine; decide,fun p hp=>by
    have g4:Gr H3 F3 (upd H3 p (.tup [v0,v1,.ref l])) (upd F3 p (.tup [v0,v1,.ref l])):=.new g3.le hp _
    have G:=((g1.trans g2).trans g3).trans g4
    have hn:H l=none:=(g1.trans g2).h.free n3
    have lp:l≠p:=fun z=>by rw [z,hp] at e3; cases e3
    have s4:=g4.f
    refine k l H0 F0 _ _ _ B ?_ (bb.trans G.f) vv D I
    rw [← (es l).eq]
    refine (e.mono G).set (x:=hdD K l d0 d1 ds) ⟨gokH l d0 d1 ds,fun a z=>?_,p,v0,v1,vs,rfl,SqT.of upd_same,rp_mono ((g2.f.trans g3.f).trans s4) p1,rp_mono (g3.f.trans s4) p2,by rw [upd_ne lp]; exact e3,rpAll_mono s4 k3⟩ fun c oc j y w hj z hw o=>e.newOwn G (by rw [show c=l from oc]; exact hn) j y w z hw o
    have z:a=l:=z
    subst z
    exact ⟨.lst vs,by rw [upd_ne lp]; exact e3,by rw [upd_ne lp]; exact f3,e.gr.h.free hn,fun c=>by obtain ⟨u,hu⟩:=e.sd a c; rw [hn] at hu; cases hu⟩⟩
theorem ex_hclr {i:Nat} {l:Addr} {d0 d1:PyData} {ds:List PyData} (h:GetC Γ i (hdD K l d0 d1 ds)) (es:SetC Γ i (some (hdD K l d0 d1 [])) Γ') (k:P.nx Γ'):ExS K S (tDrop (tBM0 K "list" rClear (tOp (rIxT K) (tVar i) (tC (.int 2))))) Γ P:=fun H0 F0 H F σ B e b _ D I=>by
  have h:=h.eq
  obtain ⟨v,q1,gk,oo,t,x0,x1,vs,rfl,ht,r0,r1,hl,kk⟩:=e.has i _ h
  obtain ⟨o,w⟩:=oo l rfl
  refine ⟨_,q1,t,[x0,x1,.ref l],2,.ref l,rfl,rfl,Same.seqT e.le ht,rfl,.inl ⟨rfl,_,SqL.of hl⟩,l,vs,rfl,rfl,hl,?_⟩
  have:=e.putO (oo:=.lst []) (y:=hdD K l d0 d1 []) h q1 (show Owns H (.ref t) (hdD K l d0 d1 ds) l from rfl) ⟨gokH l d0 d1 [],fun a z=>⟨.lst [],by rw [show a=l from z]; exact ⟨upd_same,w.f,w.n,w.s⟩⟩,t,x0,x1,[],rfl,ht,r0,r1,upd_same,.nil⟩ fun _ z=>z
  rw [es.eq] at this
  exact I.nx _ _ _ F k b this
theorem thawH {i:Nat} {l:Addr} {d0 d1:PyData} {ds:List PyData} {H0 F0 H F:Hp} {σ:St} {Γf:Ctx} (e:DEnv K S H0 F0 H F σ Γ) (h:GetC Γ i (hdD K l d0 d1 ds)) (es:SetC Γ i (some (.fz true (.tuple [d0,d1,.list ds]))) Γf) :
    ∃ (A:Addr→Prop) (Ff:Hp),DEnv K S H0 F0 H Ff σ Γf∧Same F Ff∧∀ H' F',Gr H Ff H' F'→Gr H F H' (drop A F'):=by
  have h':=h.eq
  obtain ⟨v,q1,gk,oo',t,x0,x1,vs,rfl,ht,r0,r1,hl,kk⟩:=e.has i _ h'
  have oo:∀ a∈[l],∃ u,OwnO S H0 H F a u:=fun a m=>oo' a (List.mem_singleton.mp m)
  have s:Same F (frzT [l] F H):=fun c o z=>by
    rw [frzT_out fun m=>by obtain ⟨u,w⟩:=oo c m; rw [w.f] at z; cases z]
    exact z
  have le:Same (frzT [l] F H) H:=fun c o z=>by
    by_cases m:c∈[l]
    · rw [frzT_in m] at z; exact z
    · rw [frzT_out m] at z; exact e.le _ _ z
  have li:=(List.getElem?_eq_some_iff.mp h').1
  obtain rfl:=es.eq
  have ml:l∈[l]:=List.mem_singleton.mpr rfl
  have hr:Rp K true S H0 (frzT [l] F H) (.ref t) (.tuple [d0,d1,.list ds]):=.tup (Same.seqT s ht) (.cons (rp_mono s r0) (.cons (rp_mono s r1) (.cons (.lst ⟨by rw [frzT_in ml]; exact hl,by obtain ⟨u,w⟩:=oo l ml; exact w.s⟩ (rpAll_mono s kk)) .nil)))
  refine ⟨fun c=>c∈[l],frzT [l] F H,⟨⟨e.gr.h,e.gr.f.trans s,le,fun c o hc hn=>?_⟩,e.l0,e.sd,e.s0,by simp [e.len],fun j f z=>?_,fun j k' x1 y1 v1 w1 b g1 g2 g3 g4 o1 o2=>?_⟩,s,fun H' F' g=>⟨g.h,fun c o z=>drop_some.mpr ⟨g.f _ _ (s _ _ z),?_⟩,fun c o z=>g.le _ _ (drop_some.mp z).1,fun c o z n=>?_⟩⟩
  · rw [frzT_out fun m=>by obtain ⟨u,w⟩:=oo c m; rw [w.n] at hc; cases hc]
    exact e.gr.ap c o hc hn
  · by_cases hj:j=i
    · subst hj
      rw [List.getElem?_set_self li] at z
      cases z
      exact ⟨_,q1,hr⟩
    · rw [List.getElem?_set_ne (Ne.symm hj)] at z
      obtain ⟨u,r1,r2⟩:=e.has j f z
      refine ⟨u,r1,r2.frzG s fun c oc=>?_⟩
      by_cases zc:c∈[l]
      · exact absurd (e.ne j i f _ u _ c z h' r1 q1 oc (List.mem_singleton.mp zc)) hj
      · rw [frzT_out zc]
        obtain ⟨us,wo⟩:=r2.owns oc
        exact wo.f
  · have bk:∀ {j:Nat} {f:DV} {u:V},(Γ.set i (some (.fz true (.tuple [d0,d1,.list ds]))))[j]?=some (some f)→σ[j]?=some (some u)→Owns H u f b→Γ[j]?=some (some f):=fun {j f u} z r o=>by
      by_cases hj:j=i
      · subst hj
        rw [List.getElem?_set_self li] at z
        cases z
        exact o.elim
      · rw [List.getElem?_set_ne (Ne.symm hj)] at z
        exact z
    exact e.ne j k' x1 y1 v1 w1 b (bk g1 g3 o1) (bk g2 g4 o2) g3 g4 o1 o2
  · rintro ⟨hc,_⟩
    obtain ⟨u,w⟩:=oo c hc
    rw [w.f] at z; cases z
  · by_cases hc:c∈[l]
    · have e1:=List.mem_singleton.mp hc
      subst e1
      exact drop_none (g.f _ _ (by rw [frzT_in hc]; exact hl)) hc
    · cases q':drop (fun c=>c∈[l]) F' c with
      | none=>rfl
      | some o' =>
        have:=(drop_some.mp q').1
        rw [g.ap _ _ z (by rw [frzT_out hc]; exact n)] at this; cases this
theorem et_thawH (i:Nat) {l:Addr} {t:TT} {b:Bool} {d0 d1:PyData} {ds:List PyData} {Γf:Ctx} (h:GetC Γ i (hdD K l d0 d1 ds)) (es:SetC Γ i (some (.fz true (.tuple [d0,d1,.list ds]))) Γf) (k:EvT K S t Γf b):EvT K S t Γ b:=fun H0 F0 H F σ e Q q=>by
  obtain ⟨A,Ff,e',_,g⟩:=thawH e h es
  exact k H0 F0 H Ff σ e' Q fun H' F' g'=>q H' _ (g H' F' g')
theorem ev_thawH (i:Nat) {l:Addr} {t:TE} {d d0 d1:PyData} {ds:List PyData} {Γf:Ctx} (h:GetC Γ i (hdD K l d0 d1 ds)) (es:SetC Γ i (some (.fz true (.tuple [d0,d1,.list ds]))) Γf) (k:EvE K S false t Γf d) (hi:imm d=true):EvE K S κ' t Γ d:=fun H0 F0 H F σ e Q q=>by
  obtain ⟨A,Ff,e',_,g⟩:=thawH e h es
  refine k H0 F0 H Ff σ e' Q fun v H' F' g' p=>q v H' _ (g H' F' g') ?_
  cases imm_drop (K:=K) (κ:=κ') (S:=S) (H0:=H0) (T:=A) (vs:=[v]) (ds:=[d]) (fun x hx=>by rw [List.mem_singleton.mp hx]; exact hi) (.cons (rp_dp p) .nil) with
  | cons z _=>exact z
end
end PD
namespace L2
open PySem
section
variable {X:Cx} {es xs:List Expr} {te:TE} {t:TA} {p:Pos}
theorem pa_consL (ha:PE X (.List xs p) te) (hr:PA X es t):PA X (.List xs p :: es) (tCons te t):=pa_cons ha hr
theorem pa_consT {x1} (ha:PE X (.Tuple xs x1 p) te) (hr:PA X es t):PA X (.Tuple xs x1 p :: es) (tCons te t):=pa_cons ha hr
theorem pa_consC {c j q} (ha:PE X (.Constant c j q) te) (hr:PA X es t):PA X (.Constant c j q :: es) (tCons te t):=pa_cons ha hr
theorem pe_fnLTL {CX:CXT} {x:Str} {ps:List Str} {k:Nat} {sp:Sp} {E:XK} {xs ys zs:List Expr} {x1} {p pos p0 p1 p2:Pos} (C:Callee X.prog X.w X.K X.mg X.base CX x ps k sp) (hr:Room k X.A) (hg:Gl X x) (hx:Passes CX X E) (ha:PA X [.List xs p0,.Tuple ys x1 p1,.List zs p2] t)
    (hdb:(x == ("__debug__" : Str))=false:=by decide):PE X (.Call (.Name x p) [.List xs p0,.Tuple ys x1 p1,.List zs p2] [] pos) (tCall sp [] E t):=pe_fn C hr hg hx ha hdb rfl rfl
end
end L2
namespace L2
open PySem PySem.Spec PyProof.Rows
section
variable {prog:Program} {w:World} {A:Around} {E:Value→Shared→Prop} {s:Shared}
end
section
variable {X:Cx}
end
end L2
namespace PD
open PySem L2
section
variable {K:PySem.W.Frag} {S:Sx} {κ:Bool} {Γ:Ctx}
end
end PD
namespace PD
open PySem L2
section
variable {K:PySem.W.Frag} {S S':Sx} {κ κ':Bool} {Γ Γ' Γ'':Ctx} {P:Post}
section
variable {T:Addr→Prop} {H H':Hp} {a0 a1 a2 c:Addr} {vs2 us us' ws:List V} {n:Nat} {x:V}
variable {K:PySem.W.Frag}
end
end
end PD
namespace PD
open PySem L2
section
variable {K:PySem.W.Frag} {S S':Sx} {κ κ':Bool} {Γ Γ' Γ'':Ctx} {P:Post}
end
end PD
open PySem L2 PD
local macro_rules | `(tactic| walk_at"comp_ok")=>`(tactic| (refine CompOk.of (by with_unfolding_all rfl) (by decide +kernel) rfl (by decide +kernel) ?_ (by with_unfolding_all rfl) rfl (by with_unfolding_all rfl); (repeat (with_unfolding_all refine List.forall_mem_cons.mpr ⟨by with_unfolding_all rfl,?_⟩)); exact List.forall_mem_nil _))
local macro_rules | `(tactic| walk_at"comp_okC")=>`(tactic| (refine CompOkC.of (by with_unfolding_all rfl) (fun _ _=>by with_unfolding_all rfl) (by decide +kernel) rfl rfl rfl (by decide +kernel) ?_ (by with_unfolding_all rfl) rfl (by with_unfolding_all rfl); (repeat (with_unfolding_all refine List.forall_mem_cons.mpr ⟨by with_unfolding_all rfl,?_⟩)); exact List.forall_mem_nil _))
local macro_rules | `(tactic| walk_at"comp_lam")=>`(tactic| exact CompOk.lam (by assumption) (by decide +kernel) rfl (by decide +kernel) (by decide +kernel) rfl (by with_unfolding_all rfl))
local macro_rules | `(tactic| walk_at"gc")=>`(tactic| ((repeat ((with_reducible apply GetC.succ))) ; (with_reducible exact GetC.zero)))
local macro_rules | `(tactic| walk_at"sc")=>`(tactic| ((repeat ((with_reducible apply SetC.succ))) ; (with_reducible exact SetC.zero)))
local macro_rules | `(tactic| walk_at"st")=>`(tactic| ((repeat (first | (with_reducible apply StartC.got) | ((with_reducible apply StartC.no)))) ; (with_reducible exact StartC.z)))
local macro_rules | `(tactic| walk_at"cc")=>`(tactic| ((repeat (first | (with_reducible apply CaptC.no) | ((with_reducible apply CaptC.got) ; focus walk_at"gc"))); (with_reducible exact CaptC.nil)))
local macro_rules | `(tactic| walk_at"mk")=>`(tactic| ((repeat (first | ((with_reducible apply MarkC.got); focus (first | exact MkD.fz | exact MkD.ow | exact MkD.im rfl | exact MkD.ox)) | (with_reducible apply MarkC.no))); (with_reducible exact MarkC.nil)))
local macro_rules | `(tactic| walk_at"sp")=>`(tactic| ((repeat (first | ((with_reducible apply SpC.got); focus (first | exact SpD.fz | exact SpD.ow | exact SpD.im rfl | exact SpD.ox | exact SpD.tn)) | (with_reducible apply SpC.no))); (with_reducible exact SpC.nil)))
local macro_rules | `(tactic| walk_at"sd")=>`(tactic| first | ((with_reducible apply asm) ; assumption) | decide | omega | skip)
local macro_rules | `(tactic| walk_at"ln")=>`(tactic| (simp only [List.length_cons,List.length_nil]; decide))
local macro_rules | `(tactic| walk_at"ev")=>`(tactic| first
  | (with_reducible exact ev_int)
  | (with_reducible exact ev_non)
  | (with_reducible exact ev_bl)
  | (with_reducible exact ev_str)
  | (with_reducible exact et_yes)
  | (with_reducible exact ea_nil)
  | (with_reducible exact ep_none)
  | ((with_reducible apply asm) ; (with_reducible assumption))
  | ((with_reducible apply evv) ; walk_at"gc"; decide)
  | ((with_reducible apply evi) ; walk_at"gc"; rfl)
  | ((with_reducible apply evtn) ; walk_at"gc"; done)
  | ((with_reducible apply evw) ; walk_at"gc"; decide)
  | ((with_reducible apply ev_add) <;> walk_at"ev")
  | ((with_reducible apply ev_sub) <;> walk_at"ev")
  | ((with_reducible apply ev_lt) <;> walk_at"ev")
  | ((with_reducible apply ev_le) <;> walk_at"ev")
  | ((with_reducible apply ev_gt) <;> walk_at"ev")
  | ((with_reducible apply ev_ge) <;> walk_at"ev")
  | ((with_reducible apply ev_mul) <;> walk_at"ev")
  | ((with_reducible apply ev_fdiv) <;> walk_at"ev")
  | ((with_reducible apply ev_fdivB) <;> walk_at"ev")
  | ((with_reducible apply ev_mod) <;> walk_at"ev")
  | ((with_reducible apply ev_pow) <;> walk_at"ev")
  | ((with_reducible apply ev_neg) <;> walk_at"ev")
  | ((with_reducible refine' ev_isN (EvE.toD (κ:=false) ?_)) <;> walk_at"ev")
  | ((with_reducible refine' ev_notN (EvE.toD (κ:=false) ?_)) <;> walk_at"ev")
  | ((with_reducible apply ev_ixL) <;> walk_at"ev")
  | ((with_reducible apply ev_ixT) <;> walk_at"ev")
  | ((with_reducible apply ev_eqI) <;> walk_at"ev" <;> done)
  | ((with_reducible apply ev_neI) <;> walk_at"ev" <;> done)
  | ((with_reducible apply ev_eqB) <;> walk_at"ev" <;> done)
  | ((with_reducible apply ev_neB) <;> walk_at"ev" <;> done)
  | ((with_reducible apply ev_eqS) <;> walk_at"ev" <;> done)
  | ((with_reducible apply ev_neS) <;> walk_at"ev" <;> done)
  | ((with_reducible apply ev_and) <;> (try (with_reducible intro _)) <;> walk_at"ev")
  | ((with_reducible apply ev_or) <;> (try (with_reducible intro _)) <;> walk_at"ev")
  | ((with_reducible apply ev_not) <;> walk_at"ev")
  | ((with_reducible apply et_test) <;> walk_at"ev")
  | ((with_reducible apply et_B) <;> walk_at"ev")
  | ((with_reducible apply et_and) <;> (try (with_reducible intro _)) <;> walk_at"ev")
  | ((with_reducible apply et_or) <;> (try (with_reducible intro _)) <;> walk_at"ev")
  | ((with_reducible apply et_not) <;> walk_at"ev")
  | ((with_reducible apply ea_cons) <;> walk_at"ev")
  | ((with_reducible apply ev_tup) <;> walk_at"ev")
  | ((with_reducible apply EvO.toE) ; ((with_reducible apply evo_lst)) <;> walk_at"ev")
  | ((with_reducible apply evo_lst) <;> walk_at"ev")
  | ((with_reducible apply ev_len) <;> walk_at"ev" <;> done)
  | ((with_reducible apply ev_lenT) <;> walk_at"ev")
  | ((with_reducible apply EvO.toE) ; ((with_reducible apply evo_list)) <;> walk_at"ev")
  | ((with_reducible apply evo_list) <;> walk_at"ev")
  | ((with_reducible apply ev_abs) <;> walk_at"ev")
  | ((with_reducible apply ep_some) <;> walk_at"ev")
  | ((with_reducible apply EvO.toE) ; ((with_reducible apply evo_slice)) <;> walk_at"ev")
  | ((with_reducible apply evo_slice) <;> walk_at"ev")
  | ((with_reducible apply EvO.toE) ; ((with_reducible apply evo_cat)) <;> walk_at"ev")
  | ((with_reducible apply evo_cat) <;> walk_at"ev")
  | ((with_reducible apply EvO.toE) ; ((with_reducible apply evo_rep)) <;> walk_at"ev")
  | ((with_reducible apply evo_rep) <;> walk_at"ev")
  | ((with_reducible apply EvO.toE) ; ((with_reducible apply evo_listRev)) <;> walk_at"ev")
  | ((with_reducible apply evo_listRev) <;> walk_at"ev")
  | ((with_reducible refine' ev_isi (EvE.toD (κ:=false) ?_) ?_) <;> walk_at"ev")
  | ((with_reducible apply ev_callF) <;> walk_at"ev")
  | ((with_reducible apply ev_callN) <;> walk_at"ev")
  | ((with_reducible apply evl_ints) ; walk_at"ev"; done)
  | ((with_reducible apply evl_opts) ; walk_at"ev"; done)
  | ((with_reducible apply EvE.toL) ; walk_at"ev"; done)
  | ((with_reducible apply EvO.toL) ; walk_at"ev"; done)
  | (with_reducible apply isE)
  | (with_reducible apply isL)
  | (with_reducible apply isT)
  | (with_reducible apply isA)
  | (with_reducible apply isO)
  | (with_reducible apply isD)
  | (with_reducible apply isI)
  | (with_reducible exact atI0)
  | (with_reducible exact atI1)
  | ((with_reducible apply asm) ; (with_reducible assumption))
  | ((with_reducible apply kit_of) ; with_unfolding_all rfl)
  | (simp only [List.length_cons,List.length_nil]; decide)
  | decide
  | omega
  | skip)
local macro_rules | `(tactic| walk_at"go")=>`(tactic| repeat (first
  | ((with_reducible apply exo (te:=tLst tNil) true) ; (focus (walk_at"ev"; done)); (focus walk_at"sc"))
  | ((with_reducible apply exs true) ; (focus (walk_at"ev"; done)); (focus walk_at"sc"))
  | ((with_reducible apply exs false) ; (focus (walk_at"ev"; done)); (focus walk_at"sc"))
  | ((with_reducible apply exa) ; (focus walk_at"gc"); (focus (walk_at"ev"; done)); (focus walk_at"sc"); (focus (walk_at"sd"; done)))
  | (with_reducible apply exn)))
local macro_rules | `(tactic| walk_at"run")=>`(tactic| (apply run_def; assumption; assumption; assumption; assumption; focus walk_at"st"))
local macro_rules | `(tactic| walk_at"ot")=>`(tactic| first | exact oneT_of (Nat.le_refl 1) | exact oneT_of (Nat.zero_le 1))
local macro_rules | `(tactic| walk_at"sv")=>`(tactic| ((repeat (first | (with_reducible apply StartV.got) | ((with_reducible apply StartV.no)))) ; (with_reducible exact StartV.z)))
local macro_rules | `(tactic| walk_at"runv")=>`(tactic| (apply run_defV; assumption; assumption; assumption; assumption; focus walk_at"sv"))
namespace K86
open PySem L2 PD Cm
def top (i:Nat):Stmt:=PySem.Challenge.pw_causebook_k86_shown.main.body.getD i (.Pass ⟨0,0,0,0⟩)
structure Bs (mg:Str→Option Value):Prop where
  range:mg "range" = none
  len:mg "len" = none
  str:mg "str" = none
  sorted:mg "sorted" = none
  max:mg "max" = none
  list:mg "list" = none
  isinstance:mg "isinstance" = none
section
variable {P:Program} {w:World} {K:PySem.W.Frag} {mg:Str→Option Value} {base:Heap} {f:Addr} {fd:FuncData}
seal PE PA PS PSs PT PG PI
open Wd Sh Sx2
theorem line_big:200000 < sizeLine:=by decide
abbrev nl (ks:List Nat):PyData:=.list (ks.map fun k:Nat=>.int (k:Int))
theorem nl_imm (ks:List Nat):∀ d∈ks.map (fun k:Nat=>PyData.int (k:Int)),imm d=true:=fun d hd=>by
  obtain ⟨n,_,rfl⟩:=List.mem_map.mp hd
  rfl
abbrev nls (cs:List (List Nat)):PyData:=.list (cs.map nl)
def nD (cs:List Nat):List PyData:=cs.map fun k:Nat=>.int (k:Int)
def zl (ks:List Nat):List Int:=ks.map fun k:Nat=>(k:Int)
theorem nl_zl (ks:List Nat):nl ks=il (zl ks):=by
  unfold zl
  show PyData.list _=.list _
  rw [List.map_map]
  rfl
theorem zl_back (ks:List Nat):(srt (zl ks))=zl ((srt (zl ks)).map Int.toNat):=by
  unfold zl
  rw [List.map_map]
  refine ((List.map_congr_left fun x hx=>?_).trans (List.map_id _)).symm
  obtain ⟨k,_,rfl⟩:=List.mem_map.mp ((srt_perm _).mem_iff.mp hx)
  rfl
def srtN (cs:List Nat):List Nat:=(srt (zl cs)).map Int.toNat
theorem srtN_perm (cs:List Nat):(srtN cs).Perm cs:=by
  have pr:(zl (srtN cs)).Perm (zl cs):=by
    unfold srtN
    rw [← zl_back]
    exact srt_perm _
  have:=pr.map Int.toNat
  unfold zl at this
  rw [List.map_map,List.map_map] at this
  have e:(Int.toNat∘fun k:Nat=>(k:Int))=id:=by funext k; rfl
  rw [e,List.map_id,List.map_id] at this
  exact this
theorem cut_map {α:Type} (g:α→PyData) (xs:List α) (k:Nat):cutD (xs.map g) none (some (k:Int))=(xs.take k).map g:=by
  unfold cutD
  rw [HT.sIx_nat]
  show ((xs.map g).drop 0).take (min k (xs.map g).length - 0)=_
  rw [List.drop_zero,Nat.sub_zero,List.length_map,← List.map_take]
  congr 1
  rcases Nat.le_total k xs.length with h | h
  · rw [Nat.min_eq_left h]
  · rw [Nat.min_eq_right h,List.take_of_length_le (Nat.le_refl _),List.take_of_length_le h]
theorem getD_some {α:Type} {l:List α} {k:Nat} {d:α} (h:k < l.length):l[k]?=some (l.getD k d):=by
  rw [List.getD_eq_getElem?_getD,List.getElem?_eq_getElem h]
  rfl
def unN:PyData→List Nat
  | .list ds=>ds.map fun d=>match d with | .int i=>i.toNat | _=>0
  | _=>[]
theorem unN_nl (cs:List Nat):unN (nl cs)=cs:=by
  show (cs.map fun k:Nat=>PyData.int (k:Int)).map _=cs
  rw [List.map_map]
  exact List.map_id' _
theorem mem_zl {k:Nat} {r:List Nat}:decide ((k:Int)∈zl r)=decide (k∈r):=by
  unfold zl
  by_cases h:k∈r
  · rw [decide_eq_true h,decide_eq_true (List.mem_map.mpr ⟨k,h,rfl⟩)]
  · rw [decide_eq_false h,decide_eq_false fun z=>?_]
    obtain ⟨j,hj,e⟩:=List.mem_map.mp z
    have:j=k:=by omega
    exact h (this ▸ hj)
def kD (ks:List Nat):List PyData:=ks.map fun k:Nat=>.int (k:Int)
theorem srt_zl (ks:List Nat):(srt (zl ks)).map PyData.int=kD (srtN ks):=by
  have:=zl_back ks
  have e:(srt (zl ks)).map PyData.int=(zl (srtN ks)).map PyData.int:=congrArg (List.map PyData.int) this
  rw [e]
  show (List.map _ (srtN ks)).map PyData.int=_
  rw [List.map_map]
  rfl
theorem zl_len (r:List Nat):(zl r).length=r.length:=List.length_map ..
theorem in_zl {k:Nat} {l:List Nat} {S:Sx} {Γ:PD.Ctx} {ta tb:TE} (ha:EvE K S false ta Γ (.int (k:Int))) (hb:EvE K S false tb Γ (nl l)):EvT K S (tTest (tOp (rIn K false) ta tb)) Γ (decide (k∈l)):=EvT.eq (et_test (ev_inI (neg:=false) (i:=(k:Int)) (ns:=zl l) ha (EvE.toL (EvE.eq (κ:=false) hb (nl_zl _))))) mem_zl
theorem il_inj {x y:List Int} (h:il x=il y):x=y:=by
  have h:x.map PyData.int=y.map PyData.int:=PyData.list.inj h
  have e:∀ l:List Int,(l.map PyData.int).map (fun d=>match d with | .int i=>i | _=>0)=l:=fun l=>by rw [List.map_map]; exact (List.map_congr_left fun _ _=>rfl).trans (List.map_id _)
  rw [← e x,h,e y]
theorem atI2 {α:Type} {a b c:α}:atI [a,b,c] 2=some c:=rfl
abbrev stL (zs:List Str):PyData:=.list (zs.map .str)
abbrev tS (w:Int):Str:=toString w
theorem join_fold (sep:Str):∀ (l:List Str) (x:Str),Str.join sep (x :: l)=l.foldl (fun a z=>a ++ sep ++ z) x
  | [],_=>rfl
  | y :: r,x=>by
    show x ++ sep ++ Str.join sep (y :: r)=r.foldl (fun a z=>a ++ sep ++ z) (x ++ sep ++ y)
    rw [← StrLaws.join_shift,join_fold sep r]
theorem join_snoc (sep x y:Str) (l:List Str):Str.join sep (x :: (l ++ [y]))=Str.join sep (x :: l) ++ sep ++ y:=by
  rw [join_fold,List.foldl_append,join_fold]
  rfl
theorem fold_shift (sep a:Str):∀ (l:List Str) (x:Str),l.foldl (fun a z=>a ++ sep ++ z) (a ++ x)=a ++ l.foldl (fun a z=>a ++ sep ++ z) x
  | [],_=>rfl
  | y :: r,x=>by
    show r.foldl (fun a z=>a ++ sep ++ z) (a ++ x ++ sep ++ y)=a ++ r.foldl (fun a z=>a ++ sep ++ z) (x ++ sep ++ y)
    rw [← fold_shift sep a r]
    simp only [Str.append_assoc]
theorem join_len {sep:Str} {B:Nat}:∀ l:List Str,(∀ y∈l,y.length≤B)→(Str.join sep l).length≤l.length * (B + sep.length)
  | [],_=>Nat.zero_le _
  | [x],h=>by
    have:=h x List.mem_cons_self
    show x.length≤1 * (B + sep.length)
    omega
  | x :: y :: r,h=>by
    have h1:=h x List.mem_cons_self
    have h2:=join_len (sep:=sep) (y :: r) fun z hz=>h z (List.mem_cons_of_mem _ hz)
    show (x ++ sep ++ Str.join sep (y :: r)).length≤(r.length + 1 + 1) * (B + sep.length)
    have h2:(Str.join sep (y :: r)).length≤(r.length + 1) * (B + sep.length):=h2
    rw [Str.length_append,Str.length_append,Nat.succ_mul]
    omega
theorem log_lt60 {i:Int} (h0:0≤i) (h:i < 10 ^ 60):i.natAbs.log2 < 1920:=by
  by_cases z:i.natAbs=0
  · rw [z]
    decide
  · refine Nat.lt_of_lt_of_le ((Nat.log2_lt z).mpr (show i.natAbs < 2 ^ 200 from ?_)) (by decide)
    have:(10:Int) ^ 60≤2 ^ 200:=by decide
    have e:((2 ^ 200:Nat):Int)=2 ^ 200:=by decide
    omega
theorem tS_len {i:Int} (h0:0≤i) (h:i < 10 ^ 60):(tS i).length≤60:=PyProof.Rows.toString_length_le h0 (by decide) h
structure Bk (n:Nat) (zs:List Str) (ss:List Nat) (cs:List (List Nat)) (ts:List (List (List Int))):Prop where
  n7:n≤7
  zl:zs.length=n
  zb:∀ z∈zs,z.length≤20
  sl:ss.length=n
  sb:∀ s∈ss,2≤s∧s≤4
  cl:cs.length=n
  ce:∀ r∈cs,(∀ x∈r,x < n)∧r.length≤6
  tl:ts.length=n
  te:∀ t∈ts,t≠[]∧t.length≤4096∧∀ r∈t,r≠[]∧r.length≤4∧∀ w∈r,0≤w∧w < 10 ^ 60
abbrev tbD (t:List (List Int)):PyData:=.list (t.map il)
abbrev bkD (ss:List Nat) (cs:List (List Nat)) (ts:List (List (List Int))):PyData:=.tuple [nl ss,nls cs,.list (ts.map tbD)]
abbrev stS (hs:List Nat) (k:Nat):Str:=if k∈hs then "*" else ""
abbrev rwS (r:List Int):Str:=Str.join " " (r.map tS)
def lineS (zs:List Str) (ss:List Nat) (cs:List (List Nat)) (ts:List (List (List Int))) (hs:List Nat) (k:Nat):Str:=Str.join " " ([zs.getD k "" ++ stS hs k,tS (ss.getD k 0:Nat)] ++ (cs.getD k []).map (fun c=>zs.getD c "") ++ [(":" : Str),Str.join " / " ((ts.getD k []).map rwS)])
theorem Bk.row {n:Nat} {zs:List Str} {ss:List Nat} {cs:List (List Nat)} {ts:List (List (List Int))} (b:Bk n zs ss cs ts) {k:Nat} (hk:k < n):(∀ x∈cs.getD k [],x < n)∧(cs.getD k []).length≤6:=b.ce _ (List.mem_of_getElem? (getD_some (d:=[]) (show k < cs.length by rw [b.cl]; exact hk)))
theorem Bk.tab {n:Nat} {zs:List Str} {ss:List Nat} {cs:List (List Nat)} {ts:List (List (List Int))} (b:Bk n zs ss cs ts) {k:Nat} (hk:k < n):ts.getD k []≠[]∧(ts.getD k []).length≤4096∧∀ r∈ts.getD k [],r≠[]∧r.length≤4∧∀ w∈r,0≤w∧w < 10 ^ 60:=b.te _ (List.mem_of_getElem? (getD_some (d:=[]) (show k < ts.length by rw [b.tl]; exact hk)))
theorem Bk.nm {n:Nat} {zs:List Str} {ss:List Nat} {cs:List (List Nat)} {ts:List (List (List Int))} (b:Bk n zs ss cs ts) {k:Nat} (hk:k < n):(zs.getD k "").length≤20:=b.zb _ (List.mem_of_getElem? (getD_some (d:=("" : Str)) (show k < zs.length by rw [b.zl]; exact hk)))
theorem Bk.sz {n:Nat} {zs:List Str} {ss:List Nat} {cs:List (List Nat)} {ts:List (List (List Int))} (b:Bk n zs ss cs ts) {k:Nat} (hk:k < n):2≤ss.getD k 0∧ss.getD k 0≤4:=b.sb _ (List.mem_of_getElem? (getD_some (d:=0) (show k < ss.length by rw [b.sl]; exact hk)))
theorem star_len (hs:List Nat) (k:Nat):(stS hs k).length≤1:=by
  unfold stS
  split <;> decide
theorem row_len {r:List Int} (h4:r.length≤4) (hw:∀ w∈r,0≤w∧w < 10 ^ 60):(rwS r).length≤244∧JoinOk " " (r.map tS)=true:=by
  have h:∀ y∈r.map tS,y.length≤60:=fun y hy=>by
    obtain ⟨w,hm,rfl⟩:=List.mem_map.mp hy
    exact tS_len (hw w hm).1 (hw w hm).2
  have e1:(" " : Str).length=1:=by decide
  have h1:=join_len (sep := " ") _ h
  refine ⟨?_,join_ok 60 h (by rw [List.length_map,e1]; omega)⟩
  rw [List.length_map,e1] at h1
  show (Str.join " " (r.map tS)).length≤244
  omega
theorem tab_len {t:List (List Int)} (hl:t.length≤4096) (ht:∀ r∈t,r≠[]∧r.length≤4∧∀ w∈r,0≤w∧w < 10 ^ 60):(Str.join " / " (t.map rwS)).length≤1100000∧JoinOk " / " (t.map rwS)=true:=by
  have h:∀ y∈t.map rwS,y.length≤244:=fun y hy=>by
    obtain ⟨r,hm,rfl⟩:=List.mem_map.mp hy
    exact (row_len (ht r hm).2.1 (ht r hm).2.2).1
  have e1:(" / " : Str).length=3:=by decide
  have h1:=join_len (sep := " / ") _ h
  refine ⟨?_,join_ok 244 h (by rw [List.length_map,e1]; omega)⟩
  rw [List.length_map,e1] at h1
  omega
theorem parts_len {n:Nat} {zs:List Str} {ss:List Nat} {cs:List (List Nat)} {ts:List (List (List Int))} (b:Bk n zs ss cs ts) (hs:List Nat) {k:Nat} (hk:k < n):(lineS zs ss cs ts hs k).length≤1200000∧JoinOk " " ([zs.getD k "" ++ stS hs k,tS (ss.getD k 0:Nat)] ++ (cs.getD k []).map (fun c=>zs.getD c "") ++ [(":" : Str),Str.join " / " ((ts.getD k []).map rwS)])=true:=by
  have e1:(" " : Str).length=1:=by decide
  have e2:(":" : Str).length=1:=by decide
  obtain ⟨c1,c2⟩:=b.row hk
  obtain ⟨t1,t2,t3⟩:=b.tab hk
  have tl:=tab_len t2 t3
  have s1:=(b.sz hk).2
  have sl:(tS (ss.getD k 0:Nat)).length≤60:=tS_len (by omega) (Int.lt_of_le_of_lt (show ((ss.getD k 0:Nat):Int)≤4 by omega) (by decide))
  have fl:(zs.getD k "" ++ stS hs k).length≤60:=by
    rw [Str.length_append]
    have:=b.nm hk
    have:=star_len hs k
    omega
  have ml:∀ y∈(cs.getD k []).map (fun c=>zs.getD c ""),y.length≤60:=fun y hy=>by
    obtain ⟨c,hc,rfl⟩:=List.mem_map.mp hy
    exact Nat.le_trans (b.nm (c1 c hc)) (by decide)
  have all:∀ y∈[zs.getD k "" ++ stS hs k,tS (ss.getD k 0:Nat)] ++ (cs.getD k []).map (fun c=>zs.getD c "") ++ [(":" : Str),Str.join " / " ((ts.getD k []).map rwS)],y.length≤1100000:=fun y hy=>by
    rcases List.mem_append.mp hy with hy | hy
    · rcases List.mem_append.mp hy with hy | hy
      · rcases List.mem_cons.mp hy with rfl | hy
        · omega
        · rw [List.mem_singleton.mp hy]; omega
      · have:=ml y hy; omega
    · rcases List.mem_cons.mp hy with rfl | hy
      · omega
      · rw [List.mem_singleton.mp hy]; exact tl.1
  have ll:([zs.getD k "" ++ stS hs k,tS (ss.getD k 0:Nat)] ++ (cs.getD k []).map (fun c=>zs.getD c "") ++ [(":" : Str),Str.join " / " ((ts.getD k []).map rwS)]).length≤10:=by
    rw [List.length_append,List.length_append,List.length_map]
    show 2 + _ + 2≤10
    omega
  refine ⟨?_,join_ok 1100000 all (by rw [e1]; omega)⟩
  unfold lineS
  rw [show [zs.getD k "" ++ stS hs k,tS (ss.getD k 0:Nat)] ++ (cs.getD k []).map (fun c=>zs.getD c "") ++ [(":" : Str),Str.join " / " ((ts.getD k []).map rwS)]=(zs.getD k "" ++ stS hs k) :: (tS (ss.getD k 0:Nat) :: (cs.getD k []).map (fun c=>zs.getD c "") ++ [(":" : Str)] ++ [Str.join " / " ((ts.getD k []).map rwS)]) by simp]
  rw [join_snoc]
  have h1:=join_len (sep := " ") (B:=60) ((zs.getD k "" ++ stS hs k) :: (tS (ss.getD k 0:Nat) :: (cs.getD k []).map (fun c=>zs.getD c "") ++ [(":" : Str)])) fun y hy=>by
    rcases List.mem_cons.mp hy with rfl | hy
    · exact fl
    · rcases List.mem_append.mp hy with hy | hy
      · rcases List.mem_cons.mp hy with rfl | hy
        · exact sl
        · exact ml y hy
      · rw [List.mem_singleton.mp hy]; omega
  have l1:((zs.getD k "" ++ stS hs k) :: (tS (ss.getD k 0:Nat) :: (cs.getD k []).map (fun c=>zs.getD c "") ++ [(":" : Str)])).length≤9:=by
    rw [List.length_cons,List.length_append,List.length_cons,List.length_map]
    show _ + 1 + 1 + 1≤9
    omega
  rw [Str.length_append,Str.length_append,e1]
  rw [e1] at h1
  have:=Nat.mul_le_mul_right (60 + 1) l1
  omega
def pre_picked (ds:List PyData) (d:PyData):Prop:=∃ (vs:List PyData) (ks:List Nat),ds=[.list vs,nl ks]∧(∀ d∈vs,imm d=true)∧(∀ k∈ks,k < vs.length)∧ks.length≤63∧d=.list (ks.map fun k=>vs.getD k .none)
theorem len_picked (ds:List PyData) (d:PyData) (h:pre_picked ds d):ds.length=2:=by obtain ⟨a,b,rfl,_⟩:=h; rfl
def pkF (vs:List PyData):PyData→PyData
  | .int k=>vs.getD k.toNat .none
  | _=>.none
theorem sc_picked:FnScope ["values", "things"] ["values", "things"] (defScope (top 1)):=⟨rfl,rfl,rfl,by decide +kernel,rfl,by decide +kernel,by decide +kernel⟩
theorem ok_picked (F:Fun K "picked" "picked" (top 1) f fd) (B:Bs mg)  : FnOk P w K mg base CX0 1 f fd ["values", "things"] (spD K true pre_picked):=by
  have sc:=sc_picked
  refine F.ok sc (fun vs H Q E h=>spD_len len_picked h) (fun cdv A outer s H vs Q E hr h=>?_)
  obtain ⟨Fh,ds,d,le,dp,p,q⟩:=h
  refine ⟨_,(pss_one (ps_ret (pe_comp rfl (N:=["k", "values"]) (js:=[none,some 0]) (by walk_at"comp_ok") (pi_listK (K:=K) rfl (pv 1)) (fun _ _ _ _=>(pg_name (i:=0) (show List.Nodup (["k", "values"]:List PySem.Str) by decide +kernel) rfl (Or.inl rfl))) (fun _ _ _ _=>pif_nil) (fun _ _ _ _=>(pe_ix (ix_listK (K:=K) rfl) (pv 1) (pv 0) (fun _ _=>rfl)))))),?_⟩
  have hN:(["values", "things"]:List Str).length=2:=rfl
  obtain ⟨vs',ks,rfl,him,hk,hl,rfl⟩:=p
  walk_at"run"
  refine ex_ret true (EvO.toE (EvO.eq (evo_map (is:=[0]) false (pkF vs') (ei_list (by walk_at"ev")) (by walk_at"cc") rfl (by decide) ?_ ?_) ?_)) rfl (.inl ⟨rfl,rfl⟩)
  · rw [List.length_map]
    have:=line_big
    omega
  · intro d hd
    obtain ⟨k,hk',rfl⟩:=List.mem_map.mp hd
    have hkl:=hk k hk'
    refine egn (by walk_at"sc") ?_
    have at1:atI vs' (k:Int)=some (pkF vs' (.int k)):=atI_nat (by
      show _=some (vs'.getD (Int.toNat (k:Int)) .none)
      rw [Int.toNat_natCast,List.getD_eq_getElem?_getD,List.getElem?_eq_getElem hkl]
      rfl)
    exact ev_ixL ((EvE.toL (κ:=false) (by walk_at"ev")).imm him) (by walk_at"ev") at1
  · rw [List.map_map]
    rfl
theorem pk_strs (zs:List Str) (ks:List Nat) (h:∀ k∈ks,k < zs.length):(ks.map fun k=>(zs.map PyData.str).getD k .none)=(ks.map fun c=>zs.getD c "").map .str:=by
  rw [List.map_map]
  refine List.map_congr_left fun k hk=>?_
  have:=h k hk
  rw [List.getD_eq_getElem?_getD,List.getElem?_map,List.getElem?_eq_getElem this]
  show PyData.str _=PyData.str (zs.getD k "")
  rw [List.getD_eq_getElem?_getD,List.getElem?_eq_getElem this]
  rfl
def pre_shown_line (ds:List PyData) (d:PyData):Prop:=∃ (n:Nat) (zs:List Str) (ss:List Nat) (cs:List (List Nat)) (ts:List (List (List Int))) (hs:List Nat) (k:Nat),ds=[stL zs,bkD ss cs ts,nl hs,.int (k:Int)]∧Bk n zs ss cs ts∧k < n∧d=.str (lineS zs ss cs ts hs k)
theorem len_shown_line (ds:List PyData) (d:PyData) (h:pre_shown_line ds d):ds.length=4:=by obtain ⟨a,b,c,e,f,g,i,rfl,_⟩:=h; rfl
theorem big_line:16777216≤sizeLine:=by decide
theorem at_strs {zs:List Str} {k:Nat} (h:k < zs.length):atI (zs.map PyData.str) (k:Int)=some (.str (zs.getD k "")):=atI_map (getD_some (d:=("" : Str)) h)
theorem at_tabs {ts:List (List (List Int))} {k:Nat} (h:k < ts.length):atI (ts.map tbD) (k:Int)=some (tbD (ts.getD k [])):=atI_map (getD_some (d:=[]) h)
theorem at_ns {ss:List Nat} {k:Nat} (h:k < ss.length):atI (ss.map fun k:Nat=>PyData.int (k:Int)) (k:Int)=some (.int (ss.getD k 0:Nat)):=atI_map (g:=fun k:Nat=>PyData.int (k:Int)) (getD_some (d:=0) h)
theorem at_nls {cs:List (List Nat)} {k:Nat} (h:k < cs.length):atI (cs.map nl) (k:Int)=some (nl (cs.getD k [])):=atI_map (getD_some (d:=[]) h)
theorem sc_shown_line:FnScope ["names", "book", "hidden", "k", "star", "first", "rows"] ["names", "book", "hidden", "k"] (defScope (top 4)):=⟨rfl,rfl,rfl,by decide +kernel,rfl,by decide +kernel,by decide +kernel⟩
theorem ok_shown_line (F:Fun K "shown_line" "shown_line" (top 4) f fd) (B:Bs mg) (c_picked:Callee P w K mg base CX0 "picked" ["values", "things"] 1 (spD K true pre_picked)):FnOk P w K mg base CX0 2 f fd ["names", "book", "hidden", "k"] (spD K true pre_shown_line):=by
  have sc:=sc_shown_line
  refine F.ok sc (fun vs H Q E h=>spD_len len_shown_line h) (fun cdv A outer s H vs Q E hr h=>?_)
  obtain ⟨Fh,ds,d,le,dp,p,q⟩:=h
  refine ⟨_,(pss_cons (ps_set (i:=4) sc.nd rfl (Or.inl rfl) (pe_ifExp (pt_cmpR (op_in_seqK (K:=K) rfl) (pv 3) (pv 2) (rfl)) pe_str pe_str))
      (pss_cons (ps_set (i:=5) sc.nd rfl (Or.inl rfl) (pe_op op_addS (pe_ix (ix_listK (K:=K) rfl) (pv 0) (pv 3) (fun _ _=>rfl)) (pv 4)))
      (pss_cons (ps_setComp (i:=6) rfl sc.nd rfl rfl (N:=["row"]) (js:=[none]) (by walk_at"comp_ok") (pi_listK (K:=K) rfl (pe_ix (ix_listK (K:=K) rfl) (pe_ix (ix_tupK (K:=K) rfl) (pv 1) pe_int (fun _ _=>rfl)) (pv 3) (fun _ _=>rfl))) (fun _ _ _ _=>(pg_name (i:=0) (show List.Nodup (["row"]:List PySem.Str) by decide +kernel) rfl (Or.inl rfl))) (fun _ _ _ _=>pif_nil) (fun _ _ _ _=>(pe_bmK (K:=K) rfl PySem.F.plainAttrs_str PySem.F.slot_str_join PySem.F.type_str_join (mt_joinK (K:=K) rfl) pe_str (pa_cons (pe_comp rfl (N:=["weight"]) (js:=[none]) (by walk_at"comp_ok") (pi_listK (K:=K) rfl (pv 0)) (fun _ _ _ _=>(pg_name (i:=0) (show List.Nodup (["weight"]:List PySem.Str) by decide +kernel) rfl (Or.inl rfl))) (fun _ _ _ _=>pif_nil) (fun _ _ _ _=>(pe_callTy call_str_int rfl B.str (by decide +kernel) (pa_cons (pv 0) pa_nil)))) pa_nil))))
      (pss_one (ps_ret (pe_bmK (K:=K) rfl PySem.F.plainAttrs_str PySem.F.slot_str_join PySem.F.type_str_join (mt_joinK (K:=K) rfl) pe_str (pa_cons (pe_op (op_catSK (K:=K) rfl) (pe_op (op_catSK (K:=K) rfl) (pe_lst (pa_cons (pv 5) (pa_cons (pe_callTy call_str_int rfl B.str (by decide +kernel) (pa_cons (pe_ix (ix_listK (K:=K) rfl) (pe_ix (ix_tupK (K:=K) rfl) (pv 1) pe_int (fun _ _=>rfl)) (pv 3) (fun _ _=>rfl)) pa_nil)) pa_nil))) (pe_fn c_picked (hr.mono (by decide)) rfl pass0 (pa_cons (pv 0) (pa_cons (pe_ix (ix_listK (K:=K) rfl) (pe_ix (ix_tupK (K:=K) rfl) (pv 1) pe_int (fun _ _=>rfl)) (pv 3) (fun _ _=>rfl)) pa_nil)))) (pe_lst (pa_cons pe_str (pa_cons (pe_bmK (K:=K) rfl PySem.F.plainAttrs_str PySem.F.slot_str_join PySem.F.type_str_join (mt_joinK (K:=K) rfl) pe_str (pa_cons (pv 6) pa_nil)) pa_nil)))) pa_nil))))))),?_⟩
  have hN:(["names", "book", "hidden", "k", "star", "first", "rows"]:List Str).length=7:=rfl
  obtain ⟨n,zs,ss,cs,ts,hs,k,rfl,b,kn,rfl⟩:=p
  have big:=line_big
  have big2:=big_line
  obtain ⟨c1,c2⟩:=b.row kn
  obtain ⟨t1,t2,t3⟩:=b.tab kn
  have zl:=b.zl
  have nk:=b.nm kn
  have sk:=star_len hs k
  walk_at"run"
  refine exs true (d:=.str (stS hs k)) (ev_ifE (b:=decide (k∈hs)) (in_zl (by walk_at"ev") (by walk_at"ev")) (fun h=>by rw [show stS hs k = "*" from if_pos (of_decide_eq_true h)]; walk_at"ev") fun h=>by rw [show stS hs k = "" from if_neg (of_decide_eq_false h)]; walk_at"ev") (by walk_at"sc") ?_
  refine exs true (d:=.str (zs.getD k "" ++ stS hs k)) (ev_addS (EvE.imm (κ:=false) (ev_ixL (ds:=zs.map .str) (by walk_at"ev") (by walk_at"ev") (at_strs (by rw [zl]; exact kn))) rfl) (by walk_at"ev") (by omega)) (by walk_at"sc") ?_
  refine exs true (d:=stL ((ts.getD k []).map rwS)) (EvO.toE (EvO.eq (evo_each (κ:=true) (is:=[0]) (xs:=ts.getD k []) false il (fun r=>.str (rwS r)) (fun x _ y _ h=>by rw [il_inj h]) (ei_list (ev_ixL (κ:=false) (ds:=ts.map tbD) (EvE.toL (ev_ixT (ds:=[nl ss,nls cs,.list (ts.map tbD)]) (by walk_at"ev") (by walk_at"ev") atI2)) (by walk_at"ev") (at_tabs (by rw [b.tl]; exact kn)))) (by walk_at"cc") rfl (by decide) (by omega) fun r hr=>egn (by walk_at"sc") (ev_join (zs:=r.map tS) (EvO.toL (EvO.eq (evo_each (κ:=false) (is:=[0]) (xs:=r) false .int (fun w=>.str (tS w)) (fun x _ y _ h=>by cases h; rfl) (ei_list (by walk_at"ev")) (by walk_at"cc") rfl (by decide) (by have:=(t3 r hr).2.1; omega) fun w hw=>egn (by walk_at"sc") (ev_strI (by walk_at"ev") (log_lt60 ((t3 r hr).2.2 w hw).1 ((t3 r hr).2.2 w hw).2))) (by rw [List.map_map]; rfl))) (row_len (t3 r hr).2.1 (t3 r hr).2.2).2)) (by rw [List.map_map]; rfl))) (by walk_at"sc") ?_
  have hp:pre_picked [stL zs,nl (cs.getD k [])] (stL ((cs.getD k []).map fun c=>zs.getD c "")):=⟨zs.map .str,cs.getD k [],rfl,fun d hd=>by obtain ⟨z,_,rfl⟩:=List.mem_map.mp hd; rfl,fun c hc=>by rw [List.length_map,zl]; exact c1 c hc,by omega,congrArg PyData.list (pk_strs zs _ fun c hc=>by rw [zl]; exact c1 c hc).symm⟩
  refine ex_ret true (EvE.eq (ev_join (zs:=[zs.getD k "" ++ stS hs k,tS (ss.getD k 0:Nat)] ++ (cs.getD k []).map (fun c=>zs.getD c "") ++ [(":" : Str),Str.join " / " ((ts.getD k []).map rwS)]) (EvO.toL (EvO.eq (evo_cat (xs:=[.str (zs.getD k "" ++ stS hs k),.str (tS (ss.getD k 0:Nat))] ++ ((cs.getD k []).map fun c=>zs.getD c "").map .str) (ys:=[.str ":", .str (Str.join " / " ((ts.getD k []).map rwS))]) (EvO.toL (evo_cat (xs:=[.str (zs.getD k "" ++ stS hs k),.str (tS (ss.getD k 0:Nat))]) (ys:=((cs.getD k []).map fun c=>zs.getD c "").map .str) (EvO.toL (evo_lst (ds:=[.str (zs.getD k "" ++ stS hs k),.str (tS (ss.getD k 0:Nat))]) (ea_cons (by walk_at"ev") (ea_cons (ev_strI (EvE.imm (κ:=false) (ev_ixL (ds:=ss.map fun k:Nat=>PyData.int (k:Int)) (EvE.toL (ev_ixT (ds:=[nl ss,nls cs,.list (ts.map tbD)]) (by walk_at"ev") (by walk_at"ev") atI0)) (by walk_at"ev") (at_ns (by rw [b.sl]; exact kn))) rfl) (log_lt60 (by omega) (Int.lt_of_le_of_lt (show ((ss.getD k 0:Nat):Int)≤4 by have:=(b.sz kn).2; omega) (by decide)))) ea_nil)) (by show 2≤sizeLine; omega))) (EvE.toL (ev_callF (ea_cons (by walk_at"ev") (ea_cons (ev_ixL (κ:=false) (ds:=cs.map nl) (EvE.toL (ev_ixT (ds:=[nl ss,nls cs,.list (ts.map tbD)]) (by walk_at"ev") (by walk_at"ev") atI1)) (by walk_at"ev") (at_nls (by rw [b.cl]; exact kn))) ea_nil)) hp)) (by rw [List.length_map,List.length_map]; show 2 + _≤sizeLine; omega))) (EvO.toL (evo_lst (ds:=[.str ":", .str (Str.join " / " ((ts.getD k []).map rwS))]) (ea_cons (by walk_at"ev") (ea_cons (ev_join (zs:=(ts.getD k []).map rwS) (EvE.toL (by walk_at"ev")) (tab_len t2 t3).2) ea_nil)) (by show 2≤sizeLine; omega))) (by rw [List.length_append,List.length_map,List.length_map]; show 2 + _ + 2≤sizeLine; omega)) (by rw [List.map_append,List.map_append]; rfl))) (parts_len b hs kn).2) rfl) rfl (.inl ⟨rfl,rfl⟩)
def shownS (n:Nat) (zs:List Str) (ss:List Nat) (cs:List (List Nat)) (ts:List (List (List Int))) (hs:List Nat):Str:=Str.join "\n" ((List.range n).map (lineS zs ss cs ts hs))
def pre_shown (ds:List PyData) (d:PyData):Prop:=∃ (n:Nat) (zs:List Str) (ss:List Nat) (cs:List (List Nat)) (ts:List (List (List Int))) (hs:List Nat),ds=[stL zs,bkD ss cs ts,nl hs]∧Bk n zs ss cs ts∧d=.str (shownS n zs ss cs ts hs)
theorem len_shown (ds:List PyData) (d:PyData) (h:pre_shown ds d):ds.length=3:=by obtain ⟨a,b,c,e,f,g,rfl,_⟩:=h; rfl
theorem shown_len {n:Nat} {zs:List Str} {ss:List Nat} {cs:List (List Nat)} {ts:List (List (List Int))} (b:Bk n zs ss cs ts) (hs:List Nat):JoinOk "\n" ((List.range n).map (lineS zs ss cs ts hs))=true:=by
  have e1:("\n" : Str).length=1:=by decide
  have:=b.n7
  refine join_ok 1200000 (fun y hy=>?_) (by rw [List.length_map,List.length_range,e1]; omega)
  obtain ⟨k,hk,rfl⟩:=List.mem_map.mp hy
  exact (parts_len b hs (List.mem_range.mp hk)).1
theorem sc_shown:FnScope ["names", "book", "hidden"] ["names", "book", "hidden"] (defScope (top 3)):=⟨rfl,rfl,rfl,by decide +kernel,rfl,by decide +kernel,by decide +kernel⟩
theorem ok_shown (F:Fun K "shown" "shown" (top 3) f fd) (B:Bs mg) (c_shown_line:Callee P w K mg base CX0 "shown_line" ["names", "book", "hidden", "k"] 2 (spD K true pre_shown_line)):FnOk P w K mg base CX0 3 f fd ["names", "book", "hidden"] (spD K true pre_shown):=by
  have sc:=sc_shown
  refine F.ok sc (fun vs H Q E h=>spD_len len_shown h) (fun cdv A outer s H vs Q E hr h=>?_)
  obtain ⟨Fh,ds,d,le,dp,p,q⟩:=h
  refine ⟨_,(pss_one (ps_ret (pe_bmK (K:=K) rfl PySem.F.plainAttrs_str PySem.F.slot_str_join PySem.F.type_str_join (mt_joinK (K:=K) rfl) pe_str (pa_cons (pe_comp rfl (N:=["k", "names", "book", "hidden"]) (js:=[none,some 0,some 1,some 2]) (by walk_at"comp_ok") (pi_range1 rfl B.range (pa_cons (pe_callB (call_len_seqK (K:=K) rfl) rfl B.len (by decide +kernel) (pa_cons (pv 0) pa_nil)) pa_nil)) (fun _ _ _ _=>(pg_name (i:=0) (show List.Nodup (["k", "names", "book", "hidden"]:List PySem.Str) by decide +kernel) rfl (Or.inl rfl))) (fun _ _ _ _=>pif_nil) (fun _ _ _ _=>(pe_fn c_shown_line (hr.mono (by decide)) rfl pass0 (pa_cons (pv 1) (pa_cons (pv 2) (pa_cons (pv 3) (pa_cons (pv 0) pa_nil))))))) pa_nil)))),?_⟩
  have hN:(["names", "book", "hidden"]:List Str).length=3:=rfl
  obtain ⟨n,zs,ss,cs,ts,hs,rfl,b,rfl⟩:=p
  have big:=line_big
  have n7:=b.n7
  have el:PyData.int (((zs.map PyData.str).length:Nat):Int)=.int (n:Int):=by rw [List.length_map,b.zl]
  walk_at"run"
  exact ex_ret true (ev_join (zs:=(List.range n).map (lineS zs ss cs ts hs)) (EvO.toL (EvO.eq (evo_rng (κ:=false) (is:=[0]) (n:=n) (fun k=>.str (lineS zs ss cs ts hs k)) (ea_cons (EvE.eq (ev_len (ds:=zs.map .str) (by walk_at"ev")) el) ea_nil) (by omega) (by walk_at"cc") rfl (by decide) fun k hk=>egn (by walk_at"sc") (ev_callF (by walk_at"ev") ⟨n,zs,ss,cs,ts,hs,k,rfl,b,hk,rfl⟩)) (by rw [List.map_map]; rfl))) (shown_len b hs)) rfl (.inl ⟨rfl,rfl⟩)
theorem pick_mod (u:Int) {n:Nat} (h:0 < n):∃ m:Nat,u % (n:Int)=(m:Int)∧m < n:=⟨(u % (n:Int)).toNat,by
  have p0:=Int.emod_nonneg u (show (n:Int)≠0 by omega)
  have p1:=Int.emod_lt_of_pos u (show (0:Int) < n by omega)
  omega⟩
structure CO (n c:Nat) (css:List (List Nat)):Prop where
  l:css.length=n
  e:∀ r∈css,(∀ x∈r,x < n)∧r.length≤c
def addAt (kin:List (List Nat)) (o x:Nat):List (List Nat):=kin.set o (kin.getD o [] ++ [x])
theorem CO.at {n c:Nat} {css:List (List Nat)} (h:CO n c css) {o:Nat} (ho:o < n):(∀ x∈css.getD o [],x < n)∧(css.getD o []).length≤c:=h.e _ (List.mem_of_getElem? (getD_some (d:=[]) (show o < css.length by rw [h.l]; exact ho)))
theorem CO.up {n c c':Nat} {css:List (List Nat)} (h:CO n c css) (hc:c≤c'):CO n c' css:=⟨h.l,fun r hr=>⟨(h.e r hr).1,Nat.le_trans (h.e r hr).2 hc⟩⟩
theorem CO.add {n c:Nat} {css:List (List Nat)} (h:CO n c css) {o x:Nat} (ho:o < n) (hx:x < n):CO n (c + 1) (addAt css o x):=by
  unfold addAt
  refine ⟨by rw [List.length_set]; exact h.l,fun r hr=>?_⟩
  rcases List.mem_or_eq_of_mem_set hr with hr | hr
  · exact ⟨(h.e r hr).1,Nat.le_succ_of_le (h.e r hr).2⟩
  · have g:=h.at ho
    rw [hr]
    refine ⟨fun y hy=>?_,by rw [List.length_append]; exact Nat.succ_le_succ g.2⟩
    rcases List.mem_append.mp hy with hy | hy
    · exact g.1 y hy
    · rw [List.mem_singleton.mp hy]; exact hx
theorem CO.nil (n:Nat):CO n 0 (List.replicate n []):=⟨List.length_replicate ..,fun r hr=>by
  rw [List.eq_of_mem_replicate hr]
  exact ⟨fun _ z=>(nomatch z),Nat.le_refl _⟩⟩
theorem add_D (css:List (List Nat)) (o x:Nat):(css.map nl).set o (.list ((css.getD o []).map (fun k:Nat=>PyData.int (k:Int)) ++ [.int (x:Int)]))=(addAt css o x).map nl:=by
  unfold addAt
  rw [List.map_set]
  congr 1
  show _=PyData.list ((css.getD o [] ++ [x]).map fun k:Nat=>PyData.int (k:Int))
  rw [List.map_append]
  rfl
theorem exq_row {φ:V→Prop} {S S':Sx} {Γ Γ':PD.Ctx} {P:Post} {ti te:TE} {u:TS} {x o v:Nat} {css:List (List Nat)} (hg:GetC Γ x (trP φ (nls css))) (ho:o < css.length) (h1:EvE K S false ti Γ (.int (o:Int))) (he:EvE K S false te Γ (.int (v:Int))) (hz:(css.getD o []).length≤1000)
    (es:SetC Γ x (some (trP φ (nls (addAt css o v)))) Γ') (k:ExT K S S' u Γ' P):ExT K S S' (tSeq (tDrop (tBM K "list" rAppend (tOp (rIxL K) (tVar x) ti) (tCons te tNil))) u) Γ P:=by
  have big:=line_big
  refine exq_appE (es:=(css.getD o []).map fun k:Nat=>.int (k:Int)) hg (eq_ix (j:=o) (ds:=css.map nl) (eq_var hg) h1 (ixN_nat (by rw [List.length_map]; exact ho)) (by rw [List.getElem?_map,getD_some (d:=[]) ho]; rfl)) he rfl (by rw [List.length_map]; omega) ?_ es k
  show PyData.list _=.list _
  rw [add_D]
def cellF (ns:List Int) (k:Nat):Int:=((if k < ns.length then ns.getD k 0 % 2147483647 else 0) + 977 * (k:Int) + 12345) * 48271 % 2147483629
def pre_law_cell_at (ds:List PyData) (d:PyData):Prop:=∃ (ns:List Int) (k:Nat),ds=[il ns,.int (k:Int)]∧k≤100∧d=.int (cellF ns k)
theorem len_law_cell_at (ds:List PyData) (d:PyData) (h:pre_law_cell_at ds d):ds.length=2:=by obtain ⟨a,b,rfl,_⟩:=h; rfl
theorem sc_law_cell_at:FnScope ["_law_script", "_law_k", "_law_cell"] ["_law_script", "_law_k"] (defScope (top 6)):=⟨rfl,rfl,rfl,by decide +kernel,rfl,by decide +kernel,by decide +kernel⟩
theorem ok_law_cell_at (F:Fun K "_law_cell_at" "_law_cell_at" (top 6) f fd) (B:Bs mg)  : FnOk P w K mg base CX0 1 f fd ["_law_script", "_law_k"] (spD K true pre_law_cell_at):=by
  have sc:=sc_law_cell_at
  refine F.ok sc (fun vs H Q E h=>spD_len len_law_cell_at h) (fun cdv A outer s H vs Q E hr h=>?_)
  obtain ⟨Fh,ds,d,le,dp,p,q⟩:=h
  refine ⟨_,(pss_cons (ps_set (i:=2) sc.nd rfl (Or.inl rfl) pe_int)
      (pss_cons (ps_if (pt_cmpR op_lt (pv 1) (pe_callB (call_len_seqK (K:=K) rfl) rfl B.len (by decide +kernel) (pa_cons (pv 0) pa_nil)) (nomark _)) (pss_one (ps_set (i:=2) sc.nd rfl (Or.inl rfl) (pe_op op_mod (pe_ix (ix_listK (K:=K) rfl) (pv 0) (pv 1) (fun _ _=>rfl)) pe_int))) pss_nil)
      (pss_one (ps_ret (pe_op op_mod (pe_op op_mulB (pe_op op_add (pe_op op_add (pv 2) (pe_op op_mulB pe_int (pv 1))) pe_int) pe_int) pe_int))))),?_⟩
  have hN:(["_law_script", "_law_k", "_law_cell"]:List Str).length=3:=rfl
  obtain ⟨ns,k,rfl,k100,rfl⟩:=p
  have el:PyData.int (((ns.map PyData.int).length:Nat):Int)=.int (ns.length:Int):=by rw [List.length_map]
  walk_at"run"
  refine exs true (d:=.int 0) (by walk_at"ev") (by walk_at"sc") ?_
  refine exif (b:=decide ((k:Int) < (ns.length:Int))) (·=[some (.fz false (il ns)),some (.fz false (.int (k:Int))),some (.fz true (.int (if k < ns.length then ns.getD k 0 % 2147483647 else 0)))]) (et_test (ev_lt (by walk_at"ev") (EvE.eq (ev_len (ds:=ns.map .int) (by walk_at"ev")) el))) (fun h=>?_) (fun h=>?_) ?_
  · have hk:k < ns.length:=by have:=of_decide_eq_true h; omega
    rw [if_pos hk]
    refine exs1 true (d:=.int (ns.getD k 0 % 2147483647)) (ev_mod (EvE.imm (κ:=false) (ev_ixL (ds:=ns.map .int) (by walk_at"ev") (by walk_at"ev") (atI_map (getD_some (d:=0) hk))) rfl) (by walk_at"ev") (by decide)) (by walk_at"sc") ?_
    rfl
  · have hk:¬ k < ns.length:=by have:=of_decide_eq_false h; omega
    rw [if_neg hk]
    exact ex_next rfl
  rintro Γ0 rfl
  have m1:IntMulOk 977 (k:Int):=small_mul (by omega) (by omega)
  exact ex_ret true (d:=.int (cellF ns k)) (ev_mod (ev_mul (ev_add (ev_add (by walk_at"ev") (ev_mul (by walk_at"ev") (by walk_at"ev") m1)) (by walk_at"ev")) (by walk_at"ev") (small_mul (by decide) (by decide))) (by walk_at"ev") (by decide)) rfl (.inl ⟨rfl,rfl⟩)
def pre_law_stream (ds:List PyData) (G:PyData→Prop):Prop:=∃ (c:Int) (m:Nat),ds=[.int c,.int (m:Int)]∧m≤20000∧G=fun d=>∃ xs:List Int,xs.length=m∧(∀ x∈xs,0≤x∧x < 2147483647)∧d=il xs
theorem len_law_stream (ds:List PyData) (G:PyData→Prop) (h:pre_law_stream ds G):ds.length=2:=by obtain ⟨a,b,rfl,_⟩:=h; rfl
theorem cut_from {α:Type} (g:α→PyData) (xs:List α) (k:Nat):cutD (xs.map g) (some (k:Int)) none=(xs.drop k).map g:=by
  unfold cutD
  have e1:HT.sIx (xs.map g).length 0 (some (k:Int))=min k xs.length:=by
    simp [HT.sIx]
    omega
  have e2:HT.sIx (xs.map g).length (xs.map g).length none=xs.length:=by simp [HT.sIx]
  rw [e1,e2,← List.map_drop,← List.map_take]
  congr 1
  by_cases h:k≤xs.length
  · rw [Nat.min_eq_left h]
    exact List.take_of_length_le (by rw [List.length_drop]; omega)
  · rw [Nat.min_eq_right (by omega),List.drop_of_length_le (Nat.le_refl _),List.drop_of_length_le (by omega)]
    simp
theorem sc_law_stream:FnScope ["_law_cell", "_law_many", "_law_number", "_law_found", "_law_k"] ["_law_cell", "_law_many"] (defScope (top 7)):=⟨rfl,rfl,rfl,by decide +kernel,rfl,by decide +kernel,by decide +kernel⟩
theorem ok_law_stream (F:Fun K "_law_stream" "_law_stream" (top 7) f fd) (B:Bs mg)  : FnOk P w K mg base CX0 1 f fd ["_law_cell", "_law_many"] (spW K true pre_law_stream):=by
  have sc:=sc_law_stream
  refine F.ok sc (fun vs H Q E h=>spW_len len_law_stream h) (fun cdv A outer s H vs Q E hr h=>?_)
  obtain ⟨Fh,ds,G,le,dp,p,q⟩:=h
  refine ⟨_,(pss_cons (ps_set (i:=2) sc.nd rfl (Or.inl rfl) (pe_op op_mod (pv 0) pe_int))
      (pss_cons (ps_set (i:=3) sc.nd rfl (Or.inl rfl) (pe_lst pa_nil))
      (pss_cons (ps_for PassesOwn.never rfl (pi_range1 rfl B.range (pa_cons (pe_op op_add (pv 1) pe_int) pa_nil)) (pg_name (i:=4) sc.nd rfl (Or.inl rfl)) (pss_cons (ps_set (i:=2) sc.nd rfl (Or.inl rfl) (pe_op op_mod (pe_op op_add (pe_op op_add (pe_op op_add (pe_op op_mulB (pv 2) (pv 2)) (pe_op op_mulB pe_int (pv 2))) (pe_op op_mulB pe_int (pv 4))) pe_int) pe_int))
      (pss_one (ps_expr (pe_bmK (K:=K) rfl PySem.F.plainAttrs_list PySem.F.slot_list_append PySem.F.type_list_append mt_append (pv 3) (pa_cons (pe_op op_fdiv (pv 2) pe_int) pa_nil))))))
      (pss_one (ps_ret (pe_slice (sl_listK (K:=K) rfl) (pv 3) (po_some pe_int) po_none)))))),?_⟩
  have hN:(["_law_cell", "_law_many", "_law_number", "_law_found", "_law_k"]:List Str).length=5:=rfl
  obtain ⟨c,m,rfl,hm,rfl⟩:=p
  have big:=line_big
  refine run_defW le dp q hN (by walk_at"st") ?_
  refine exs true (d:=.int (c % 2147483647)) (by walk_at"ev") (by walk_at"sc") ?_
  refine exo true (ds:=([]:List Int).map .int) (evo_lst (ds:=[]) ea_nil (by decide)) (by walk_at"sc") ?_
  refine exfor (ds:=(List.range (m + 2)).map fun i:Nat=>.int (i:Int)) true (fun t Γ=>∃ (nu:Int) (xs:List Int) (b:Option DV),0≤nu∧nu < 2147483647∧xs.length=t∧(∀ x∈xs,0≤x∧x < 2147483647)∧Γ=[some (.fz false (.int c)),some (.fz false (.int (m:Int))),some (.fz true (.int nu)),some (.ow true (xs.map .int)),b]) (ei_rng1 (n:=((m + 2:Nat):Int)) (ea_cons (EvE.eq (ev_add (by walk_at"ev") (by walk_at"ev")) (by rw [Int.natCast_add]; rfl)) ea_nil) (by omega) (by omega)) ⟨c % 2147483647,[],none,Int.emod_nonneg _ (by decide),Int.emod_lt_of_pos _ (by decide),rfl,fun _ z=>(nomatch z),rfl⟩ ?_ ?_
  · rintro t d Γ' hd ⟨nu,xs,b,n0,n1,xl,xb,rfl⟩
    obtain ⟨ht,rfl⟩:=range_get hd
    refine ⟨_,egn (by walk_at"sc") ?_⟩
    have m1:IntMulOk nu nu:=small_mul (by omega) (by omega)
    have m2:IntMulOk 69621 nu:=small_mul (by omega) (by omega)
    have m3:IntMulOk 3 (t:Int):=small_mul (by omega) (by omega)
    refine exs true (d:=.int ((nu * nu + 69621 * nu + 3 * (t:Int) + 7) % 2147483629)) (ev_mod (ev_add (ev_add (ev_add (ev_mul (by walk_at"ev") (by walk_at"ev") m1) (ev_mul (by walk_at"ev") (by walk_at"ev") m2)) (ev_mul (by walk_at"ev") (by walk_at"ev") m3)) (by walk_at"ev")) (by walk_at"ev") (by decide)) (by walk_at"sc") ?_
    have q0:=Int.emod_nonneg (nu * nu + 69621 * nu + 3 * (t:Int) + 7) (show (2147483629:Int)≠0 by decide)
    have q1:=Int.emod_lt_of_pos (nu * nu + 69621 * nu + 3 * (t:Int) + 7) (show (0:Int) < 2147483629 by decide)
    generalize (nu * nu + 69621 * nu + 3 * (t:Int) + 7) % 2147483629=q at q0 q1
    refine exa1 (d:=.int (q / 11)) (by walk_at"gc") (ev_fdiv (by walk_at"ev") (by walk_at"ev") ⟨by decide,by decide⟩) (by walk_at"sc") (by rw [List.length_map]; omega) ?_
    refine ⟨q,xs ++ [q / 11],some (.fz true (.int (t:Int))),q0,by omega,by rw [List.length_append,xl]; rfl,fun x hx=>?_,by rw [List.map_append]; rfl⟩
    rcases List.mem_append.mp hx with hx | hx
    · exact xb x hx
    · rw [List.mem_singleton.mp hx]
      omega
  · rintro Γ' ⟨nu,xs,b,n0,n1,xl,xb,rfl⟩
    rw [range_len] at xl
    refine exfz 3 (by walk_at"gc") (by walk_at"sc") ?_
    exact ex_ret true (d:=il (xs.drop 2)) (EvO.toE (EvO.eq (evo_slice (lo:=some ((2:Nat):Int)) (hi:=none) (ds:=xs.map .int) (by walk_at"ev") (ep_some (show EvE K .fresh false _ _ (.int 2) by walk_at"ev")) (by walk_at"ev")) (cut_from _ xs 2))) ⟨xs.drop 2,by rw [List.length_drop]; omega,fun x hx=>xb x (List.mem_of_mem_drop hx),rfl⟩ (.inl ⟨rfl,rfl⟩)
def pre_law_numbers (ds:List PyData) (G:PyData→Prop):Prop:=∃ xs:List Int,ds=[il xs]∧xs.length≤12∧G=fun d=>∃ p:List Nat,p.Perm (List.range xs.length)∧d=nl p
theorem len_law_numbers (ds:List PyData) (G:PyData→Prop) (h:pre_law_numbers ds G):ds.length=1:=by obtain ⟨a,rfl,_⟩:=h; rfl
theorem sc_law_numbers:FnScope ["_law_row", "_law_found", "_law_k"] ["_law_row"] (defScope (top 8)):=⟨rfl,rfl,rfl,by decide +kernel,rfl,by decide +kernel,by decide +kernel⟩
theorem ok_law_numbers (F:Fun K "_law_numbers" "_law_numbers" (top 8) f fd) (B:Bs mg)  : FnOk P w K mg base CX0 1 f fd ["_law_row"] (spW K true pre_law_numbers):=by
  have sc:=sc_law_numbers
  refine F.ok sc (fun vs H Q E h=>spW_len len_law_numbers h) (fun cdv A outer s H vs Q E hr h=>?_)
  obtain ⟨Fh,ds,G,le,dp,p,q⟩:=h
  refine ⟨_,(pss_cons (ps_set (i:=1) sc.nd rfl (Or.inl rfl) (pe_lst pa_nil))
      (pss_cons (ps_for PassesOwn.never rfl (pi_range1 rfl B.range (pa_cons (pe_callB (call_len_seqK (K:=K) rfl) rfl B.len (by decide +kernel) (pa_cons (pv 0) pa_nil)) pa_nil)) (pg_name (i:=2) sc.nd rfl (Or.inl rfl)) (pss_one (ps_expr (pe_bmK (K:=K) rfl PySem.F.plainAttrs_list PySem.F.slot_list_insert PySem.F.type_list_insert mt_insert (pv 1) (pa_cons (pe_op op_mod (pe_ix (ix_listK (K:=K) rfl) (pv 0) (pv 2) (fun _ _=>rfl)) (pe_op op_add (pv 2) pe_int)) (pa_cons (pv 2) pa_nil))))))
      (pss_one (ps_ret (pv 1))))),?_⟩
  have hN:(["_law_row", "_law_found", "_law_k"]:List Str).length=3:=rfl
  obtain ⟨xs,rfl,xl,rfl⟩:=p
  have big:=line_big
  have el:PyData.int (((xs.map PyData.int).length:Nat):Int)=.int (xs.length:Int):=by rw [List.length_map]
  refine run_defW le dp q hN (by walk_at"st") ?_
  refine exo true (ds:=([]:List Nat).map fun k:Nat=>.int (k:Int)) (evo_lst (ds:=[]) ea_nil (by decide)) (by walk_at"sc") ?_
  refine exfor (ds:=(List.range xs.length).map fun i:Nat=>.int (i:Int)) true (fun t Γ=>∃ (p:List Nat) (b:Option DV),p.Perm (List.range t)∧Γ=[some (.fz false (il xs)),some (.ow true (p.map fun k:Nat=>.int (k:Int))),b]) (ei_rng1 (n:=(xs.length:Int)) (ea_cons (EvE.eq (ev_len (ds:=xs.map .int) (by walk_at"ev")) el) ea_nil) (by omega) (by omega)) ⟨[],none,.refl _,rfl⟩ ?_ ?_
  · rintro t d Γ' hd ⟨p,b,pm,rfl⟩
    obtain ⟨ht,rfl⟩:=range_get hd
    have pl:p.length=t:=by rw [pm.length_eq,List.length_range]
    refine ⟨_,egn (by walk_at"sc") ?_⟩
    obtain ⟨v,hv,vl⟩:=pick_mod (xs.getD t 0) (show 0 < t + 1 by omega)
    refine exin (m:=(v:Int)) (d:=.int (t:Int)) (by walk_at"gc") (EvE.eq (ev_mod (j:=(t:Int) + 1) (EvE.imm (κ:=false) (ev_ixL (ds:=xs.map .int) (by walk_at"ev") (by walk_at"ev") (atI_map (getD_some (d:=0) ht))) rfl) (by walk_at"ev") (by omega)) (congrArg PyData.int (by rw [← hv]; rfl))) (by walk_at"ev") (by omega) (by rw [List.length_map]; omega) (by rw [List.length_map]; omega) (by walk_at"sc") ?_
    refine ⟨p.take v ++ t :: p.drop v,some (.fz true (.int (t:Int))),?_,?_⟩
    · refine List.perm_middle.trans ?_
      rw [List.take_append_drop,List.range_succ]
      exact (pm.cons _).trans (List.perm_append_singleton _ _).symm
    · rw [List.map_append,List.map_cons,List.map_take,List.map_drop]
      rfl
  · rintro Γ' ⟨p,b,pm,rfl⟩
    rw [range_len] at pm
    exact exro (by walk_at"gc") ⟨p,pm,rfl⟩ (.inl ⟨rfl,rfl⟩)
def wgF (c x:Int):Int:=if x % 6=0 then 0 else if c % 4=0 then x / 6 % 10 else if c % 4=3 then (x + 3) ^ 8 % 10 ^ 60 else x / 6 % 100000
theorem wg_nn (c x:Int):0≤wgF c x∧wgF c x < 10 ^ 60:=by
  have t:(100000:Int)≤10 ^ 60:=by decide
  have t1:(0:Int) < 10 ^ 60:=by decide
  unfold wgF
  split
  · exact ⟨Int.le_refl _,t1⟩
  · split
    · exact ⟨Int.emod_nonneg _ (by decide),by omega⟩
    · split
      · exact ⟨Int.emod_nonneg _ (Int.ne_of_gt t1),Int.emod_lt_of_pos _ t1⟩
      · exact ⟨Int.emod_nonneg _ (by decide),by omega⟩
def pre_law_weight (ds:List PyData) (d:PyData):Prop:=∃ c x:Int,ds=[.int c,.int x]∧0≤x∧x < 2147483647∧d=.int (wgF c x)
theorem len_law_weight (ds:List PyData) (d:PyData) (h:pre_law_weight ds d):ds.length=2:=by obtain ⟨a,b,rfl,_⟩:=h; rfl
theorem sc_law_weight:FnScope ["_law_cell", "_law_number"] ["_law_cell", "_law_number"] (defScope (top 11)):=⟨rfl,rfl,rfl,by decide +kernel,rfl,by decide +kernel,by decide +kernel⟩
theorem ok_law_weight (F:Fun K "_law_weight" "_law_weight" (top 11) f fd) (B:Bs mg)  : FnOk P w K mg base CX0 1 f fd ["_law_cell", "_law_number"] (spD K true pre_law_weight):=by
  have sc:=sc_law_weight
  refine F.ok sc (fun vs H Q E h=>spD_len len_law_weight h) (fun cdv A outer s H vs Q E hr h=>?_)
  obtain ⟨Fh,ds,d,le,dp,p,q⟩:=h
  refine ⟨_,(pss_cons (ps_if (pt_cmpR op_eq (pe_op op_mod (pv 1) pe_int) pe_int (nomark _)) (pss_one (ps_ret pe_int)) pss_nil)
      (pss_cons (ps_if (pt_cmpR op_eq (pe_op op_mod (pv 0) pe_int) pe_int (nomark _)) (pss_one (ps_ret (pe_op op_mod (pe_op op_fdiv (pv 1) pe_int) pe_int))) pss_nil)
      (pss_cons (ps_if (pt_cmpR op_eq (pe_op op_mod (pv 0) pe_int) pe_int (nomark _)) (pss_one (ps_ret (pe_op op_mod (pe_op op_pow (pe_op op_add (pv 1) pe_int) pe_int) (pe_op op_pow pe_int pe_int)))) pss_nil)
      (pss_one (ps_ret (pe_op op_mod (pe_op op_fdiv (pv 1) pe_int) pe_int)))))),?_⟩
  have hN:(["_law_cell", "_law_number"]:List Str).length=2:=rfl
  obtain ⟨c,x,rfl,x0,x1,rfl⟩:=p
  walk_at"run"
  have e8:(8:Int).toNat=8:=by decide
  have e60:(60:Int).toNat=60:=by decide
  refine exif (b:=decide (x % 6=0)) (fun Γ=>x % 6≠0∧Γ=[some (.fz false (.int c)),some (.fz false (.int x))]) (et_test (ev_eqI (by walk_at"ev") (by walk_at"ev"))) (fun h=>?_) (fun h=>ex_next ⟨of_decide_eq_false h,rfl⟩) ?_
  · refine ex_ret true (d:=.int 0) (by walk_at"ev") ?_ (.inl ⟨rfl,rfl⟩)
    show _=_
    unfold wgF
    rw [if_pos (of_decide_eq_true h)]
  rintro Γ0 ⟨h1,rfl⟩
  refine exif (b:=decide (c % 4=0)) (fun Γ=>c % 4≠0∧Γ=[some (.fz false (.int c)),some (.fz false (.int x))]) (et_test (ev_eqI (by walk_at"ev") (by walk_at"ev"))) (fun h=>?_) (fun h=>ex_next ⟨of_decide_eq_false h,rfl⟩) ?_
  · refine ex_ret true (d:=.int (x / 6 % 10)) (ev_mod (ev_fdiv (by walk_at"ev") (by walk_at"ev") ⟨by decide,by decide⟩) (by walk_at"ev") (by decide)) ?_ (.inl ⟨rfl,rfl⟩)
    show _=_
    unfold wgF
    rw [if_neg h1,if_pos (of_decide_eq_true h)]
  rintro Γ0 ⟨h2,rfl⟩
  refine exif (b:=decide (c % 4=3)) (fun Γ=>c % 4≠3∧Γ=[some (.fz false (.int c)),some (.fz false (.int x))]) (et_test (ev_eqI (by walk_at"ev") (by walk_at"ev"))) (fun h=>?_) (fun h=>ex_next ⟨of_decide_eq_false h,rfl⟩) ?_
  · refine ex_ret true (d:=.int ((x + 3) ^ (8:Int).toNat % 10 ^ (60:Int).toNat)) (ev_mod (ev_pow (i:=x + 3) (j:=8) (ev_add (by walk_at"ev") (by walk_at"ev")) (by walk_at"ev") ⟨by decide,by decide,by omega⟩) (ev_pow (i:=10) (j:=60) (by walk_at"ev") (by walk_at"ev") ⟨by decide,by decide,by decide⟩) (by decide)) ?_ (.inl ⟨rfl,rfl⟩)
    show _=_
    unfold wgF
    rw [if_neg h1,if_neg h2,if_pos (of_decide_eq_true h),e8,e60]
  rintro Γ0 ⟨h3,rfl⟩
  refine ex_ret true (d:=.int (x / 6 % 100000)) (ev_mod (ev_fdiv (by walk_at"ev") (by walk_at"ev") ⟨by decide,by decide⟩) (by walk_at"ev") (by decide)) ?_ (.inl ⟨rfl,rfl⟩)
  show _=_
  unfold wgF
  rw [if_neg h1,if_neg h2,if_neg h3]
theorem five {j:Nat} (h:j < 5):∃ dv:Int,atI [PyData.int 1,.int 3,.int 9,.int 27,.int 81] (j:Int)=some (.int dv)∧0 < dv∧dv < 100:=by
  have:j=0∨j=1∨j=2∨j=3∨j=4:=by omega
  rcases this with rfl | rfl | rfl | rfl | rfl
  · exact ⟨1,atI_nat (j:=0) rfl,by decide,by decide⟩
  · exact ⟨3,atI_nat (j:=1) rfl,by decide,by decide⟩
  · exact ⟨9,atI_nat (j:=2) rfl,by decide,by decide⟩
  · exact ⟨27,atI_nat (j:=3) rfl,by decide,by decide⟩
  · exact ⟨81,atI_nat (j:=4) rfl,by decide,by decide⟩
theorem CO.addLt {n c:Nat} {css:List (List Nat)} (h:CO n c css) {o x:Nat} (ho:o < n) (hx:x < n) (hl:(css.getD o []).length < c):CO n c (addAt css o x):=by
  unfold addAt
  refine ⟨by rw [List.length_set]; exact h.l,fun r hr=>?_⟩
  rcases List.mem_or_eq_of_mem_set hr with hr | hr
  · exact h.e r hr
  · have g:=h.at ho
    rw [hr]
    refine ⟨fun y hy=>?_,by rw [List.length_append]; exact hl⟩
    rcases List.mem_append.mp hy with hy | hy
    · exact g.1 y hy
    · rw [List.mem_singleton.mp hy]; exact hx
structure Dw (n:Nat) (cs:List (List Nat)) (hs:List Nat):Prop where
  n7:n≤7
  l:cs.length=n
  e:∀ r∈cs,(∀ x∈r,x < n)∧r.length≤6
  h:hs.length≤12
def pre_law_shape (ds:List PyData) (G:PyData→Prop):Prop:=∃ ns:List Int,ds=[il ns]∧G=fun d=>∃ n cs hs,Dw n cs hs∧d=.tuple [nls cs,nl hs]
theorem len_law_shape (ds:List PyData) (G:PyData→Prop) (h:pre_law_shape ds G):ds.length=1:=by obtain ⟨a,rfl,_⟩:=h; rfl
theorem sc_law_shape:FnScope ["_law_script", "_law_many", "_law_veiled", "_law_row", "_law_numbers_here", "_law_causes", "_law_k", "_law_j", "_law_one", "_law_other"] ["_law_script"] (defScope (top 9)):=⟨rfl,rfl,rfl,by decide +kernel,rfl,by decide +kernel,by decide +kernel⟩
theorem ok_law_shape (F:Fun K "_law_shape" "_law_shape" (top 9) f fd) (B:Bs mg) (c_law_cell_at:Callee P w K mg base CX0 "_law_cell_at" ["_law_script", "_law_k"] 1 (spD K true pre_law_cell_at)) (c_law_stream:Callee P w K mg base CX0 "_law_stream" ["_law_cell", "_law_many"] 1 (spW K true pre_law_stream)) (c_law_numbers:Callee P w K mg base CX0 "_law_numbers" ["_law_row"] 1 (spW K true pre_law_numbers)):FnOk P w K mg base CX0 2 f fd ["_law_script"] (spW K true pre_law_shape):=by
  have sc:=sc_law_shape
  refine F.ok sc (fun vs H Q E h=>spW_len len_law_shape h) (fun cdv A outer s H vs Q E hr h=>?_)
  obtain ⟨Fh,ds,G,le,dp,p,q⟩:=h
  refine ⟨_,(pss_cons (ps_set (i:=1) sc.nd rfl (Or.inl rfl) (pe_op op_mod (pe_fn c_law_cell_at (hr.mono (by decide)) rfl pass0 (pa_cons (pv 0) (pa_cons pe_int pa_nil))) pe_int))
      (pss_cons (ps_set (i:=2) sc.nd rfl (Or.inl rfl) pe_int)
      (pss_cons (ps_if (pt_cmpR op_gt (pv 1) pe_int (nomark _)) (pss_one (ps_set (i:=2) sc.nd rfl (Or.inl rfl) (pe_op op_mod (pe_op op_fdiv (pe_fn c_law_cell_at (hr.mono (by decide)) rfl pass0 (pa_cons (pv 0) (pa_cons pe_int pa_nil))) pe_int) pe_int))) pss_nil)
      (pss_cons (ps_set (i:=3) sc.nd rfl (Or.inl rfl) (pe_fn c_law_stream (hr.mono (by decide)) rfl pass0 (pa_cons (pe_fn c_law_cell_at (hr.mono (by decide)) rfl pass0 (pa_cons (pv 0) (pa_cons pe_int pa_nil))) (pa_cons pe_int pa_nil))))
      (pss_cons (ps_set (i:=4) sc.nd rfl (Or.inl rfl) (pe_fn c_law_numbers (hr.mono (by decide)) rfl pass0 (pa_cons (pe_slice (sl_listK (K:=K) rfl) (pv 3) po_none (po_some (pe_op op_add (pv 1) (pv 2)))) pa_nil)))
      (pss_cons (ps_setComp (i:=5) rfl sc.nd rfl rfl (N:=["_law_k"]) (js:=[none]) (by walk_at"comp_ok") (pi_listK (K:=K) rfl (pv 4)) (fun _ _ _ _=>(pg_name (i:=0) (show List.Nodup (["_law_k"]:List PySem.Str) by decide +kernel) rfl (Or.inl rfl))) (fun _ _ _ _=>pif_nil) (fun _ _ _ _=>(pe_lst pa_nil)))
      (pss_cons (ps_for PassesOwn.never rfl (pi_range1 rfl B.range (pa_cons (pv 1) pa_nil)) (pg_name (i:=6) sc.nd rfl (Or.inl rfl)) (pss_one (ps_for PassesOwn.never rfl (pi_range1 rfl B.range (pa_cons (pv 6) pa_nil)) (pg_name (i:=7) sc.nd rfl (Or.inl rfl)) (pss_one (ps_if (PW.pt (pw_and (pt_cmpR op_ne (pe_op op_mod (pe_op op_fdiv (pe_ix (ix_listK (K:=K) rfl) (pv 3) (pe_op op_add pe_int (pv 6)) (fun _ _=>rfl)) (pe_ix (ix_tupK (K:=K) rfl) (pe_tup (pa_cons pe_int (pa_cons pe_int (pa_cons pe_int (pa_cons pe_int (pa_cons pe_int pa_nil)))))) (pv 7) (fun _ _=>rfl))) pe_int) pe_int (nomark _)) (pw_and1 (pt_cmpR op_lt (pe_callB (call_len_seqK (K:=K) rfl) rfl B.len (by decide +kernel) (pa_cons (pe_ix (ix_listK (K:=K) rfl) (pv 5) (pe_ix (ix_listK (K:=K) rfl) (pv 4) (pv 6) (fun _ _=>rfl)) (fun _ _=>rfl)) pa_nil)) pe_int (nomark _))))) (pss_one (ps_expr (pe_bmK (K:=K) rfl PySem.F.plainAttrs_list PySem.F.slot_list_append PySem.F.type_list_append mt_append (pe_ix (ix_listK (K:=K) rfl) (pv 5) (pe_ix (ix_listK (K:=K) rfl) (pv 4) (pv 6) (fun _ _=>rfl)) (fun _ _=>rfl)) (pa_cons (pe_ix (ix_listK (K:=K) rfl) (pv 4) (pv 7) (fun _ _=>rfl)) pa_nil)))) pss_nil)))))
      (pss_cons (ps_for PassesOwn.never rfl (pi_range1 rfl B.range (pa_cons (pv 2) pa_nil)) (pg_name (i:=6) sc.nd rfl (Or.inl rfl)) (pss_cons (ps_set (i:=8) sc.nd rfl (Or.inl rfl) (pe_op op_mod (pe_ix (ix_listK (K:=K) rfl) (pv 3) (pe_op op_add pe_int (pv 6)) (fun _ _=>rfl)) (pv 1)))
      (pss_cons (ps_set (i:=9) sc.nd rfl (Or.inl rfl) (pe_op op_mod (pe_op op_add (pe_op op_add (pv 8) pe_int) (pe_op op_mod (pe_ix (ix_listK (K:=K) rfl) (pv 3) (pe_op op_add pe_int (pv 6)) (fun _ _=>rfl)) (pe_op op_sub (pv 1) pe_int))) (pv 1)))
      (pss_cons (ps_expr (pe_bmK (K:=K) rfl PySem.F.plainAttrs_list PySem.F.slot_list_append PySem.F.type_list_append mt_append (pe_ix (ix_listK (K:=K) rfl) (pv 5) (pe_ix (ix_listK (K:=K) rfl) (pv 4) (pv 8) (fun _ _=>rfl)) (fun _ _=>rfl)) (pa_cons (pe_ix (ix_listK (K:=K) rfl) (pv 4) (pe_op op_add (pv 1) (pv 6)) (fun _ _=>rfl)) pa_nil)))
      (pss_one (ps_expr (pe_bmK (K:=K) rfl PySem.F.plainAttrs_list PySem.F.slot_list_append PySem.F.type_list_append mt_append (pe_ix (ix_listK (K:=K) rfl) (pv 5) (pe_ix (ix_listK (K:=K) rfl) (pv 4) (pv 9) (fun _ _=>rfl)) (fun _ _=>rfl)) (pa_cons (pe_ix (ix_listK (K:=K) rfl) (pv 4) (pe_op op_add (pv 1) (pv 6)) (fun _ _=>rfl)) pa_nil))))))))
      (pss_one (ps_ret (pe_tup (pa_cons (pe_comp rfl (N:=["_law_row"]) (js:=[none]) (by walk_at"comp_ok") (pi_listK (K:=K) rfl (pv 5)) (fun _ _ _ _=>(pg_name (i:=0) (show List.Nodup (["_law_row"]:List PySem.Str) by decide +kernel) rfl (Or.inl rfl))) (fun _ _ _ _=>pif_nil) (fun _ _ _ _=>(pe_callB (call_sortedK (K:=K) rfl) rfl B.sorted (by decide +kernel) (pa_cons (pv 0) pa_nil)))) (pa_cons (pe_callB (call_sortedK (K:=K) rfl) rfl B.sorted (by decide +kernel) (pa_cons (pe_slice (sl_listK (K:=K) rfl) (pv 4) (po_some (pv 1)) po_none) pa_nil)) pa_nil))))))))))))),?_⟩
  have hN:(["_law_script", "_law_many", "_law_veiled", "_law_row", "_law_numbers_here", "_law_causes", "_law_k", "_law_j", "_law_one", "_law_other"]:List Str).length=10:=rfl
  obtain ⟨ns,rfl,rfl⟩:=p
  have big:=line_big
  refine run_defW le dp q hN (by walk_at"st") ?_
  have pc0:pre_law_cell_at [il ns,.int 0] (.int (cellF ns 0)):=⟨ns,0,rfl,by decide,rfl⟩
  have pc1:pre_law_cell_at [il ns,.int 1] (.int (cellF ns 1)):=⟨ns,1,rfl,by decide,rfl⟩
  obtain ⟨m,hm,m6⟩:∃ m:Nat,cellF ns 0 % 6=(m:Int)∧m < 6:=pick_mod (cellF ns 0) (show 0 < 6 by decide)
  obtain ⟨w,hw,w3⟩:∃ m:Nat,cellF ns 0 / 6 % 3=(m:Int)∧m < 3:=pick_mod (cellF ns 0 / 6) (show 0 < 3 by decide)
  refine exs true (d:=.int (m:Int)) (EvE.eq (ev_mod (ev_callF (by walk_at"ev") pc0) (by walk_at"ev") (by decide)) (congrArg PyData.int hm)) (by walk_at"sc") ?_
  refine exs true (d:=.int ((0:Nat):Int)) (show EvE K .fresh true _ _ (.int 0) by walk_at"ev") (by walk_at"sc") ?_
  refine exif (b:=decide ((1:Int) < (m:Int))) (fun Γ=>∃ w:Nat,w≤2∧(0 < w→1 < m)∧Γ=[some (.fz false (il ns)),some (.fz true (.int (m:Int))),some (.fz true (.int (w:Int))),none,none,none,none,none,none,none]) (et_test (ev_gt (by walk_at"ev") (by walk_at"ev"))) (fun h=>?_) (fun _=>ex_next ⟨0,by decide,fun z=>absurd z (Nat.lt_irrefl 0),rfl⟩) ?_
  · have h:=of_decide_eq_true h
    exact exs1 true (d:=.int (w:Int)) (EvE.eq (ev_mod (ev_fdiv (ev_callF (by walk_at"ev") pc0) (by walk_at"ev") ⟨by decide,by decide⟩) (by walk_at"ev") (by decide)) (congrArg PyData.int hw)) (by walk_at"sc") ⟨w,by omega,fun _=>by omega,rfl⟩
  clear hw w3 w
  rintro Γ0 ⟨w,w2,wm,rfl⟩
  refine exg true (evg_call (ea_cons (ev_callF (by walk_at"ev") pc1) (by walk_at"ev")) (show pre_law_stream [.int (cellF ns 1),.int 24] _ from ⟨cellF ns 1,24,rfl,by decide,rfl⟩)) (fun d=>by walk_at"sc") ?_
  rintro d ⟨xs,xl,xb,rfl⟩
  have tl:(xs.take (m + w)).length=m + w:=by rw [List.length_take]; omega
  refine exg true (evg_call (ea_cons (EvO.toE (EvO.eq (evo_slice (lo:=none) (hi:=some ((m + w:Nat):Int)) (ds:=xs.map .int) (by walk_at"ev") (by walk_at"ev") (ep_some (EvE.eq (ev_add (by walk_at"ev") (by walk_at"ev")) (by rw [Int.natCast_add])))) (cut_map _ xs (m + w)))) ea_nil) ⟨xs.take (m + w),rfl,by omega,rfl⟩) (fun d=>by walk_at"sc") ?_
  rintro d ⟨p,pm,rfl⟩
  rw [tl] at pm
  have pl:p.length=m + w:=by rw [pm.length_eq,List.length_range]
  have pn:∀ i,i < m + w→p.getD i 0 < m + w:=fun i hi=>List.mem_range.mp (pm.mem_iff.mp (List.mem_of_getElem? (getD_some (d:=0) (show i < p.length by omega))))
  have na:∀ {κ:Bool} {Γ0:PD.Ctx} {ti:TE} {i:Nat},GetC Γ0 4 (.fz true (nl p))→i < m + w→EvE K .fresh false ti Γ0 (.int (i:Int))→EvE K .fresh κ (tOp (rIxL K) (tVar 4) ti) Γ0 (.int (p.getD i 0:Nat)):=fun {κ Γ0 ti i} h hi h3=>EvE.imm (κ:=false) (ev_ixL (ds:=p.map fun k:Nat=>PyData.int (k:Int)) (EvE.toL (evv h (by decide))) h3 (at_ns (by omega))) rfl
  refine exr (d:=nls (List.replicate (m + w) [])) (EvTr.eq (evr_each (is:=[0]) (xs:=p) true (fun k:Nat=>.int (k:Int)) (fun _=>.list []) (fun _ _ _ _ _=>rfl) (ei_list (by walk_at"ev")) (by walk_at"cc") rfl (by decide) (by omega) fun x hx=>egn (by walk_at"sc") evr_nil) (by show PyData.list _=.list _; rw [List.map_replicate,List.map_const',pl]; rfl)) (by walk_at"sc") ?_
  refine exfor (ds:=(List.range m).map fun i:Nat=>.int (i:Int)) true (fun _ Γ=>∃ css b6 b7,CO (m + w) 2 css∧Γ=[some (.fz false (il ns)),some (.fz true (.int (m:Int))),some (.fz true (.int (w:Int))),some (.fz true (il xs)),some (.fz true (nl p)),some (trD (nls css)),b6,b7,none,none]) (ei_rng1 (n:=(m:Int)) (by walk_at"ev") (by omega) (by omega)) ⟨_,none,none,(CO.nil (m + w)).up (by decide),rfl⟩ ?_ ?_
  · rintro k d Γ' hd ⟨css,b6,b7,co,rfl⟩
    obtain ⟨hk,rfl⟩:=range_get hd
    refine ⟨_,egn (by walk_at"sc") ?_⟩
    refine ex_for (ds:=(List.range k).map fun i:Nat=>.int (i:Int)) true (fun _ Γ=>∃ css b7,CO (m + w) 2 css∧Γ=[some (.fz false (il ns)),some (.fz true (.int (m:Int))),some (.fz true (.int (w:Int))),some (.fz true (il xs)),some (.fz true (nl p)),some (trD (nls css)),some (.fz true (.int (k:Int))),b7,none,none]) (ei_rng1 (n:=(k:Int)) (by walk_at"ev") (by omega) (by omega)) ⟨css,_,co,rfl⟩ ?_ ?_
    · clear co css
      rintro j d Γ' hd ⟨css,b7,co,rfl⟩
      obtain ⟨hj,rfl⟩:=range_get hd
      refine ⟨_,egn (by walk_at"sc") ?_⟩
      obtain ⟨dv,hdv,dv0,dv1⟩:=five (show j < 5 by omega)
      have cl:=co.l
      have pk:=pn k (by omega)
      have ae:atI (css.map nl) (p.getD k 0:Nat)=some (nl (css.getD (p.getD k 0) [])):=at_nls (by rw [cl]; exact pk)
      have ax:atI (xs.map PyData.int) (8 + (k:Int))=some (.int (xs.getD (8 + k) 0)):=by
        have:=atI_map (g:=PyData.int) (i:=8 + k) (getD_some (d:=0) (show 8 + k < xs.length by omega))
        rwa [Int.natCast_add] at this
      refine ex_if (b:=!decide (xs.getD (8 + k) 0 / dv % 3=0) && decide (((css.getD (p.getD k 0) []).length:Int) < 2)) (et_thawT 5 (by walk_at"gc") (by walk_at"sc") (et_and (et_test (ev_neI (ev_mod (ev_fdiv (EvE.imm (κ:=false) (ev_ixL (ds:=xs.map .int) (by walk_at"ev") (ev_add (by walk_at"ev") (by walk_at"ev")) ax) rfl) (ev_ixT (κ:=false) (ds:=[.int 1,.int 3,.int 9,.int 27,.int 81]) (ev_tup (ds:=[.int 1,.int 3,.int 9,.int 27,.int 81]) (by walk_at"ev") (by show 5≤sizeLine; omega)) (by walk_at"ev") hdv) ⟨dv0,by omega⟩) (by walk_at"ev") (by decide)) (by walk_at"ev"))) fun _=>et_test (ev_lt (EvE.eq (ev_len (ds:=(css.getD (p.getD k 0) []).map fun k:Nat=>PyData.int (k:Int)) (EvE.toL (ev_ixL (κ:=false) (ds:=css.map nl) (by walk_at"ev") (na (by walk_at"gc") (by omega) (by walk_at"ev")) ae))) (by rw [List.length_map])) (by walk_at"ev")))) (fun h=>?_) (fun _=>ex_next ⟨css,_,co,rfl⟩)
      have hl:(css.getD (p.getD k 0) []).length < 2:=by have:=of_decide_eq_true (Bool.and_eq_true_iff.mp h).2; omega
      exact ex_end (exq_row (o:=p.getD k 0) (v:=p.getD j 0) (by walk_at"gc") (by rw [cl]; exact pk) (na (by walk_at"gc") (by omega) (by walk_at"ev")) (na (by walk_at"gc") (by omega) (by walk_at"ev")) (by omega) (by walk_at"sc") (ex_next ⟨_,_,co.addLt pk (pn j (by omega)) hl,rfl⟩))
    · clear co css
      rintro Γ' ⟨css,b7,co,rfl⟩
      exact ⟨css,_,_,co,rfl⟩
  rintro Γ0 ⟨css,b6,b7,co,rfl⟩
  refine exfor (ds:=(List.range w).map fun i:Nat=>.int (i:Int)) true (fun t Γ=>∃ css b6 b8 b9,CO (m + w) (2 + 2 * t) css∧Γ=[some (.fz false (il ns)),some (.fz true (.int (m:Int))),some (.fz true (.int (w:Int))),some (.fz true (il xs)),some (.fz true (nl p)),some (trD (nls css)),b6,b7,b8,b9]) (ei_rng1 (n:=(w:Int)) (by walk_at"ev") (by omega) (by omega)) ⟨css,_,_,_,co,rfl⟩ ?_ ?_
  · clear co css b6
    rintro t d Γ' hd ⟨css,b6,b8,b9,co,rfl⟩
    obtain ⟨ht,rfl⟩:=range_get hd
    have m1:=wm (by omega)
    refine ⟨_,egn (by walk_at"sc") ?_⟩
    have ax:∀ {a:Nat},a + t < xs.length→atI (xs.map PyData.int) ((a:Int) + (t:Int))=some (.int (xs.getD (a + t) 0)):=fun {a} h=>by
      have:=atI_map (g:=PyData.int) (i:=a + t) (getD_some (d:=0) h)
      rwa [Int.natCast_add] at this
    obtain ⟨o,ho,om⟩:=pick_mod (xs.getD (16 + t) 0) (show 0 < m by omega)
    obtain ⟨v,hv,vm⟩:=pick_mod (xs.getD (20 + t) 0) (show 0 < m - 1 by omega)
    obtain ⟨u,hu,um⟩:=pick_mod ((o:Int) + 1 + (v:Int)) (show 0 < m by omega)
    have hv':xs.getD (20 + t) 0 % ((m:Int) - 1)=(v:Int):=by rw [← hv]; congr 1; omega
    refine exs true (d:=.int (o:Int)) (EvE.eq (ev_mod (EvE.imm (κ:=false) (ev_ixL (ds:=xs.map .int) (by walk_at"ev") (ev_add (i:=((16:Nat):Int)) (show EvE K .fresh false _ _ (.int 16) by walk_at"ev") (by walk_at"ev")) (ax (a:=16) (by omega))) rfl) (by walk_at"ev") (by omega)) (congrArg PyData.int ho)) (by walk_at"sc") ?_
    refine exs true (d:=.int (u:Int)) (EvE.eq (ev_mod (ev_add (ev_add (by walk_at"ev") (by walk_at"ev")) (EvE.eq (ev_mod (EvE.imm (κ:=false) (ev_ixL (ds:=xs.map .int) (by walk_at"ev") (ev_add (i:=((20:Nat):Int)) (show EvE K .fresh false _ _ (.int 20) by walk_at"ev") (by walk_at"ev")) (ax (a:=20) (by omega))) rfl) (ev_sub (by walk_at"ev") (by walk_at"ev")) (by omega)) (congrArg PyData.int hv'))) (by walk_at"ev") (by omega)) (congrArg PyData.int hu)) (by walk_at"sc") ?_
    have cl:=co.l
    have mt:(m:Int) + (t:Int)=((m + t:Nat):Int):=(Int.natCast_add ..).symm
    have c1:=(co.at (pn o (by omega))).2
    have co1:=co.add (pn o (by omega)) (pn (m + t) (by omega))
    have c2:=(co1.at (pn u (by omega))).2
    refine exq_row (o:=p.getD o 0) (v:=p.getD (m + t) 0) (by walk_at"gc") (by rw [cl]; exact pn o (by omega)) (na (by walk_at"gc") (by omega) (by walk_at"ev")) (na (by walk_at"gc") (by omega) (EvE.eq (ev_add (by walk_at"ev") (by walk_at"ev")) (congrArg PyData.int mt))) (by omega) (by walk_at"sc") ?_
    exact ex_end (exq_row (o:=p.getD u 0) (v:=p.getD (m + t) 0) (by walk_at"gc") (by rw [co1.l]; exact pn u (by omega)) (na (by walk_at"gc") (by omega) (by walk_at"ev")) (na (by walk_at"gc") (by omega) (EvE.eq (ev_add (by walk_at"ev") (by walk_at"ev")) (congrArg PyData.int mt))) (by omega) (by walk_at"sc") (ex_next ⟨_,_,_,_,(co1.add (pn u (by omega)) (pn (m + t) (by omega))).up (by omega),rfl⟩))
  · clear co css b6
    rintro Γ' ⟨css,b6,b8,b9,co,rfl⟩
    rw [range_len] at co
    have cl:=co.l
    refine ext_fz 5 (by walk_at"gc") (by walk_at"sc") ?_
    refine ex_ret true (d:=.tuple [nls (css.map srtN),nl (srtN (p.drop m))]) (ev_tup (ds:=[nls (css.map srtN),nl (srtN (p.drop m))]) (ea_cons (EvO.toE (EvO.eq (evo_each (κ:=true) (is:=[0]) (xs:=css) true nl (fun r=>nl (srtN r)) (fun x _ y _ h=>by rw [show x=y from by rw [← unN_nl x,h,unN_nl]]) (ei_list (by walk_at"ev")) (by walk_at"cc") rfl (by decide) (by omega) fun r hr=>egn (by walk_at"sc") (EvE.eq (EvO.toE (evo_sorted (ns:=zl r) (EvE.toL (EvE.eq (κ:=false) (by walk_at"ev") (nl_zl r))) (by rw [zl_len]; have:=(co.e r hr).2; omega))) (congrArg PyData.list (srt_zl _)))) (by rw [List.map_map]; rfl))) (ea_cons (EvE.eq (EvO.toE (evo_sorted (ns:=zl (p.drop m)) (EvO.toL (EvO.eq (evo_slice (κ:=false) (lo:=some (m:Int)) (hi:=none) (ds:=p.map fun k:Nat=>.int (k:Int)) (by walk_at"ev") (ep_some (by walk_at"ev")) (by walk_at"ev")) ((cut_from _ p m).trans (PyData.list.inj (nl_zl _))))) (by rw [zl_len,List.length_drop]; omega))) (congrArg PyData.list (srt_zl _))) ea_nil)) (by show 2≤sizeLine; omega)) ⟨m + w,css.map srtN,srtN (p.drop m),⟨by omega,by rw [List.length_map]; exact cl,fun r hr=>?_,by rw [(srtN_perm _).length_eq,List.length_drop]; omega⟩,rfl⟩ (.inl ⟨rfl,rfl⟩)
    obtain ⟨r,hq,rfl⟩:=List.mem_map.mp hr
    have:=co.e r hq
    exact ⟨fun x hx=>this.1 x ((srtN_perm _).mem_iff.mp hx),by rw [(srtN_perm _).length_eq]; omega⟩
abbrev abc:Str := "abcdefghijklmnopqrstuvwxyz"
theorem abc_at:∀ r:Nat,r < 26→atI abc.cps.toList (r:Int)=some (97 + r):=by decide +kernel
theorem abc_len:abc.length=26:=by decide +kernel
theorem abc_ix:∀ r:Nat,r < 26→Builtin.Str.occurrences abc ⟨#[97 + r]⟩ 0 abc.length 1=[r]:=by decide +kernel
def Let (z:Str):Prop:=∀ c∈z.cps.toList,∃ r,r < 26∧c=97 + r
theorem Let.snoc {z:Str} (h:Let z) {r:Nat} (hr:r < 26):Let (z ++ ⟨#[97 + r]⟩):=fun c hc=>by
  have hc:c∈(z.cps ++ #[97 + r]).toList:=hc
  rw [Array.toList_append] at hc
  rcases List.mem_append.mp hc with hc | hc
  · exact h c hc
  · exact ⟨r,hr,by simpa using hc⟩
theorem Let.app {z y:Str} (h:Let z) (k:Let y):Let (z ++ y):=fun c hc=>by
  have hc:c∈(z.cps ++ y.cps).toList:=hc
  rw [Array.toList_append] at hc
  rcases List.mem_append.mp hc with hc | hc
  · exact h c hc
  · exact k c hc
theorem Let.one {r:Nat} (hr:r < 26):Let (⟨#[97 + r]⟩:Str):=fun c hc=>⟨r,hr,by simpa using hc⟩
theorem Let.ok {z:Str} (h:Let z):PyData.canLay0 (.str z)=true:=by
  show z.cps.all _=true
  rw [Array.all_eq_true_iff_forall_mem]
  intro c hc
  obtain ⟨r,hr,e⟩:=h c (Array.mem_toList_iff.mpr hc)
  simp only [decide_eq_true_eq]
  omega
theorem Let.slice {z:Str} (h:Let z) (l u:Option Int):Let (Txt.slice z l u):=by
  unfold Txt.slice
  split
  · exact h
  · intro c hc
    have hc:c∈(Builtin.Str.strSliceIndices l u 1 z.length).filterMap (z.cps[·]?):=by simpa using hc
    obtain ⟨i,_,hi⟩:=List.mem_filterMap.mp hc
    exact h c (Array.mem_toList_iff.mpr (Array.mem_of_getElem? hi))
theorem one_len (c:Nat):(⟨#[c]⟩:Str).length=1:=rfl
def pre_law_names (ds:List PyData) (G:PyData→Prop):Prop:=∃ (c:Int) (m:Nat),ds=[.int c,.int (m:Int)]∧m≤12∧G=fun d=>∃ zs:List Str,zs.length=m∧(∀ z∈zs,z.length≤20∧Let z)∧d=stL zs
theorem len_law_names (ds:List PyData) (G:PyData→Prop) (h:pre_law_names ds G):ds.length=2:=by obtain ⟨a,b,rfl,_⟩:=h; rfl
theorem sc_law_names:FnScope ["_law_cell", "_law_many", "_law_letters", "_law_base", "_law_number", "_law_at", "_law_names_here", "_law_k", "_law_sign"] ["_law_cell", "_law_many"] (defScope (top 10)):=⟨rfl,rfl,rfl,by decide +kernel,rfl,by decide +kernel,by decide +kernel⟩
theorem ok_law_names (F:Fun K "_law_names" "_law_names" (top 10) f fd) (B:Bs mg) (c_law_stream:Callee P w K mg base CX0 "_law_stream" ["_law_cell", "_law_many"] 1 (spW K true pre_law_stream)):FnOk P w K mg base CX0 2 f fd ["_law_cell", "_law_many"] (spW K true pre_law_names):=by
  have sc:=sc_law_names
  refine F.ok sc (fun vs H Q E h=>spW_len len_law_names h) (fun cdv A outer s H vs Q E hr h=>?_)
  obtain ⟨Fh,ds,G,le,dp,p,q⟩:=h
  refine ⟨_,(pss_cons (ps_set (i:=2) sc.nd rfl (Or.inl rfl) pe_str)
      (pss_cons (ps_set (i:=3) sc.nd rfl (Or.inl rfl) pe_str)
      (pss_cons (ps_for PassesOwn.never rfl (pi_listK (K:=K) rfl (pe_fn c_law_stream (hr.mono (by decide)) rfl pass0 (pa_cons (pe_op op_fdiv (pv 0) pe_int) (pa_cons (pe_op op_add pe_int (pe_op op_mod (pv 0) pe_int)) pa_nil)))) (pg_name (i:=4) sc.nd rfl (Or.inl rfl)) (pss_one (ps_set (i:=3) sc.nd rfl (Or.inl rfl) (pe_op op_addS (pv 3) (pe_ix ix_str (pv 2) (pe_op op_mod (pv 4) pe_int) (fun _ _=>rfl))))))
      (pss_cons (ps_set (i:=5) sc.nd rfl (Or.inl rfl) (pe_op op_mod (pe_op op_fdiv (pv 0) pe_int) (pe_callB call_lenS rfl B.len (by decide +kernel) (pa_cons (pv 3) pa_nil))))
      (pss_cons (ps_set (i:=6) sc.nd rfl (Or.inl rfl) (pe_lst pa_nil))
      (pss_cons (ps_for PassesOwn.never rfl (pi_range1 rfl B.range (pa_cons (pv 1) pa_nil)) (pg_name (i:=7) sc.nd rfl (Or.inl rfl)) (pss_one (ps_if (PW.pt (pw_and (pt_cmpR op_eq (pe_op op_mod (pe_op op_fdiv (pv 0) pe_int) pe_int) pe_int (nomark _)) (pw_and1 (pt_cmpR op_lt (pv 7) (pe_callB call_lenS rfl B.len (by decide +kernel) (pa_cons (pv 3) pa_nil)) (nomark _))))) (pss_one (ps_expr (pe_bmK (K:=K) rfl PySem.F.plainAttrs_list PySem.F.slot_list_append PySem.F.type_list_append mt_append (pv 6) (pa_cons (pe_slice sl_str (pv 3) po_none (po_some (pe_op op_add (pv 7) pe_int))) pa_nil)))) (pss_cons (ps_set (i:=8) sc.nd rfl (Or.inl rfl) (pe_ix ix_str (pv 2) (pe_op op_mod (pe_op op_add (pe_bmK (K:=K) rfl PySem.F.plainAttrs_str PySem.F.slot_str_index PySem.F.type_str_index mt_indexS (pv 2) (pa_cons (pe_ix ix_str (pv 3) (pv 5) (fun _ _=>rfl)) pa_nil)) (pv 7)) pe_int) (fun _ _=>rfl)))
      (pss_one (ps_expr (pe_bmK (K:=K) rfl PySem.F.plainAttrs_list PySem.F.slot_list_append PySem.F.type_list_append mt_append (pv 6) (pa_cons (pe_op op_addS (pe_op op_addS (pe_slice sl_str (pv 3) po_none (po_some (pv 5))) (pv 8)) (pe_slice sl_str (pv 3) (po_some (pe_op op_add (pv 5) pe_int)) po_none)) pa_nil))))))))
      (pss_one (ps_ret (pv 6))))))))),?_⟩
  have hN:(["_law_cell", "_law_many", "_law_letters", "_law_base", "_law_number", "_law_at", "_law_names_here", "_law_k", "_law_sign"]:List Str).length=9:=rfl
  obtain ⟨c,m,rfl,m12,rfl⟩:=p
  have big:=line_big
  refine run_defW le dp q hN (by walk_at"st") ?_
  refine exs true (d:=.str abc) (by walk_at"ev") (by walk_at"sc") ?_
  refine exs true (d:=.str "") (by walk_at"ev") (by walk_at"sc") ?_
  obtain ⟨e,he,e8⟩:∃ m:Nat,c % 8=(m:Int)∧m < 8:=pick_mod c (show 0 < 8 by decide)
  refine ex_seq (fun Γ=>∃ z b4,Let z∧z.length=1 + e∧Γ=[some (.fz false (.int c)),some (.fz false (.int (m:Int))),some (.fz true (.str abc)),some (.fz true (.str z)),b4,none,none,none,none]) (ex_forGD true (fun _ i Γ=>∃ z b4,Let z∧z.length=i∧i≤1 + e∧Γ=[some (.fz false (.int c)),some (.fz false (.int (m:Int))),some (.fz true (.str abc)),some (.fz true (.str z)),b4,none,none,none,none]) (eig_list (G:=fun d=>∃ xs:List Int,xs.length=1 + e∧(∀ x∈xs,0≤x∧x < 2147483647)∧d=il xs) (evg_call (ea_cons (ev_fdiv (by walk_at"ev") (by walk_at"ev") ⟨by decide,by decide⟩) (ea_cons (EvE.eq (ev_add (by walk_at"ev") (EvE.eq (ev_mod (by walk_at"ev") (by walk_at"ev") (by decide)) (congrArg PyData.int he))) (by rw [Int.natCast_add]; rfl)) ea_nil)) ⟨c / 3,1 + e,rfl,by omega,rfl⟩) (fun d hd=>by obtain ⟨xs,_,_,rfl⟩:=hd; exact ⟨_,rfl⟩)) (fun _ _=>⟨"", none,fun c hc=>(nomatch hc),rfl,Nat.zero_le _,rfl⟩) ?_ ?_) ?_
  · rintro ds i d Γ' ⟨xs,xl,xb,ex⟩ hd ⟨z,b4,lz,zl,il,rfl⟩
    cases ex
    obtain ⟨x,hx,rfl⟩:=get_map hd
    have ilt:=(List.getElem?_eq_some_iff.mp hx).1
    refine ⟨_,egn (by walk_at"sc") ?_⟩
    obtain ⟨r,hr,r26⟩:∃ m:Nat,x % 26=(m:Int)∧m < 26:=pick_mod x (show 0 < 26 by decide)
    refine exs1 true (d:=.str (z ++ ⟨#[97 + r]⟩)) (ev_addS (by walk_at"ev") (ev_ixS (i:=(r:Int)) (by walk_at"ev") (EvE.eq (ev_mod (by walk_at"ev") (by walk_at"ev") (by decide)) (congrArg PyData.int hr)) (by rw [abc_len]; omega) (abc_at r r26)) (by rw [one_len]; omega)) (by walk_at"sc") ?_
    exact ⟨_,_,lz.snoc r26,by rw [Str.length_append,one_len,zl],by omega,rfl⟩
  · rintro ds Γ' ⟨xs,xl,xb,ex⟩ ⟨z,b4,lz,zl,il,rfl⟩
    cases ex
    exact ⟨z,b4,lz,by rw [zl,List.length_map,xl],rfl⟩
  rintro Γ0 ⟨z,b4,lz,zl,rfl⟩
  obtain ⟨a,ha,az⟩:=pick_mod (c / 8) (show 0 < z.length by omega)
  refine exs true (d:=.int (a:Int)) (EvE.eq (ev_mod (ev_fdiv (by walk_at"ev") (by walk_at"ev") ⟨by decide,by decide⟩) (ev_lenS (by walk_at"ev") (by omega)) (by omega)) (congrArg PyData.int ha)) (by walk_at"sc") ?_
  refine exo true (ds:=([]:List Str).map .str) (evo_lst (ds:=[]) ea_nil (by decide)) (by walk_at"sc") ?_
  refine exfor (ds:=(List.range m).map fun i:Nat=>.int (i:Int)) true (fun t Γ=>∃ (zs:List Str) (b7 b8:Option DV),zs.length=t∧(∀ z∈zs,z.length≤20∧Let z)∧Γ=[some (.fz false (.int c)),some (.fz false (.int (m:Int))),some (.fz true (.str abc)),some (.fz true (.str z)),b4,some (.fz true (.int (a:Int))),some (.ow true (zs.map .str)),b7,b8]) (ei_rng1 (n:=(m:Int)) (by walk_at"ev") (by omega) (by omega)) ⟨[],none,none,rfl,fun _ h=>(nomatch h),rfl⟩ ?_ ?_
  · rintro t d Γ' hd ⟨zs,b7,b8,sl,sb,rfl⟩
    obtain ⟨ht,rfl⟩:=range_get hd
    refine ⟨_,egn (by walk_at"sc") ?_⟩
    refine ex_if (b:=decide (c / 64 % 2=1) && decide ((t:Int) < (z.length:Nat))) (et_and (et_test (ev_eqI (ev_mod (ev_fdiv (by walk_at"ev") (by walk_at"ev") ⟨by decide,by decide⟩) (by walk_at"ev") (by decide)) (by walk_at"ev"))) fun _=>et_test (ev_lt (by walk_at"ev") (ev_lenS (by walk_at"ev") (by omega)))) (fun _=>?_) (fun _=>?_)
    · refine exa1 (d:=.str (Txt.slice z none (some ((t:Int) + 1)))) (by walk_at"gc") (ev_slS (by walk_at"ev") (by omega) (by walk_at"ev") (ep_some (by walk_at"ev"))) (by walk_at"sc") (by rw [List.length_map]; omega) ⟨zs ++ [Txt.slice z none (some ((t:Int) + 1))],_,_,by rw [List.length_append,sl]; rfl,fun y hy=>?_,by rw [List.map_append]; rfl⟩
      rcases List.mem_append.mp hy with hy | hy
      · exact sb y hy
      · rw [List.mem_singleton.mp hy]
        have:=Txt.slice_le z none (some ((t:Int) + 1))
        exact ⟨by omega,lz.slice _ _⟩
    · obtain ⟨r,r26,hr⟩:=lz (z.cps.toList.getD a 0) (List.mem_of_getElem? (getD_some (d:=0) (by simpa [Str.length] using az)))
      have az':atI z.cps.toList (a:Int)=some (97 + r):=by
        rw [← hr]
        exact atI_nat (getD_some (d:=0) (by simpa [Str.length] using az))
      obtain ⟨s,hs,s26⟩:∃ m:Nat,((r:Int) + (t:Int)) % 26=(m:Int)∧m < 26:=pick_mod ((r:Int) + (t:Int)) (show 0 < 26 by decide)
      refine exs true (d:=.str ⟨#[97 + s]⟩) (ev_ixS (i:=(s:Int)) (by walk_at"ev") (EvE.eq (ev_mod (ev_add (ev_indexS (i:=r) (rest:=[]) (by walk_at"ev") (ev_ixS (i:=(a:Int)) (by walk_at"ev") (by walk_at"ev") (by omega) az') (abc_ix r r26)) (by walk_at"ev")) (by walk_at"ev") (by decide)) (congrArg PyData.int hs)) (by rw [abc_len]; omega) (abc_at s s26)) (by walk_at"sc") ?_
      have l1:=Txt.slice_le z none (some (a:Int))
      have l2:=Txt.slice_le z (some ((a:Int) + 1)) none
      have l3:(Txt.slice z none (some (a:Int)) ++ (⟨#[97 + s]⟩:Str)).length≤9:=by rw [Str.length_append,one_len]; omega
      refine exa1 (d:=.str (Txt.slice z none (some (a:Int)) ++ ⟨#[97 + s]⟩ ++ Txt.slice z (some ((a:Int) + 1)) none)) (by walk_at"gc") (ev_addS (ev_addS (ev_slS (by walk_at"ev") (by omega) (by walk_at"ev") (ep_some (by walk_at"ev"))) (by walk_at"ev") (by rw [one_len]; omega)) (ev_slS (by walk_at"ev") (by omega) (ep_some (by walk_at"ev")) (by walk_at"ev")) (by omega)) (by walk_at"sc") (by rw [List.length_map]; omega) ⟨zs ++ [Txt.slice z none (some (a:Int)) ++ ⟨#[97 + s]⟩ ++ Txt.slice z (some ((a:Int) + 1)) none],_,_,by rw [List.length_append,sl]; rfl,fun y hy=>?_,by rw [List.map_append]; rfl⟩
      rcases List.mem_append.mp hy with hy | hy
      · exact sb y hy
      · rw [List.mem_singleton.mp hy]
        exact ⟨by rw [Str.length_append]; omega,((lz.slice _ _).app (Let.one s26)).app (lz.slice _ _)⟩
  · rintro Γ' ⟨zs,b7,b8,sl,sb,rfl⟩
    rw [range_len] at sl
    exact exro (by walk_at"gc") ⟨zs,sl,sb,rfl⟩ (.inl ⟨rfl,rfl⟩)
theorem cut_mid {α:Type} (g:α→PyData) (xs:List α) {a b:Nat} (h:a≤b) (hb:b≤xs.length):cutD (xs.map g) (some (a:Int)) (some (b:Int))=((xs.drop a).take (b - a)).map g:=by
  unfold cutD
  rw [HT.sIx_nat,HT.sIx_nat,List.length_map,Nat.min_eq_left (show a≤xs.length by omega),Nat.min_eq_left hb,← List.map_drop,← List.map_take]
def pre_law_table (ds:List PyData) (G:PyData→Prop):Prop:=∃ (c:Int) (m s:Nat),ds=[.int c,.int (m:Int),.int (s:Int)]∧m≤4096∧1≤s∧s≤4∧G=fun d=>∃ t:List (List Int),t.length=m∧(∀ r∈t,r.length=s∧∀ w∈r,0≤w∧w < 10 ^ 60)∧d=tbD t
theorem len_law_table (ds:List PyData) (G:PyData→Prop) (h:pre_law_table ds G):ds.length=3:=by obtain ⟨a,b,c,rfl,_⟩:=h; rfl
theorem sc_law_table:FnScope ["_law_cell", "_law_many", "_law_size", "_law_row", "_law_table_here", "_law_j", "_law_weights"] ["_law_cell", "_law_many", "_law_size"] (defScope (top 12)):=⟨rfl,rfl,rfl,by decide +kernel,rfl,by decide +kernel,by decide +kernel⟩
theorem ok_law_table (F:Fun K "_law_table" "_law_table" (top 12) f fd) (B:Bs mg) (c_law_stream:Callee P w K mg base CX0 "_law_stream" ["_law_cell", "_law_many"] 1 (spW K true pre_law_stream)) (c_law_weight:Callee P w K mg base CX0 "_law_weight" ["_law_cell", "_law_number"] 1 (spD K true pre_law_weight)):FnOk P w K mg base CX0 2 f fd ["_law_cell", "_law_many", "_law_size"] (spW K true pre_law_table):=by
  have sc:=sc_law_table
  refine F.ok sc (fun vs H Q E h=>spW_len len_law_table h) (fun cdv A outer s H vs Q E hr h=>?_)
  obtain ⟨Fh,ds,G,le,dp,p,q⟩:=h
  refine ⟨_,(pss_cons (ps_set (i:=3) sc.nd rfl (Or.inl rfl) (pe_fn c_law_stream (hr.mono (by decide)) rfl pass0 (pa_cons (pv 0) (pa_cons (pe_op op_mulB (pv 1) (pv 2)) pa_nil))))
      (pss_cons (ps_set (i:=4) sc.nd rfl (Or.inl rfl) (pe_lst pa_nil))
      (pss_cons (ps_for PassesOwn.never rfl (pi_range1 rfl B.range (pa_cons (pv 1) pa_nil)) (pg_name (i:=5) sc.nd rfl (Or.inl rfl)) (pss_cons (ps_setComp (i:=6) rfl sc.nd rfl rfl (N:=["_law_number", "_law_cell"]) (js:=[none,some 0]) (by walk_at"comp_ok") (pi_listK (K:=K) rfl (pe_slice (sl_listK (K:=K) rfl) (pv 3) (po_some (pe_op op_mulB (pv 2) (pv 5))) (po_some (pe_op op_add (pe_op op_mulB (pv 2) (pv 5)) (pv 2))))) (fun _ _ _ _=>(pg_name (i:=0) (show List.Nodup (["_law_number", "_law_cell"]:List PySem.Str) by decide +kernel) rfl (Or.inl rfl))) (fun _ _ _ _=>pif_nil) (fun _ _ _ _=>(pe_fn c_law_weight (hr.mono (by decide)) rfl pass0 (pa_cons (pv 1) (pa_cons (pv 0) pa_nil)))))
      (pss_cons (ps_if (pt_cmpR op_eq (pe_callB (call_maxIK (K:=K) rfl rfl) rfl B.max (by decide +kernel) (pa_cons (pv 6) pa_nil)) pe_int (nomark _)) (pss_one (ps_asg pe_int (pg_sub (pv 6) (pe_op op_mod (pe_op op_fdiv (pe_ix (ix_listK (K:=K) rfl) (pv 3) (pe_op op_mulB (pv 2) (pv 5)) (fun _ _=>rfl)) pe_int) (pv 2)) set_list))) pss_nil)
      (pss_one (ps_expr (pe_bmK (K:=K) rfl PySem.F.plainAttrs_list PySem.F.slot_list_append PySem.F.type_list_append mt_append (pv 4) (pa_cons (pv 6) pa_nil)))))))
      (pss_one (ps_ret (pv 4)))))),?_⟩
  have hN:(["_law_cell", "_law_many", "_law_size", "_law_row", "_law_table_here", "_law_j", "_law_weights"]:List Str).length=7:=rfl
  obtain ⟨c,m,s,rfl,hm,s1,s4,rfl⟩:=p
  have big:=line_big
  have ms:m * s≤4096 * 4:=Nat.mul_le_mul hm s4
  have m1:IntMulOk (m:Int) (s:Int):=small_mul (by omega) (by omega)
  refine run_defW le dp q hN (by walk_at"st") ?_
  refine exg true (evg_call (ea_cons (by walk_at"ev") (ea_cons (EvE.eq (ev_mul (by walk_at"ev") (by walk_at"ev") m1) (congrArg PyData.int (Int.natCast_mul m s).symm)) ea_nil)) ⟨c,m * s,rfl,by omega,rfl⟩) (fun d=>by walk_at"sc") ?_
  rintro d ⟨xs,xl,xb,rfl⟩
  refine exo true (ds:=([]:List (List Int)).map il) (evo_lst (ds:=[]) ea_nil (by decide)) (by walk_at"sc") ?_
  refine exfor (ds:=(List.range m).map fun i:Nat=>.int (i:Int)) true (fun j Γ=>∃ (t:List (List Int)) (b5 b6:Option DV),t.length=j∧(∀ r∈t,r.length=s∧∀ w∈r,0≤w∧w < 10 ^ 60)∧Γ=[some (.fz false (.int c)),some (.fz false (.int (m:Int))),some (.fz false (.int (s:Int))),some (.fz true (il xs)),some (.ow true (t.map il)),b5,b6]) (ei_rng1 (n:=(m:Int)) (by walk_at"ev") (by omega) (by omega)) ⟨[],none,none,rfl,fun _ z=>(nomatch z),rfl⟩ ?_ ?_
  · rintro j d Γ' hd ⟨t,b5,b6,tl,tb,rfl⟩
    obtain ⟨hj,rfl⟩:=range_get hd
    refine ⟨_,egn (by walk_at"sc") ?_⟩
    have m2:IntMulOk (s:Int) (j:Int):=small_mul (by omega) (by omega)
    have sj:s * j + s≤xs.length:=by
      rw [xl,Nat.mul_comm m s]
      exact Nat.mul_le_mul_left s (show j + 1≤m by omega)
    have e1:(s:Int) * (j:Int)=((s * j:Nat):Int):=(Int.natCast_mul s j).symm
    have wl:(((xs.drop (s * j)).take (s * j + s - s * j)).map (wgF c)).length=s:=by
      rw [List.length_map,List.length_take,List.length_drop]
      omega
    have hx:∀ x∈(xs.drop (s * j)).take (s * j + s - s * j),0≤x∧x < 2147483647:=fun x hx=>xb x (List.mem_of_mem_drop (List.mem_of_mem_take hx))
    refine exo true (ds:=(((xs.drop (s * j)).take (s * j + s - s * j)).map (wgF c)).map .int) (EvO.eq (evo_each (κ:=true) (is:=[0]) (xs:=(xs.drop (s * j)).take (s * j + s - s * j)) false PyData.int (fun x=>.int (wgF c x)) (fun x _ y _ h=>by cases h; rfl) (ei_list (EvO.toE (EvO.eq (evo_slice (κ:=false) (lo:=some ((s * j:Nat):Int)) (hi:=some ((s * j + s:Nat):Int)) (ds:=xs.map .int) (by walk_at"ev") (ep_some (EvE.eq (ev_mul (by walk_at"ev") (by walk_at"ev") m2) (congrArg PyData.int e1))) (ep_some (EvE.eq (ev_add (EvE.eq (ev_mul (by walk_at"ev") (by walk_at"ev") m2) (congrArg PyData.int e1)) (by walk_at"ev")) (by rw [Int.natCast_add])))) (cut_mid _ xs (by omega) sj)))) (by walk_at"cc") rfl (by decide) (by rw [List.length_take]; omega) fun x hm=>egn (by walk_at"sc") (ev_callF (by walk_at"ev") ⟨c,x,rfl,(hx x hm).1,(hx x hm).2,rfl⟩)) (by rw [List.map_map]; rfl)) (by walk_at"sc") ?_
    have wb:∀ w∈((xs.drop (s * j)).take (s * j + s - s * j)).map (wgF c),0≤w∧w < 10 ^ 60:=fun w hw=>by
      obtain ⟨x,_,rfl⟩:=List.mem_map.mp hw
      exact wg_nn c x
    generalize ((xs.drop (s * j)).take (s * j + s - s * j)).map (wgF c)=ws at wl wb
    obtain ⟨i,hi,is⟩:=pick_mod (xs.getD (s * j) 0 / 7) (show 0 < s by omega)
    refine exif (b:=decide (mxL ws=0)) (fun Γ=>∃ ws:List Int,ws.length=s∧(∀ w∈ws,0≤w∧w < 10 ^ 60)∧Γ=[some (.fz false (.int c)),some (.fz false (.int (m:Int))),some (.fz false (.int (s:Int))),some (.fz true (il xs)),some (.ow true (t.map il)),some (.fz true (.int (j:Int))),some (.ow true (ws.map .int))]) (et_thaw 6 (by walk_at"gc") (by walk_at"sc") (et_test (ev_eqI (ev_bestI (f:=mxL) (ns:=ws) (by walk_at"ev") fun z=>by rw [z] at wl; have:0=s:=wl; omega) (by walk_at"ev")))) (fun _=>?_) (fun _=>ex_next ⟨ws,wl,wb,rfl⟩) ?_
    · refine exi1 (j:=i) (d:=.int 1) (by walk_at"gc") (by walk_at"ev") (EvE.eq (ev_mod (ev_fdiv (EvE.imm (κ:=false) (ev_ixL (ds:=xs.map .int) (by walk_at"ev") (EvE.eq (ev_mul (by walk_at"ev") (by walk_at"ev") m2) (congrArg PyData.int e1)) (atI_map (getD_some (d:=0) (show s * j < xs.length by omega)))) rfl) (by walk_at"ev") ⟨by decide,by decide⟩) (by walk_at"ev") (by omega)) (congrArg PyData.int hi)) (ixN_nat (by rw [List.length_map]; omega)) (by walk_at"sc") ?_
      refine ⟨ws.set i 1,by rw [List.length_set]; exact wl,fun w hw=>?_,by rw [List.map_set]⟩
      rcases List.mem_or_eq_of_mem_set hw with hw | hw
      · exact wb w hw
      · rw [hw]
        exact ⟨by decide,by decide⟩
    clear wb wl ws
    rintro Γ1 ⟨ws,wl,wb,rfl⟩
    refine exfz 6 (by walk_at"gc") (by walk_at"sc") ?_
    refine exa1 (d:=il ws) (by walk_at"gc") (by walk_at"ev") (by walk_at"sc") (by rw [List.length_map]; omega) ⟨t ++ [ws],_,_,by rw [List.length_append,tl]; rfl,fun r hr=>?_,by rw [List.map_append]; rfl⟩
    rcases List.mem_append.mp hr with hr | hr
    · exact tb r hr
    · rw [List.mem_singleton.mp hr]
      exact ⟨wl,wb⟩
  · rintro Γ' ⟨t,b5,b6,tl,tb,rfl⟩
    rw [range_len] at tl
    exact exro (by walk_at"gc") ⟨t,tl,tb,rfl⟩ (.inl ⟨rfl,rfl⟩)
structure B0 (n:Nat) (ss:List Nat) (cs:List (List Nat)) (ts:List (List (List Int))):Prop where
  n7:n≤7
  sl:ss.length=n
  sb:∀ s∈ss,2≤s∧s≤4
  cl:cs.length=n
  ce:∀ r∈cs,(∀ x∈r,x < n)∧r.length≤6
  tl:ts.length=n
  te:∀ t∈ts,t≠[]∧t.length≤4096∧∀ r∈t,r≠[]∧r.length≤4∧∀ w∈r,0≤w∧w < 10 ^ 60
def pre_law_book (ds:List PyData) (G:PyData→Prop):Prop:=∃ ns:List Int,ds=[il ns]∧G=fun d=>∃ n ss cs ts hs,B0 n ss cs ts∧hs.length≤12∧d=.tuple [bkD ss cs ts,nl hs]
theorem len_law_book (ds:List PyData) (G:PyData→Prop) (h:pre_law_book ds G):ds.length=1:=by obtain ⟨a,rfl,_⟩:=h; rfl
theorem sc_law_book:FnScope ["_law_script", "_law_causes", "_law_hidden", "_law_sizes", "_law_k", "_law_tables", "_law_many", "_law_cause"] ["_law_script"] (defScope (top 13)):=⟨rfl,rfl,rfl,by decide +kernel,rfl,by decide +kernel,by decide +kernel⟩
theorem ok_law_book (F:Fun K "_law_book" "_law_book" (top 13) f fd) (B:Bs mg) (c_law_shape:Callee P w K mg base CX0 "_law_shape" ["_law_script"] 2 (spW K true pre_law_shape)) (c_law_cell_at:Callee P w K mg base CX0 "_law_cell_at" ["_law_script", "_law_k"] 1 (spD K true pre_law_cell_at)) (c_law_table:Callee P w K mg base CX0 "_law_table" ["_law_cell", "_law_many", "_law_size"] 2 (spW K true pre_law_table)):FnOk P w K mg base CX0 3 f fd ["_law_script"] (spW K true pre_law_book):=by
  have sc:=sc_law_book
  refine F.ok sc (fun vs H Q E h=>spW_len len_law_book h) (fun cdv A outer s H vs Q E hr h=>?_)
  obtain ⟨Fh,ds,G,le,dp,p,q⟩:=h
  refine ⟨_,(pss_cons (ps_asg (pe_fn c_law_shape (hr.mono (by decide)) rfl pass0 (pa_cons (pv 0) pa_nil)) (pg_tupK (K:=K) (n:=2) rfl rfl (pgs_cons (pg_name (i:=1) sc.nd rfl (Or.inl rfl)) (pgs_cons (pg_name (i:=2) sc.nd rfl (Or.inl rfl)) pgs_nil))))
      (pss_cons (ps_set (i:=3) sc.nd rfl (Or.inl rfl) (pe_lst pa_nil))
      (pss_cons (ps_for PassesOwn.never rfl (pi_range1 rfl B.range (pa_cons (pe_callB (call_len_seqK (K:=K) rfl) rfl B.len (by decide +kernel) (pa_cons (pv 1) pa_nil)) pa_nil)) (pg_name (i:=4) sc.nd rfl (Or.inl rfl)) (pss_one (ps_expr (pe_bmK (K:=K) rfl PySem.F.plainAttrs_list PySem.F.slot_list_append PySem.F.type_list_append mt_append (pv 3) (pa_cons (pe_op op_add pe_int (pe_op op_fdiv (pe_op op_mod (pe_op op_fdiv (pe_fn c_law_cell_at (hr.mono (by decide)) rfl pass0 (pa_cons (pv 0) (pa_cons (pe_op op_add pe_int (pv 4)) pa_nil))) pe_int) pe_int) pe_int)) pa_nil)))))
      (pss_cons (ps_set (i:=5) sc.nd rfl (Or.inl rfl) (pe_lst pa_nil))
      (pss_cons (ps_for PassesOwn.never rfl (pi_range1 rfl B.range (pa_cons (pe_callB (call_len_seqK (K:=K) rfl) rfl B.len (by decide +kernel) (pa_cons (pv 1) pa_nil)) pa_nil)) (pg_name (i:=4) sc.nd rfl (Or.inl rfl)) (pss_cons (ps_set (i:=6) sc.nd rfl (Or.inl rfl) pe_int)
      (pss_cons (ps_for PassesOwn.never rfl (pi_listK (K:=K) rfl (pe_ix (ix_listK (K:=K) rfl) (pv 1) (pv 4) (fun _ _=>rfl))) (pg_name (i:=7) sc.nd rfl (Or.inl rfl)) (pss_one (ps_set (i:=6) sc.nd rfl (Or.inl rfl) (pe_op op_mulB (pv 6) (pe_ix (ix_listK (K:=K) rfl) (pv 3) (pv 7) (fun _ _=>rfl))))))
      (pss_one (ps_expr (pe_bmK (K:=K) rfl PySem.F.plainAttrs_list PySem.F.slot_list_append PySem.F.type_list_append mt_append (pv 5) (pa_cons (pe_fn c_law_table (hr.mono (by decide)) rfl pass0 (pa_cons (pe_fn c_law_cell_at (hr.mono (by decide)) rfl pass0 (pa_cons (pv 0) (pa_cons (pe_op op_add pe_int (pv 4)) pa_nil))) (pa_cons (pv 6) (pa_cons (pe_ix (ix_listK (K:=K) rfl) (pv 3) (pv 4) (fun _ _=>rfl)) pa_nil)))) pa_nil)))))))
      (pss_one (ps_ret (pe_tup (pa_cons (pe_tup (pa_cons (pv 3) (pa_cons (pv 1) (pa_cons (pv 5) pa_nil)))) (pa_cons (pv 2) pa_nil)))))))))),?_⟩
  have hN:(["_law_script", "_law_causes", "_law_hidden", "_law_sizes", "_law_k", "_law_tables", "_law_many", "_law_cause"]:List Str).length=8:=rfl
  obtain ⟨ns,rfl,rfl⟩:=p
  have big:=line_big
  refine run_defW le dp q hN (by walk_at"st") ?_
  refine ex_seq (fun Γ=>∃ n cs hs,Dw n cs hs∧Γ=[some (.fz false (il ns)),some (.fz true (nls cs)),some (.fz true (nl hs)),none,none,none,none,none]) (ex_asgG (js:=[1,2]) (κ:=true) (evg_call (by walk_at"ev") ⟨ns,rfl,rfl⟩) (fun d ⟨n,cs,hs,dw,e⟩=>by rw [e]; exact egt (by walk_at"sc") (by walk_at"sc") ⟨n,cs,hs,dw,rfl⟩)) ?_
  rintro Γ0 ⟨n,cs,hs,dw,rfl⟩
  have n7:=dw.n7
  have cl:=dw.l
  have el:PyData.int (((cs.map nl).length:Nat):Int)=.int (n:Int):=by rw [List.length_map,cl]
  have pc:∀ {k:Nat},k < n→pre_law_cell_at [il ns,.int (3 + (k:Int))] (.int (cellF ns (3 + k))):=fun {k} hk=>⟨ns,3 + k,by rw [Int.natCast_add]; rfl,by omega,rfl⟩
  refine exo true (ds:=([]:List Nat).map fun k:Nat=>.int (k:Int)) (evo_lst (ds:=[]) ea_nil (by decide)) (by walk_at"sc") ?_
  refine exfor (ds:=(List.range n).map fun i:Nat=>.int (i:Int)) true (fun t Γ=>∃ (ss:List Nat) (b4:Option DV),ss.length=t∧(∀ s∈ss,2≤s∧s≤4)∧Γ=[some (.fz false (il ns)),some (.fz true (nls cs)),some (.fz true (nl hs)),some (.ow true (ss.map fun k:Nat=>.int (k:Int))),b4,none,none,none]) (ei_rng1 (n:=(n:Int)) (ea_cons (EvE.eq (ev_len (ds:=cs.map nl) (by walk_at"ev")) el) ea_nil) (by omega) (by omega)) ⟨[],none,rfl,fun _ z=>(nomatch z),rfl⟩ ?_ ?_
  · rintro t d Γ' hd ⟨ss,b4,sl,sb,rfl⟩
    obtain ⟨ht,rfl⟩:=range_get hd
    refine ⟨_,egn (by walk_at"sc") ?_⟩
    obtain ⟨s,hs',s2,s4⟩:∃ s:Nat,2 + cellF ns (3 + t) / 4 % 5 / 2=(s:Int)∧2≤s∧s≤4:=⟨(2 + cellF ns (3 + t) / 4 % 5 / 2).toNat,by omega,by omega,by omega⟩
    refine exa1 (d:=.int (s:Int)) (by walk_at"gc") (EvE.eq (ev_add (by walk_at"ev") (ev_fdiv (ev_mod (ev_fdiv (ev_callF (ea_cons (by walk_at"ev") (ea_cons (ev_add (by walk_at"ev") (by walk_at"ev")) ea_nil)) (pc ht)) (by walk_at"ev") ⟨by decide,by decide⟩) (by walk_at"ev") (by decide)) (by walk_at"ev") ⟨by decide,by decide⟩)) (congrArg PyData.int hs')) (by walk_at"sc") (by rw [List.length_map]; omega) ⟨ss ++ [s],_,by rw [List.length_append,sl]; rfl,fun x hx=>?_,by rw [List.map_append]; rfl⟩
    rcases List.mem_append.mp hx with hx | hx
    · exact sb x hx
    · rw [List.mem_singleton.mp hx]
      exact ⟨s2,s4⟩
  rintro Γ0 ⟨ss,b4,sl,sb,rfl⟩
  rw [range_len] at sl
  refine exfz 3 (by walk_at"gc") (by walk_at"sc") ?_
  have sg:∀ k,k < n→2≤ss.getD k 0∧ss.getD k 0≤4:=fun k hk=>sb _ (List.mem_of_getElem? (getD_some (d:=0) (by omega)))
  refine exo true (ds:=([]:List (List (List Int))).map tbD) (evo_lst (ds:=[]) ea_nil (by decide)) (by walk_at"sc") ?_
  refine exfor (ds:=(List.range n).map fun i:Nat=>.int (i:Int)) true (fun t Γ=>∃ (ts:List (List (List Int))) (b4 b6 b7:Option DV),ts.length=t∧(∀ t∈ts,t≠[]∧t.length≤4096∧∀ r∈t,r≠[]∧r.length≤4∧∀ w∈r,0≤w∧w < 10 ^ 60)∧Γ=[some (.fz false (il ns)),some (.fz true (nls cs)),some (.fz true (nl hs)),some (.fz true (nl ss)),b4,some (.ow true (ts.map tbD)),b6,b7]) (ei_rng1 (n:=(n:Int)) (ea_cons (EvE.eq (ev_len (ds:=cs.map nl) (by walk_at"ev")) el) ea_nil) (by omega) (by omega)) ⟨[],_,none,none,rfl,fun _ z=>(nomatch z),rfl⟩ ?_ ?_
  · rintro k d Γ' hd ⟨ts,b4,b6,b7,tl,tb,rfl⟩
    obtain ⟨hk,rfl⟩:=range_get hd
    refine ⟨_,egn (by walk_at"sc") ?_⟩
    have cr:=dw.e _ (List.mem_of_getElem? (getD_some (d:=[]) (show k < cs.length by omega)))
    have sgk:=sg k hk
    refine exs true (d:=.int ((1:Nat):Int)) (show EvE K .fresh true _ _ (.int 1) by walk_at"ev") (by walk_at"sc") ?_
    refine exfor (ds:=(cs.getD k []).map fun i:Nat=>.int (i:Int)) true (fun t Γ=>∃ (mm:Nat) (b7:Option DV),1≤mm∧mm≤4 ^ t∧Γ=[some (.fz false (il ns)),some (.fz true (nls cs)),some (.fz true (nl hs)),some (.fz true (nl ss)),some (.fz true (.int (k:Int))),some (.ow true (ts.map tbD)),some (.fz true (.int (mm:Int))),b7]) (ei_list (ev_ixL (ds:=cs.map nl) (by walk_at"ev") (by walk_at"ev") (at_nls (by omega)))) ⟨1,_,by decide,by decide,rfl⟩ ?_ ?_
    · rintro i d Γ' hd ⟨mm,b7,m1,m2,rfl⟩
      obtain ⟨c,hc,rfl⟩:=get_map hd
      have cn:=cr.1 c (List.mem_of_getElem? hc)
      have il':=(List.getElem?_eq_some_iff.mp hc).1
      have sc:=sg c cn
      refine ⟨_,egn (by walk_at"sc") ?_⟩
      refine exs1 true (d:=.int ((mm * ss.getD c 0:Nat):Int)) (EvE.eq (ev_mul (by walk_at"ev") (EvE.imm (κ:=false) (ev_ixL (ds:=ss.map fun k:Nat=>PyData.int (k:Int)) (by walk_at"ev") (by walk_at"ev") (at_ns (by omega))) rfl) (small_mul (by omega) (by omega))) (congrArg PyData.int (Int.natCast_mul ..).symm)) (by walk_at"sc") ?_
      exact ⟨_,_,Nat.mul_le_mul m1 (show 1≤ss.getD c 0 by omega),Nat.mul_le_mul m2 sc.2,rfl⟩
    · rintro Γ' ⟨mm,b7,m1,m2,rfl⟩
      rw [List.length_map] at m2
      have m3:mm≤4096:=Nat.le_trans m2 (Nat.pow_le_pow_right (by decide) cr.2)
      refine exag1 (by walk_at"gc") (evg_call (ea_cons (ev_callF (ea_cons (by walk_at"ev") (ea_cons (ev_add (by walk_at"ev") (by walk_at"ev")) ea_nil)) (pc hk)) (ea_cons (by walk_at"ev") (ea_cons (EvE.imm (κ:=false) (ev_ixL (ds:=ss.map fun k:Nat=>PyData.int (k:Int)) (by walk_at"ev") (by walk_at"ev") (at_ns (by omega))) rfl) ea_nil))) ⟨cellF ns (3 + k),mm,ss.getD k 0,rfl,m3,by omega,sgk.2,rfl⟩) (fun d=>by walk_at"sc") (by rw [List.length_map]; omega) ?_
      rintro d ⟨t,t1,t2,rfl⟩
      refine ⟨ts ++ [t],_,_,_,by rw [List.length_append,tl]; rfl,fun x hx=>?_,by rw [List.map_append]; rfl⟩
      rcases List.mem_append.mp hx with hx | hx
      · exact tb x hx
      · rw [List.mem_singleton.mp hx]
        refine ⟨fun z=>by rw [z] at t1; have:0=mm:=t1; omega,by omega,fun r hr=>?_⟩
        obtain ⟨r1,r2⟩:=t2 r hr
        exact ⟨fun z=>by rw [z] at r1; have:0=ss.getD k 0:=r1; omega,by omega,r2⟩
  · rintro Γ' ⟨ts,b4,b6,b7,tl,tb,rfl⟩
    rw [range_len] at tl
    refine exfz 5 (by walk_at"gc") (by walk_at"sc") ?_
    exact ex_ret true (d:=.tuple [bkD ss cs ts,nl hs]) (ev_tup (ds:=[bkD ss cs ts,nl hs]) (ea_cons (ev_tup (ds:=[nl ss,nls cs,.list (ts.map tbD)]) (by walk_at"ev") (by show 3≤sizeLine; omega)) (by walk_at"ev")) (by show 2≤sizeLine; omega)) ⟨n,ss,cs,ts,hs,⟨n7,sl,sb,cl,dw.e,tl,tb⟩,dw.h,rfl⟩ (.inl ⟨rfl,rfl⟩)
def pre_law_copy (ds:List PyData) (d:PyData):Prop:=∃ (n:Nat) (ss:List Nat) (cs:List (List Nat)) (ts:List (List (List Int))),ds=[bkD ss cs ts]∧B0 n ss cs ts∧d=bkD ss cs ts
theorem len_law_copy (ds:List PyData) (d:PyData) (h:pre_law_copy ds d):ds.length=1:=by obtain ⟨a,b,c,e,rfl,_⟩:=h; rfl
theorem sc_law_copy:FnScope ["_law_made", "_law_tables", "_law_table_here"] ["_law_made"] (defScope (top 14)):=⟨rfl,rfl,rfl,by decide +kernel,rfl,by decide +kernel,by decide +kernel⟩
theorem ok_law_copy (F:Fun K "_law_copy" "_law_copy" (top 14) f fd) (B:Bs mg)  : FnOk P w K mg base CX0 1 f fd ["_law_made"] (spD K true pre_law_copy):=by
  have sc:=sc_law_copy
  refine F.ok sc (fun vs H Q E h=>spD_len len_law_copy h) (fun cdv A outer s H vs Q E hr h=>?_)
  obtain ⟨Fh,ds,d,le,dp,p,q⟩:=h
  refine ⟨_,(pss_cons (ps_set (i:=1) sc.nd rfl (Or.inl rfl) (pe_lst pa_nil))
      (pss_cons (ps_for PassesOwn.never rfl (pi_listK (K:=K) rfl (pe_ix (ix_tupK (K:=K) rfl) (pv 0) pe_int (fun _ _=>rfl))) (pg_name (i:=2) sc.nd rfl (Or.inl rfl)) (pss_one (ps_expr (pe_bmK (K:=K) rfl PySem.F.plainAttrs_list PySem.F.slot_list_append PySem.F.type_list_append mt_append (pv 1) (pa_cons (pe_comp rfl (N:=["_law_row"]) (js:=[none]) (by walk_at"comp_ok") (pi_listK (K:=K) rfl (pv 2)) (fun _ _ _ _=>(pg_name (i:=0) (show List.Nodup (["_law_row"]:List PySem.Str) by decide +kernel) rfl (Or.inl rfl))) (fun _ _ _ _=>pif_nil) (fun _ _ _ _=>(pe_callTy (call_list_ofK (K:=K) rfl) rfl B.list (by decide +kernel) (pa_cons (pv 0) pa_nil)))) pa_nil)))))
      (pss_one (ps_ret (pe_tup (pa_cons (pe_callTy (call_list_ofK (K:=K) rfl) rfl B.list (by decide +kernel) (pa_cons (pe_ix (ix_tupK (K:=K) rfl) (pv 0) pe_int (fun _ _=>rfl)) pa_nil)) (pa_cons (pe_comp rfl (N:=["_law_row"]) (js:=[none]) (by walk_at"comp_ok") (pi_listK (K:=K) rfl (pe_ix (ix_tupK (K:=K) rfl) (pv 0) pe_int (fun _ _=>rfl))) (fun _ _ _ _=>(pg_name (i:=0) (show List.Nodup (["_law_row"]:List PySem.Str) by decide +kernel) rfl (Or.inl rfl))) (fun _ _ _ _=>pif_nil) (fun _ _ _ _=>(pe_callTy (call_list_ofK (K:=K) rfl) rfl B.list (by decide +kernel) (pa_cons (pv 0) pa_nil)))) (pa_cons (pv 1) pa_nil)))))))),?_⟩
  have hN:(["_law_made", "_law_tables", "_law_table_here"]:List Str).length=3:=rfl
  obtain ⟨n,ss,cs,ts,rfl,b0,rfl⟩:=p
  have big:=line_big
  have n7:=b0.n7
  have tl:=b0.tl
  have cl:=b0.cl
  walk_at"run"
  refine exo true (ds:=(ts.take 0).map tbD) (evo_lst (ds:=[]) ea_nil (by decide)) (by walk_at"sc") ?_
  refine exfor (ds:=ts.map tbD) false (fun i Γ=>∃ b2,Γ=[some (.fz false (bkD ss cs ts)),some (.ow true ((ts.take i).map tbD)),b2]) (ei_list (ev_ixT (ds:=[nl ss,nls cs,.list (ts.map tbD)]) (by walk_at"ev") (by walk_at"ev") atI2)) ⟨none,rfl⟩ ?_ ?_
  · rintro i d Γ' hd ⟨b2,rfl⟩
    obtain ⟨t,ht,rfl⟩:=get_map hd
    have t4:=(b0.te t (List.mem_of_getElem? ht)).2.1
    refine ⟨_,egn (by walk_at"sc") ?_⟩
    refine exa1 (d:=tbD t) (by walk_at"gc") (EvO.toE (evo_each (κ:=true) (is:=[0]) (xs:=t) false il il (fun x _ y _ h=>h) (ei_list (by walk_at"ev")) (by walk_at"cc") rfl (by decide) (by omega) fun r hr=>egn (by walk_at"sc") (EvO.toE (evo_list (by walk_at"ev"))))) (by walk_at"sc") (by rw [List.length_map,List.length_take]; omega) ?_
    show ∃ b2,_
    rw [take_succ ht,List.map_append]
    exact ⟨_,rfl⟩
  · rintro Γ' ⟨b2,rfl⟩
    rw [List.length_map,List.take_length]
    refine exfz 1 (by walk_at"gc") (by walk_at"sc") ?_
    exact ex_ret true (d:=bkD ss cs ts) (ev_tup (ds:=[nl ss,nls cs,.list (ts.map tbD)]) (ea_cons (EvO.toE (evo_list (EvL.imm (κ:=false) (EvE.toL (ev_ixT (ds:=[nl ss,nls cs,.list (ts.map tbD)]) (by walk_at"ev") (by walk_at"ev") atI0)) (nl_imm ss)))) (ea_cons (EvO.toE (evo_each (κ:=true) (is:=[0]) (xs:=cs) false nl nl (fun x _ y _ h=>h) (ei_list (ev_ixT (ds:=[nl ss,nls cs,.list (ts.map tbD)]) (by walk_at"ev") (by walk_at"ev") atI1)) (by walk_at"cc") rfl (by decide) (by omega) fun r hr=>egn (by walk_at"sc") (EvO.toE (evo_list (EvL.imm (κ:=false) (by walk_at"ev") (nl_imm r)))))) (by walk_at"ev"))) (by show 3≤sizeLine; omega)) rfl (.inl ⟨rfl,rfl⟩)
abbrev w1 (a:Str) (l:List Str):Str:=l.foldl (fun a z=>a ++ " " ++ z) a
theorem w1_join (a z:Str) (l:List Str):w1 a (z :: l)=a ++ " " ++ Str.join " " (z :: l):=by
  show l.foldl (fun (a z:Str)=>a ++ ((" " : Str)) ++ z) (a ++ ((" " : Str)) ++ z)=_
  rw [fold_shift,join_fold]
theorem w1_snoc (a:Str) (l:List Str) (z:Str):w1 a (l ++ [z])=w1 a l ++ " " ++ z:=by
  unfold w1
  rw [List.foldl_append]
  rfl
theorem w1_len:∀ (l:List Str) (a:Str),(∀ z∈l,z.length≤60)→(w1 a l).length≤a.length + l.length * 61
  | [],a,_=>Nat.le_add_right ..
  | z :: l,a,h=>by
    have e1:(" " : Str).length=1:=by decide
    have h1:=h z List.mem_cons_self
    have h2:=w1_len l (a ++ " " ++ z) fun y hy=>h y (List.mem_cons_of_mem _ hy)
    show (w1 (a ++ " " ++ z) l).length≤_
    rw [Str.length_append,Str.length_append,e1] at h2
    rw [List.length_cons]
    omega
def rowsR (L:Str) (t:List (List Int)):Nat→Str
  | 0=>L
  | j + 1=>w1 (if 0 < j then rowsR L t j ++ " /" else rowsR L t j) ((t.getD j []).map tS)
theorem rowsR_eq (L:Str) (t:List (List Int)) (hr:∀ r∈t,r≠[]):∀ j,j < t.length→rowsR L t (j + 1)=L ++ " " ++ Str.join " / " ((t.take (j + 1)).map rwS)
  | 0,h=>by
    have g:=getD_some (d:=[]) h
    have ne:=hr _ (List.mem_of_getElem? g)
    rw [take_succ g]
    show w1 L ((t.getD 0 []).map tS)=L ++ " " ++ rwS (t.getD 0 [])
    cases e:t.getD 0 [] with
    | nil=>exact absurd e ne
    | cons w r=>exact w1_join L (tS w) (r.map tS)
  | j + 1,h=>by
    have g:=getD_some (d:=[]) h
    have ne:=hr _ (List.mem_of_getElem? g)
    have ih:=rowsR_eq L t hr j (by omega)
    rw [take_succ g,List.map_append]
    show w1 (if 0 < j + 1 then rowsR L t (j + 1) ++ " /" else rowsR L t (j + 1)) ((t.getD (j + 1) []).map tS)=_
    rw [if_pos (Nat.succ_pos j),ih]
    have e2:w1 (L ++ " " ++ Str.join " / " ((t.take (j + 1)).map rwS) ++ " /") ((t.getD (j + 1) []).map tS)=L ++ " " ++ Str.join " / " ((t.take (j + 1)).map rwS) ++ " /" ++ " " ++ rwS (t.getD (j + 1) []):=by
      cases e:t.getD (j + 1) [] with
      | nil=>exact absurd e ne
      | cons w r=>exact w1_join _ (tS w) (r.map tS)
    rw [e2]
    cases e:(t.take (j + 1)).map rwS with
    | nil =>
      have:=congrArg List.length e
      rw [List.length_map,List.length_take] at this
      have:min (j + 1) t.length=0:=this
      omega
    | cons x l =>
      show _=L ++ " " ++ Str.join " / " (x :: (l ++ [rwS (t.getD (j + 1) [])]))
      rw [join_snoc]
      have e3:(" / " : Str) = " /" ++ " " := by decide
      rw [e3]
      simp only [Str.append_assoc]
def L3 (zs:List Str) (ss:List Nat) (hs:List Nat) (k:Nat) (r:List Nat):Str:=w1 (zs.getD k "" ++ stS hs k ++ " " ++ tS (ss.getD k 0:Nat)) (r.map fun c=>zs.getD c "")
theorem line_eq (zs:List Str) (ss:List Nat) (cs:List (List Nat)) (ts:List (List (List Int))) (hs:List Nat) (k:Nat) (h1:ts.getD k []≠[]) (h2:∀ r∈ts.getD k [],r≠[]):rowsR (L3 zs ss hs k (cs.getD k []) ++ " :") (ts.getD k []) (ts.getD k []).length=lineS zs ss cs ts hs k:=by
  have l0:=List.length_pos_iff.mpr h1
  obtain ⟨j,hj⟩:∃ j,(ts.getD k []).length=j + 1:=⟨(ts.getD k []).length - 1,by omega⟩
  have:=rowsR_eq (L3 zs ss hs k (cs.getD k []) ++ " :") (ts.getD k []) h2 j (by omega)
  rw [hj,this,← hj,List.take_length]
  unfold lineS
  rw [show [zs.getD k "" ++ stS hs k,tS (ss.getD k 0:Nat)] ++ (cs.getD k []).map (fun c=>zs.getD c "") ++ [(":" : Str),Str.join " / " ((ts.getD k []).map rwS)]=(zs.getD k "" ++ stS hs k) :: (tS (ss.getD k 0:Nat) :: (cs.getD k []).map (fun c=>zs.getD c "") ++ [(":" : Str)] ++ [Str.join " / " ((ts.getD k []).map rwS)]) by simp]
  rw [join_snoc,join_snoc,join_fold]
  have e3:(" :" : Str) = " " ++ ":" := by decide
  rw [e3]
  show L3 zs ss hs k (cs.getD k []) ++ (" " ++ ":") ++ " " ++ _=w1 (zs.getD k "" ++ stS hs k ++ " " ++ tS (ss.getD k 0:Nat)) ((cs.getD k []).map fun c=>zs.getD c "") ++ " " ++ ":" ++ " " ++ _
  unfold L3
  simp only [Str.append_assoc]
theorem B0.bk {n:Nat} {zs:List Str} {ss:List Nat} {cs:List (List Nat)} {ts:List (List (List Int))} (b:B0 n ss cs ts) (h1:zs.length=n) (h2:∀ z∈zs,z.length≤20):Bk n zs ss cs ts:=⟨b.n7,h1,h2,b.sl,b.sb,b.cl,b.ce,b.tl,b.te⟩
theorem rowsR_len {L:Str} {t:List (List Int)} (hr:∀ r∈t,r≠[]∧r.length≤4∧∀ w∈r,0≤w∧w < 10 ^ 60):∀ j,j≤t.length→(rowsR L t j).length≤L.length + j * 246
  | 0,_=>Nat.le_add_right ..
  | j + 1,h=>by
    have e2:(" /" : Str).length=2:=by decide
    have ih:=rowsR_len (L:=L) hr j (by omega)
    have g:=getD_some (d:=[]) (show j < t.length by omega)
    obtain ⟨_,r4,rw'⟩:=hr _ (List.mem_of_getElem? g)
    have h2:=w1_len ((t.getD j []).map tS) (if 0 < j then rowsR L t j ++ " /" else rowsR L t j) fun z hz=>by
      obtain ⟨w,hw,rfl⟩:=List.mem_map.mp hz
      exact tS_len (rw' w hw).1 (rw' w hw).2
    rw [List.length_map] at h2
    have h3:(if 0 < j then rowsR L t j ++ " /" else rowsR L t j).length≤(rowsR L t j).length + 2:=by
      split
      · rw [Str.length_append,e2]
        exact Nat.le_refl _
      · omega
    show (w1 _ _).length≤_
    rw [Nat.succ_mul]
    omega
def pre_law_line (ds:List PyData) (d:PyData):Prop:=∃ (n:Nat) (zs:List Str) (ss:List Nat) (cs:List (List Nat)) (ts:List (List (List Int))) (hs:List Nat) (k:Nat),ds=[stL zs,bkD ss cs ts,nl hs,.int (k:Int)]∧Bk n zs ss cs ts∧k < n∧d=.str (lineS zs ss cs ts hs k)
theorem len_law_line (ds:List PyData) (d:PyData) (h:pre_law_line ds d):ds.length=4:=by obtain ⟨a,b,c,e,f,g,i,rfl,_⟩:=h; rfl
theorem sc_law_line:FnScope ["_law_names_here", "_law_made", "_law_hidden", "_law_k", "_law_line_here", "_law_cause", "_law_j", "_law_weight_here"] ["_law_names_here", "_law_made", "_law_hidden", "_law_k"] (defScope (top 15)):=⟨rfl,rfl,rfl,by decide +kernel,rfl,by decide +kernel,by decide +kernel⟩
theorem ok_law_line (F:Fun K "_law_line" "_law_line" (top 15) f fd) (B:Bs mg)  : FnOk P w K mg base CX0 1 f fd ["_law_names_here", "_law_made", "_law_hidden", "_law_k"] (spD K true pre_law_line):=by
  have sc:=sc_law_line
  refine F.ok sc (fun vs H Q E h=>spD_len len_law_line h) (fun cdv A outer s H vs Q E hr h=>?_)
  obtain ⟨Fh,ds,d,le,dp,p,q⟩:=h
  refine ⟨_,(pss_cons (ps_set (i:=4) sc.nd rfl (Or.inl rfl) (pe_ix (ix_listK (K:=K) rfl) (pv 0) (pv 3) (fun _ _=>rfl)))
      (pss_cons (ps_if (pt_cmpR (op_in_seqK (K:=K) rfl) (pv 3) (pv 2) (rfl)) (pss_one (ps_set (i:=4) sc.nd rfl (Or.inl rfl) (pe_op op_addS (pv 4) pe_str))) pss_nil)
      (pss_cons (ps_set (i:=4) sc.nd rfl (Or.inl rfl) (pe_op op_addS (pe_op op_addS (pv 4) pe_str) (pe_callTy call_str_int rfl B.str (by decide +kernel) (pa_cons (pe_ix (ix_listK (K:=K) rfl) (pe_ix (ix_tupK (K:=K) rfl) (pv 1) pe_int (fun _ _=>rfl)) (pv 3) (fun _ _=>rfl)) pa_nil))))
      (pss_cons (ps_for PassesOwn.never rfl (pi_listK (K:=K) rfl (pe_ix (ix_listK (K:=K) rfl) (pe_ix (ix_tupK (K:=K) rfl) (pv 1) pe_int (fun _ _=>rfl)) (pv 3) (fun _ _=>rfl))) (pg_name (i:=5) sc.nd rfl (Or.inl rfl)) (pss_one (ps_set (i:=4) sc.nd rfl (Or.inl rfl) (pe_op op_addS (pe_op op_addS (pv 4) pe_str) (pe_ix (ix_listK (K:=K) rfl) (pv 0) (pv 5) (fun _ _=>rfl))))))
      (pss_cons (ps_set (i:=4) sc.nd rfl (Or.inl rfl) (pe_op op_addS (pv 4) pe_str))
      (pss_cons (ps_for PassesOwn.never rfl (pi_range1 rfl B.range (pa_cons (pe_callB (call_len_seqK (K:=K) rfl) rfl B.len (by decide +kernel) (pa_cons (pe_ix (ix_listK (K:=K) rfl) (pe_ix (ix_tupK (K:=K) rfl) (pv 1) pe_int (fun _ _=>rfl)) (pv 3) (fun _ _=>rfl)) pa_nil)) pa_nil)) (pg_name (i:=6) sc.nd rfl (Or.inl rfl)) (pss_cons (ps_if (pt_cmpR op_gt (pv 6) pe_int (nomark _)) (pss_one (ps_set (i:=4) sc.nd rfl (Or.inl rfl) (pe_op op_addS (pv 4) pe_str))) pss_nil)
      (pss_one (ps_for PassesOwn.never rfl (pi_listK (K:=K) rfl (pe_ix (ix_listK (K:=K) rfl) (pe_ix (ix_listK (K:=K) rfl) (pe_ix (ix_tupK (K:=K) rfl) (pv 1) pe_int (fun _ _=>rfl)) (pv 3) (fun _ _=>rfl)) (pv 6) (fun _ _=>rfl))) (pg_name (i:=7) sc.nd rfl (Or.inl rfl)) (pss_one (ps_set (i:=4) sc.nd rfl (Or.inl rfl) (pe_op op_addS (pe_op op_addS (pv 4) pe_str) (pe_callTy call_str_int rfl B.str (by decide +kernel) (pa_cons (pv 7) pa_nil)))))))))
      (pss_one (ps_ret (pv 4))))))))),?_⟩
  have hN:(["_law_names_here", "_law_made", "_law_hidden", "_law_k", "_law_line_here", "_law_cause", "_law_j", "_law_weight_here"]:List Str).length=8:=rfl
  obtain ⟨n,zs,ss,cs,ts,hs,k,rfl,b,kn,rfl⟩:=p
  have big:=line_big
  have big2:=big_line
  obtain ⟨c1,c2⟩:=b.row kn
  obtain ⟨t1,t2,t3⟩:=b.tab kn
  have zl:=b.zl
  have nk:=b.nm kn
  have sk:=star_len hs k
  have sz:=(b.sz kn).2
  have sl:(tS (ss.getD k 0:Nat)).length≤60:=tS_len (by omega) (Int.lt_of_le_of_lt (show ((ss.getD k 0:Nat):Int)≤4 by omega) (by decide))
  have e1:(" " : Str).length=1:=by decide
  have e2:(" :" : Str).length=2:=by decide
  have e3:(" /" : Str).length=2:=by decide
  have e4:("*" : Str).length=1:=by decide
  have nmE:∀ {κ:Bool} {Γ0:PD.Ctx} {ti:TE} {c:Nat},GetC Γ0 0 (.fz false (stL zs))→c < n→EvE K .fresh false ti Γ0 (.int (c:Int))→EvE K .fresh κ (tOp (rIxL K) (tVar 0) ti) Γ0 (.str (zs.getD c "")):=fun {κ Γ0 ti c} h hc h3=>EvE.imm (κ:=false) (ev_ixL (ds:=zs.map .str) (EvE.toL (evv h (by decide))) h3 (at_strs (by omega))) rfl
  have l2:(zs.getD k "" ++ stS hs k ++ " " ++ tS (ss.getD k 0:Nat)).length≤90:=by
    rw [Str.length_append,Str.length_append,Str.length_append,e1]
    omega
  have l3:∀ r:List Nat,(∀ c∈r,c < n)→(L3 zs ss hs k r).length≤90 + r.length * 61:=fun r hr=>by
    have:=w1_len (r.map fun c=>zs.getD c "") (zs.getD k "" ++ stS hs k ++ " " ++ tS (ss.getD k 0:Nat)) fun z hz=>by
      obtain ⟨c,hc,rfl⟩:=List.mem_map.mp hz
      exact Nat.le_trans (b.nm (hr c hc)) (by decide)
    rw [List.length_map] at this
    unfold L3
    omega
  walk_at"run"
  refine exs true (d:=.str (zs.getD k "")) (nmE (by walk_at"gc") kn (by walk_at"ev")) (by walk_at"sc") ?_
  refine exif (b:=decide (k∈hs)) (·=[some (.fz false (stL zs)),some (.fz false (bkD ss cs ts)),some (.fz false (nl hs)),some (.fz false (.int (k:Int))),some (.fz true (.str (zs.getD k "" ++ stS hs k))),none,none,none]) (in_zl (by walk_at"ev") (by walk_at"ev")) (fun h=>?_) (fun h=>?_) ?_
  · rw [show stS hs k = "*" from if_pos (of_decide_eq_true h)]
    exact exs1 true (d:=.str (zs.getD k "" ++ "*")) (ev_addS (by walk_at"ev") (by walk_at"ev") (by rw [e4]; omega)) (by walk_at"sc") rfl
  · rw [show stS hs k = "" from if_neg (of_decide_eq_false h),show zs.getD k "" ++ (("" : Str))=zs.getD k "" from Str.append_empty _]
    exact ex_next rfl
  rintro Γ0 rfl
  refine exs true (d:=.str (L3 zs ss hs k ((cs.getD k []).take 0))) (ev_addS (ev_addS (by walk_at"ev") (by walk_at"ev") (by rw [Str.length_append,e1]; omega)) (ev_strI (EvE.imm (κ:=false) (ev_ixL (ds:=ss.map fun k:Nat=>PyData.int (k:Int)) (EvE.toL (ev_ixT (ds:=[nl ss,nls cs,.list (ts.map tbD)]) (by walk_at"ev") (by walk_at"ev") atI0)) (by walk_at"ev") (at_ns (by rw [b.sl]; exact kn))) rfl) (log_lt60 (by omega) (Int.lt_of_le_of_lt (show ((ss.getD k 0:Nat):Int)≤4 by omega) (by decide)))) (by rw [Str.length_append] at l2; exact Nat.le_trans l2 (by omega))) (by walk_at"sc") ?_
  refine exfor (ds:=(cs.getD k []).map fun k:Nat=>.int (k:Int)) false (fun i Γ=>∃ b5,Γ=[some (.fz false (stL zs)),some (.fz false (bkD ss cs ts)),some (.fz false (nl hs)),some (.fz false (.int (k:Int))),some (.fz true (.str (L3 zs ss hs k ((cs.getD k []).take i)))),b5,none,none]) (ei_list (ev_ixL (κ:=false) (ds:=cs.map nl) (EvE.toL (ev_ixT (ds:=[nl ss,nls cs,.list (ts.map tbD)]) (by walk_at"ev") (by walk_at"ev") atI1)) (by walk_at"ev") (at_nls (by rw [b.cl]; exact kn)))) ⟨none,rfl⟩ ?_ ?_
  · rintro i d Γ' hd ⟨b5,rfl⟩
    obtain ⟨c,hc,rfl⟩:=get_map hd
    have cn:=c1 c (List.mem_of_getElem? hc)
    have cb:=b.nm cn
    have l3i:=l3 ((cs.getD k []).take i) fun c hc=>c1 c (List.mem_of_mem_take hc)
    have tl:((cs.getD k []).take i).length≤6:=by rw [List.length_take]; omega
    refine ⟨_,egn (by walk_at"sc") ?_⟩
    refine exs1 true (d:=.str (L3 zs ss hs k ((cs.getD k []).take i) ++ " " ++ zs.getD c "")) (ev_addS (ev_addS (by walk_at"ev") (by walk_at"ev") (by rw [e1]; omega)) (nmE (by walk_at"gc") cn (by walk_at"ev")) (by rw [Str.length_append,e1]; omega)) (by walk_at"sc") ?_
    refine ⟨some (.fz false (.int (c:Int))),?_⟩
    rw [take_succ hc,show L3 zs ss hs k ((cs.getD k []).take i ++ [c])=L3 zs ss hs k ((cs.getD k []).take i) ++ " " ++ zs.getD c "" from by unfold L3; rw [List.map_append]; exact w1_snoc ..]
  rintro Γ0 ⟨b5,rfl⟩
  rw [List.length_map,List.take_length]
  have l3a:=l3 (cs.getD k []) c1
  refine exs true (d:=.str (L3 zs ss hs k (cs.getD k []) ++ " :")) (ev_addS (by walk_at"ev") (by walk_at"ev") (by rw [e2]; omega)) (by walk_at"sc") ?_
  have le:=line_eq zs ss cs ts hs k t1 fun r hr=>(t3 r hr).1
  have l4:(L3 zs ss hs k (cs.getD k []) ++ " :").length≤600:=by rw [Str.length_append,e2]; omega
  rw [← le]
  generalize L3 zs ss hs k (cs.getD k []) ++ " :" = L at l4
  have rl:=rowsR_len (L:=L) t3
  have tE:∀ {Γ0:PD.Ctx},GetC Γ0 1 (.fz false (bkD ss cs ts))→GetC Γ0 3 (.fz false (.int (k:Int)))→EvE K .fresh false (tOp (rIxL K) (tOp (rIxT K) (tVar 1) (tC (.int 2))) (tVar 3)) Γ0 (tbD (ts.getD k [])):=fun {Γ0} h h3=>ev_ixL (κ:=false) (ds:=ts.map tbD) (EvE.toL (ev_ixT (ds:=[nl ss,nls cs,.list (ts.map tbD)]) (evv h (by decide)) (by walk_at"ev") atI2)) (evv h3 (by decide)) (at_tabs (by rw [b.tl]; exact kn))
  refine exfor (ds:=(List.range (ts.getD k []).length).map fun i:Nat=>.int (i:Int)) true (fun j Γ=>∃ b6 b7,Γ=[some (.fz false (stL zs)),some (.fz false (bkD ss cs ts)),some (.fz false (nl hs)),some (.fz false (.int (k:Int))),some (.fz true (.str (rowsR L (ts.getD k []) j))),b5,b6,b7]) (ei_rng1 (n:=((ts.getD k []).length:Int)) (ea_cons (EvE.eq (ev_len (ds:=(ts.getD k []).map il) (EvE.toL (tE (by walk_at"gc") (by walk_at"gc")))) (by rw [List.length_map])) ea_nil) (by omega) (by omega)) ⟨none,none,rfl⟩ ?_ ?_
  · rintro j d Γ' hd ⟨b6,b7,rfl⟩
    obtain ⟨hj,rfl⟩:=range_get hd
    have gj:=getD_some (d:=[]) hj
    obtain ⟨_,r4,rw'⟩:=t3 _ (List.mem_of_getElem? gj)
    have rj:=rl j (by omega)
    refine ⟨_,egn (by walk_at"sc") ?_⟩
    refine exif (b:=decide ((0:Int) < (j:Int))) (·=[some (.fz false (stL zs)),some (.fz false (bkD ss cs ts)),some (.fz false (nl hs)),some (.fz false (.int (k:Int))),some (.fz true (.str (if 0 < j then rowsR L (ts.getD k []) j ++ " /" else rowsR L (ts.getD k []) j))),b5,some (.fz true (.int (j:Int))),b7]) (et_test (ev_gt (by walk_at"ev") (by walk_at"ev"))) (fun h=>?_) (fun h=>?_) ?_
    · have h:0 < j:=by have:=of_decide_eq_true h; omega
      rw [if_pos h]
      exact exs1 true (d:=.str (rowsR L (ts.getD k []) j ++ " /")) (ev_addS (by walk_at"ev") (by walk_at"ev") (by rw [e3]; omega)) (by walk_at"sc") rfl
    · have h:¬ 0 < j:=by have:=of_decide_eq_false h; omega
      rw [if_neg h]
      exact ex_next rfl
    rintro Γ1 rfl
    have rs:rowsR L (ts.getD k []) (j + 1)=w1 (if 0 < j then rowsR L (ts.getD k []) j ++ " /" else rowsR L (ts.getD k []) j) (((ts.getD k []).getD j []).map tS):=rfl
    have h3:(if 0 < j then rowsR L (ts.getD k []) j ++ " /" else rowsR L (ts.getD k []) j).length≤(rowsR L (ts.getD k []) j).length + 2:=by
      split
      · rw [Str.length_append,e3]
        exact Nat.le_refl _
      · omega
    obtain ⟨A,hA⟩:∃ A,A=if 0 < j then rowsR L (ts.getD k []) j ++ " /" else rowsR L (ts.getD k []) j:=⟨_,rfl⟩
    rw [← hA] at h3 rs ⊢
    refine ex_for (ds:=((ts.getD k []).getD j []).map .int) false (fun i Γ=>∃ b7,Γ=[some (.fz false (stL zs)),some (.fz false (bkD ss cs ts)),some (.fz false (nl hs)),some (.fz false (.int (k:Int))),some (.fz true (.str (w1 A ((((ts.getD k []).getD j []).take i).map tS)))),b5,some (.fz true (.int (j:Int))),b7]) (ei_list (ev_ixL (κ:=false) (ds:=(ts.getD k []).map il) (EvE.toL (tE (by walk_at"gc") (by walk_at"gc"))) (by walk_at"ev") (atI_map gj))) ⟨b7,rfl⟩ ?_ ?_
    · rintro i d Γ' hd ⟨b7,rfl⟩
      obtain ⟨w,hw,rfl⟩:=get_map hd
      have hw':=rw' w (List.mem_of_getElem? hw)
      have tw:=tS_len hw'.1 hw'.2
      have wl:=w1_len ((((ts.getD k []).getD j []).take i).map tS) A fun z hz=>by
        obtain ⟨w,hw,rfl⟩:=List.mem_map.mp hz
        have:=rw' w (List.mem_of_mem_take hw)
        exact tS_len this.1 this.2
      rw [List.length_map,List.length_take] at wl
      have:min i ((ts.getD k []).getD j []).length≤4:=by omega
      refine ⟨_,egn (by walk_at"sc") ?_⟩
      refine exs1 true (d:=.str (w1 A ((((ts.getD k []).getD j []).take i).map tS) ++ " " ++ tS w)) (ev_addS (ev_addS (by walk_at"ev") (by walk_at"ev") (by rw [e1]; omega)) (ev_strI (by walk_at"ev") (log_lt60 hw'.1 hw'.2)) (by rw [Str.length_append,e1]; omega)) (by walk_at"sc") ?_
      refine ⟨some (.fz false (.int w)),?_⟩
      rw [take_succ hw,List.map_append,show w1 A ((((ts.getD k []).getD j []).take i).map tS ++ [w].map tS)=_ from w1_snoc ..]
    · rintro Γ' ⟨b7,rfl⟩
      rw [show (((ts.getD k []).getD j []).map PyData.int).length=((ts.getD k []).getD j []).length from List.length_map ..,List.take_length]
      exact ⟨_,_,by rw [rs]⟩
  · rintro Γ' ⟨b6,b7,rfl⟩
    rw [range_len]
    exact ex_ret true (by walk_at"ev") rfl (.inl ⟨rfl,rfl⟩)
def dueS (f:Nat→Str):Nat→Str
  | 0 => ""
  | j + 1=>(if 0 < j then dueS f j ++ "\n" else dueS f j) ++ f j
theorem dueS_eq (f:Nat→Str):∀ j,dueS f j=Str.join "\n" ((List.range j).map f)
  | 0=>rfl
  | 1=>by
    show (("" : Str)) ++ f 0=f 0
    exact Str.empty_append _
  | j + 2=>by
    have ih:=dueS_eq f (j + 1)
    show (if 0 < j + 1 then dueS f (j + 1) ++ "\n" else dueS f (j + 1)) ++ f (j + 1)=_
    rw [if_pos (Nat.succ_pos j),ih,List.range_succ (n:=j + 1),List.map_append]
    cases e:(List.range (j + 1)).map f with
    | nil =>
      have:=congrArg List.length e
      rw [List.length_map,List.length_range] at this
      cases this
    | cons x l=>exact (join_snoc ((("\n" : Str))) x (f (j + 1)) l).symm
theorem due_len {f:Nat→Str} {n:Nat} (h:∀ k,k < n→(f k).length≤1200000):∀ j,j≤n→(dueS f j).length≤j * 1200001
  | 0,_=>Nat.le_refl _
  | j + 1,hj=>by
    have e1:("\n" : Str).length=1:=by decide
    have ih:=due_len h j (by omega)
    have h1:=h j (by omega)
    show ((if 0 < j then dueS f j ++ "\n" else dueS f j) ++ f j).length≤_
    rw [Str.length_append,Nat.succ_mul]
    have:(if 0 < j then dueS f j ++ "\n" else dueS f j).length≤(dueS f j).length + 1:=by
      split
      · rw [Str.length_append,e1]
        exact Nat.le_refl _
      · omega
    omega
theorem lay_str:∀ zs:List Str,(∀ z∈zs,Let z)→PyData.canLayAll0 (zs.map .str)=true
  | [],_=>rfl
  | z :: l,h=>by
    show (PyData.canLay0 (.str z) && PyData.canLayAll0 (l.map .str))=true
    rw [(h z List.mem_cons_self).ok,lay_str l fun y hy=>h y (List.mem_cons_of_mem _ hy)]
    rfl
theorem lay_nls (cs:List (List Nat)):PyData.canLay0 (nls cs)=true:=lay_map (g:=nl) (fun k=>lay_map (g:=fun k:Nat=>PyData.int (k:Int)) (fun _=>rfl) k) cs
theorem lay_tbs (ts:List (List (List Int))):PyData.canLay0 (.list (ts.map tbD))=true:=lay_map (g:=tbD) (fun t=>lay_map (g:=il) (fun r=>lay_map (g:=PyData.int) (fun _=>rfl) r) t) ts
theorem depth_nl (ks:List Nat):PyData.depth (nl ks)≤1:=by
  have:=depth_map (g:=fun k:Nat=>PyData.int (k:Int)) (n:=0) (fun _=>Nat.le_refl _) ks
  show PyData.depthAll _ + 1≤1
  omega
theorem depth_il (ks:List Int):PyData.depth (il ks)≤1:=by
  have:=depth_map (g:=PyData.int) (n:=0) (fun _=>Nat.le_refl _) ks
  show PyData.depthAll _ + 1≤1
  omega
theorem depth_tb (t:List (List Int)):PyData.depth (tbD t)≤2:=by
  have:=depth_map (g:=il) (n:=1) depth_il t
  show PyData.depthAll _ + 1≤2
  omega
theorem shaped_all (zs:List Str) (lz:∀ z∈zs,Let z) (ss:List Nat) (cs:List (List Nat)) (ts:List (List (List Int))) (hs:List Nat):SeqAt.shaped (.tuple [stL zs,bkD ss cs ts,nl hs])=true:=by
  have h1:PyData.canLay0 (stL zs)=true:=lay_str zs lz
  have h2:=lay_map (g:=fun k:Nat=>PyData.int (k:Int)) (fun _=>rfl) ss
  have h3:=lay_nls cs
  have h4:=lay_tbs ts
  have h5:=lay_map (g:=fun k:Nat=>PyData.int (k:Int)) (fun _=>rfl) hs
  have d1:=depth_map (g:=PyData.str) (n:=0) (fun _=>Nat.le_refl _) zs
  have d2:=depth_nl ss
  have d3:=depth_map (g:=nl) (n:=1) depth_nl cs
  have d4:=depth_map (g:=tbD) (n:=2) depth_tb ts
  have d5:=depth_nl hs
  refine shaped_of ?_ ?_
  · show (PyData.canLay0 (stL zs) && ((PyData.canLay0 (nl ss) && (PyData.canLay0 (nls cs) && (PyData.canLay0 (.list (ts.map tbD)) && true))) && (PyData.canLay0 (nl hs) && true)))=true
    rw [h1,show PyData.canLay0 (nl ss)=true from h2,h3,h4,show PyData.canLay0 (nl hs)=true from h5]
    rfl
  · show max (PyData.depthAll (zs.map .str) + 1) (max ((max (PyData.depth (nl ss)) (max (PyData.depthAll (cs.map nl) + 1) (max (PyData.depthAll (ts.map tbD) + 1) 0))) + 1) (max (PyData.depth (nl hs)) 0)) + 1≤50
    omega
theorem small_bk:Bk 1 ["q"] [2] [[]] [[[1,5]]]:=⟨by decide,rfl,fun z hz=>by rw [List.mem_singleton.mp hz]; decide,rfl,fun s hs=>by rw [List.mem_singleton.mp hs]; decide,rfl,fun r hr=>by rw [List.mem_singleton.mp hr]; exact ⟨fun x hx=>(nomatch hx),by decide⟩,rfl,fun t ht=>by
  rw [List.mem_singleton.mp ht]
  refine ⟨by simp,by decide,fun r hr=>?_⟩
  rw [List.mem_singleton.mp hr]
  refine ⟨by simp,by decide,fun w hw=>?_⟩
  rcases List.mem_cons.mp hw with rfl | hw
  · exact ⟨by decide,by decide⟩
  · rw [List.mem_singleton.mp hw]
    exact ⟨by decide,by decide⟩⟩
theorem rd_q {X:Cx} {j:Nat} {p p2:Pos}:PE X (.List [.Constant (.str "q") j p] p2) (tLst (tCons (tC (.str "q")) tNil)):=pe_lst (pa_consC pe_str pa_nil)
theorem rd_i {X:Cx} {j:Nat} {i:Int} {p p2:Pos}:PE X (.List [.Constant (.int i) j p] p2) (tLst (tCons (tC (.int i)) tNil)):=pe_lst (pa_consC pe_int pa_nil)
theorem rd_ii {X:Cx} {j j2:Nat} {i k:Int} {p p2 p3:Pos}:PE X (.List [.Constant (.int i) j p,.Constant (.int k) j2 p3] p2) (tLst (tCons (tC (.int i)) (tCons (tC (.int k)) tNil))):=pe_lst (pa_consC pe_int (pa_consC pe_int pa_nil))
theorem rd_l {X:Cx} {xs:List Expr} {t:TE} {p p2:Pos} (h:PE X (.List xs p) t):PE X (.List [.List xs p] p2) (tLst (tCons t tNil)):=pe_lst (pa_consL h pa_nil)
theorem rd_t {X:Cx} {j1 j2 j3 x1:Nat} {a b c:Int} {p1 p2 p3 p4 p5 p6 p7 p8 p9 p10:Pos}:PE X (.Tuple [.List [.Constant (.int a) j1 p1] p2,.List [.List [] p3] p4,.List [.List [.List [.Constant (.int b) j2 p5,.Constant (.int c) j3 p6] p7] p8] p9] x1 p10)
    (tTup (tCons (tLst (tCons (tC (.int a)) tNil)) (tCons (tLst (tCons (tLst tNil) tNil)) (tCons (tLst (tCons (tLst (tCons (tLst (tCons (tC (.int b)) (tCons (tC (.int c)) tNil))) tNil)) tNil)) tNil)))) :=
  pe_tup (pa_consL rd_i (pa_consL (rd_l (pe_lst pa_nil)) (pa_consL (rd_l (rd_l rd_ii)) pa_nil)))
theorem sc_law:FnScope ["_law_script", "_law_made", "_law_hidden", "_law_names_here", "_law_due", "_law_k", "_law_handed", "_law_found"] ["_law_script"] (defScope (top 16)):=⟨rfl,rfl,rfl,by decide +kernel,rfl,by decide +kernel,by decide +kernel⟩
set_option maxHeartbeats 2000000 in
theorem ok_law (F:Fun K "law" "law" (top 16) f fd) (B:Bs mg) (c_law_book:Callee P w K mg base CX0 "_law_book" ["_law_script"] 3 (spW K true pre_law_book)) (c_law_names:Callee P w K mg base CX0 "_law_names" ["_law_cell", "_law_many"] 2 (spW K true pre_law_names)) (c_law_cell_at:Callee P w K mg base CX0 "_law_cell_at" ["_law_script", "_law_k"] 1 (spD K true pre_law_cell_at)) (c_law_line:Callee P w K mg base CX0 "_law_line" ["_law_names_here", "_law_made", "_law_hidden", "_law_k"] 1 (spD K true pre_law_line)) (c_law_copy:Callee P w K mg base CX0 "_law_copy" ["_law_made"] 1 (spD K true pre_law_copy)) (c_shown:Callee P w K mg base CX0 "shown" ["names", "book", "hidden"] 3 (spD K true pre_shown)):FnOk P w K mg base CX0 4 f fd ["_law_script"] (spLaw K):=by
  have sc:=sc_law
  refine F.ok sc (fun vs H Q E h=>?_) (fun cdv A outer s H vs Q E hr h=>?_)
  · obtain ⟨a,ns,rfl,_⟩:=h
    rfl
  obtain ⟨a,ns,rfl,hS,h63,k⟩:=h
  have le:Same H H:=Same.refl H
  have dp:DpAll K H [V.ref a] [PyData.list (ns.map .int)]:=.cons (.lst hS (dpAll_ints ns)) .nil
  have q:∀ v H' F',Gr H H H' F'→Rp K false .fresh H F' v (.bool true)→Q v H':=fun v H' F' _ z=>by cases z; exact k H'
  refine ⟨_,(pss_cons (ps_asg (pe_fn c_law_book (hr.mono (by decide)) rfl pass0 (pa_cons (pv 0) pa_nil)) (pg_tupK (K:=K) (n:=2) rfl rfl (pgs_cons (pg_name (i:=1) sc.nd rfl (Or.inl rfl)) (pgs_cons (pg_name (i:=2) sc.nd rfl (Or.inl rfl)) pgs_nil))))
      (pss_cons (ps_set (i:=3) sc.nd rfl (Or.inl rfl) (pe_fn c_law_names (hr.mono (by decide)) rfl pass0 (pa_cons (pe_fn c_law_cell_at (hr.mono (by decide)) rfl pass0 (pa_cons (pv 0) (pa_cons pe_int pa_nil))) (pa_cons (pe_callB (call_len_seqK (K:=K) rfl) rfl B.len (by decide +kernel) (pa_cons (pe_ix (ix_tupK (K:=K) rfl) (pv 1) pe_int (fun _ _=>rfl)) pa_nil)) pa_nil))))
      (pss_cons (ps_set (i:=4) sc.nd rfl (Or.inl rfl) pe_str)
      (pss_cons (ps_for PassesOwn.never rfl (pi_range1 rfl B.range (pa_cons (pe_callB (call_len_seqK (K:=K) rfl) rfl B.len (by decide +kernel) (pa_cons (pv 3) pa_nil)) pa_nil)) (pg_name (i:=5) sc.nd rfl (Or.inl rfl)) (pss_cons (ps_if (pt_cmpR op_gt (pv 5) pe_int (nomark _)) (pss_one (ps_set (i:=4) sc.nd rfl (Or.inl rfl) (pe_op op_addS (pv 4) pe_str))) pss_nil)
      (pss_one (ps_set (i:=4) sc.nd rfl (Or.inl rfl) (pe_op op_addS (pv 4) (pe_fn c_law_line (hr.mono (by decide)) rfl pass0 (pa_cons (pv 3) (pa_cons (pv 1) (pa_cons (pv 2) (pa_cons (pv 5) pa_nil))))))))))
      (pss_cons (ps_set (i:=6) sc.nd rfl (Or.inl rfl) (pe_tup (pa_cons (pe_callTy (call_list_ofK (K:=K) rfl) rfl B.list (by decide +kernel) (pa_cons (pv 3) pa_nil)) (pa_cons (pe_fn c_law_copy (hr.mono (by decide)) rfl pass0 (pa_cons (pv 1) pa_nil)) (pa_cons (pe_callTy (call_list_ofK (K:=K) rfl) rfl B.list (by decide +kernel) (pa_cons (pv 2) pa_nil)) pa_nil)))))
      (pss_cons (ps_set (i:=7) sc.nd rfl (Or.inl rfl) (pe_fn c_shown (hr.mono (by decide)) rfl pass0 (pa_cons (pe_ix (ix_tupK (K:=K) rfl) (pv 6) pe_int (fun _ _=>rfl)) (pa_cons (pe_ix (ix_tupK (K:=K) rfl) (pv 6) pe_int (fun _ _=>rfl)) (pa_cons (pe_ix (ix_tupK (K:=K) rfl) (pv 6) pe_int (fun _ _=>rfl)) pa_nil)))))
      (pss_cons (ps_if (PW.pt (pw_or (pt_not (pt_val (pe_callB (call_isiDK (K:=K) rfl) rfl B.isinstance (by decide +kernel) (pa_cons (pv 7) (pa_cons (pe_bltn (v:=.ty "str") rfl B.str (by decide +kernel) rfl) pa_nil))))) (pw_or1 (pt_cmpR op_ne (pv 7) (pv 4) (nomark _))))) (pss_one (ps_ret pe_bl)) pss_nil)
      (pss_cons (ps_if (pt_cmpR (op_neSK (K:=K) rfl hr.units) (pv 6) (pe_tup (pa_cons (pv 3) (pa_cons (pv 1) (pa_cons (pv 2) pa_nil)))) (nomark _)) (pss_one (ps_ret pe_bl)) pss_nil)
      (pss_cons (ps_expr (pe_bm0K (K:=K) rfl PySem.F.plainAttrs_list PySem.F.slot_list_clear PySem.F.type_list_clear mt_clear (pe_ix (ix_tupK (K:=K) rfl) (pv 6) pe_int (fun _ _=>rfl))))
      (pss_cons (ps_expr (pe_fnLTL c_shown (hr.mono (by decide)) rfl pass0 (pa_consL rd_q (pa_consT rd_t (pa_consL (pe_lst pa_nil) pa_nil)))))
      (pss_one (ps_ret (pe_cmpR op_eq (pe_fn c_shown (hr.mono (by decide)) rfl pass0 (pa_cons (pe_ix (ix_tupK (K:=K) rfl) (pv 6) pe_int (fun _ _=>rfl)) (pa_cons (pe_ix (ix_tupK (K:=K) rfl) (pv 6) pe_int (fun _ _=>rfl)) (pa_cons (pv 2) pa_nil)))) (pv 4) (nomark _)))))))))))))),?_⟩
  have hN:(["_law_script", "_law_made", "_law_hidden", "_law_names_here", "_law_due", "_law_k", "_law_handed", "_law_found"]:List Str).length=8:=rfl
  have big:=line_big
  have big2:=big_line
  walk_at"run"
  refine ex_seq (fun Γ=>∃ n ss cs ts hs,B0 n ss cs ts∧hs.length≤12∧Γ=[some (.fz false (il ns)),some (.fz true (bkD ss cs ts)),some (.fz true (nl hs)),none,none,none,none,none]) (ex_asgG (js:=[1,2]) (κ:=true) (evg_call (by walk_at"ev") ⟨ns,rfl,rfl⟩) (fun d ⟨n,ss,cs,ts,hs,b0,hl,e⟩=>by rw [e]; exact egt (by walk_at"sc") (by walk_at"sc") ⟨n,ss,cs,ts,hs,b0,hl,rfl⟩)) ?_
  rintro Γ0 ⟨n,ss,cs,ts,hs,b0,hl,rfl⟩
  have n7:=b0.n7
  have pc2:pre_law_cell_at [il ns,.int 2] (.int (cellF ns 2)):=⟨ns,2,rfl,by decide,rfl⟩
  refine exg true (evg_call (ea_cons (ev_callF (by walk_at"ev") pc2) (ea_cons (EvE.eq (ev_len (ds:=ss.map fun k:Nat=>PyData.int (k:Int)) (EvE.toL (ev_ixT (κ:=false) (ds:=[nl ss,nls cs,.list (ts.map tbD)]) (by walk_at"ev") (by walk_at"ev") atI0))) (show _=PyData.int (n:Int) by rw [List.length_map,b0.sl])) ea_nil)) ⟨cellF ns 2,n,rfl,by omega,rfl⟩) (fun d=>by walk_at"sc") ?_
  rintro d ⟨zs,zl,zb,rfl⟩
  have bk:=b0.bk zl fun z hz=>(zb z hz).1
  have el:PyData.int (((zs.map PyData.str).length:Nat):Int)=.int (n:Int):=by rw [List.length_map,zl]
  have dl:=due_len (f:=lineS zs ss cs ts hs) (n:=n) fun k hk=>(parts_len bk hs hk).1
  have e1:("\n" : Str).length=1:=by decide
  refine exs true (d:=.str (dueS (lineS zs ss cs ts hs) 0)) (show EvE K .fresh true _ _ (.str "") by walk_at"ev") (by walk_at"sc") ?_
  refine exfor (ds:=(List.range n).map fun i:Nat=>.int (i:Int)) true (fun j Γ=>∃ b5,Γ=[some (.fz false (il ns)),some (.fz true (bkD ss cs ts)),some (.fz true (nl hs)),some (.fz true (stL zs)),some (.fz true (.str (dueS (lineS zs ss cs ts hs) j))),b5,none,none]) (ei_rng1 (n:=(n:Int)) (ea_cons (EvE.eq (ev_len (ds:=zs.map .str) (by walk_at"ev")) el) ea_nil) (by omega) (by omega)) ⟨none,rfl⟩ ?_ ?_
  · rintro j d Γ' hd ⟨b5,rfl⟩
    obtain ⟨hj,rfl⟩:=range_get hd
    have dj:=dl j (by omega)
    have lj:=(parts_len bk hs hj).1
    refine ⟨_,egn (by walk_at"sc") ?_⟩
    have rs:dueS (lineS zs ss cs ts hs) (j + 1)=(if 0 < j then dueS (lineS zs ss cs ts hs) j ++ "\n" else dueS (lineS zs ss cs ts hs) j) ++ lineS zs ss cs ts hs j:=rfl
    refine exif (b:=decide ((0:Int) < (j:Int))) (·=[some (.fz false (il ns)),some (.fz true (bkD ss cs ts)),some (.fz true (nl hs)),some (.fz true (stL zs)),some (.fz true (.str (if 0 < j then dueS (lineS zs ss cs ts hs) j ++ "\n" else dueS (lineS zs ss cs ts hs) j))),some (.fz true (.int (j:Int))),none,none]) (et_test (ev_gt (by walk_at"ev") (by walk_at"ev"))) (fun h=>?_) (fun h=>?_) ?_
    · have h:0 < j:=by have:=of_decide_eq_true h; omega
      rw [if_pos h]
      exact exs1 true (d:=.str (dueS (lineS zs ss cs ts hs) j ++ "\n")) (ev_addS (by walk_at"ev") (by walk_at"ev") (by rw [e1]; omega)) (by walk_at"sc") rfl
    · have h:¬ 0 < j:=by have:=of_decide_eq_false h; omega
      rw [if_neg h]
      exact ex_next rfl
    rintro Γ1 rfl
    have h3:(if 0 < j then dueS (lineS zs ss cs ts hs) j ++ "\n" else dueS (lineS zs ss cs ts hs) j).length≤(dueS (lineS zs ss cs ts hs) j).length + 1:=by
      split
      · rw [Str.length_append,e1]
        exact Nat.le_refl _
      · omega
    obtain ⟨A,hA⟩:∃ A,A=if 0 < j then dueS (lineS zs ss cs ts hs) j ++ "\n" else dueS (lineS zs ss cs ts hs) j:=⟨_,rfl⟩
    rw [← hA] at h3 rs ⊢
    refine exs1 true (d:=.str (A ++ lineS zs ss cs ts hs j)) (ev_addS (by walk_at"ev") (ev_callF (by walk_at"ev") ⟨n,zs,ss,cs,ts,hs,j,rfl,bk,hj,rfl⟩) (by omega)) (by walk_at"sc") ?_
    exact ⟨some (.fz true (.int (j:Int))),by rw [rs]⟩
  rintro Γ0 ⟨b5,rfl⟩
  rw [range_len,show dueS (lineS zs ss cs ts hs) n=shownS n zs ss cs ts hs from dueS_eq _ n]
  refine ex_hand (d0:=stL zs) (d1:=bkD ss cs ts) (ds:=hs.map fun k:Nat=>.int (k:Int)) (EvO.toE (evo_list (by walk_at"ev"))) (ev_callF (by walk_at"ev") ⟨n,ss,cs,ts,rfl,b0,rfl⟩) (evo_list (by walk_at"ev")) (fun l=>by walk_at"sc") ?_
  intro l
  have pS:∀ hs':List Nat,pre_shown [stL zs,bkD ss cs ts,nl hs'] (.str (shownS n zs ss cs ts hs')):=fun hs'=>⟨n,zs,ss,cs,ts,hs',rfl,bk,rfl⟩
  refine exs true (d:=.str (shownS n zs ss cs ts hs)) (ev_thawH 6 (by walk_at"gc") (by walk_at"sc") (ev_callF (ea_cons (ev_ixT (ds:=[stL zs,bkD ss cs ts,nl hs]) (by walk_at"ev") (by walk_at"ev") atI0) (ea_cons (ev_ixT (ds:=[stL zs,bkD ss cs ts,nl hs]) (by walk_at"ev") (by walk_at"ev") atI1) (ea_cons (ev_ixT (ds:=[stL zs,bkD ss cs ts,nl hs]) (by walk_at"ev") (by walk_at"ev") atI2) ea_nil))) (pS hs)) rfl) (by walk_at"sc") ?_
  refine exifF (b:=!true || !decide (shownS n zs ss cs ts hs=shownS n zs ss cs ts hs)) (et_or (et_not (et_B (by walk_at"ev"))) fun _=>et_test (ev_neS (by walk_at"ev") (by walk_at"ev"))) (by rw [decide_eq_true rfl]; rfl) ?_
  refine exifF (b:=false) (et_thawH 6 (by walk_at"gc") (by walk_at"sc") (et_test (ev_neSm (d:=.tuple [stL zs,bkD ss cs ts,nl hs]) (EvE.toD (κ:=true) (by walk_at"ev")) (EvE.toD (κ:=true) (ev_tup (ds:=[stL zs,bkD ss cs ts,nl hs]) (by walk_at"ev") (by show 3≤sizeLine; omega))) (shaped_all zs (fun z hz=>(zb z hz).2) ss cs ts hs)))) rfl ?_
  refine ex_seq (·=[some (.fz false (il ns)),some (.fz true (bkD ss cs ts)),some (.fz true (nl hs)),some (.fz true (stL zs)),some (.fz true (.str (shownS n zs ss cs ts hs))),b5,some (hdD K l (stL zs) (bkD ss cs ts) []),some (.fz true (.str (shownS n zs ss cs ts hs)))]) (ex_hclr (by walk_at"gc") (by walk_at"sc") rfl) ?_
  rintro Γ1 rfl
  have pq:pre_shown [stL ["q"],bkD [2] [[]] [[[1,5]]],nl []] (.str (shownS 1 ["q"] [2] [[]] [[[1,5]]] [])):=⟨1,["q"],[2],[[]],[[[1,5]]],[],rfl,small_bk,rfl⟩
  refine ex_dropE (d:=.str (shownS 1 ["q"] [2] [[]] [[[1,5]]] [])) (ev_callF (ea_cons (EvO.toE (evo_lst (ds:=[.str "q"]) (by walk_at"ev") (by show 1≤sizeLine; omega))) (ea_cons (ev_tup (ds:=[nl [2],nls [[]],.list ([[[1,5]]].map tbD)]) (ea_cons (EvO.toE (evo_lst (ds:=[.int 2]) (by walk_at"ev") (by show 1≤sizeLine; omega))) (ea_cons (EvO.toE (evo_lst (ds:=[nl []]) (ea_cons (EvO.toE (evo_lst (ds:=[]) ea_nil (by decide))) ea_nil) (by show 1≤sizeLine; omega))) (ea_cons (EvO.toE (evo_lst (ds:=[tbD [[1,5]]]) (ea_cons (EvO.toE (evo_lst (ds:=[il [1,5]]) (ea_cons (EvO.toE (evo_lst (ds:=[.int 1,.int 5]) (by walk_at"ev") (by show 2≤sizeLine; omega))) ea_nil) (by show 1≤sizeLine; omega))) ea_nil) (by show 1≤sizeLine; omega))) ea_nil))) (by show 3≤sizeLine; omega)) (ea_cons (EvO.toE (evo_lst (ds:=[]) ea_nil (by decide))) ea_nil))) pq) ?_
  exact ex_ret false (EvE.eq (ev_eqS (ev_thawH 6 (by walk_at"gc") (by walk_at"sc") (ev_callF (ea_cons (ev_ixT (ds:=[stL zs,bkD ss cs ts,.list []]) (by walk_at"ev") (by walk_at"ev") atI0) (ea_cons (ev_ixT (ds:=[stL zs,bkD ss cs ts,.list []]) (by walk_at"ev") (by walk_at"ev") atI1) (by walk_at"ev"))) (pS hs)) rfl) (by walk_at"ev")) (by rw [decide_eq_true rfl])) rfl (.inr rfl)
end
theorem all_ok {l:PySem.W.OpenLaw} {w:World} {K:PySem.W.Frag} {h:Heap} {mg:Str→Option Value} {fa:Addr} (X:K.In h) (G:h.Ns mainGlobals mg) (hfa:mg "law" = some (.ref fa))
    (d1:∃ f fd,At K "picked" (top 1) f fd) (d4:∃ f fd,At K "shown_line" (top 4) f fd) (d3:∃ f fd,At K "shown" (top 3) f fd) (d6:∃ f fd,At K "_law_cell_at" (top 6) f fd) (d7:∃ f fd,At K "_law_stream" (top 7) f fd) (d8:∃ f fd,At K "_law_numbers" (top 8) f fd) (d9:∃ f fd,At K "_law_shape" (top 9) f fd) (d10:∃ f fd,At K "_law_names" (top 10) f fd) (d11:∃ f fd,At K "_law_weight" (top 11) f fd) (d12:∃ f fd,At K "_law_table" (top 12) f fd) (d13:∃ f fd,At K "_law_book" (top 13) f fd) (d14:∃ f fd,At K "_law_copy" (top 14) f fd) (d15:∃ f fd,At K "_law_line" (top 15) f fd)
    {f0:Addr} {oc:Value} {od an:Option Addr} {osl:Array (Option Value)} {kV doc pm cdv ct:Value} (a0:PySem.W.nsIn K mainGlobals "law" = some (some (.ref f0)))
    (l0:K.lookup f0=some ⟨oc,od,.func (PySem.W.fnOf "law" "law" (defArgs (top 16)) (defBody (top 16)) (defScope (top 16)) .none kV doc pm an cdv ct),osl⟩) (c0:PySem.W.codeIn K cdv "law" = true) (k0:PySem.W.keepIn K (.ref f0)=true)
    (z1:PySem.W.nsIn K mainGlobals "range" = some none) (z2:PySem.W.nsIn K mainGlobals "len" = some none) (z3:PySem.W.nsIn K mainGlobals "str" = some none) (z4:PySem.W.nsIn K mainGlobals "sorted" = some none) (z5:PySem.W.nsIn K mainGlobals "max" = some none) (z6:PySem.W.nsIn K mainGlobals "list" = some none) (z7:PySem.W.nsIn K mainGlobals "isinstance" = some none) :
    ∃ fd:FuncData,(∀ (s:Shared) (v:Value),BindsTo s fd ⟨[v],[]⟩ [("_law_script", v)])∧∀ base:Heap,K.In base→base.Ns mainGlobals mg→FnOk l.prog w K mg base CX0 4 fa fd ["_law_script"] (spLaw K):=by
  have e:=hfa.symm.trans (PySem.W.mg_of X G a0)
  cases e
  have nn:∀ {x:Str},PySem.W.nsIn K mainGlobals x=some none→mg x=none:=fun z=>PySem.W.mg_none_of X G z
  have B:Bs mg:=⟨nn z1,nn z2,nn z3,nn z4,nn z5,nn z6,nn z7⟩
  refine ⟨PySem.W.fnOf "law" "law" (defArgs (top 16)) (defBody (top 16)) (defScope (top 16)) .none kV doc pm an cdv ct,fun s v=>.of_eq rfl,fun base _ _=>?_⟩
  have mm:∀ {x:Str} {f:Addr},PySem.W.nsIn K mainGlobals x=some (some (.ref f))→mg x=some (.ref f):=fun z=>PySem.W.mg_of X G z
  obtain ⟨f1,g1,a1,F1⟩:=d1
  have b1:=F1.binds (ps:=["values", "things"]) fun _ _ _ _ _ _ us hl=>match us,hl with | [_,_],_=>rfl
  have C_picked:=callee (P:=l.prog) (w:=w) (base:=base) F1 (mm a1) b1 (ok_picked F1 B)
  obtain ⟨f4,g4,a4,F4⟩:=d4
  have b4:=F4.binds (ps:=["names", "book", "hidden", "k"]) fun _ _ _ _ _ _ us hl=>match us,hl with | [_,_,_,_],_=>rfl
  have C_shown_line:=callee (P:=l.prog) (w:=w) (base:=base) F4 (mm a4) b4 (ok_shown_line F4 B C_picked)
  obtain ⟨f3,g3,a3,F3⟩:=d3
  have b3:=F3.binds (ps:=["names", "book", "hidden"]) fun _ _ _ _ _ _ us hl=>match us,hl with | [_,_,_],_=>rfl
  have C_shown:=callee (P:=l.prog) (w:=w) (base:=base) F3 (mm a3) b3 (ok_shown F3 B C_shown_line)
  obtain ⟨f6,g6,a6,F6⟩:=d6
  have b6:=F6.binds (ps:=["_law_script", "_law_k"]) fun _ _ _ _ _ _ us hl=>match us,hl with | [_,_],_=>rfl
  have C__law_cell_at:=callee (P:=l.prog) (w:=w) (base:=base) F6 (mm a6) b6 (ok_law_cell_at F6 B)
  obtain ⟨f7,g7,a7,F7⟩:=d7
  have b7:=F7.binds (ps:=["_law_cell", "_law_many"]) fun _ _ _ _ _ _ us hl=>match us,hl with | [_,_],_=>rfl
  have C__law_stream:=callee (P:=l.prog) (w:=w) (base:=base) F7 (mm a7) b7 (ok_law_stream F7 B)
  obtain ⟨f8,g8,a8,F8⟩:=d8
  have b8:=F8.binds (ps:=["_law_row"]) fun _ _ _ _ _ _ us hl=>match us,hl with | [_],_=>rfl
  have C__law_numbers:=callee (P:=l.prog) (w:=w) (base:=base) F8 (mm a8) b8 (ok_law_numbers F8 B)
  obtain ⟨f9,g9,a9,F9⟩:=d9
  have b9:=F9.binds (ps:=["_law_script"]) fun _ _ _ _ _ _ us hl=>match us,hl with | [_],_=>rfl
  have C__law_shape:=callee (P:=l.prog) (w:=w) (base:=base) F9 (mm a9) b9 (ok_law_shape F9 B C__law_cell_at C__law_stream C__law_numbers)
  obtain ⟨f10,g10,a10,F10⟩:=d10
  have b10:=F10.binds (ps:=["_law_cell", "_law_many"]) fun _ _ _ _ _ _ us hl=>match us,hl with | [_,_],_=>rfl
  have C__law_names:=callee (P:=l.prog) (w:=w) (base:=base) F10 (mm a10) b10 (ok_law_names F10 B C__law_stream)
  obtain ⟨f11,g11,a11,F11⟩:=d11
  have b11:=F11.binds (ps:=["_law_cell", "_law_number"]) fun _ _ _ _ _ _ us hl=>match us,hl with | [_,_],_=>rfl
  have C__law_weight:=callee (P:=l.prog) (w:=w) (base:=base) F11 (mm a11) b11 (ok_law_weight F11 B)
  obtain ⟨f12,g12,a12,F12⟩:=d12
  have b12:=F12.binds (ps:=["_law_cell", "_law_many", "_law_size"]) fun _ _ _ _ _ _ us hl=>match us,hl with | [_,_,_],_=>rfl
  have C__law_table:=callee (P:=l.prog) (w:=w) (base:=base) F12 (mm a12) b12 (ok_law_table F12 B C__law_stream C__law_weight)
  obtain ⟨f13,g13,a13,F13⟩:=d13
  have b13:=F13.binds (ps:=["_law_script"]) fun _ _ _ _ _ _ us hl=>match us,hl with | [_],_=>rfl
  have C__law_book:=callee (P:=l.prog) (w:=w) (base:=base) F13 (mm a13) b13 (ok_law_book F13 B C__law_shape C__law_cell_at C__law_table)
  obtain ⟨f14,g14,a14,F14⟩:=d14
  have b14:=F14.binds (ps:=["_law_made"]) fun _ _ _ _ _ _ us hl=>match us,hl with | [_],_=>rfl
  have C__law_copy:=callee (P:=l.prog) (w:=w) (base:=base) F14 (mm a14) b14 (ok_law_copy F14 B)
  obtain ⟨f15,g15,a15,F15⟩:=d15
  have b15:=F15.binds (ps:=["_law_names_here", "_law_made", "_law_hidden", "_law_k"]) fun _ _ _ _ _ _ us hl=>match us,hl with | [_,_,_,_],_=>rfl
  have C__law_line:=callee (P:=l.prog) (w:=w) (base:=base) F15 (mm a15) b15 (ok_law_line F15 B)
  exact ok_law (fun_mk l0 c0 k0) B C__law_book C__law_names C__law_cell_at C__law_line C__law_copy C_shown
theorem walk {l:PySem.W.OpenLaw} {q:Program} {loose:List Str} {XP:(Str→Option Value)→Heap→Prop} {YP:World→Heap→Prop} {d:DefRec} {K:Params→PySem.W.Frag} (hn:l.most=some 63) (hdf:d.params.defaults=[])
    (hY:∀ (w:World) (h:Heap),YP w h→(K w.params).In h) (hT:∀ (w:World) (h:Heap),YP w h→(∀ p∈tabsOf (K w.params),h.get? p.1=some (PySem.W.tabObj #[]))∧tabsUq (K w.params)=true)
    (F:∀ (w:World) (mg:Str→Option Value) (fa:Addr) (h:Heap),(K w.params).In h→h.Ns mainGlobals mg→mg d.name=some (.ref fa) →
      ∃ fd:FuncData,(∀ (s:Shared) (u:Value),BindsTo s fd ⟨[u],[]⟩ [("_law_script", u)])∧∀ base:Heap,(K w.params).In base→base.Ns mainGlobals mg→FnOk l.prog w (K w.params) mg base CX0 4 fa fd ["_law_script"] (spLaw (K w.params))) :
    PySem.W.WalkO q loose XP YP l.row.toRowW d [] (fun f vs=>PySem.call f vs) :=
  L2.walk_of (n:=63) (k:=4) (x := "_law_script") (CX:=fun _=>CX0) (sp:=fun w=>spLaw (K w.params)) hn (by decide) hdf ⟨rfl,by decide,by decide⟩ hY hT F (fun _ _ a ns hl hS=>⟨a,ns,rfl,hS,hl,fun _=>rfl⟩) fun _ _ _ _ _ z=>z
end K86
def PySem.W.Fast.tw15145663875202535134 : PySem.Program := PySem.Challenge.pw_causebook_k86_shown
theorem PySem.W.Fast.te15145663875202535134 : PySem.Challenge.pw_causebook_k86_shown = PySem.W.Fast.tw15145663875202535134 := rfl
def PySem.W.Fast.tw6643306001748465235 : Nat := 0
def PySem.W.Fast.tw749306798514384814 : Nat := 0
def PySem.W.Fast.tw10300942216156637127 : Nat := 0
def PySem.W.Fast.tw4868889718212631173 : Nat := 0
def PySem.W.Fast.tw7191229147791385670 : Nat := 0
open PySem PySem.W PyProof.Rows
set_option maxRecDepth 100000 in
set_option maxHeartbeats 0 in
theorem PySem.Challenge.cw_causebook_k86_shown_holds : PySem.Challenge.rw_causebook_k86_shown.Holds := by
  w_on; o_law; k_head; (case hw=>w_witness2)
  k_fill
  refine K86.walk (l:=PySem.Challenge.rw_causebook_k86_shown) rfl rfl (fun w h Y=>PySem.W.kIn_of Y) (fun w h Y=>⟨tabs_no (by kernel_rfl),by kernel_rfl⟩) ?F
  case F =>
    intro w mg fa h KX G hmg
    refine' K86.all_ok KX G hmg ?d1 ?d4 ?d3 ?d6 ?d7 ?d8 ?d9 ?d10 ?d11 ?d12 ?d13 ?d14 ?d15 ?a0 ?l0 ?c0 ?k0 ?z1 ?z2 ?z3 ?z4 ?z5 ?z6 ?z7
    (case d1=>(refine' Cm.top_mk ?a ?l ?c ?k; (case a=>k_is); (case l=>k_is); (case c=>k_is); (case k=>k_is)))
    (case d4=>(refine' Cm.top_mk ?a ?l ?c ?k; (case a=>k_is); (case l=>k_is); (case c=>k_is); (case k=>k_is)))
    (case d3=>(refine' Cm.top_mk ?a ?l ?c ?k; (case a=>k_is); (case l=>k_is); (case c=>k_is); (case k=>k_is)))
    (case d6=>(refine' Cm.top_mk ?a ?l ?c ?k; (case a=>k_is); (case l=>k_is); (case c=>k_is); (case k=>k_is)))
    (case d7=>(refine' Cm.top_mk ?a ?l ?c ?k; (case a=>k_is); (case l=>k_is); (case c=>k_is); (case k=>k_is)))
    (case d8=>(refine' Cm.top_mk ?a ?l ?c ?k; (case a=>k_is); (case l=>k_is); (case c=>k_is); (case k=>k_is)))
    (case d9=>(refine' Cm.top_mk ?a ?l ?c ?k; (case a=>k_is); (case l=>k_is); (case c=>k_is); (case k=>k_is)))
    (case d10=>(refine' Cm.top_mk ?a ?l ?c ?k; (case a=>k_is); (case l=>k_is); (case c=>k_is); (case k=>k_is)))
    (case d11=>(refine' Cm.top_mk ?a ?l ?c ?k; (case a=>k_is); (case l=>k_is); (case c=>k_is); (case k=>k_is)))
    (case d12=>(refine' Cm.top_mk ?a ?l ?c ?k; (case a=>k_is); (case l=>k_is); (case c=>k_is); (case k=>k_is)))
    (case d13=>(refine' Cm.top_mk ?a ?l ?c ?k; (case a=>k_is); (case l=>k_is); (case c=>k_is); (case k=>k_is)))
    (case d14=>(refine' Cm.top_mk ?a ?l ?c ?k; (case a=>k_is); (case l=>k_is); (case c=>k_is); (case k=>k_is)))
    (case d15=>(refine' Cm.top_mk ?a ?l ?c ?k; (case a=>k_is); (case l=>k_is); (case c=>k_is); (case k=>k_is)))
    (case a0=>k_is); (case l0=>k_is); (case c0=>k_is); (case k0=>k_is)
    (case z1=>k_is); (case z2=>k_is); (case z3=>k_is); (case z4=>k_is); (case z5=>k_is); (case z6=>k_is); (case z7=>k_is)
#print axioms PySem.Challenge.cw_causebook_k86_shown_holds
