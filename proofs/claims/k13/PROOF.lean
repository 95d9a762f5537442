import PyProof.Rows.All
import Wide.All
import OpenK.AllK
import Wide.FinOn
import Lean
import PyProof.EqAt
import PyProof.EqKinds
import PyProof.TupleCall
import PySem.Challenge.RW_causebook_k13_way_down
set_option Elab.async false
set_option linter.all false
set_option maxRecDepth 100000
namespace L2
open PySem PySem.Spec PyProof.Rows
abbrev Key:=Sum Int Str
def keyIs:Key→Value→Bool
  | .inl k,v=>Value.isInt k v
  | .inr x,v=>Value.isStrOf x v
def keyH (w:World):Key→Int
  | .inl k=>hashInt k
  | .inr x=>hashStr w x
theorem keyIs_shape:∀ {k:Key} {v:Value},keyIs k v=true→(∃ i t,k=Sum.inl i∧v=Value.int i t)∨(∃ x t,k=Sum.inr x∧v=Value.str x t)
  | .inl i,v,h=>by
    obtain ⟨t,e⟩:=Value.isInt_shape (k:=i) (v:=v) h
    exact .inl ⟨i,t,rfl,e⟩
  | .inr x,v,h=>by
    obtain ⟨t,e⟩:=Value.isStrOf_shape (x:=x) (v:=v) h
    exact .inr ⟨x,t,rfl,e⟩
theorem keyIs_int (i:Int) (t:Tok):keyIs (.inl i) (.int i t)=true:=by simp [keyIs,Value.isInt]
theorem keyIs_str (x:Str) (t:Tok):keyIs (.inr x) (.str x t)=true:=by simp [keyIs,Value.isStrOf]
theorem key_ll (a b:Int):decide ((Sum.inl a:Key)=Sum.inl b)=(a == b):=by
  by_cases e:a=b
  · subst e; simp
  · have h:¬ (Sum.inl a:Key)=Sum.inl b:=fun q=>e (Sum.inl.inj q)
    rw [decide_eq_false h]
    exact (beq_eq_false_iff_ne.mpr e).symm
theorem key_rr (a b:Str):decide ((Sum.inr a:Key)=Sum.inr b)=decide (a=b):=by
  by_cases e:a=b
  · subst e; simp
  · have h:¬ (Sum.inr a:Key)=Sum.inr b:=fun q=>e (Sum.inr.inj q)
    rw [decide_eq_false h,decide_eq_false e]
theorem key_lr (a:Int) (b:Str):decide ((Sum.inl a:Key)=Sum.inr b)=false:=decide_eq_false (fun q=>nomatch q)
theorem key_rl (a:Str) (b:Int):decide ((Sum.inr a:Key)=Sum.inl b)=false:=decide_eq_false (fun q=>nomatch q)
def mixKind (prog:Program) (w:World):PySem.KeyKind prog w Key where
  is:=keyIs
  hash:=keyH w
  inj:=fun v a b ha hb=>by
    rcases keyIs_shape ha with ⟨i,t,rfl,rfl⟩ | ⟨x,t,rfl,rfl⟩
    · rcases keyIs_shape hb with ⟨j,u,rfl,e⟩ | ⟨y,u,rfl,e⟩
      · injection e with e1 _; rw [e1]
      · exact nomatch e
    · rcases keyIs_shape hb with ⟨j,u,rfl,e⟩ | ⟨y,u,rfl,e⟩
      · exact nomatch e
      · injection e with e1 _; rw [e1]
  byValue:=fun k v h=>by
    rcases keyIs_shape h with ⟨i,t,rfl,rfl⟩ | ⟨x,t,rfl,rfl⟩ <;> rfl
  pyHash:=fun hv h=>by
    rcases keyIs_shape hv with ⟨i,t,rfl,rfl⟩ | ⟨x,t,rfl,rfl⟩
    · exact wpAny_pyHash_int h
    · exact wpAny_pyHash_str h
  eqBool:=fun hu hv h=>by
    rcases keyIs_shape hu with ⟨i,t,rfl,rfl⟩ | ⟨x,t,rfl,rfl⟩
    · rcases keyIs_shape hv with ⟨j,u,rfl,rfl⟩ | ⟨y,u,rfl,rfl⟩
      · rw [key_ll] at h; exact wpAny_eqBool_int h
      · rw [key_lr] at h; exact SeqAt.EqAt.int_str i t y u _ _ _ _ h
    · rcases keyIs_shape hv with ⟨j,u,rfl,rfl⟩ | ⟨y,u,rfl,rfl⟩
      · rw [key_rl] at h; exact SeqAt.EqAt.str_int x t j u _ _ _ _ h
      · rw [key_rr] at h; exact wpAny_eqBool_str h
  «strs»:=fun k x t v h=>by
    rcases keyIs_shape h with ⟨i,u,rfl,e⟩ | ⟨y,u,rfl,e⟩
    · exact nomatch e
    · injection e with e1 _
      subst e1
      cases v <;> rfl
theorem mixKind_int (prog:Program) (w:World) (i:Int) (t:Tok):(mixKind prog w).is (.inl i) (.int i t)=true:=keyIs_int i t
theorem mixKind_str (prog:Program) (w:World) (x:Str) (t:Tok):(mixKind prog w).is (.inr x) (.str x t)=true:=keyIs_str x t
end L2
namespace L2
open PySem PySem.Spec PyProof.Rows
inductive V where
  | non | bl (b:Bool) | int (i:Int) | str (x:Str) | byt (b:Array UInt8) | flt (b:UInt64) | ref (a:Addr) | ty (n:String)
  deriving DecidableEq
def RelV:V→Value→Prop
  | .non,u=>u=Value.none
  | .bl b,u=>u=Value.bool b
  | .int i,u=>∃ t,u=Value.int i t
  | .str x,u=>∃ t,u=Value.str x t
  | .byt b,u=>∃ t,u=Value.bytes b t
  | .flt b,u=>∃ t,u=Value.float b t
  | .ref a,u=>u=Value.ref a
  | .ty n,u=>u=Value.type n
abbrev Vals:List V→List Value→Prop:=Paired RelV
theorem Vals.length {xs:List V} {us:List Value} (r:Vals xs us):xs.length=us.length:=Paired.length r
theorem Vals.get:∀ {xs:List V} {us:List Value} {i:Nat} {x:V},Vals xs us→xs[i]?=some x→∃ u,us[i]?=some u∧RelV x u
  | _,_,_,_,.nil,e=>by simp at e
  | _,_,0,_,.cons r _,e=>by simp at e; subst e; exact ⟨_,rfl,r⟩
  | _,_,i + 1,x,.cons _ t,e=>by
    obtain ⟨u,h1,h2⟩:=Vals.get (i:=i) (x:=x) t (by simpa using e)
    exact ⟨u,by simpa using h1,h2⟩
theorem Vals.set {x:V} {u:Value} (r:RelV x u):∀ {xs:List V} {us:List Value} (i:Nat),Vals xs us→Vals (xs.set i x) (us.set i u)
  | _,_,_,.nil=>.nil
  | _,_,0,.cons _ t=>.cons r t
  | _,_,i + 1,.cons q t=>.cons q (Vals.set r i t)
theorem Vals.append:∀ {xs ys:List V} {us ws:List Value},Vals xs us→Vals ys ws→Vals (xs ++ ys) (us ++ ws)
  | _,_,_,_,.nil,s=>s
  | _,_,_,_,.cons r t,s=>.cons r (Vals.append t s)
theorem Vals.take:∀ {xs:List V} {us:List Value} (n:Nat),Vals xs us→Vals (xs.take n) (us.take n)
  | _,_,0,_=>.nil
  | _,_,_ + 1,.nil=>.nil
  | _,_,n + 1,.cons r t=>.cons r (Vals.take n t)
theorem Vals.drop:∀ {xs:List V} {us:List Value} (n:Nat),Vals xs us→Vals (xs.drop n) (us.drop n)
  | _,_,0,r=>r
  | _,_,_ + 1,.nil=>.nil
  | _,_,n + 1,.cons _ t=>Vals.drop n t
def RelO:Option V→Option Value→Prop
  | some v,some u=>RelV v u
  | none,none=>True
  | _,_=>False
def KV {κ:Type}:List (κ×V)→List (κ×Value)→Prop:=Paired fun (p:κ×V) (q:κ×Value)=>p.1=q.1∧RelV p.2 q.2
def kV:Key→V
  | .inl i=>.int i
  | .inr x=>.str x
inductive HO where
  | lst (xs:List V)
  | tup (xs:List V)
  | dK (kvs:List (Key×V)) | dT (kvs:List (List Key×V))
  | set (S:Int→Bool) (n:Nat)
  | ins (C dx:Addr) (fs:List (Str×V))
  | own (x:Addr)
  | xd (fs:List (Str×V))
  | met (f x:Addr)
  | rng (lo hi:Int)
  | frz (o:Obj) (u:HO)
  | tbl (ps:Array Value)
  | ext (φ:Heap→Prop)
abbrev Hp:=Addr→Option HO
def upd (H:Hp) (a:Addr) (o:HO):Hp:=fun b=>if b=a then some o else H b
theorem upd_same {H:Hp} {a:Addr} {o:HO}:upd H a o a=some o:=by unfold upd; rw [if_pos rfl]
theorem upd_ne {H:Hp} {a b:Addr} {o:HO} (h:b≠a):upd H a o b=H b:=by unfold upd; rw [if_neg h]
theorem ne_of {H:Hp} {a b:Addr} {o u:HO} (h:H a=some o) (h':H b=some u) (d:o≠u):a≠b:=by
  intro e; subst e; rw [h] at h'; exact d (Option.some.inj h')
theorem ne_of_none {H:Hp} {a b:Addr} {o:HO} (h:H a=some o) (h':H b=none):a≠b:=by
  intro e; subst e; rw [h] at h'; cases h'
def tagQ (ps:Array Value):Str:=match (ps[0]?:Option Value) with | some (.str q _)=>q | _ => ""
section
variable (P:Program) (w:World)
def ObjOk (H:Hp) (h:Heap) (a:Addr):HO→Prop
  | .lst xs=>xs.length≤sizeLine∧∃ (its:List Value) (n:Nat),Vals xs its∧h.get? a=some { cls:=.type "list", data:=.seq its.toArray n }
  | .tup xs=>xs.length≤sizeLine∧∃ its:List Value,Vals xs its∧IsTup h a its.toArray
  | .dK kvs=>kvs.length≤sizeLine∧(a == sysModules)=false∧∃ vs,KV kvs vs∧h.DictOf (mixKind P w) a vs
  | .dT kvs=>kvs.length≤sizeLine∧(a == sysModules)=false∧∃ xs:List (List Key×Addr×Value),
      Paired (fun (p:List Key×V) (q:List Key×Addr×Value)=>p.1=q.1∧H q.2.1=some (.tup (p.1.map kV))∧RelV p.2 q.2.2) kvs xs ∧
      ∃ o es ep,h.get? a=some o∧o.ExactDict∧o.data=.dict es ep∧es.toList=xs.map (entryOfKey (tupleKind (mixKind P w)))∧(xs.map (·.1)).Nodup
  | .set S n=>h.SetOf (intKind P w) a S n
  | .ins C dx fs=>H dx=some (.own a)∧fs.length≤1000∧dx≠a∧h.get? a=some (PySem.W.instObj C dx) ∧
      ∃ mA,h.Ns1 dx mA∧(∀ f,RelO (fs.lookup f) (mA f))∧PySem.Within mA (fs.map (·.1))
  | .own _=>∃ o,h.get? a=some o
  | .xd fs=>∃ mA,h.Ns1 a mA∧∀ f,RelO (fs.lookup f) (mA f)
  | .rng lo hi=>∃ t u v,h.get? a=some { cls:=.type "range", data:=.fields #[.int lo t,.int hi u,.int 1 v] }
  | .frz o u=>h.get? a=some o∧ObjOk H h a u
  | .tbl ps=>∃ vs:Array Value,h.get? a=some (PySem.W.tabObj vs)∧TriplesOk vs.toList∧∀ p v,codeAmong p vs.toList=some v→∃ b o fs t,v=.ref b∧H b=some (.frz o (.ext fun _=>True))∧o.data=.fields fs∧fs[1]?=some (.str (tagQ ps) t)
  | .met f x=>h.get? a=some (PySem.W.methodObj (.ref f) (.ref x))
  | .ext φ=>φ h∧(∃ o,h.get? a=some o)∧∀ h1 h2:Heap,φ h1→(∀ o,h1.get? a=some o→h2.get? a=some o)→φ h2
def HOk (H:Hp) (h:Heap):Prop:=∀ a o,H a=some o→ObjOk P w H h a o
end
section
variable {P:Program} {w:World} {H H':Hp} {h h':Heap} {a:Addr} {o:HO}
theorem ObjOk.lt (x:ObjOk P w H h a o):a < h.objs.size:=by
  cases o with
  | lst xs=>obtain ⟨_,_,_,_,e⟩:=x; exact Heap.lt_size e
  | tup xs=>obtain ⟨_,_,_,p⟩:=x; exact p.lt
  | dK kvs=>obtain ⟨_,_,_,_,o,_,_,e,_⟩:=x; exact Heap.lt_size e
  | dT kvs=>obtain ⟨_,_,_,_,o,_,_,e,_⟩:=x; exact Heap.lt_size e
  | set S n=>obtain ⟨o,_,_,_,e,_⟩:=x; exact Heap.lt_size e
  | ins C dx fs=>obtain ⟨_,_,_,e,_⟩:=x; exact Heap.lt_size e
  | own y=>obtain ⟨_,e⟩:=x; exact Heap.lt_size e
  | xd fs=>obtain ⟨_,⟨_,_,_,e,_⟩,_⟩:=x; exact Heap.lt_size e
  | rng lo hi=>obtain ⟨_,_,_,e⟩:=x; exact Heap.lt_size e
  | frz ob u=>obtain ⟨e,_⟩:=x; exact Heap.lt_size e
  | tbl ps=>obtain ⟨_,e,_⟩:=x; exact Heap.lt_size e
  | met f y=>exact Heap.lt_size (show h.get? a=some _ from x)
  | ext φ=>obtain ⟨_,⟨_,e⟩,_⟩:=x; exact Heap.lt_size e
theorem Paired.mapP {α β:Type} {F G:α→β→Prop}:∀ {l₁:List α} {l₂:List β},Paired F l₁ l₂→(∀ a b,F a b→G a b)→Paired G l₁ l₂
  | _,_,.nil,_=>.nil
  | _,_,.cons r t,f=>.cons (f _ _ r) (Paired.mapP t f)
theorem ObjOk.stay (x:ObjOk P w H h a o) (k:∀ b u,(b=a∨H b=some (.own a))→h.get? b=some u→h'.get? b=some u)
    (ho:∀ b,H b=some (.own a)→H' b=some (.own a)) (ht:∀ b xs,H b=some (.tup xs)→H' b=some (.tup xs))
    (hc:∀ b o u,H b=some (.frz o u)→(∀ v,o.data≠.cell v)→H' b=some (.frz o u):=by first | exact fun _ _ _ q _=>q | (intro b o u z _; rw [upd_ne (ne_of_none z (by assumption))]; exact z) | (intro b o u z _; rw [upd_ne (fun e=>by subst e; simp_all [Mut])]; exact z)):ObjOk P w H' h' a o:=by
  induction o with
  | lst xs=>obtain ⟨z,its,n,r,e⟩:=x; exact ⟨z,its,n,r,k _ _ (.inl rfl) e⟩
  | tup xs=>obtain ⟨z,its,r,ob,e,c⟩:=x; exact ⟨z,its,r,ob,k _ _ (.inl rfl) e,c⟩
  | dK kvs=>obtain ⟨z,y,vs,r,ob,es,ep,e,c⟩:=x; exact ⟨z,y,vs,r,ob,es,ep,k _ _ (.inl rfl) e,c⟩
  | dT kvs =>
    obtain ⟨z,y,xs,r,ob,es,ep,e,c⟩:=x
    exact ⟨z,y,xs,Paired.mapP r fun p q z=>⟨z.1,ht _ _ z.2.1,z.2.2⟩,ob,es,ep,k _ _ (.inl rfl) e,c⟩
  | set S n=>obtain ⟨ob,es,ep,t,e,c⟩:=x; exact ⟨ob,es,ep,t,k _ _ (.inl rfl) e,c⟩
  | ins C dx fs =>
    obtain ⟨d,z,ne,e,mA,⟨od,es,ep,e2,c⟩,r⟩:=x
    exact ⟨ho _ d,z,ne,k _ _ (.inl rfl) e,mA,⟨od,es,ep,k _ _ (.inr d) e2,c⟩,r⟩
  | own y=>obtain ⟨ob,e⟩:=x; exact ⟨ob,k _ _ (.inl rfl) e⟩
  | xd fs=>obtain ⟨mA,⟨od,es,ep,e,c⟩,r⟩:=x; exact ⟨mA,⟨od,es,ep,k _ _ (.inl rfl) e,c⟩,r⟩
  | rng lo hi=>obtain ⟨t,u,v,e⟩:=x; exact ⟨t,u,v,k _ _ (.inl rfl) e⟩
  | frz ob u ih=>obtain ⟨e,q⟩:=x; exact ⟨k _ _ (.inl rfl) e,ih q⟩
  | tbl ps=>obtain ⟨vs,e,t,z⟩:=x; exact ⟨vs,k _ _ (.inl rfl) e,t,fun p v y=>let ⟨b,o,fs,t,e1,e2,e3⟩:=z p v y; ⟨b,o,fs,t,e1,hc _ _ _ e2 (fun v y=>by rw [e3.1] at y; cases y),e3⟩⟩
  | met f y =>
    have e:h.get? a=some (PySem.W.methodObj (.ref f) (.ref y)):=x
    show h'.get? a=some (PySem.W.methodObj (.ref f) (.ref y))
    exact k a _ (.inl rfl) e
  | ext φ=>obtain ⟨p,⟨o,e⟩,st⟩:=x; exact ⟨st _ _ p fun o q=>k _ _ (.inl rfl) q,⟨o,k _ _ (.inl rfl) e⟩,st⟩
theorem HOk.lt (x:HOk P w H h) (e:H a=some o):a < h.objs.size:=(x a o e).lt
theorem HOk.fresh (x:HOk P w H h) (e:h.objs.size≤a):H a=none:=by
  cases q:H a with
  | none=>rfl
  | some u=>exact absurd (Nat.lt_of_lt_of_le (x.lt q) e) (Nat.lt_irrefl _)
theorem HOk.kept (x:HOk P w H h) (k:∀ b u,h.get? b=some u→h'.get? b=some u):HOk P w H h':=fun a o e =>
  (x a o e).stay (fun b u _ q=>k b u q) (fun _ q=>q) fun _ _ q=>q
theorem HOk.laid (x:HOk P w H h) (k:∀ b u,h.get? b=some u→h'.get? b=some u) (hp:h.objs.size≤a) (new:ObjOk P w (upd H a o) h' a o):HOk P w (upd H a o) h':=fun b u e=>by
  have hn:=x.fresh hp
  by_cases hb:b=a
  · subst hb; rw [upd_same] at e; cases e; exact new
  · rw [upd_ne hb] at e
    exact (x b u e).stay (fun c v _ q=>k c v q) (fun c q=>by rw [upd_ne (ne_of_none q hn)]; exact q) fun c xs q=>by rw [upd_ne (ne_of_none q hn)]; exact q
end
def Rd (H:Hp) (a:Addr) (u:HO):Prop:=H a=some u∨∃ o,H a=some (.frz o u)
theorem Rd.ok {P:Program} {w:World} {H:Hp} {h:Heap} {a:Addr} {u:HO} (r:Rd H a u) (x:HOk P w H h):ObjOk P w H h a u:=by
  rcases r with r | ⟨o,r⟩
  · exact x a u r
  · obtain ⟨_,q⟩:=x a _ r
    exact q
def Mut:Option HO→Prop
  | some (.lst _)=>True
  | some (.dK _)=>True
  | some (.dT _)=>True
  | some (.set _ _)=>True
  | some (.ins _ _ _)=>True
  | some (.ext _)=>True
  | _=>False
section
variable {P:Program} {w:World} {H:Hp} {h h':Heap} {x e:Addr} {o':HO}
theorem HOk.write (ok:HOk P w H h) (mu:Mut (H x)) (he:e=x∨H e=some (.own x)) (k:∀ b u,b≠e→h.get? b=some u→h'.get? b=some u) (heo:∃ u,h'.get? e=some u)
    (new:ObjOk P w (upd H x o') h' x o'):HOk P w (upd H x o') h':=fun b u q=>by
  have nown:∀ c y,H c=some (.own y)→c≠x:=fun c y r z=>by subst z; rw [r] at mu; exact mu
  have ntup:∀ c xs,H c=some (.tup xs)→c≠x:=fun c xs r z=>by subst z; rw [r] at mu; exact mu
  by_cases hb:b=x
  · subst hb; rw [upd_same] at q; cases q; exact new
  · rw [upd_ne hb] at q
    by_cases hbe:b=e
    · have q':H b=some (.own x):=by
        rcases he with z | z
        · exact absurd (hbe.trans z) hb
        · rw [hbe]; exact z
      rw [q] at q'; cases q'
      obtain ⟨v,hv⟩:=heo
      exact ⟨v,by rw [hbe]; exact hv⟩
    · refine (ok b u q).stay (fun c v hc r=>k c v ?_ r) (fun c r=>by rw [upd_ne (nown c b r)]; exact r) fun c xs r=>by rw [upd_ne (ntup c xs r)]; exact r
      rcases hc with rfl | hc
      · exact hbe
      · rintro rfl
        rcases he with z | z
        · exact nown c b hc z
        · rw [hc] at z; cases z; exact hb rfl
end
structure Un (fs ex:List Addr) (H H':Hp) (h h':Heap):Prop where
  keep:∀ b o,h.get? b=some o→H b=none→b∉fs→b∉ex→h'.get? b=some o
  slot:∀ b o,h.get? b=some o→H b=none→b∈fs→b∉ex→∃ sl,h'.get? b=some { o with slots:=sl }
  free:∀ b o,h.get? b=some o→H b=none→b∉ex→H' b=none
  there:∀ b o,h.get? b=some o→b∉ex→∃ o',h'.get? b=some o'
  tups:∀ b xs,H b=some (.tup xs)→H' b=some (.tup xs)
  frzs:∀ b o u,H b=some (.frz o u)→H' b=some (.frz o u)
  tbls:∀ b ps,H b=some (.tbl ps)→∃ more,H' b=some (.tbl (ps ++ more))
section
variable {fs fs' ex ex':List Addr} {H H1 H2:Hp} {h h1 h2 h':Heap} {a x e:Addr} {o:HO}
theorem Un.any (u:Un fs ex H H1 h h1) {b:Addr} {ob:Obj} (q:h.get? b=some ob) (n:H b=none) (hx:b∉ex):∃ sl,h1.get? b=some { ob with slots:=sl }:=by
  by_cases hb:b∈fs
  · exact u.slot b ob q n hb hx
  · exact ⟨ob.slots,u.keep b ob q n hb hx⟩
theorem Un.trans (a:Un fs ex H H1 h h1) (b:Un fs ex H1 H2 h1 h2):Un fs ex H H2 h h2 where
  keep:=fun c ob q n hc hx=>b.keep c ob (a.keep c ob q n hc hx) (a.free c ob q n hx) hc hx
  slot:=fun c ob q n hc hx=>by
    obtain ⟨sl,e1⟩:=a.slot c ob q n hc hx
    obtain ⟨sl',e2⟩:=b.slot c _ e1 (a.free c ob q n hx) hc hx
    exact ⟨sl',e2⟩
  free:=fun c ob q n hx=>by
    obtain ⟨o',e1⟩:=a.there c ob q hx
    exact b.free c o' e1 (a.free c ob q n hx) hx
  there:=fun c ob q hx=>by
    obtain ⟨o',e1⟩:=a.there c ob q hx
    exact b.there c o' e1 hx
  tups:=fun c xs q=>b.tups c xs (a.tups c xs q)
  frzs:=fun c ob xs q=>b.frzs c ob xs (a.frzs c ob xs q)
  tbls:=fun c ps q=>by
    obtain ⟨m1,e1⟩:=a.tbls c ps q
    obtain ⟨m2,e2⟩:=b.tbls c _ e1
    exact ⟨m1 ++ m2,by rw [e2,Array.append_assoc]⟩
theorem Un.kept (k:∀ b u,h.get? b=some u→h'.get? b=some u):Un fs ex H H h h' :=
  ⟨fun b ob q _ _ _=>k b ob q,fun b ob q _ _ _=>⟨ob.slots,k b ob q⟩,fun _ _ _ n _=>n,fun b ob q _=>⟨ob,k b ob q⟩,fun _ _ q=>q,fun _ _ _ q=>q,fun _ ps q=>⟨#[],by rw [q]; simp⟩⟩
theorem Un.refl:Un fs ex H H h h:=Un.kept fun _ _ q=>q
theorem Un.laid (k:∀ b u,h.get? b=some u→h'.get? b=some u) (hp:h.objs.size≤a) (hn:H a=none):Un fs ex H (upd H a o) h h' where
  keep:=fun b u q _ _ _=>k b u q
  slot:=fun b u q _ _ _=>⟨u.slots,k b u q⟩
  free:=fun b u q n _=>by rw [upd_ne (Nat.ne_of_lt (Nat.lt_of_lt_of_le (Heap.lt_size q) hp))]; exact n
  there:=fun b u q _=>⟨u,k b u q⟩
  tups:=fun b xs q=>by rw [upd_ne (ne_of_none q hn)]; exact q
  frzs:=fun b u xs q=>by rw [upd_ne (ne_of_none q hn)]; exact q
  tbls:=fun b ps q=>⟨#[],by rw [upd_ne (ne_of_none q hn),q]; simp⟩
theorem Un.write (mu:Mut (H x)) (he:e=x∨H e=some (.own x)) (k:∀ b u,b≠e→h.get? b=some u→h'.get? b=some u) (heo:∃ u,h'.get? e=some u):Un fs ex H (upd H x o) h h':=by
  have hx:∀ b,H b=none→b≠x:=fun b n z=>by subst z; rw [n] at mu; exact mu
  have hb:∀ b,H b=none→b≠e:=fun b n z=>by
    subst z
    rcases he with r | r
    · exact hx b n r
    · rw [n] at r; cases r
  have hm:∀ b u,H b=some u→¬ Mut (some u)→b≠x:=fun b u q nm z=>by subst z; rw [q] at mu; exact nm mu
  refine ⟨fun b u q n _ _=>k b u (hb b n) q,fun b u q n _ _=>⟨u.slots,k b u (hb b n) q⟩,fun b u q n _=>by rw [upd_ne (hx b n)]; exact n,fun b u q _=>?_,
    fun b xs q=>by rw [upd_ne (hm b _ q fun z=>z)]; exact q,fun b u xs q=>by rw [upd_ne (hm b _ q fun z=>z)]; exact q,fun b ps q=>⟨#[],by rw [upd_ne (hm b _ q fun z=>z),q]; simp⟩⟩
  by_cases hbe:b=e
  · subst hbe; exact heo
  · exact ⟨u,k b u hbe q⟩
theorem Un.mono (u:Un fs ex H H1 h h1) (hs:∀ b∈fs,b∈fs') (hx:∀ b∈ex,b∈ex'):Un fs' ex' H H1 h h1 :=
  ⟨fun b ob q n hb he=>u.keep b ob q n (fun z=>hb (hs b z)) fun z=>he (hx b z),fun _ _ q n _ he=>u.any q n fun z=>he (hx _ z),fun b ob q n he=>u.free b ob q n fun z=>he (hx b z),fun b ob q he=>u.there b ob q fun z=>he (hx b z),u.tups,u.frzs,u.tbls⟩
end
def trk (h:Heap) (H:Hp):List Addr:=(List.range h.objs.size).filter fun a=>(H a).isSome
def hidT (h:Heap) (H:Hp):Heap:=PySem.W.hideAll h (trk h H)
theorem hidT_size (h:Heap) (H:Hp):(hidT h H).objs.size=h.objs.size:=PySem.W.hideAll_size _ _
theorem hidT_get {h:Heap} {H:Hp} {b:Addr} {o:Obj} (e:h.get? b=some o) (n:H b=none):(hidT h H).get? b=some o :=
  PySem.W.hideAll_get _ e fun hm=>by
    have q:(H b).isSome=true:=(List.mem_filter.mp hm).2
    rw [n] at q; simp at q
theorem of_hidT {h:Heap} {H:Hp} {b:Addr} {o:Obj} (e:(hidT h H).get? b=some o):h.get? b=some o∧H b=none:=by
  have e':h.get? b=some o:=PySem.W.of_hideAll (trk h H) e
  refine ⟨e',?_⟩
  cases q:H b with
  | none=>rfl
  | some x =>
    have hm:b∈trk h H:=List.mem_filter.mpr ⟨List.mem_range.mpr (Heap.lt_size e'),by simp [q]⟩
    have z:(hidT h H).get? b=none:=PySem.W.hideAll_none (trk h H) hm
    rw [z] at e; cases e
def allNews (g h:Heap) (L:Addr):List (Addr×Obj):=(List.range h.objs.size).filterMap fun a=>if a=L∨(g.get? a).isSome=true then none else (h.get? a).map fun o=>(a,o)
def rest (g h:Heap) (L d:Addr):List (Addr×Obj):=(allNews g h L).filter fun p=>decide (p.1≠d)
end L2
namespace L2
open PySem PySem.Spec PyProof.Rows
def lamNames:List Str:=["above", "beneath", "above_in", "clumps", "reach", "least_parting", "least_set", "why_not"]
def tabAt (o:Obj):Option (Addr×Str):=match o.cls,o.data with
  | .type "code", .fields vs=>(match (vs[1]?:Option Value),(vs[11]?:Option Value) with
    | some (.str q _),some (.ref P)=>if lamNames.contains q then some (P,q ++ ".<locals>.<lambda>") else none
    | _,_=>none)
  | _,_=>none
def tabsOf (K:PySem.W.Frag):List (Addr×Str):=K.filterMap fun p=>(K.lookup p.1).bind tabAt
def tabsUq (K:PySem.W.Frag):Bool:=(tabsOf K).all fun p=>(K.lookup p.1).isNone && (tabsOf K).all fun q=>decide (p.1=q.1→p.2=q.2)
def TbOk (K:PySem.W.Frag) (H:Hp):Prop:=∀ p∈tabsOf K,∃ t more,H p.1=some (.tbl (#[.str p.2 t] ++ more))
theorem TbOk.un {K:PySem.W.Frag} {fs ex:List Addr} {H H':Hp} {h h':Heap} (t:TbOk K H) (u:Un fs ex H H' h h'):TbOk K H':=fun p hp=>by
  obtain ⟨k,m,e⟩:=t p hp
  obtain ⟨m',e'⟩:=u.tbls _ _ e
  exact ⟨k,m ++ m',by rw [e',Array.append_assoc]⟩
structure Mod (K:PySem.W.Frag) (mg:Str→Option Value) (base:Heap):Prop where
  kin:K.In base
  glob:base.Ns mainGlobals mg
  blt:∃ mb,base.Ns builtinsNs mb∧∀ x:Str,x ≠ "__name__" → mb x=bootBuiltins x
  nolimit:base.NoLimit
  bm:∃ bm ob,mg "__builtins__" = some (.ref bm)∧bm≠builtinsNs∧base.get? bm=some ob∧ob.cls=.type "module" ∧ ob.dict=some builtinsNs∧ob.data=.plain
structure Cx where
  prog:Program
  w:World
  K:PySem.W.Frag
  mg:Str→Option Value
  base:Heap
  A:Around
  N:List Str
  s₀:Shared
  H₀:Hp
  env:Env
  outer:List Env
  stack:List Env
  ex:List Addr
  fn:Str→Bool
  calm:Bool
  pn:List (Addr×Obj)
  xe:Value→Shared→Prop
def frs (l:List Env):List Addr:=l.filterMap (·.frame)
abbrev Cx.fs (X:Cx):List Addr:=frs X.outer
def Vis (sc:Scope) (x:Str):Prop:=sc.names.lookup x=some .local∨sc.names.lookup x=some .cell∨sc.names.lookup x=some .free
def Loc (sc:Scope) (x:Str):Prop:=sc.names.lookup x=some .local∨sc.names.lookup x=some .cell
def Look (env:Env) (h:Heap) (m:Str→Option Value) (x:Str) (u:Value):Prop :=
  (env.kindOf x=some .local∧m x=some u)∨((env.kindOf x=some .cell∨env.kindOf x=some .free)∧∃ c,env.cells.lookup x=some c∧h.IsCell c (some u))
structure Cx.Ok (X:Cx):Prop where
  mod:Mod X.K X.mg X.base
  kind:X.env.scope.kind=.function
  glob:X.env.globals=mainGlobals
  blt:X.env.builtins=builtinsNs
  above:X.s₀.heap.objs.size≤X.env.locals
  inj:∀ x y c,X.env.cells.lookup x=some c→X.env.cells.lookup y=some c→x=y
  has:∀ x,(X.env.kindOf x=some .cell∨X.env.kindOf x=some .free)→∃ c,X.env.cells.lookup x=some c
  cab:∀ x c,X.fn x=true→X.env.cells.lookup x=some c→X.s₀.heap.objs.size≤c
  hd:X.calm=true→X.A.handled=none
  frames:X.A.frames=some X.stack
  stk:X.stack=X.outer∨(X.stack=X.env :: X.outer∧X.env.frame=some X.env.locals)
  exf:∀ b∈X.ex,b≠X.env.locals∧∀ x c,X.env.cells.lookup x=some c→c≠b
  bs:∀ b o,X.base.get? b=some o→X.s₀.heap.get? b=some o∧X.H₀ b=none
  bsz:X.base.objs.size≤X.s₀.heap.objs.size
  noex:∀ b o,X.base.get? b=some o→b∉X.ex
  exfs:∀ b∈X.ex,b∉X.fs
  funs:X.s₀.heap.FunFrames X.base X.outer
  frf:∀ b∈X.fs,X.H₀ b=none
  tb:TbOk X.K X.H₀
structure Inv (X:Cx) (pins:List (Addr×Obj)) (σ:List (Option V)) (H:Hp) (s:Shared):Prop where
  ok:X.Ok
  os:s.os=X.s₀.os
  bare:AllBare s.gens
  base:Un X.fs X.ex X.H₀ H X.s₀.heap s.heap
  loc:∃ m,s.heap.Ns X.env.locals m∧∀ (i:Nat) (x:Str) (v:V),X.N[i]?=some x→σ[i]?=some (some v)→Vis X.env.scope x→∃ u,RelV v u∧Look X.env s.heap m x u
  cell:∀ x c,X.env.cells.lookup x=some c→∃ v,s.heap.IsCell c v
  free:H X.env.locals=none
  freeC:∀ x c,X.env.cells.lookup x=some c→H c=none∨X.fn x=false∧∃ o u,H c=some (.frz o u)
  pin:∀ p∈X.pn ++ pins,s.heap.get? p.1=some p.2∧H p.1=none∧p.1≠X.env.locals∧p.1∉X.fs∧∀ v,p.2.data≠.cell v
  hok:HOk X.prog X.w H s.heap
  len:σ.length=X.N.length
section
variable {X:Cx} {pins:List (Addr×Obj)} {σ:List (Option V)} {H H':Hp} {s:Shared} {h':Heap}
theorem Cx.Ok.nofr (ok:X.Ok) {b:Addr} {o:Obj} (e:X.base.get? b=some o):b∉X.fs:=fun hb=>by
  have:=(ok.funs.mem hb).1
  rw [e] at this; cases this
theorem Inv.bs (I:Inv X pins σ H s):∀ b o,X.base.get? b=some o→s.heap.get? b=some o∧H b=none:=fun b o e =>
  ⟨I.base.keep b o (I.ok.bs b o e).1 (I.ok.bs b o e).2 (I.ok.nofr e) (I.ok.noex b o e),I.base.free b o (I.ok.bs b o e).1 (I.ok.bs b o e).2 (I.ok.noex b o e)⟩
theorem Inv.bk (I:Inv X pins σ H s):∀ b o,X.base.get? b=some o→s.heap.get? b=some o:=fun b o e=>(I.bs b o e).1
theorem Inv.mod (I:Inv X pins σ H s):Mod X.K X.mg X.base:=I.ok.mod
theorem Inv.kIn (I:Inv X pins σ H s):X.K.In s.heap:=I.ok.mod.kin.keeps I.bk
theorem Inv.fr (I:Inv X pins σ H s):∃ m,Fr X.base X.env.locals s.heap m :=
  let ⟨m,hn,_⟩:=I.loc
  ⟨m,hn,I.bk,Nat.le_trans I.ok.bsz I.ok.above⟩
theorem Inv.lt (I:Inv X pins σ H s):X.env.locals < s.heap.objs.size:=let ⟨_,hn,_⟩:=I.loc; hn.lt
theorem Inv.sz (I:Inv X pins σ H s):X.s₀.heap.objs.size≤s.heap.objs.size:=Nat.le_trans I.ok.above (Nat.le_of_lt I.lt)
theorem Inv.nofs (I:Inv X pins σ H s) {a:Addr} (h:s.heap.objs.size≤a):a∉X.fs:=fun hb=>by
  obtain ⟨_,o,ho,_⟩:=I.ok.funs.mem hb
  exact absurd (Nat.lt_of_lt_of_le (Heap.lt_size ho) (Nat.le_trans I.sz h)) (Nat.lt_irrefl _)
theorem Inv.cne (I:Inv X pins σ H s):∀ x c,X.env.cells.lookup x=some c→c≠X.env.locals:=fun x c e z=>by
  obtain ⟨v,o,ho,hd⟩:=I.cell x c e
  obtain ⟨m,⟨o',es,ep,ho',hd',_⟩,_⟩:=I.loc
  rw [z,ho'] at ho; cases ho; rw [hd'] at hd; cases hd
theorem Inv.funs (I:Inv X pins σ H s):s.heap.FunFrames X.base X.outer:=by
  have all:∀ (l:List Env),(∀ b∈frs l,b∈X.fs)→X.s₀.heap.FunFrames X.base l→s.heap.FunFrames X.base l:=by
    intro l
    induction l with
    | nil=>intro _ _; trivial
    | cons env r ih =>
      intro hs hl
      obtain ⟨hk,⟨L,o,hf,hn,ho,hd⟩,hr⟩:=hl
      have hL:L∈X.fs:=hs L (by unfold frs; rw [List.filterMap_cons,hf]; exact List.mem_cons_self)
      obtain ⟨sl,e⟩:=I.base.slot L o ho (I.ok.frf L hL) hL fun z=>I.ok.exfs L z hL
      exact ⟨hk,⟨L,_,hf,hn,e,hd⟩,ih (fun b hb=>hs b (by unfold frs; rw [List.filterMap_cons,hf]; exact List.mem_cons_of_mem _ hb)) hr⟩
  exact all X.outer (fun _ hb=>hb) I.ok.funs
theorem Inv.stack (I:Inv X pins σ H s):s.heap.FunFrames X.base X.stack:=by
  rcases I.ok.stk with e | ⟨e,hf⟩
  · rw [e]; exact I.funs
  · rw [e]
    obtain ⟨m,hn,_⟩:=I.loc
    refine .cons (by rw [I.ok.kind]; decide) hf hn ?_ I.funs
    exact Heap.get?_none_of_le (Nat.le_trans I.ok.bsz I.ok.above)
theorem Inv.stkSub (I:Inv X pins σ H s):∀ b∈frs X.stack,b∈X.env.locals :: X.fs:=fun b hb=>by
  rcases I.ok.stk with e | ⟨e,hf⟩
  · rw [e] at hb; exact List.mem_cons_of_mem _ hb
  · rw [e] at hb
    unfold frs at hb
    rw [List.filterMap_cons,hf] at hb
    exact hb
theorem Inv.stkFree (I:Inv X pins σ H s):∀ b∈frs X.stack,H b=none:=fun b hb=>by
  rcases List.mem_cons.mp (I.stkSub b hb) with e | hb
  · rw [e]; exact I.free
  · obtain ⟨_,o,ho,_⟩:=I.ok.funs.mem hb
    exact I.base.free b o ho (I.ok.frf b hb) fun z=>I.ok.exfs b z hb
theorem Inv.step {g':Array GenState} {t':Nat} {d':Drawn} {ch:List Addr} (I:Inv X pins σ H s)
    (hch:∀ b∈ch,(b∈X.ex∨X.s₀.heap.objs.size≤b)∧b≠X.env.locals∧(∀ x c,X.env.cells.lookup x=some c→c≠b)∧∀ p∈X.pn ++ pins,p.1≠b)
    (keep:∀ b o,b≠X.env.locals→b∉X.fs→b∉ch→s.heap.get? b=some o→H b=none→h'.get? b=some o)
    (slot:∀ b o,b≠X.env.locals→b∈X.fs→b∉ch→s.heap.get? b=some o→H b=none→∃ sl,h'.get? b=some { o with slots:=sl }) (free:∀ b o,b∉ch→s.heap.get? b=some o→H b=none→H' b=none)
    (there:∀ b o,b∉ch→s.heap.get? b=some o→∃ o',h'.get? b=some o')
    (tups:∀ b xs,H b=some (.tup xs)→H' b=some (.tup xs)) (frzs:∀ b o u,H b=some (.frz o u)→H' b=some (.frz o u)) (tbls:∀ b ps,H b=some (.tbl ps)→∃ more,H' b=some (.tbl (ps ++ more)))
    (ns:∀ m,s.heap.Ns X.env.locals m→h'.Ns X.env.locals m) (hok:HOk X.prog X.w H' h') (hg:AllBare g') :
    Inv X pins σ H' { s with heap:=h',gens:=g',drawn:=d',toks:=t' }:=by
  have neL:∀ b o,X.s₀.heap.get? b=some o→b≠X.env.locals:=fun b o e=>Nat.ne_of_lt (Nat.lt_of_lt_of_le (Heap.lt_size e) I.ok.above)
  have neC:∀ b o,X.s₀.heap.get? b=some o→b∉X.ex→b∉ch:=fun b o e hx hb=>by
    rcases (hch b hb).1 with z | z
    · exact hx z
    · exact absurd (Nat.lt_of_lt_of_le (Heap.lt_size e) z) (Nat.lt_irrefl _)
  have cellK:∀ x c,X.env.cells.lookup x=some c→∀ v,s.heap.IsCell c v→h'.IsCell c v:=fun x c e v ⟨o,ho,hd⟩=>by
    have nch:c∉ch:=fun z=>(hch c z).2.2.1 x c e rfl
    rcases I.freeC x c e with hn | ⟨_,o1,u1,hn⟩
    · by_cases hc:c∈X.fs
      · obtain ⟨sl,q⟩:=slot c o (I.cne x c e) hc nch ho hn
        exact ⟨_,q,hd⟩
      · exact ⟨o,keep c o (I.cne x c e) hc nch ho hn,hd⟩
    · have q1:=(I.hok c _ hn).1
      rw [ho] at q1
      cases q1
      exact ⟨o,(hok c _ (frzs c _ _ hn)).1,hd⟩
  refine ⟨I.ok,I.os,hg,⟨fun b o e n hb hx=>?_,fun b o e n hb hx=>?_,fun b o e n hx=>?_,fun b o e hx=>?_,fun b xs e=>tups b xs (I.base.tups b xs e),fun b o xs e=>frzs b o xs (I.base.frzs b o xs e),fun b ps e=>?_⟩,?_,fun x c e=>?_,?_,fun x c e=>?_,fun p hp=>?_,hok,I.len⟩
  · exact keep b o (neL b o e) hb (neC b o e hx) (I.base.keep b o e n hb hx) (I.base.free b o e n hx)
  · obtain ⟨sl,e1⟩:=I.base.slot b o e n hb hx
    obtain ⟨sl',e2⟩:=slot b _ (neL b o e) hb (neC b o e hx) e1 (I.base.free b o e n hx)
    exact ⟨sl',e2⟩
  · obtain ⟨o',e1⟩:=I.base.there b o e hx
    exact free b o' (neC b o e hx) e1 (I.base.free b o e n hx)
  · obtain ⟨o',e1⟩:=I.base.there b o e hx
    exact there b o' (neC b o e hx) e1
  · obtain ⟨m1,e1⟩:=I.base.tbls b ps e
    obtain ⟨m2,e2⟩:=tbls b _ e1
    exact ⟨m1 ++ m2,by rw [e2,Array.append_assoc]⟩
  · obtain ⟨m,hn,hl⟩:=I.loc
    refine ⟨m,ns m hn,fun i x v e1 e2 e3=>?_⟩
    obtain ⟨u,r,l⟩:=hl i x v e1 e2 e3
    refine ⟨u,r,?_⟩
    rcases l with l | ⟨k,c,e,z⟩
    · exact .inl l
    · exact .inr ⟨k,c,e,cellK x c e _ z⟩
  · obtain ⟨v,z⟩:=I.cell x c e
    exact ⟨v,cellK x c e v z⟩
  · obtain ⟨m,⟨o,_,_,ho,_⟩,_⟩:=I.loc
    exact free _ o (fun z=>(hch _ z).2.1 rfl) ho I.free
  · obtain ⟨v,o,ho,hd⟩:=I.cell x c e
    exact (I.freeC x c e).elim (fun n=>.inl (free c o (fun z=>(hch c z).2.2.1 x c e rfl) ho n)) fun ⟨y1,o1,u1,y2⟩=>.inr ⟨y1,o1,u1,frzs c o1 u1 y2⟩
  · obtain ⟨e,n,ne,nf,d⟩:=I.pin p hp
    have nch:p.1∉ch:=fun z=>(hch p.1 z).2.2.2 p hp rfl
    exact ⟨keep p.1 p.2 ne nf nch e n,free p.1 p.2 nch e n,ne,nf,d⟩
theorem Inv.un {t':Nat} (I:Inv X pins σ H s) (u:Un X.fs [] H H' s.heap h') (hok:HOk X.prog X.w H' h'):Inv X pins σ H' { s with heap:=h',toks:=t' }:=by
  obtain ⟨m,⟨o,es,ep,ho,r⟩,_⟩:=id I.loc
  obtain ⟨sl,hL⟩:=u.any ho I.free (by simp)
  exact I.step (g':=s.gens) (d':=s.drawn) (ch:=[]) (fun _ z=>nomatch z) (fun b o _ hb _ e n=>u.keep b o e n hb (by simp)) (fun b o _ hb _ e n=>u.slot b o e n hb (by simp)) (fun b o _ e n=>u.free b o e n (by simp)) (fun b o _ e=>u.there b o e (by simp)) u.tups u.frzs u.tbls (fun m' hm=>by
    obtain ⟨o',es',ep',ho',r'⟩:=hm
    rw [ho] at ho'; cases ho'
    exact ⟨_,es',ep',hL,r'⟩) hok I.bare
theorem Inv.call {g':Array GenState} {t':Nat} {d':Drawn} {ch:List Addr} (I:Inv X pins σ H s) (u:Un (frs X.stack) ch H H' s.heap h') (hok:HOk X.prog X.w H' h') (hg:AllBare g')
    (hch:∀ b∈ch,(b∈X.ex∨X.s₀.heap.objs.size≤b)∧b≠X.env.locals∧(∀ x c,X.env.cells.lookup x=some c→c≠b)∧∀ p∈X.pn ++ pins,p.1≠b) :
    Inv X pins σ H' { s with heap:=h',gens:=g',drawn:=d',toks:=t' }:=by
  obtain ⟨m,⟨o,es,ep,ho,r⟩,_⟩:=id I.loc
  obtain ⟨sl,hL⟩:=u.any ho I.free fun z=>(hch _ z).2.1 rfl
  exact I.step (ch:=ch) hch (fun b o hL hb hc e n=>u.keep b o e n (fun z=>(List.mem_cons.mp (I.stkSub b z)).elim hL hb) hc) (fun b o _ _ hc e n=>u.any e n hc) (fun b o hc e n=>u.free b o e n hc) (fun b o hc e=>u.there b o e hc) u.tups u.frzs u.tbls (fun m' hm=>by
    obtain ⟨o',es',ep',ho',r'⟩:=hm
    rw [ho] at ho'; cases ho'
    exact ⟨_,es',ep',hL,r'⟩) hok hg
theorem Inv.turned {t':Nat} {it:Addr} (I:Inv X pins σ H s) (k:∀ b o,b≠it→s.heap.get? b=some o→h'.get? b=some o) (hn:H it=none) (hL:it≠X.env.locals)
    (h1:it∈X.ex∨X.s₀.heap.objs.size≤it) (h2:∀ x c,X.env.cells.lookup x=some c→c≠it) (h3:∀ p∈X.pn ++ pins,p.1≠it):Inv X pins σ H { s with heap:=h',toks:=t' }:=by
  have nit:∀ b u,H b=some u→b≠it:=fun b u e z=>by rw [z,hn] at e; cases e
  refine I.step (g':=s.gens) (d':=s.drawn) (ch:=[it]) (fun b hb=>?_) (fun b o _ _ hc e _=>k b o (fun z=>hc (by simp [z])) e) (fun b o _ _ hc e _=>⟨o.slots,k b o (fun z=>hc (by simp [z])) e⟩) (fun _ _ _ _ n=>n)
    (fun b o hc e=>⟨o,k b o (fun z=>hc (by simp [z])) e⟩) (fun _ _ e=>e) (fun _ _ _ e=>e) (fun b ps e=>⟨#[],by rw [e]; simp⟩) (fun m hm=>?_) (fun b u e=>?_) I.bare
  · have e:b=it:=by simpa using hb
    subst e
    exact ⟨h1,hL,h2,h3⟩
  · obtain ⟨o,es,ep,ho,r⟩:=hm
    exact ⟨o,es,ep,k _ o (Ne.symm hL) ho,r⟩
  · refine (I.hok b u e).stay (fun c v hc q=>k c v ?_ q) (fun _ q=>q) fun _ _ q=>q
    rcases hc with z | z
    · rw [z]; exact nit b u e
    · exact nit c _ z
theorem Inv.tok (I:Inv X pins σ H s) (t:Nat):Inv X pins σ H { s with toks:=t }:=I.un (h':=s.heap) (t':=t) Un.refl I.hok
theorem Inv.kept {t':Nat} (I:Inv X pins σ H s) (k:∀ b u,s.heap.get? b=some u→h'.get? b=some u):Inv X pins σ H { s with heap:=h',toks:=t' }:=I.un (Un.kept k) (I.hok.kept k)
theorem Inv.laid {a:Addr} {o:HO} {t':Nat} (I:Inv X pins σ H s) (k:∀ b u,s.heap.get? b=some u→h'.get? b=some u) (hp:s.heap.objs.size≤a) (new:ObjOk X.prog X.w (upd H a o) h' a o) :
    Inv X pins σ (upd H a o) { s with heap:=h',toks:=t' }:=I.un (Un.laid k hp (I.hok.fresh hp)) (I.hok.laid k hp new)
theorem Inv.write {x e:Addr} {o:HO} {t':Nat} (I:Inv X pins σ H s) (mu:Mut (H x)) (he:e=x∨H e=some (.own x)) (k:∀ b u,b≠e→s.heap.get? b=some u→h'.get? b=some u) (heo:∃ u,h'.get? e=some u)
    (new:ObjOk X.prog X.w (upd H x o) h' x o):Inv X pins σ (upd H x o) { s with heap:=h',toks:=t' }:=I.un (Un.write mu he k heo) (I.hok.write mu he k heo new)
theorem Inv.weak {σ':List (Option V)} (I:Inv X pins σ H s) (hl:σ'.length=σ.length) (w:∀ (i:Nat) v,σ'[i]?=some (some v)→σ[i]?=some (some v)):Inv X pins σ' H s :=
  ⟨I.ok,I.os,I.bare,I.base,let ⟨m,hn,hl'⟩:=I.loc; ⟨m,hn,fun i x v e1 e2 e3=>hl' i x v e1 (w i v e2) e3⟩,I.cell,I.free,I.freeC,I.pin,I.hok,hl.trans I.len⟩
theorem Inv.pins_of {pins':List (Addr×Obj)} (I:Inv X pins σ H s) (h:∀ p∈pins',s.heap.get? p.1=some p.2∧H p.1=none∧p.1≠X.env.locals∧p.1∉X.fs∧∀ v,p.2.data≠.cell v):Inv X pins' σ H s :=
  ⟨I.ok,I.os,I.bare,I.base,I.loc,I.cell,I.free,I.freeC,fun p hp=>(List.mem_append.mp hp).elim (fun z=>I.pin p (List.mem_append_left _ z)) (h p),I.hok,I.len⟩
theorem nodup_ix {N:List Str} (hN:N.Nodup) {i j:Nat} {x:Str} (a:N[i]?=some x) (b:N[j]?=some x):i=j:=by
  obtain ⟨h1,e1⟩:=List.getElem?_eq_some_iff.mp a
  obtain ⟨h2,e2⟩:=List.getElem?_eq_some_iff.mp b
  exact (List.getElem_inj hN).mp (e1.trans e2.symm)
theorem store_ok2 {M:Model} {A:Around} {E:Value→Shared→Prop} {i:Nat} {x:Str} {v:V} {u:Value} {Q:Unit→Shared→Prop} (I:Inv X pins σ H s) (hN:X.N.Nodup) (hi:X.N[i]?=some x) (hx:Loc X.env.scope x) (r:RelV v u)
    (h:∀ s',Inv X pins (σ.set i (some v)) H s'→(∃ a,Heap.SameBut a s.heap s'.heap∧(a=X.env.locals∨X.env.cells.lookup x=some a))→Q () s') (hf:X.fn x=true∨X.env.scope.names.lookup x=some .local:=by first | exact .inl rfl | exact .inr rfl | assumption):wpAny M A (storeName X.env x u) Q E s:=by
  obtain ⟨m,hn,hl⟩:=id I.loc
  have hcls:(X.env.scope.kind == .class || (X.env.scope.kind == .module && X.env.locals != X.env.globals))=false:=by rw [I.ok.kind]; rfl
  have hiσ:i < σ.length:=by rw [I.len]; exact (List.getElem?_eq_some_iff.mp hi).1
  have cne:=I.cne
  have tracked:∀ {a:Addr} {h':Heap},(∃ o,s.heap.get? a=some o∧H a=none)→Heap.SameBut a s.heap h'→HOk X.prog X.w H h':=fun {a h'} ha hs b ob e=>by
    obtain ⟨_,_,hfree⟩:=ha
    refine (I.hok b ob e).stay (fun c w' hc q=>(hs.2 c ?_).trans q) (fun _ q=>q) fun _ _ q=>q
    rintro rfl
    rcases hc with rfl | hc
    · rw [hfree] at e; cases e
    · rw [hfree] at hc; cases hc
  rcases hx with hk | hk
  · refine wpAny_storeName_local hk hn (fun h' hn' hs=>?_) hcls
    obtain ⟨oL,_,_,hoL,_⟩:=id hn
    refine h _ ⟨I.ok,I.os,I.bare,⟨fun b o e n hb hx=>?_,fun b o e n hb hx=>?_,I.base.free,fun b o e hx=>?_,I.base.tups,I.base.frzs,I.base.tbls⟩,⟨_,hn',fun j y v' e1 e2 e3=>?_⟩,fun y c e=>?_,I.free,I.freeC,fun p hp=>?_,tracked ⟨oL,hoL,I.free⟩ hs,by simpa using I.len⟩ ⟨_,hs,.inl rfl⟩
    · exact (hs.2 b (Nat.ne_of_lt (Nat.lt_of_lt_of_le (Heap.lt_size e) I.ok.above))).trans (I.base.keep b o e n hb hx)
    · obtain ⟨sl,e1⟩:=I.base.slot b o e n hb hx
      exact ⟨sl,(hs.2 b (Nat.ne_of_lt (Nat.lt_of_lt_of_le (Heap.lt_size e) I.ok.above))).trans e1⟩
    · obtain ⟨o',e1⟩:=I.base.there b o e hx
      exact ⟨o',(hs.2 b (Nat.ne_of_lt (Nat.lt_of_lt_of_le (Heap.lt_size e) I.ok.above))).trans e1⟩
    · by_cases hj:j=i
      · subst hj
        rw [hi] at e1; cases e1
        rw [List.getElem?_set_self hiσ] at e2
        cases e2
        exact ⟨u,r,.inl ⟨hk,by simp⟩⟩
      · rw [List.getElem?_set_ne (Ne.symm hj)] at e2
        obtain ⟨u',r',q⟩:=hl j y v' e1 e2 e3
        refine ⟨u',r',?_⟩
        rcases q with ⟨k,e⟩ | ⟨k,c,e,z⟩
        · refine .inl ⟨k,?_⟩
          have:y≠x:=fun e=>hj (nodup_ix hN e1 (e ▸ hi))
          simp [this,e]
        · exact .inr ⟨k,c,e,z.sameBut hs (cne y c e)⟩
    · obtain ⟨w',z⟩:=I.cell y c e
      exact ⟨w',z.sameBut hs (cne y c e)⟩
    · obtain ⟨e,n,ne,nf,d⟩:=I.pin p hp
      exact ⟨(hs.2 p.1 ne).trans e,n,ne,nf,d⟩
  · have hfn:X.fn x=true:=by
      rcases hf with z | z
      · exact z
      · rw [z] at hk; cases hk
    obtain ⟨c,hc⟩:=I.ok.has x (.inl hk)
    obtain ⟨w',z⟩:=I.cell x c hc
    refine wpAny_storeName_cell I.ok.kind hk hc z (fun h' hc' hs=>?_)
    obtain ⟨oc,hoc,hocd⟩:=id z
    refine h { s with heap:=h' } ⟨I.ok,I.os,I.bare,⟨fun b o e n hb hx=>?_,fun b o e n hb hx=>?_,I.base.free,fun b o e hx=>?_,I.base.tups,I.base.frzs,I.base.tbls⟩,⟨m,hn.sameBut hs (Ne.symm (cne x c hc)),fun j y v' e1 e2 e3=>?_⟩,fun y c' e=>?_,I.free,I.freeC,fun p hp=>?_,tracked ⟨oc,hoc,(I.freeC x c hc).elim (fun n=>n) fun z=>by rw [hfn] at z; cases z.1⟩ hs,by simpa using I.len⟩ ⟨c,hs,.inr hc⟩
    · exact (hs.2 b (Nat.ne_of_lt (Nat.lt_of_lt_of_le (Heap.lt_size e) (I.ok.cab x c hfn hc)))).trans (I.base.keep b o e n hb hx)
    · obtain ⟨sl,e1⟩:=I.base.slot b o e n hb hx
      exact ⟨sl,(hs.2 b (Nat.ne_of_lt (Nat.lt_of_lt_of_le (Heap.lt_size e) (I.ok.cab x c hfn hc)))).trans e1⟩
    · obtain ⟨o',e1⟩:=I.base.there b o e hx
      exact ⟨o',(hs.2 b (Nat.ne_of_lt (Nat.lt_of_lt_of_le (Heap.lt_size e) (I.ok.cab x c hfn hc)))).trans e1⟩
    · by_cases hj:j=i
      · subst hj
        rw [hi] at e1; cases e1
        rw [List.getElem?_set_self hiσ] at e2
        cases e2
        exact ⟨u,r,.inr ⟨.inl hk,c,hc,hc'⟩⟩
      · rw [List.getElem?_set_ne (Ne.symm hj)] at e2
        obtain ⟨u',r',q⟩:=hl j y v' e1 e2 e3
        refine ⟨u',r',?_⟩
        rcases q with q | ⟨k,c',e,z'⟩
        · exact .inl q
        · refine .inr ⟨k,c',e,z'.sameBut hs ?_⟩
          rintro rfl
          exact hj (nodup_ix hN e1 (I.ok.inj _ _ _ e hc ▸ hi))
    · by_cases hcc:c'=c
      · subst hcc; exact ⟨_,hc'⟩
      · obtain ⟨w2,z2⟩:=I.cell y c' e
        exact ⟨w2,z2.sameBut hs hcc⟩
    · obtain ⟨e,n,ne,nf,d⟩:=I.pin p hp
      refine ⟨(hs.2 p.1 ?_).trans e,n,ne,nf,d⟩
      intro q
      rw [q,hoc] at e
      have q':oc=p.2:=Option.some.inj e
      exact d w' (by rw [← q']; exact hocd)
theorem store_ok {M:Model} {A:Around} {E:Value→Shared→Prop} {i:Nat} {x:Str} {v:V} {u:Value} {Q:Unit→Shared→Prop} (I:Inv X pins σ H s) (hN:X.N.Nodup) (hi:X.N[i]?=some x) (hx:Loc X.env.scope x) (r:RelV v u)
    (h:∀ s',Inv X pins (σ.set i (some v)) H s'→Q () s') (hf:X.fn x=true∨X.env.scope.names.lookup x=some .local:=by first | exact .inl rfl | exact .inr rfl | assumption):wpAny M A (storeName X.env x u) Q E s :=
  store_ok2 I hN hi hx r (fun s' I' _=>h s' I') hf
theorem Inv.call' {s':Shared} {ch:List Addr} (I:Inv X pins σ H s) (ho:s'.os=s.os) (u:Un (frs X.stack) ch H H' s.heap s'.heap) (hok:HOk X.prog X.w H' s'.heap) (hg:AllBare s'.gens)
    (hch:∀ b∈ch,(b∈X.ex∨X.s₀.heap.objs.size≤b)∧b≠X.env.locals∧(∀ x c,X.env.cells.lookup x=some c→c≠b)∧∀ p∈X.pn ++ pins,p.1≠b):Inv X pins σ H' s':=by
  obtain ⟨h',g',d',t',o'⟩:=s'
  have e:o'=s.os:=ho
  subst e
  exact I.call (g':=g') (t':=t') (d':=d') u hok hg hch
end
abbrev XK:=Value→Option Addr→Hp→Prop
abbrev St:=List (Option V)
abbrev VK:=V→Hp→Prop
abbrev TE:=St→Hp→VK→Prop
abbrev TT:=St→Hp→(Bool→Hp→Prop)→Prop
abbrev TA:=St→Hp→(List V→Hp→Prop)→Prop
structure Ends where
  nx:St→Hp→Prop
  rt:VK
  bk:St→Hp→Prop:=fun _ _=>False
  ct:St→Hp→Prop:=fun _ _=>False
abbrev TS:=Ends→St→Hp→Prop
def EP (X:Cx) (pins:List (Addr×Obj)) (σ:St) (Q:VK) (u:Value) (s':Shared):Prop:=∃ v H',Inv X pins σ H' s'∧RelV v u∧Q v H'
def TP (X:Cx) (pins:List (Addr×Obj)) (σ:St) (Q:Bool→Hp→Prop) (b:Bool) (s':Shared):Prop:=∃ H',Inv X pins σ H' s'∧Q b H'
def AP (X:Cx) (pins:List (Addr×Obj)) (σ:St) (Q:List V→Hp→Prop) (us:List Value) (s':Shared):Prop:=∃ vs H',Inv X pins σ H' s'∧Vals vs us∧Q vs H'
def SP (X:Cx) (pins:List (Addr×Obj)) (D:Ends) (f:Flow) (s':Shared):Prop :=
  match f with
  | .next=>∃ σ' H',Inv X pins σ' H' s'∧D.nx σ' H'
  | .brk=>∃ σ' H',Inv X pins σ' H' s'∧D.bk σ' H'
  | .cont=>∃ σ' H',Inv X pins σ' H' s'∧D.ct σ' H'
  | .ret u=>∃ v σ' H',Inv X pins σ' H' s'∧RelV v u∧D.rt v H'
def PE (X:Cx) (e:Expr) (t:TE):Prop :=
  ∀ (pins:List (Addr×Obj)) (s:Shared) (σ:St) (H:Hp) (Q:VK),Inv X pins σ H s→t σ H Q→wpAny (model X.prog X.w) X.A (eval e X.env) (EP X pins σ Q) X.xe s
def PT (X:Cx) (e:Expr) (t:TT):Prop :=
  ∀ (pins:List (Addr×Obj)) (s:Shared) (σ:St) (H:Hp) (Q:Bool→Hp→Prop),Inv X pins σ H s→t σ H Q→wpAny (model X.prog X.w) X.A (isTrue e X.env (eval e X.env)) (TP X pins σ Q) X.xe s
def PW (X:Cx) (e:Expr) (t:TT):Prop :=
  ∀ (whole:Sem Value) (pins:List (Addr×Obj)) (s:Shared) (σ:St) (H:Hp) (Q:Bool→Hp→Prop),Inv X pins σ H s→t σ H Q→wpAny (model X.prog X.w) X.A (isTrue e X.env whole) (TP X pins σ Q) X.xe s
theorem PW.pt {X:Cx} {e:Expr} {t:TT} (h:PW X e t):PT X e t:=h _
def PA (X:Cx) (es:List Expr) (t:TA):Prop :=
  ∀ (pos:Pos) (pins:List (Addr×Obj)) (s:Shared) (σ:St) (H:Hp) (Q:List V→Hp→Prop),Inv X pins σ H s→t σ H Q→wpAny (model X.prog X.w) X.A (spliced (backTo pos (starEach es X.env))) (AP X pins σ Q) X.xe s
def PS (X:Cx) (st:Stmt) (t:TS):Prop :=
  ∀ (pins:List (Addr×Obj)) (s:Shared) (σ:St) (H:Hp) (D:Ends),Inv X pins σ H s→t D σ H→wpAny (model X.prog X.w) X.A (exec st X.env) (SP X pins D) X.xe s
def PSs (X:Cx) (st:List Stmt) (t:TS):Prop :=
  ∀ (pins:List (Addr×Obj)) (s:Shared) (σ:St) (H:Hp) (D:Ends),Inv X pins σ H s→t D σ H→wpAny (model X.prog X.w) X.A (execs st X.env) (SP X pins D) X.xe s
theorem thn {α:Type} {t:Sem α} {Q Q':α→Shared→Prop} {M:Model} {A:Around} {E:Value→Shared→Prop} {s:Shared} (h:wpAny M A t Q E s) (hQ:∀ a s,Q a s→Q' a s):wpAny M A t Q' E s:=wpAny_mono h hQ fun _ _ x=>x
end L2
namespace L2
open PySem PySem.Spec PyProof.Rows
section
variable {X:Cx}
def tVar (i:Nat):TE:=fun σ H Q=>∃ v,σ[i]?=some (some v)∧Q v H
def tC (v:V):TE:=fun _ H Q=>Q v H
theorem pe_var {i:Nat} {x:Str} {pos:Pos} (hN:X.N[i]?=some x) (hv:Vis X.env.scope x) (hd:(x == ("__debug__" : Str))=false:=by decide) (hcd:(x == ("__classdict__" : Str))=false:=by decide):PE X (.Name x pos) (tVar i):=by
  intro pins s σ H Q I h
  obtain ⟨v,e,h⟩:=h
  obtain ⟨m,hn,hl⟩:=I.loc
  obtain ⟨u,r,l⟩:=hl i x v hN e hv
  have fin:EP X pins σ Q u s:=⟨v,H,I,r,h⟩
  rcases l with ⟨hk,hm⟩ | ⟨hk,c,hc,hcell⟩
  · exact wpAny_Name (wpAny_loadName_local I.ok.kind hk hn hm fin) hd
  · rcases hk with hk | hk
    · exact wpAny_Name (wpAny_loadName_cell I.ok.kind hk hc hcell fin) hd
    · exact wpAny_Name (wpAny_loadName_free I.ok.kind hk hc hcell fin hcd) hd
theorem pe_int {i j pos}:PE X (.Constant (.int i) j pos) (tC (.int i)):=fun _ _ _ H _ I h=>wpAny_Constant_int ⟨.int i,H,I.tok _,⟨_,rfl⟩,h⟩
theorem pe_bl {b j pos}:PE X (.Constant (.bool b) j pos) (tC (.bl b)):=fun _ _ _ H _ I h=>Constant_bool ⟨.bl b,H,I,rfl,h⟩
theorem pe_non {j pos}:PE X (.Constant .none j pos) (tC .non):=fun _ _ _ H _ I h=>Constant_none ⟨.non,H,I,rfl,h⟩
def Gl (X:Cx) (x:Str):Prop:=X.env.kindOf x=some .globalImplicit
theorem ld_glob {E:Value→Shared→Prop} {pins:List (Addr×Obj)} {s:Shared} {σ:St} {H:Hp} {x:Str} {u:Value} {pos:Pos} {Q:Value→Shared→Prop} (I:Inv X pins σ H s) (hg:Gl X x) (hm:X.mg x=some u) (h:Q u s)
    (hd:(x == ("__debug__" : Str))=false:=by decide):wpAny (model X.prog X.w) X.A (eval (.Name x pos) X.env) Q E s :=
  Calls.Name_function_global I.ok.kind hg (Calls.loadGlobal_global (by rw [I.ok.glob]; exact I.mod.glob.keeps I.bk) hm h) hd
theorem ld_blt {E:Value→Shared→Prop} {pins:List (Addr×Obj)} {s:Shared} {σ:St} {H:Hp} {x:Str} {u:Value} {pos:Pos} {Q:Value→Shared→Prop} (I:Inv X pins σ H s) (hg:Gl X x) (hm:X.mg x=none) (hv:bootBuiltins x=some u) (h:Q u s)
    (hn:x ≠ "__name__" := by decide) (hd:(x == ("__debug__" : Str))=false:=by decide):wpAny (model X.prog X.w) X.A (eval (.Name x pos) X.env) Q E s:=by
  obtain ⟨mb,h1,h2⟩:=I.mod.blt
  exact Calls.Name_function_global I.ok.kind hg (Calls.loadGlobal_builtin (by rw [I.ok.glob]; exact I.mod.glob.keeps I.bk) hm (by rw [I.ok.blt]; exact h1.keeps I.bk) ((h2 x hn).trans hv) h) hd
theorem pe_bltn {x:Str} {v:V} {u:Value} {pos:Pos} (hg:Gl X x) (hm:X.mg x=none) (hv:bootBuiltins x=some u) (r:RelV v u) (hn:x ≠ "__name__" := by decide) (hd:(x == ("__debug__" : Str))=false:=by decide):PE X (.Name x pos) (tC v) :=
  fun _ _ _ H _ I h=>ld_blt I hg hm hv ⟨v,H,I,r,h⟩ hn hd
variable {a b:Expr} {ta tb:TE} {pos:Pos}
def PC (X:Cx) (op:CmpOp) (a b:Expr) (t:TE):Prop :=
  ∀ (pins:List (Addr×Obj)) (s:Shared) (σ:St) (H:Hp) (Q:VK),Inv X pins σ H s→t σ H Q →
    wpAny (model X.prog X.w) X.A (eval a X.env) (fun v s₁=>wpAny (model X.prog X.w) X.A (eval b X.env) (fun u s₂=>wpAny (model X.prog X.w) X.A (compareOp op v u) (EP X pins σ Q) X.xe s₂) X.xe s₁) X.xe s
theorem nobehind (b:Expr) {op:CmpOp} (h:op≠.In) (h2:op≠.NotIn):behindInMarks op b=false:=by
  have e1:(op == CmpOp.In)=false:=by cases op <;> first | rfl | exact absurd rfl h
  have e2:(op == CmpOp.NotIn)=false:=by cases op <;> first | rfl | exact absurd rfl h2
  cases b <;> simp [behindInMarks,e1,e2]
def tB (t:TE):TT:=fun σ H Q=>t σ H fun x H1=>∃ c,x=.bl c∧Q c H1
theorem pt_cmp {op:CmpOp} {t:TE} (h:PC X op a b t) (h1:behindInMarks op b=false:=by first | exact nobehind _ (by decide) (by decide) | rfl):PT X (.Compare a [op] [b] pos) (tB t):=by
  intro pins s σ H Q I hw
  refine wpAny_isTrue_Compare1 (thn (h pins s σ H _ I hw) fun v s1 h1=>thn h1 fun u s2 h2=>thn h2 fun c s3 ⟨x,H1,I1,r1,q1⟩=>?_) h1
  obtain ⟨d,rfl,q⟩:=q1
  cases r1
  exact wpAny_truthy_bool ⟨H1,I1,q⟩
theorem pt_val {e:Expr} {t:TE} (h:PE X e t) (he:∀ whole,isTrue e X.env whole=(do let v ← whole; standAt e.pos; holding [v] (truthy v)):=by intro _; rfl):PT X e (tB t):=by
  intro pins s σ H Q I hw
  refine isTrue_plain (thn (h pins s σ H _ I hw) fun v s1 ⟨x,H1,I1,r1,q1⟩=>?_) (he _)
  obtain ⟨d,rfl,q⟩:=q1
  cases r1
  exact wpAny_truthy_bool ⟨H1,I1,q⟩
variable {tA tB':TT} {rest:List Expr}
def tAnd (t u:TT):TT:=fun σ H Q=>t σ H fun c H1=>if c=true then u σ H1 Q else Q false H1
def tOr (t u:TT):TT:=fun σ H Q=>t σ H fun c H1=>if c=true then Q true H1 else u σ H1 Q
def tNot (t:TT):TT:=fun σ H Q=>t σ H fun c H1=>Q (!c) H1
theorem pw_and1 (ha:PT X a tA):PW X (.BoolOp .And [a] pos) tA:=by
  intro wh pins s σ H Q I h
  refine isTrue_and (thn (ha pins s σ H Q I h) fun c s1 e=>?_)
  cases c with
  | true=>exact isTrue_and_nil e
  | false=>exact e
theorem pw_or1 (ha:PT X a tA):PW X (.BoolOp .Or [a] pos) tA:=by
  intro wh pins s σ H Q I h
  refine isTrue_or (thn (ha pins s σ H Q I h) fun c s1 e=>?_)
  cases c with
  | false=>exact isTrue_or_nil e
  | true=>exact e
theorem pw_and (ha:PT X a tA) (hb:PW X (.BoolOp .And (b :: rest) pos) tB'):PW X (.BoolOp .And (a :: b :: rest) pos) (tAnd tA tB'):=by
  intro wh pins s σ H Q I h
  refine isTrue_and (thn (ha pins s σ H _ I h) fun c s1 ⟨H1,I1,q1⟩=>?_)
  cases c with
  | true=>exact hb wh pins s1 σ H1 Q I1 q1
  | false=>exact ⟨H1,I1,q1⟩
theorem pw_or (ha:PT X a tA) (hb:PW X (.BoolOp .Or (b :: rest) pos) tB'):PW X (.BoolOp .Or (a :: b :: rest) pos) (tOr tA tB'):=by
  intro wh pins s σ H Q I h
  refine isTrue_or (thn (ha pins s σ H _ I h) fun c s1 ⟨H1,I1,q1⟩=>?_)
  cases c with
  | true=>exact ⟨H1,I1,q1⟩
  | false=>exact hb wh pins s1 σ H1 Q I1 q1
theorem pt_not (ha:PT X a tA):PT X (.UnaryOp .Not a pos) (tNot tA):=by
  intro pins s σ H Q I h
  exact isTrue_not (ha pins s σ H (fun c H1=>Q (!c) H1) I h)
def tAndV (ta tb:TE):TE:=fun σ H Q=>ta σ H fun x H1=>∃ c,x=.bl c∧if c=true then tb σ H1 Q else Q (.bl false) H1
def tNotV (ta:TE):TE:=fun σ H Q=>ta σ H fun x H1=>∃ c,x=.bl c∧Q (.bl (!c)) H1
theorem pe_one {op} {t:TE} (h:PE X a t):PE X (.BoolOp op [a] pos) t:=fun pins s σ H Q I hw=>BoolOp_one (h pins s σ H Q I hw)
theorem pe_and (ha:PE X a ta) (hb:PE X (.BoolOp .And (b :: rest) pos) tb):PE X (.BoolOp .And (a :: b :: rest) pos) (tAndV ta tb):=by
  intro pins s σ H Q I h
  refine BoolOp_and (thn (ha pins s σ H _ I h) fun v s1 ⟨x,H1,I1,r1,q1⟩=>?_)
  obtain ⟨c,rfl,q1⟩:=q1
  cases r1
  refine wpAny_truthy_bool ?_
  cases c with
  | true=>exact hb pins s1 σ H1 Q I1 q1
  | false=>exact ⟨.bl false,H1,I1,rfl,q1⟩
theorem pe_not (ha:PE X a ta):PE X (.UnaryOp .Not a pos) (tNotV ta):=by
  intro pins s σ H Q I h
  refine UnaryOp_ (thn (ha pins s σ H _ I h) fun v s1 ⟨x,H1,I1,r1,q1⟩=>?_)
  obtain ⟨c,rfl,q1⟩:=q1
  cases r1
  exact not_of (wpAny_truthy_bool ⟨.bl (!c),H1,I1,rfl,q1⟩)
end
end L2
namespace L2
open PySem PySem.Spec PyProof.Rows
def SqL (K:PySem.W.Frag) (H:Hp) (a:Addr) (xs:List V):Prop :=
  Rd H a (.lst xs) ∨
    ∃ (o:Obj) (its:Array Value) (n:Nat),K.lookup a=some o∧o.cls=.type "list" ∧ o.dict=none∧o.data=.seq its n∧its.size≤sizeLine∧Vals xs its.toList
def SqT (K:PySem.W.Frag) (H:Hp) (a:Addr) (xs:List V):Prop :=
  Rd H a (.tup xs) ∨
    ∃ (o:Obj) (its:Array Value) (n:Nat),K.lookup a=some o∧o.cls=.type "tuple" ∧ o.data=.seq its n∧its.size≤sizeLine∧Vals xs its.toList
def absV:Value→Option V
  | .none=>some .non
  | .bool b=>some (.bl b)
  | .int i _=>some (.int i)
  | .str x _=>some (.str x)
  | .bytes b _=>some (.byt b)
  | .float b _=>some (.flt b)
  | .ref a=>some (.ref a)
  | .type n=>some (.ty n)
  | _=>none
theorem RelV.abs {x:V} {u:Value} (r:RelV x u):absV u=some x:=by
  cases x with
  | non=>cases r; rfl
  | bl _=>cases r; rfl
  | int _=>obtain ⟨t,rfl⟩:=r; rfl
  | str _=>obtain ⟨t,rfl⟩:=r; rfl
  | byt _=>obtain ⟨t,rfl⟩:=r; rfl
  | flt _=>obtain ⟨t,rfl⟩:=r; rfl
  | ref _=>cases r; rfl
  | ty _=>cases r; rfl
theorem RelV.inj {x y:V} {u:Value} (r:RelV x u) (q:RelV y u):x=y:=Option.some.inj (r.abs.symm.trans q.abs)
theorem Vals.inj:∀ {xs ys:List V} {us:List Value},Vals xs us→Vals ys us→xs=ys
  | _,_,_,.nil,.nil=>rfl
  | _,_,_,.cons r t,.cons r' t'=>by rw [r.inj r',Vals.inj t t']
section
variable {X:Cx} {pins:List (Addr×Obj)} {σ:St} {H:Hp} {s:Shared} {a:Addr} {xs ys:List V}
theorem SqL.of {K:PySem.W.Frag} (h:H a=some (.lst xs)):SqL K H a xs:=.inl (.inl h)
theorem Inv.list (I:Inv X pins σ H s) (h:SqL X.K H a xs):∃ its:List Value,Vals xs its∧PlainL s.heap a its.toArray∧xs.length≤sizeLine:=by
  rcases h with h | ⟨o,its,n,hk,hc,hd,hs,hz,r⟩
  · obtain ⟨z,its,n,r,e⟩:=h.ok I.hok
    exact ⟨its,r,⟨_,n,e,rfl,rfl,rfl⟩,z⟩
  · refine ⟨its.toList,r,⟨o,n,I.kIn a o hk,hc,hd,by simpa using hs⟩,?_⟩
    have e:=r.length
    simp only [Array.length_toList] at e
    omega
theorem Inv.tuple (I:Inv X pins σ H s) (h:SqT X.K H a xs):∃ its:List Value,Vals xs its∧IsTup s.heap a its.toArray∧xs.length≤sizeLine:=by
  rcases h with h | ⟨o,its,n,hk,hc,hs,hz,r⟩
  · obtain ⟨z,its,r,p⟩:=h.ok I.hok
    exact ⟨its,r,p,z⟩
  · refine ⟨its.toList,r,⟨o,I.kIn a o hk,hc,n,by simpa using hs⟩,?_⟩
    have e:=r.length
    simp only [Array.length_toList] at e
    omega
theorem Inv.list_inj (I:Inv X pins σ H s) (h:SqL X.K H a xs) (h':SqL X.K H a ys):xs=ys:=by
  obtain ⟨its,r,⟨o,n,e,_,_,d⟩,_⟩:=I.list h
  obtain ⟨its',r',⟨o',n',e',_,_,d'⟩,_⟩:=I.list h'
  rw [e] at e'; cases e'
  rw [d] at d'
  injection d' with d1 _
  have:its=its':=by simpa using congrArg Array.toList d1
  subst this
  exact r.inj r'
end
abbrev Cx.wish (X:Cx) (E:Value→Shared→Prop):Cx:={ X with xe:=E }
abbrev Cx.nox (X:Cx):Cx:=X.wish fun _ _=>False
theorem Cx.Ok.wish {X:Cx} (ok:X.Ok) (E:Value→Shared→Prop):(X.wish E).Ok :=
  ⟨ok.mod,ok.kind,ok.glob,ok.blt,ok.above,ok.inj,ok.has,ok.cab,ok.hd,ok.frames,ok.stk,ok.exf,ok.bs,ok.bsz,ok.noex,ok.exfs,ok.funs,ok.frf,ok.tb⟩
theorem Cx.Ok.unwish {X:Cx} {E:Value→Shared→Prop} (ok:(X.wish E).Ok):X.Ok :=
  ⟨ok.mod,ok.kind,ok.glob,ok.blt,ok.above,ok.inj,ok.has,ok.cab,ok.hd,ok.frames,ok.stk,ok.exf,ok.bs,ok.bsz,ok.noex,ok.exfs,ok.funs,ok.frf,ok.tb⟩
section
variable {X:Cx} {pins:List (Addr×Obj)} {σ:St} {H:Hp} {s:Shared} {E:Value→Shared→Prop}
theorem Inv.wish (I:Inv X pins σ H s) (E:Value→Shared→Prop):Inv (X.wish E) pins σ H s:=⟨I.ok.wish E,I.os,I.bare,I.base,I.loc,I.cell,I.free,I.freeC,I.pin,I.hok,I.len⟩
theorem Inv.unwish (I:Inv (X.wish E) pins σ H s):Inv X pins σ H s:=⟨I.ok.unwish,I.os,I.bare,I.base,I.loc,I.cell,I.free,I.freeC,I.pin,I.hok,I.len⟩
theorem SP.unwish {D:Ends} {f:Flow} {s':Shared} (h:SP (X.wish E) pins D f s'):SP X pins D f s':=by
  cases f with
  | next=>obtain ⟨σ',H',I,q⟩:=h; exact ⟨σ',H',I.unwish,q⟩
  | brk=>obtain ⟨σ',H',I,q⟩:=h; exact ⟨σ',H',I.unwish,q⟩
  | cont=>obtain ⟨σ',H',I,q⟩:=h; exact ⟨σ',H',I.unwish,q⟩
  | ret u=>obtain ⟨v,σ',H',I,r,q⟩:=h; exact ⟨v,σ',H',I.unwish,r,q⟩
theorem PSs.nox {st:List Stmt} {t:TS} (h:PSs X.nox st t):PSs X st t:=fun pins s σ H D I hw =>
  wpAny_mono (h pins s σ H D (I.wish _) hw) (fun _ _ q=>q.unwish) fun _ _ z=>False.elim z
end
section
variable {X:Cx} {st:Stmt} {rest:List Stmt} {t u:TS} {e:Expr} {te:TE} {pos:Pos}
def tNext:TS:=fun D σ H=>D.nx σ H
def tSeq (t u:TS):TS:=fun D σ H=>t { D with nx:=u D } σ H
theorem pss_nil:PSs X [] tNext:=fun _ _ σ H _ I h=>wpAny_execs_nil ⟨σ,H,I,h⟩
theorem pss_cons (h1:PS X st t) (h2:PSs X rest u):PSs X (st :: rest) (tSeq t u):=by
  intro pins s σ H D I h
  refine wpAny_execs_cons (thn (h1 pins s σ H { D with nx:=u D } I h) fun f s1 q=>?_)
  cases f with
  | next =>
    obtain ⟨σ',H',I',q⟩:=q
    exact h2 pins s1 σ' H' D I' q
  | ret v=>exact q
  | brk=>exact q
  | cont=>exact q
theorem pss_one (h1:PS X st t):PSs X [st] t:=by
  intro pins s σ H D I h
  refine wpAny_execs_cons (thn (h1 pins s σ H D I h) fun f s1 q=>?_)
  cases f with
  | next=>exact wpAny_execs_nil q
  | ret v=>exact q
  | brk=>exact q
  | cont=>exact q
theorem Inv.quiet {pins:List (Addr×Obj)} {σ:St} {H:Hp} {s:Shared} (I:Inv X pins σ H s):interactive X.env=false:=by simp [interactive,I.ok.kind]
def tDrop (te:TE):TS:=fun D σ H=>te σ H fun _ H1=>D.nx σ H1
theorem ps_expr (he:PE X e te) (hs:swapsWith e none pos.line X.env=pure false:=by rfl):PS X (.Expr e pos) (tDrop te):=by
  intro pins s σ H D I h
  exact wpAny_Expr_any (thn (he pins s σ H _ I h) fun v s1 ⟨x,H1,I1,r1,q1⟩=>⟨σ,H1,I1,q1⟩) I.quiet hs
def tRet (te:TE):TS:=fun D σ H=>te σ H D.rt
theorem ps_ret (he:PE X e te):PS X (.Return (some e) pos) (tRet te):=by
  intro pins s σ H D I h
  exact wpAny_Return_some (thn (he pins s σ H _ I h) fun v s1 ⟨x,H1,I1,r1,q1⟩=>⟨x,σ,H1,I1,r1,q1⟩)
def tIfS (c:TT) (t u:TS):TS:=fun D σ H=>c σ H fun b H1=>if b=true then t D σ H1 else u D σ H1
theorem ps_if {c:Expr} {a b:List Stmt} {tc:TT} (hc:PT X c tc) (ha:PSs X a t) (hb:PSs X b u):PS X (.If c a b pos) (tIfS tc t u):=by
  intro pins s σ H D I h
  refine wpAny_If (thn (hc pins s σ H _ I h) fun d s1 ⟨H1,I1,q1⟩=>?_)
  cases d with
  | true=>exact ha pins s1 σ H1 D I1 q1
  | false=>exact hb pins s1 σ H1 D I1 q1
end
abbrev TG:=V→St→Hp→(St→Hp→Prop)→Prop
def PG (X:Cx) (target:Expr) (t:TG):Prop :=
  ∀ (pins:List (Addr×Obj)) (s:Shared) (σ:St) (H:Hp) (v:V) (u:Value) (Q:St→Hp→Prop),Inv X pins σ H s→RelV v u→t v σ H Q →
    wpAny (model X.prog X.w) X.A (assign target X.env u) (fun _ s'=>∃ σ' H',Inv X pins σ' H' s'∧Q σ' H') X.xe s
abbrev TSet:=V→V→V→Hp→(Hp→Prop)→Prop
def PSet (X:Cx) (t:TSet):Prop :=
  ∀ (pins:List (Addr×Obj)) (s:Shared) (σ:St) (H:Hp) (o i v:V) (ov iv u:Value) (Q:Hp→Prop),Inv X pins σ H s→RelV o ov→RelV i iv→RelV v u→t o i v H Q →
    wpAny (model X.prog X.w) X.A (setItem ov iv u) (fun _ s'=>∃ H',Inv X pins σ H' s'∧Q H') X.xe s
section
variable {X:Cx} {pos:Pos}
def gName (i:Nat):TG:=fun v σ H Q=>Q (σ.set i (some v)) H
theorem pg_name {i:Nat} {x:Str} (hN:X.N.Nodup) (hi:X.N[i]?=some x) (hx:Loc X.env.scope x) (hf:X.fn x=true∨X.env.scope.names.lookup x=some .local:=by first | exact .inl rfl | exact .inr rfl | assumption):PG X (.Name x pos) (gName i):=by
  intro pins s σ H v u Q I r h
  exact wpAny_assign_Name (store_ok I hN hi hx r (fun s' I'=>⟨_,H,I',h⟩) hf)
def gSub (to ti:TE) (t:TSet):TG:=fun v σ H Q=>to σ H fun o H1=>ti σ H1 fun i H2=>t o i v H2 fun H3=>Q σ H3
theorem pg_sub {o i:Expr} {to ti:TE} {t:TSet} (ho:PE X o to) (hi:PE X i ti) (hs:PSet X t)
    (ha:∀ v,assign (.Subscript o i pos) X.env v=(do
      let ov ← holding [v] (eval o X.env)
      let iv ← holding [v,ov] (eval i X.env)
      standAt pos
      holding [v,ov,iv] (setItem ov iv v)
      release [v,ov,iv] []):=by intro _; rfl):PG X (.Subscript o i pos) (gSub to ti t):=by
  intro pins s σ H v u Q I r h
  rw [ha]
  refine wpAny_bind (wpAny_holding (thn (ho pins s σ H _ I h) fun ov s1 ⟨x,H1,I1,r1,q1⟩=>?_))
  refine wpAny_bind (wpAny_holding (thn (hi pins s1 σ H1 _ I1 q1) fun iv s2 ⟨y,H2,I2,r2,q2⟩=>?_))
  refine wpAny_bind (wpAny_standAt (wpAny_bind (wpAny_holding (thn (hs pins s2 σ H2 x y v ov iv u _ I2 r1 r2 r q2) fun _ s3 ⟨H3,I3,q3⟩=>?_))))
  exact wpAny_release ⟨σ,H3,I3,q3⟩
def tAsg (te:TE) (g:TG):TS:=fun D σ H=>te σ H fun x H1=>g x σ H1 D.nx
theorem ps_asg {tg e:Expr} {te:TE} {g:TG} (he:PE X e te) (hg:PG X tg g) (hs:swapsWithSole [tg] e pos.line X.env=pure false:=by rfl) (hw:swappedStores [tg] e X.env=pure none:=by rfl)
    (h1:(assignEach [tg] X.env).map (·.2)=[assign tg X.env]:=by rfl):PS X (.Assign [tg] e pos) (tAsg te g):=by
  intro pins s σ H D I h
  refine wpAny_Assign_stores (thn (he pins s σ H _ I h) fun v s1 ⟨x,H1,I1,r1,q1⟩=>?_) hs hw
  rw [h1]
  exact thn (hg pins s1 σ H1 x v _ I1 r1 q1) fun _ s2 q=>q
theorem ps_set {i:Nat} {x:Str} {e:Expr} {te:TE} {pos':Pos} (hN:X.N.Nodup) (hi:X.N[i]?=some x) (hx:Loc X.env.scope x) (he:PE X e te) (hs:swapsWith e (some (.Name x pos')) pos.line X.env=pure false:=by rfl) (hf:X.fn x=true∨X.env.scope.names.lookup x=some .local:=by first | exact .inl rfl | exact .inr rfl | assumption) :
    PS X (.Assign [.Name x pos'] e pos) (tAsg te (gName i)):=by
  intro pins s σ H D I h
  refine wpAny_Assign_Name (thn (he pins s σ H _ I h) fun v s1 ⟨y,H1,I1,r1,q1⟩=>?_) hs
  exact store_ok I1 hN hi hx r1 (fun s2 I2=>⟨_,H1,I2,q1⟩) hf
end
section
variable {X:Cx} {pos:Pos}
def tWhile (c:TT) (tb:TS):TS:=fun D σ H=>∃ W:Nat→St→Hp→Prop,(∃ m,W m σ H)∧∀ m σ H,W m σ H →
  c σ H fun b H1=>if b=true then ∃ N:St→Hp→Prop,(∀ σ' H',N σ' H'→∃ m',m' < m∧W m' σ' H')∧tb { D with nx:=N,ct:=N,bk:=D.nx } σ H1 else D.nx σ H1
theorem ps_while {c:Expr} {body:List Stmt} {tc:TT} {tb:TS} (hp:PassesOwn (model X.prog X.w) X.A X.env X.xe) (hc:PT X c tc) (hb:PSs X body tb):PS X (.While c body [] pos) (tWhile tc tb):=by
  intro pins s σ H D I h
  obtain ⟨W,⟨m0,w0⟩,turn⟩:=h
  refine wpAny_While (codeAny_whileLoop (fun n s'=>∃ σ' H',Inv X pins σ' H' s'∧W n σ' H') ?_ m0 ⟨σ,H,I,w0⟩)
  rintro n s1 ⟨σ1,H1,I1,w1⟩
  refine wpAny_passesOwn hp (thn (hc pins s1 σ1 H1 _ I1 (turn n σ1 H1 w1)) fun b s2 ⟨H2,I2,q2⟩=>?_)
  cases b with
  | true =>
    obtain ⟨N,hN,q2⟩:=q2
    rw [if_pos rfl]
    refine wpAny_passesOwn hp (thn (hb pins s2 σ1 H2 _ I2 q2) fun f s3 q3=>?_)
    cases f with
    | next =>
      obtain ⟨σ3,H3,I3,n3⟩:=q3
      obtain ⟨m',hm,w3⟩:=hN σ3 H3 n3
      exact ⟨m',hm,σ3,H3,I3,w3⟩
    | cont =>
      obtain ⟨σ3,H3,I3,n3⟩:=q3
      obtain ⟨m',hm,w3⟩:=hN σ3 H3 n3
      exact ⟨m',hm,σ3,H3,I3,w3⟩
    | brk=>exact q3
    | ret v=>exact q3
  | false =>
    rw [if_neg Bool.false_ne_true]
    exact wpAny_execs_nil ⟨σ1,H2,I2,q2⟩
end
structure It where
  go:Nat→Hp→Prop
  yld:Nat→Hp→V→Hp→Prop
  stop:Nat→Hp→Prop
def FpOk (X:Cx) (pins:List (Addr×Obj)) (H:Hp) (b:Addr):Prop :=
  H b=none∧b≠X.env.locals∧b∉X.fs∧(b∈X.ex∨X.s₀.heap.objs.size≤b)∧(∀ x c,X.env.cells.lookup x=some c→c≠b)∧∀ p∈X.pn ++ pins,p.1≠b
theorem Inv.fpOk {X:Cx} {pins:List (Addr×Obj)} {σ:St} {H H':Hp} {s:Shared} {b:Addr} (I:Inv X pins σ H s) (hb:s.heap.objs.size≤b) (hn:H' b=none):FpOk X pins H' b:=by
  refine ⟨hn,Nat.ne_of_gt (Nat.lt_of_lt_of_le I.lt hb),I.nofs hb,.inr (Nat.le_trans I.sz hb),fun x c e z=>?_,fun p hp z=>?_⟩
  · obtain ⟨v,q⟩:=I.cell x c e
    exact absurd (Nat.lt_of_lt_of_le q.lt (by rw [z]; exact hb)) (Nat.lt_irrefl _)
  · exact absurd (Nat.lt_of_lt_of_le (Heap.lt_size (I.pin p hp).1) (by rw [z]; exact hb)) (Nat.lt_irrefl _)
structure Turn (P:Program) (w:World) (K:PySem.W.Frag) (tg:Expr) (J:It) (fp:List Addr) (it:Addr) (tn:Nat→Heap→Prop):Prop where
  mem:it∈fp
  obj:∀ i h,tn i h→∀ b∈fp,∃ o,h.get? b=some o∧∀ v,o.data≠.cell v
  keep:∀ i h h',tn i h→(∀ b∈fp,∀ o,h.get? b=some o→h'.get? b=some o)→tn i h'
  item:∀ (X:Cx),X.prog=P→X.w=w→X.K=K→X.calm=true→∀ (i:Nat) (pins:List (Addr×Obj)) (s:Shared) (σ:St) (H:Hp) (E:Value→Shared→Prop),Inv X pins σ H s→(∀ b∈fp,FpOk X pins H b)→tn i s.heap→J.go i H →
    wpAny (model P w) X.A (pyNext (.ref it)) (fun r s1=>∃ u,r=some u ∧
      wpAny (model P w) X.A (letOwnedTupleGo tg (.ref it) u) (fun _ s2=>∃ x H',Inv X pins σ H' s2∧RelV x u∧J.yld i H x H'∧tn (i + 1) s2.heap∧∀ b∈fp,H' b=none) E s1) E s
  done:∀ (X:Cx),X.prog=P→X.w=w→X.K=K→X.calm=true→∀ (i:Nat) (pins:List (Addr×Obj)) (s:Shared) (σ:St) (H:Hp) (E:Value→Shared→Prop),Inv X pins σ H s→(∀ b∈fp,FpOk X pins H b)→tn i s.heap→J.stop i H →
    wpAny (model P w) X.A (pyNext (.ref it)) (fun r s1=>r=none∧Inv X pins σ H s1) E s
  self:∀ (A:Around) (i:Nat) (s:Shared) (Q:Value→Shared→Prop) (E:Value→Shared→Prop),tn i s.heap→Q (.ref it) s→wpAny (model P w) A (pyIter (.ref it)) Q E s
abbrev TI:=St→Hp→(It→Hp→Prop)→Prop
def PIE (X:Cx) (pins:List (Addr×Obj)) (σ:St) (tg:Expr) (R:It→Hp→Prop) (itv:Value) (s2:Shared):Prop :=
  ∃ (it:Addr) (fp:List Addr) (tn:Nat→Heap→Prop) (J:It) (H':Hp),itv=.ref it∧Inv X pins σ H' s2∧Turn X.prog X.w X.K tg J fp it tn∧tn 0 s2.heap∧(∀ b∈fp,FpOk X pins H' b)∧R J H'
def PI (X:Cx) (tg iter:Expr) (wi:TI):Prop :=
  ∀ (pins:List (Addr×Obj)) (s:Shared) (σ:St) (H:Hp) (R:It→Hp→Prop),Inv X pins σ H s→wi σ H R →
    wpAny (model X.prog X.w) X.A (eval iter X.env) (fun v s1=>wpAny (model X.prog X.w) X.A (pyIter v) (PIE X pins σ tg R) X.xe s1) X.xe s
theorem go_of {M:Model} {A:Around} {E:Value→Shared→Prop} {s:Shared} {tg:Expr} {it:Addr} {u:Value} {o:Obj} {n:String} {vs:Array Value} {Q:Unit→Shared→Prop} (ho:s.heap.get? it=some o) (hc:o.cls=.type n) (hd:o.data=.fields vs)
    (hn:["enumerate", "zip", "dict_itemiterator", "dict_reverseitemiterator", "odict_iterator", "itertools.zip_longest", "itertools.pairwise"].contains n=false) (hQ:Q () s):wpAny M A (letOwnedTupleGo tg (.ref it) u) Q E s:=by
  unfold letOwnedTupleGo
  cases tg <;> first
    | exact wpAny_pure hQ
    | (cases u <;> first
        | exact wpAny_pure hQ
        | (refine wpAny_bind (wpAny_load ho ?_)
           rw [hc,hd]
           show wpAny M A (if (["enumerate", "zip", "dict_itemiterator", "dict_reverseitemiterator", "odict_iterator", "itertools.zip_longest", "itertools.pairwise"].contains n && vs[0]? == some (rawInt _))=true then _ else _) Q E s
           rw [if_neg (by intro h; rw [hn,Bool.false_and] at h; cases h)]
           exact wpAny_pure hQ))
def Itl (K:PySem.W.Frag) (a:Addr):It :=
  ⟨fun i H=>∃ xs x,SqL K H a xs∧xs[i]?=some x,fun i H x H'=>H'=H∧∀ xs,SqL K H a xs→xs[i]?=some x,fun i H=>∃ xs,SqL K H a xs∧xs.length≤i⟩
def Itr (lo:Int) (n:Nat):It:=⟨fun i _=>i < n,fun i H x H'=>H'=H∧x=.int (lo + i),fun i _=>n≤i⟩
theorem turn_list {P:Program} {w:World} {K:PySem.W.Frag} {tg:Expr} (a it:Addr):Turn P w K tg (Itl K a) [it] it (fun i h=>h.IsListIter it a i) where
  mem:=by simp
  obj:=fun i h st b hb=>by
    have e:b=it:=by simpa using hb
    subst e
    obtain ⟨o,e,c,d⟩:=st
    exact ⟨o,e,fun v z=>by rw [d] at z; cases z⟩
  keep:=fun i h h' st k=>st.at fun o e=>k it (by simp) o e
  item:=by
    intro X hP hw hK hc i pins s σ H E I hf st hg
    subst hP hw hK
    obtain ⟨xs,x,hq,hx⟩:=hg
    obtain ⟨its,rv,p,hz⟩:=I.list hq
    obtain ⟨u,hu,ru⟩:=rv.get hx
    obtain ⟨f0,f1,f2,f3,f4,f5⟩:=hf it (by simp)
    refine wpAny_pyNext_list_item st p.isList (x:=u) (by simpa using hu) fun h' st' sb=>?_
    have I1:Inv X pins σ H { s with heap:=h' }:=I.turned (t':=s.toks) (fun b o hb e=>(sb.2 b hb).trans e) f0 f1 f3 f4 f5
    obtain ⟨o,e,c,d⟩:=id st'
    exact ⟨u,rfl,go_of (s:={ s with heap:=h' }) e c d (by decide) ⟨x,H,I1,ru,⟨rfl,fun ys hy=>by rw [I.list_inj hy hq]; exact hx⟩,st',fun b hb=>(hf b hb).1⟩⟩
  done:=by
    intro X hP hw hK hc i pins s σ H E I hf st hg
    subst hP hw hK
    obtain ⟨xs,hq,hx⟩:=hg
    obtain ⟨its,rv,p,hz⟩:=I.list hq
    obtain ⟨f0,f1,f2,f3,f4,f5⟩:=hf it (by simp)
    have hl:=rv.length
    exact wpAny_pyNext_list_end (I.ok.hd hc) st p.isList (by simp; omega) fun h' eb=>⟨rfl,I.turned (t':=s.toks) (fun b o hb e=>eb b o hb e) f0 f1 f3 f4 f5⟩
  self:=fun _ _ _ _ _ st h=>wpAny_pyIter_listiter st h
theorem turn_range {P:Program} {w:World} {K:PySem.W.Frag} {tg:Expr} (it:Addr) (lo:Int) (n:Nat):Turn P w K tg (Itr lo n) [it] it (fun i h=>IsRangeIter h it (lo + (i:Nat) * 1) ((n:Int) - (i:Nat)) 1) where
  mem:=by simp
  obj:=fun i h st b hb=>by
    have e:b=it:=by simpa using hb
    subst e
    exact ⟨_,st,fun v z=>by
      have z':Data.fields _=Data.cell v:=z
      cases z'⟩
  keep:=fun i h h' st k=>k it (by simp) _ st
  item:=by
    intro X hP hw hK hc i pins s σ H E I hf st hg
    subst hP hw hK
    obtain ⟨f0,f1,f2,f3,f4,f5⟩:=hf it (by simp)
    have W:=Walks.range (prog:=X.prog) (w:=X.w) (I.ok.hd hc) it lo 1 n
    refine W.item i s _ _ hg st fun v h' tk hv st' kk=>?_
    obtain ⟨t,rfl⟩:=hv
    have I1:Inv X pins σ H { s with heap:=h',toks:=tk }:=I.turned (fun b o hb e=>kk b o (by simpa using hb) e) f0 f1 f3 f4 f5
    refine ⟨_,rfl,go_of (s:={ s with heap:=h',toks:=tk }) (n := "range_iterator") st' rfl rfl (by decide) ⟨.int (lo + i),H,I1,⟨t,?_⟩,⟨rfl,rfl⟩,st',fun b hb=>(hf b hb).1⟩⟩
    rw [Int.mul_one]
  done:=by
    intro X hP hw hK hc i pins s σ H E I hf st hg
    subst hP hw hK
    obtain ⟨f0,f1,f2,f3,f4,f5⟩:=hf it (by simp)
    exact wpAny_pyNext_range_end (I.ok.hd hc) st (by have:n≤i:=hg; omega) fun h' eb=>⟨rfl,I.turned (t':=s.toks) (fun b o hb e=>eb b o hb e) f0 f1 f3 f4 f5⟩
  self:=fun _ _ _ _ _ st h=>wpAny_pyIter_rangeiter st h
end L2
namespace L2
open PySem PySem.Spec PyProof.Rows
section
variable {X:Cx} {tg:Expr}
def iList (K:PySem.W.Frag) (tl:TE):TI:=fun σ H R=>tl σ H fun x H1=>∃ a,x=.ref a∧(∃ xs,SqL K H1 a xs)∧R (Itl K a) H1
theorem pi_list {l:Expr} {tl:TE} (hl:PE X l tl):PI X tg l (iList X.K tl):=by
  intro pins s σ H R I h
  refine thn (hl pins s σ H _ I h) fun v s1 ⟨x,H1,I1,r1,q1⟩=>?_
  obtain ⟨a,e,⟨xs,hq⟩,q⟩:=q1
  subst e
  cases r1
  obtain ⟨its,rv,p,hz⟩:=I1.list hq
  refine wpAny_pyIter_list p.isList ?_
  refine ⟨s1.heap.objs.size,[s1.heap.objs.size],_,_,H1,rfl,I1.kept (t':=s1.toks) fun b o e=>Heap.get?_push_of_some _ e,turn_list a _,⟨_,Heap.get?_push_size _ rfl,rfl,rfl⟩,fun b hb=>?_,q⟩
  have e:b=s1.heap.objs.size:=by simpa using hb
  subst e
  exact I1.fpOk (Nat.le_refl _) (I1.hok.fresh (Nat.le_refl _))
theorem range_it {pins:List (Addr×Obj)} {σ:St} {H:Hp} {s:Shared} {R:It→Hp→Prop} {E:Value→Shared→Prop} {lo hi:Int} {t u v:Tok} {tk:Nat} (I:Inv X pins σ H s) (h1:-(2 ^ 62)≤lo) (h2:lo < 2 ^ 62) (h3:-(2 ^ 62)≤hi) (h4:hi < 2 ^ 62)
    (q:R (Itr lo (hi - lo).toNat) H):wpAny (model X.prog X.w) X.A (pyIter (.ref s.heap.objs.size)) (PIE X pins σ tg R) E { s with heap:=s.heap.push { cls:=.type "range", data:=.fields #[.int lo t,.int hi u,.int 1 v] },toks:=tk }:=by
  refine wpAny_pyIter_range (IsRange.new ..) (small_one h1 h2 h3 h4) ?_
  have I1:Inv X pins σ H { s with heap:=s.heap.push { cls:=.type "range", data:=.fields #[.int lo t,.int hi u,.int 1 v] },toks:=tk }:=I.kept fun b o e=>Heap.get?_push_of_some _ e
  refine ⟨(s.heap.push { cls:=.type "range", data:=.fields #[.int lo t,.int hi u,.int 1 v] }).objs.size,[(s.heap.push { cls:=.type "range", data:=.fields #[.int lo t,.int hi u,.int 1 v] }).objs.size],_,_,H,rfl,
    I1.kept (t':=tk) fun b o e=>Heap.get?_push_of_some _ e,turn_range _ lo (hi - lo).toNat,?_,fun b hb=>?_,q⟩
  · have e1:lo + ((0:Nat):Int) * 1=lo:=by simp
    have e2:(((hi - lo).toNat:Nat):Int) - ((0:Nat):Int)=Builtin.Range.rangeSize lo hi 1:=by rw [rangeSize_one]; split <;> omega
    show IsRangeIter _ _ (lo + ((0:Nat):Int) * 1) ((((hi - lo).toNat:Nat):Int) - ((0:Nat):Int)) 1
    rw [e1,e2]
    exact Heap.get?_push_size _ rfl
  · have e:b=(s.heap.push { cls:=.type "range", data:=.fields #[.int lo t,.int hi u,.int 1 v] }).objs.size:=by simpa using hb
    subst e
    exact I1.fpOk (Nat.le_refl _) (I1.hok.fresh (Nat.le_refl _))
def iRng1 (ta:TA):TI:=fun σ H R=>ta σ H fun vs H1=>∃ j:Int,vs=[.int j]∧-(2 ^ 62)≤j∧j < 2 ^ 62∧R (Itr 0 j.toNat) H1
def iRng2 (ta:TA):TI:=fun σ H R=>ta σ H fun vs H1=>∃ i j:Int,vs=[.int i,.int j]∧(-(2 ^ 62)≤i∧i < 2 ^ 62∧-(2 ^ 62)≤j∧j < 2 ^ 62)∧R (Itr i (j - i).toNat) H1
theorem pi_range1 {a:Expr} {ta:TA} {p pos:Pos} (hg:Gl X "range") (hm:X.mg "range" = none) (ha:PA X [a] ta) (hs:starEach [a] X.env=[(false,eval a X.env)]:=by rfl):PI X tg (.Call (.Name "range" p) [a] [] pos) (iRng1 ta):=by
  intro pins s σ H R I h
  refine Call_ (ld_blt I hg hm boot_range (PyProof.Rows.callWith_type1 (thn (ha pos pins s σ H _ I h) fun us s1 ⟨vs,H1,I1,r1,q1⟩=>?_) hs rfl))
  obtain ⟨j,e,q1,q2,q⟩:=q1
  subst e
  cases r1 with
  | cons r rr =>
    cases rr
    obtain ⟨t,rfl⟩:=r
    exact call_range_1 (range_it I1 (by omega) (by omega) q1 q2 (by simpa using q))
theorem pi_range2 {a b:Expr} {ta:TA} {p pos:Pos} (hg:Gl X "range") (hm:X.mg "range" = none) (ha:PA X [a,b] ta) (hs:starEach [a,b] X.env=[(false,eval a X.env),(false,eval b X.env)]:=by rfl) (hs2:starEach [b] X.env=[(false,eval b X.env)]:=by rfl) :
    PI X tg (.Call (.Name "range" p) [a,b] [] pos) (iRng2 ta):=by
  intro pins s σ H R I h
  refine Call_ (ld_blt I hg hm boot_range (PyProof.Rows.callWith_type1 (thn (ha pos pins s σ H _ I h) fun us s1 ⟨vs,H1,I1,r1,q1⟩=>?_) (by rw [hs,hs2]) (by rw [hs2]; rfl)))
  obtain ⟨i,j,e,⟨q1,q2,q3,q4⟩,q⟩:=q1
  subst e
  cases r1 with
  | cons r rr =>
    cases rr with
    | cons r' rr =>
      cases rr
      obtain ⟨t,rfl⟩:=r
      obtain ⟨t',rfl⟩:=r'
      exact call_range_2 (range_it I1 q1 q2 q3 q4 q)
def tFor (wi:TI) (g:TG) (tb:TS):TS:=fun D σ H=>wi σ H fun J H1=>∃ W:Nat→Nat→St→Hp→Prop,(∃ m,W 0 m σ H1)∧∀ i m σ H,W i m σ H →
  (J.stop i H∧D.nx σ H)∨(J.go i H∧∃ N:St→Hp→Prop,(∀ σ' H',N σ' H'→∃ m',m' < m∧W (i + 1) m' σ' H')∧∀ x H',J.yld i H x H'→g x σ H' fun σ2 H2=>tb { D with nx:=N,ct:=N,bk:=D.nx } σ2 H2)
def pinsAt (fp:List Addr) (h:Heap):List (Addr×Obj):=fp.filterMap fun b=>(h.get? b).map fun o=>(b,o)
theorem mem_pinsAt {fp:List Addr} {h:Heap} {b:Addr} {o:Obj} (hb:b∈fp) (e:h.get? b=some o):(b,o)∈pinsAt fp h:=List.mem_filterMap.mpr ⟨b,hb,by rw [e]; rfl⟩
theorem of_pinsAt {fp:List Addr} {h:Heap} {p:Addr×Obj} (hp:p∈pinsAt fp h):p.1∈fp∧h.get? p.1=some p.2:=by
  obtain ⟨b,hb,e⟩:=List.mem_filterMap.mp hp
  cases q:h.get? b with
  | none=>rw [q] at e; cases e
  | some o =>
    rw [q] at e
    have e':(b,o)=p:=Option.some.inj e
    subst e'
    exact ⟨hb,q⟩
theorem Inv.pinned {pins:List (Addr×Obj)} {σ:St} {H:Hp} {s:Shared} {fp:List Addr} (I:Inv X pins σ H s) (hf:∀ b∈fp,FpOk X pins H b) (ho:∀ b∈fp,∃ o,s.heap.get? b=some o∧∀ v,o.data≠.cell v):Inv X (pins ++ pinsAt fp s.heap) σ H s :=
  I.pins_of fun p hp=>(List.mem_append.mp hp).elim (fun z=>I.pin p (List.mem_append_right _ z)) fun z=>by
    obtain ⟨hb,e⟩:=of_pinsAt z
    obtain ⟨f0,f1,f2,_⟩:=hf p.1 hb
    obtain ⟨o,e',d⟩:=ho p.1 hb
    rw [e] at e'; cases e'
    exact ⟨e,f0,f1,f2,d⟩
theorem Inv.unpinned {pins pl:List (Addr×Obj)} {σ:St} {H:Hp} {s:Shared} (I:Inv X (pins ++ pl) σ H s):Inv X pins σ H s:=I.pins_of fun p hp=>I.pin p (List.mem_append_right _ (List.mem_append_left _ hp))
theorem ps_for {iter:Expr} {body:List Stmt} {wi:TI} {g:TG} {tb:TS} {pos:Pos} (hp:PassesOwn (model X.prog X.w) X.A X.env X.xe) (hc:X.calm=true) (hi:PI X tg iter wi) (hg:PG X tg g) (hb:PSs X body tb)
    (hs:∀ x,foldedSetIterable iter X.env x=pure x:=by intro _; rfl):PS X (.For tg iter body [] pos) (tFor wi g tb):=by
  intro pins s σ H D I h
  refine wpAny_For (thn (hi pins s σ H _ I h) fun v s1 h1=>thn h1 fun itv s2 h2=>?_) hs
  obtain ⟨it,fp,tn,J,H2,e,I2,T,st2,f2,W,⟨m0,w0⟩,turn⟩:=h2
  subst e
  have stat:∀ {H':Hp},(∀ b∈fp,H' b=none)→∀ b∈fp,FpOk X pins H' b:=fun hn b hb=>⟨hn b hb,(f2 b hb).2⟩
  refine codeAny_forLoop_any (fun n s'=>∃ i σ' H',Inv X pins σ' H' s'∧tn i s'.heap∧(∀ b∈fp,H' b=none)∧W i n σ' H') ?_ m0 ⟨0,σ,H2,I2,st2,fun b hb=>(f2 b hb).1,w0⟩
  rintro n s3 ⟨i,σ3,H3,I3,st3,fr3,w3⟩
  rcases turn i n σ3 H3 w3 with ⟨stop,qn⟩ | ⟨go,N,hN,step⟩
  · refine wpAny_passesOwn hp (thn (T.done X rfl rfl rfl hc i pins s3 σ3 H3 X.xe I3 (stat fr3) st3 stop) fun r s4 ⟨hr,I4⟩=>?_)
    subst hr
    exact wpAny_execs_nil ⟨σ3,H3,I4,qn⟩
  · refine wpAny_passesOwn hp (thn (T.item X rfl rfl rfl hc i pins s3 σ3 H3 X.xe I3 (stat fr3) st3 go) fun r s4 ⟨u,hr,h4⟩=>?_)
    subst hr
    refine wpAny_passesOwn hp (thn h4 fun _ s5 ⟨x,H5,I5,r5,y5,st5,fr5⟩=>?_)
    have I5':=I5.pinned (stat fr5) (T.obj _ _ st5)
    refine wpAny_passesOwn hp (thn (hg _ s5 σ3 H5 x u _ I5' r5 (step x H5 y5)) fun _ s6 ⟨σ6,H6,I6,q6⟩=>?_)
    refine wpAny_passesOwn hp (thn (hb _ s6 σ6 H6 _ I6 q6) fun f s7 q7=>?_)
    have again:∀ {σ7:St} {H7:Hp},Inv X (pins ++ pinsAt fp s5.heap) σ7 H7 s7→N σ7 H7→∃ m,m < n∧∃ i σ' H',Inv X pins σ' H' s7∧tn i s7.heap∧(∀ b∈fp,H' b=none)∧W i m σ' H':=fun {σ7 H7} I7 n7=>by
      obtain ⟨m',hm,w7⟩:=hN σ7 H7 n7
      refine ⟨m',hm,i + 1,σ7,H7,I7.unpinned,T.keep _ _ _ st5 fun b hb o e=>(I7.pin (b,o) (List.mem_append_right _ (List.mem_append_right _ (mem_pinsAt hb e)))).1,fun b hb=>?_,w7⟩
      obtain ⟨o,e,d⟩:=T.obj _ _ st5 b hb
      exact (I7.pin (b,o) (List.mem_append_right _ (List.mem_append_right _ (mem_pinsAt hb e)))).2.1
    cases f with
    | next=>obtain ⟨σ7,H7,I7,n7⟩:=q7; exact again I7 n7
    | cont=>obtain ⟨σ7,H7,I7,n7⟩:=q7; exact again I7 n7
    | brk=>obtain ⟨σ7,H7,I7,q7⟩:=q7; exact ⟨σ7,H7,I7.unpinned,q7⟩
    | ret v=>obtain ⟨x7,σ7,H7,I7,r7,q7⟩:=q7; exact ⟨x7,σ7,H7,I7.unpinned,r7,q7⟩
end
end L2
namespace L2
open PySem PySem.Spec PyProof.Rows
abbrev R2:=V→V→Hp→VK→Prop
def OpR (X:Cx) (f:Value→Value→Sem Value) (r:R2):Prop :=
  ∀ (pins:List (Addr×Obj)) (s:Shared) (σ:St) (H:Hp) (x y:V) (v u:Value) (Q:VK),Inv X pins σ H s→RelV x v→RelV y u→r x y H Q →
    wpAny (model X.prog X.w) X.A (f v u) (EP X pins σ Q) X.xe s
def UnR (X:Cx) (f:Value→Sem Value) (r:V→Hp→VK→Prop):Prop :=
  ∀ (pins:List (Addr×Obj)) (s:Shared) (σ:St) (H:Hp) (x:V) (v:Value) (Q:VK),Inv X pins σ H s→RelV x v→r x H Q →
    wpAny (model X.prog X.w) X.A (f v) (EP X pins σ Q) X.xe s
def CallR (X:Cx) (f:Value) (r:List V→Hp→VK→Prop):Prop :=
  ∀ (pins:List (Addr×Obj)) (s:Shared) (σ:St) (H:Hp) (xs:List V) (us:List Value) (Q:VK),Inv X pins σ H s→Vals xs us→r xs H Q →
    wpAny (model X.prog X.w) X.A (call f us) (EP X pins σ Q) X.xe s
def tOp (r:R2) (ta tb:TE):TE:=fun σ H Q=>ta σ H fun x H1=>tb σ H1 fun y H2=>r x y H2 Q
def tUn (r:V→Hp→VK→Prop) (ta:TE):TE:=fun σ H Q=>ta σ H fun x H1=>r x H1 Q
def rI (C:Int→Int→Prop) (g:Int→Int→V):R2:=fun x y H Q=>∃ i j,x=.int i∧y=.int j∧C i j∧Q (g i j) H
def rI0 (g:Int→Int→V):R2:=fun x y H Q=>∃ i j,x=.int i∧y=.int j∧Q (g i j) H
def rU (g:Int→V):V→Hp→VK→Prop:=fun x H Q=>∃ i,x=.int i∧Q (g i) H
section
variable {X:Cx} {a b c:Expr} {ta tb tc:TE} {pos:Pos}
theorem binT (ha:PE X a ta) (hb:PE X b tb) {pins:List (Addr×Obj)} {s:Shared} {σ:St} {H:Hp} {R:V→V→Hp→Prop} (I:Inv X pins σ H s)
    (h:ta σ H fun x H1=>tb σ H1 fun y H2=>R x y H2) {Q:Value→Shared→Prop} {f:Value→Value→Sem Value}
    (hf:∀ v u s2 x y H2,Inv X pins σ H2 s2→RelV x v→RelV y u→R x y H2→wpAny (model X.prog X.w) X.A (f v u) Q X.xe s2) :
    wpAny (model X.prog X.w) X.A (eval a X.env) (fun v s₁=>wpAny (model X.prog X.w) X.A (eval b X.env) (fun u s₂=>wpAny (model X.prog X.w) X.A (f v u) Q X.xe s₂) X.xe s₁) X.xe s:=by
  refine thn (ha pins s σ H _ I h) fun v s1 ⟨x,H1,I1,r1,q1⟩=>?_
  refine thn (hb pins s1 σ H1 _ I1 q1) fun u s2 ⟨y,H2,I2,r2,q2⟩=>?_
  exact hf v u s2 x y H2 I2 r1 r2 q2
theorem pe_op {op:Operator} {r:R2} (ho:OpR X (binaryOp op) r) (ha:PE X a ta) (hb:PE X b tb):PE X (.BinOp a op b pos) (tOp r ta tb):=by
  intro pins s σ H Q I h
  exact wpAny_BinOp (binT ha hb I h fun v u s2 x y H2 I2 rx ry q=>ho pins s2 σ H2 x y v u Q I2 rx ry q)
theorem pe_un {op:UnaryOp} {r:V→Hp→VK→Prop} (ho:UnR X (unaryOp op) r) (ha:PE X a ta):PE X (.UnaryOp op a pos) (tUn r ta):=by
  intro pins s σ H Q I h
  exact UnaryOp_ (thn (ha pins s σ H _ I h) fun v s1 ⟨x,H1,I1,r1,q1⟩=>ho pins s1 σ H1 x v Q I1 r1 q1)
theorem opI {f:Value→Value→Sem Value} {C:Int→Int→Prop} {g:Int→Int→Int}
    (rule:∀ (i j:Int) (t u:Tok) (s:Shared) (Q:Value→Shared→Prop) (E:Value→Shared→Prop),C i j→Q (.int (g i j) s.toks) { s with toks:=s.toks + 1 }→wpAny (model X.prog X.w) X.A (f (.int i t) (.int j u)) Q E s) :
    OpR X f (rI C fun i j=>.int (g i j)):=by
  intro pins s σ H x y v u Q I rx ry h
  obtain ⟨i,j,rfl,rfl,hc,q⟩:=h
  obtain ⟨t,rfl⟩:=rx
  obtain ⟨t',rfl⟩:=ry
  exact rule i j t t' s _ _ hc ⟨.int (g i j),H,I.tok _,⟨_,rfl⟩,q⟩
theorem opI0 {f:Value→Value→Sem Value} {g:Int→Int→Int}
    (rule:∀ (i j:Int) (t u:Tok) (s:Shared) (Q:Value→Shared→Prop) (E:Value→Shared→Prop),Q (.int (g i j) s.toks) { s with toks:=s.toks + 1 }→wpAny (model X.prog X.w) X.A (f (.int i t) (.int j u)) Q E s) :
    OpR X f (rI0 fun i j=>.int (g i j)):=by
  intro pins s σ H x y v u Q I rx ry h
  obtain ⟨i,j,rfl,rfl,q⟩:=h
  obtain ⟨t,rfl⟩:=rx
  obtain ⟨t',rfl⟩:=ry
  exact rule i j t t' s _ _ ⟨.int (g i j),H,I.tok _,⟨_,rfl⟩,q⟩
theorem opB0 {f:Value→Value→Sem Value} {g:Int→Int→Bool}
    (rule:∀ (i j:Int) (t u:Tok) (s:Shared) (Q:Value→Shared→Prop) (E:Value→Shared→Prop),Q (.bool (g i j)) s→wpAny (model X.prog X.w) X.A (f (.int i t) (.int j u)) Q E s) :
    OpR X f (rI0 fun i j=>.bl (g i j)):=by
  intro pins s σ H x y v u Q I rx ry h
  obtain ⟨i,j,rfl,rfl,q⟩:=h
  obtain ⟨t,rfl⟩:=rx
  obtain ⟨t',rfl⟩:=ry
  exact rule i j t t' s _ _ ⟨.bl (g i j),H,I,rfl,q⟩
def CDiv (i j:Int):Prop:=0 < j∧j < 1073741824
theorem op_add:OpR X (binaryOp .Add) (rI0 fun i j=>.int (i + j)):=opI0 fun _ _ _ _ _ _ _ q=>add_int q
theorem op_sub:OpR X (binaryOp .Sub) (rI0 fun i j=>.int (i - j)):=opI0 fun _ _ _ _ _ _ _ q=>sub_int q
theorem op_fdiv:OpR X (binaryOp .FloorDiv) (rI CDiv fun i j=>.int (i / j)):=opI fun i j _ _ _ _ _ hc q=>by
  have h1:(0:Int) < j:=hc.1
  have h2:j < 1073741824:=hc.2
  exact floordiv_int (by omega) (by rw [Int.fdiv_eq_ediv_of_nonneg i (by omega)]; exact q) (.inl (PyProof.noPylong_small (by omega)))
theorem op_mod:OpR X (binaryOp .Mod) (rI (fun _ j=>0 < j) fun i j=>.int (i % j)):=opI fun i j _ _ _ _ _ hc q=>by
  have h1:(0:Int) < j:=hc
  exact mod_int' (by omega) (by rw [Int.fmod_eq_emod_of_nonneg i (by omega)]; exact q)
theorem unI {f:Value→Sem Value} {g:Int→Int}
    (rule:∀ (i:Int) (t:Tok) (s:Shared) (Q:Value→Shared→Prop) (E:Value→Shared→Prop),Q (.int (g i) s.toks) { s with toks:=s.toks + 1 }→wpAny (model X.prog X.w) X.A (f (.int i t)) Q E s) :
    UnR X f (rU fun i=>.int (g i)):=by
  intro pins s σ H x v Q I rx h
  obtain ⟨i,rfl,q⟩:=h
  obtain ⟨t,rfl⟩:=rx
  exact rule i t s _ _ ⟨.int (g i),H,I.tok _,⟨_,rfl⟩,q⟩
theorem un_neg:UnR X (unaryOp .USub) (rU fun i=>.int (-i)):=unI fun _ _ _ _ _ q=>neg_int q
end
def scal:V→V→Bool
  | .non,.non=>true | .non,.int _=>true | .int _,.non=>true | .non,.bl _=>true | .bl _,.non=>true | .non,.str _=>true | .str _,.non=>true
  | .int _,.int _=>true | .bl _,.bl _=>true | .str _,.str _=>true | .byt _,.byt _=>true
  | .int _,.str _=>true | .str _,.int _=>true | .bl _,.str _=>true | .str _,.bl _=>true
  | _,_=>false
def rEq:R2:=fun x y H Q=>scal x y=true∧Q (.bl (decide (x=y))) H
def rNe:R2:=fun x y H Q=>scal x y=true∧Q (.bl (!decide (x=y))) H
theorem dec_int {i j:Int}:decide (V.int i=V.int j)=(i == j):=by
  rw [Bool.eq_iff_iff]
  simp
theorem dec_bl {i j:Bool}:decide (V.bl i=V.bl j)=(i == j):=by
  rw [Bool.eq_iff_iff]
  simp
theorem dec_str {i j:Str}:decide (V.str i=V.str j)=(i == j):=by
  rw [Bool.eq_iff_iff]
  simp
theorem dec_byt {i j:Array UInt8}:decide (V.byt i=V.byt j)=(i.toList == j.toList):=by
  rw [Bool.eq_iff_iff]
  cases i
  cases j
  simp
section
variable {X:Cx} {a b c:Expr} {ta tb tc:TE} {pos:Pos}
theorem fin_bl {pins:List (Addr×Obj)} {σ:St} {H:Hp} {s:Shared} {Q:VK} {k k':Bool} (I:Inv X pins σ H s) (q:Q (.bl k) H) (e:k=k'):EP X pins σ Q (.bool k') s:=by
  subst e
  exact ⟨.bl k,H,I,rfl,q⟩
theorem op_eq:OpR X (compareOp .Eq) rEq:=by
  intro pins s σ H x y v u Q I rx ry h
  obtain ⟨hs,q⟩:=h
  cases x with
  | non =>
    cases rx
    cases y with
    | non=>cases ry; exact PySem.EqNone.eq_none_none (fin_bl I q (by simp))
    | bl j=>cases ry; exact PySem.EqNone.eq_none_bool (fin_bl I q (by simp))
    | int j=>obtain ⟨t',rfl⟩:=ry; exact PySem.EqNone.eq_none_int (fin_bl I q (by simp))
    | str j=>obtain ⟨t',rfl⟩:=ry; exact PySem.EqNone.eq_none_str (fin_bl I q (by simp))
    | _=>exact absurd (show false=true from hs) Bool.false_ne_true
  | bl i =>
    cases rx
    cases y with
    | non=>cases ry; exact PySem.EqNone.eq_bool_none (fin_bl I q (by simp))
    | bl j=>cases ry; exact eq_bool (fin_bl I q dec_bl)
    | str j=>obtain ⟨t',rfl⟩:=ry; exact PySem.EqMixed.eq_bool_str (fin_bl I q (by simp))
    | _=>exact absurd (show false=true from hs) Bool.false_ne_true
  | int i =>
    obtain ⟨t,rfl⟩:=rx
    cases y with
    | non=>cases ry; exact PySem.EqNone.eq_int_none (fin_bl I q (by simp))
    | int j=>obtain ⟨t',rfl⟩:=ry; exact eq_int (fin_bl I q dec_int)
    | str j=>obtain ⟨t',rfl⟩:=ry; exact PySem.EqMixed.eq_int_str (fin_bl I q (by simp))
    | _=>exact absurd (show false=true from hs) Bool.false_ne_true
  | str i =>
    obtain ⟨t,rfl⟩:=rx
    cases y with
    | non=>cases ry; exact PySem.EqNone.eq_str_none (fin_bl I q (by simp))
    | bl j=>cases ry; exact PySem.EqMixed.eq_str_bool (fin_bl I q (by simp))
    | int j=>obtain ⟨t',rfl⟩:=ry; exact PySem.EqMixed.eq_str_int (fin_bl I q (by simp))
    | str j=>obtain ⟨t',rfl⟩:=ry; exact eq_str (fin_bl I q dec_str)
    | _=>exact absurd (show false=true from hs) Bool.false_ne_true
  | byt i =>
    obtain ⟨t,rfl⟩:=rx
    cases y with
    | byt j=>obtain ⟨t',rfl⟩:=ry; exact PySem.W.eq_bytes (fin_bl I q dec_byt)
    | _=>exact absurd (show false=true from hs) Bool.false_ne_true
  | _=>cases y <;> exact absurd (show false=true from hs) Bool.false_ne_true
theorem op_ne:OpR X (compareOp .NotEq) rNe:=by
  intro pins s σ H x y v u Q I rx ry h
  obtain ⟨hs,q⟩:=h
  cases x with
  | non =>
    cases rx
    cases y with
    | non=>cases ry; exact PySem.EqNone.ne_none_none (fin_bl I q (by simp))
    | bl j=>cases ry; exact PySem.EqNone.ne_none_bool (fin_bl I q (by simp))
    | int j=>obtain ⟨t',rfl⟩:=ry; exact PySem.EqNone.ne_none_int (fin_bl I q (by simp))
    | str j=>obtain ⟨t',rfl⟩:=ry; exact PySem.EqNone.ne_none_str (fin_bl I q (by simp))
    | _=>exact absurd (show false=true from hs) Bool.false_ne_true
  | bl i =>
    cases rx
    cases y with
    | non=>cases ry; exact PySem.EqNone.ne_bool_none (fin_bl I q (by simp))
    | bl j=>cases ry; exact ne_bool (fin_bl I q (congrArg not dec_bl))
    | str j=>obtain ⟨t',rfl⟩:=ry; exact PySem.EqMixed.ne_bool_str (fin_bl I q (by simp))
    | _=>exact absurd (show false=true from hs) Bool.false_ne_true
  | int i =>
    obtain ⟨t,rfl⟩:=rx
    cases y with
    | non=>cases ry; exact PySem.EqNone.ne_int_none (fin_bl I q (by simp))
    | int j=>obtain ⟨t',rfl⟩:=ry; exact ne_int (fin_bl I q (congrArg not dec_int))
    | str j=>obtain ⟨t',rfl⟩:=ry; exact PySem.EqMixed.ne_int_str (fin_bl I q (by simp))
    | _=>exact absurd (show false=true from hs) Bool.false_ne_true
  | str i =>
    obtain ⟨t,rfl⟩:=rx
    cases y with
    | non=>cases ry; exact PySem.EqNone.ne_str_none (fin_bl I q (by simp))
    | bl j=>cases ry; exact PySem.EqMixed.ne_str_bool (fin_bl I q (by simp))
    | int j=>obtain ⟨t',rfl⟩:=ry; exact PySem.EqMixed.ne_str_int (fin_bl I q (by simp))
    | str j=>obtain ⟨t',rfl⟩:=ry; exact ne_str (fin_bl I q (congrArg not dec_str))
    | _=>exact absurd (show false=true from hs) Bool.false_ne_true
  | byt i =>
    obtain ⟨t,rfl⟩:=rx
    cases y with
    | byt j=>obtain ⟨t',rfl⟩:=ry; exact PySem.W.ne_bytes (fin_bl I q (congrArg not dec_byt))
    | _=>exact absurd (show false=true from hs) Bool.false_ne_true
  | _=>cases y <;> exact absurd (show false=true from hs) Bool.false_ne_true
theorem op_lt:OpR X (compareOp .Lt) (rI0 fun i j=>.bl (decide (i < j))):=opB0 fun _ _ _ _ _ _ _ q=>lt_int q
theorem op_gt:OpR X (compareOp .Gt) (rI0 fun i j=>.bl (decide (j < i))):=opB0 fun _ _ _ _ _ _ _ q=>gt_int q
theorem op_ge:OpR X (compareOp .GtE) (rI0 fun i j=>.bl (decide (j≤i))):=opB0 fun _ _ _ _ _ _ _ q=>ge_int q
theorem op_isN:OpR X (compareOp .Is) (fun x y H Q=>y=.non∧Q (.bl (decide (x=.non))) H):=by
  intro pins s σ H x y v u Q I rx ry h
  obtain ⟨rfl,q⟩:=h
  cases ry
  refine is_none_gen (fin_bl I q ?_)
  cases x <;> first
    | (cases rx; rfl)
    | (obtain ⟨t,rfl⟩:=rx; rfl)
theorem op_notN:OpR X (compareOp .IsNot) (fun x y H Q=>y=.non∧Q (.bl (!decide (x=.non))) H):=by
  intro pins s σ H x y v u Q I rx ry h
  obtain ⟨rfl,q⟩:=h
  cases ry
  refine isnot_none_gen (fin_bl I q ?_)
  cases x <;> first
    | (cases rx; rfl)
    | (obtain ⟨t,rfl⟩:=rx; rfl)
theorem nomark (b:Expr) {op:CmpOp} (h:op≠.In:=by decide) (h2:op≠.NotIn:=by decide):behindInMarks op b=false:=by
  have e1:(op == CmpOp.In)=false:=by cases op <;> first | rfl | exact absurd rfl h
  have e2:(op == CmpOp.NotIn)=false:=by cases op <;> first | rfl | exact absurd rfl h2
  cases b <;> simp [behindInMarks,e1,e2]
theorem pe_cmpR {op:CmpOp} {r:R2} (ho:OpR X (compareOp op) r) (ha:PE X a ta) (hb:PE X b tb) (hm:behindInMarks op b=false):PE X (.Compare a [op] [b] pos) (tOp r ta tb):=by
  intro pins s σ H Q I h
  exact wpAny_Compare1 (binT ha hb I h fun v u s2 x y H2 I2 rx ry q=>ho pins s2 σ H2 x y v u Q I2 rx ry q) hm
def tTest (t:TE):TT:=fun σ H Q=>t σ H fun x H'=>∃ k,x=.bl k∧Q k H'
theorem pt_cmpR {op:CmpOp} {r:R2} (ho:OpR X (compareOp op) r) (ha:PE X a ta) (hb:PE X b tb) (hm:behindInMarks op b=false):PT X (.Compare a [op] [b] pos) (tTest (tOp r ta tb)):=by
  intro pins s σ H Q I h
  refine wpAny_isTrue_Compare1 (thn (ha pins s σ H _ I h) fun v s1 ⟨x,H1,I1,r1,q1⟩=>thn (hb pins s1 σ H1 _ I1 q1) fun u s2 ⟨y,H2,I2,r2,q2⟩ =>
    thn (ho pins s2 σ H2 x y v u _ I2 r1 r2 q2) fun c s3 ⟨z,H3,I3,r3,k,e,q3⟩=>?_) hm
  subst e
  cases r3
  exact wpAny_truthy_bool ⟨H3,I3,q3⟩
theorem line63:(sizeLine:Nat) < 2 ^ 63:=by rw [sizeLine_eq]; decide
theorem vals1 {x:V} {us:List Value} (r:Vals [x] us):∃ u,us=[u]∧RelV x u:=by
  cases r with
  | cons r1 r2=>cases r2; exact ⟨_,rfl,r1⟩
end
end L2
namespace L2
open PySem PySem.Spec PyProof.Rows
section
variable {prog:Program} {w:World} {A:Around} {E:Value→Shared→Prop} {s:Shared} {K:PySem.W.Frag} {x dx C f:Addr} {mA:Str→Option Value} {name:Str} {v:Value}
end
theorem RelO.some_of {v:V} {o:Option Value} (r:RelO (some v) o):∃ u,o=some u∧RelV v u:=by
  cases o with
  | none=>exact (show False from r).elim
  | some u=>exact ⟨u,rfl,r⟩
section
variable {P:Program} {w:World} {H H':Hp} {h h':Heap} {a C dx:Addr} {fs fs':List (Str×V)}
end
section
variable {X:Cx} {pins:List (Addr×Obj)} {σ:St} {H:Hp} {s:Shared} {a C dx:Addr} {fs:List (Str×V)} {f:Str} {v:V} {A:Around} {E:Value→Shared→Prop}
end
section
variable {X:Cx} {o e value:Expr} {f:Str} {pos pos' tpos:Pos} {ta tv:TE}
end
section
variable {X:Cx} {pins:List (Addr×Obj)} {σ:St} {H:Hp} {s:Shared} {A:Around} {E:Value→Shared→Prop} {Q:Value→Shared→Prop} {c:Value} {b:Bool}
end
end L2
namespace L2
open PySem PySem.Spec PyProof.Rows
structure Room (k:Nat) (A:Around):Prop where
  hd:A.handled=none
  dp:A.depth + 3 * k + 5 < recursionLimit
  un:A.units + 16 * k + 200 < cLine
theorem Room.mono {j k:Nat} {A:Around} (r:Room k A) (h:j≤k):Room j A:=⟨r.hd,by have:=r.dp; omega,by have:=r.un; omega⟩
theorem Room.deeper {k:Nat} {A:Around} (r:Room (k + 1) A) (env:Env):Room k (A.deeper env) :=
  ⟨r.hd,by have:=r.dp; show A.depth + 1 + 3 * k + 5 < _; omega,by have:=r.un; show A.units + 3 + 16 * k + 200 < _; omega⟩
theorem Room.depth {k:Nat} {A:Around} (r:Room k A):A.depth < recursionLimit:=by have:=r.dp; omega
theorem Room.units {k:Nat} {A:Around} (r:Room k A):A.units + 64 < cLine:=by have:=r.un; omega
def tNil:TA:=fun _ H Q=>Q [] H
def tCons (ta:TE) (tr:TA):TA:=fun σ H Q=>ta σ H fun x H1=>tr σ H1 fun xs H2=>Q (x :: xs) H2
section
variable {X:Cx} {e:Expr} {es:List Expr} {te:TE} {t:TA} {pos:Pos}
theorem pa_nil:PA X [] tNil:=fun _ _ _ _ H Q I h=>Calls.spliced_nil ⟨[],H,I,.nil,h⟩
theorem pa_cons (ha:PE X e te) (hr:PA X es t) (hs:starEach (e :: es) X.env=(false,eval e X.env) :: starEach es X.env:=by rfl):PA X (e :: es) (tCons te t):=by
  intro pos pins s σ H Q I h
  rw [hs]
  show wpAny _ _ (spliced ((false,eval e X.env) :: backTo pos (starEach es X.env))) _ _ s
  refine Calls.spliced_cons (thn (ha pins s σ H _ I h) fun u s1 ⟨x,H1,I1,r1,q1⟩=>?_)
  exact thn (hr pos pins s1 σ H1 _ I1 q1) fun us s2 ⟨xs,H2,I2,r2,q2⟩=>⟨x :: xs,H2,I2,.cons r1 r2,q2⟩
def tLst (t:TA):TE:=fun σ H Q=>t σ H fun xs H1=>xs.length≤sizeLine∧∀ p,H1 p=none→Q (.ref p) (upd H1 p (.lst xs))
theorem pe_lst (h:PA X es t):PE X (.List es pos) (tLst t):=by
  intro pins s σ H Q I hq
  refine wpAny_List_spliced (thn (h pos pins s σ H _ I hq) fun us s1 ⟨xs,H1,I1,r,z,q⟩=>⟨by rw [← r.length]; exact z,?_⟩)
  have hf:H1 s1.heap.objs.size=none:=I1.hok.fresh (Nat.le_refl _)
  refine ⟨.ref s1.heap.objs.size,upd H1 s1.heap.objs.size (.lst xs),I1.laid (t':=s1.toks) (fun b u e=>Heap.get?_push_of_some _ e) (Nat.le_refl _) ?_,rfl,q _ hf⟩
  exact ⟨z,us,0,r,Heap.get?_push_size _ rfl⟩
end
abbrev Sp:=List V→Hp→VK→XK→Prop
abbrev CXT:=List Env→Hp→Shared→XK→Value→Shared→Prop
structure Env0 (P:Program) (w:World) (K:PySem.W.Frag) (mg:Str→Option Value) (base:Heap) (A:Around) (outer:List Env) (s:Shared) (H:Hp):Prop where
  frames:A.frames=some outer
  mod:Mod K mg base
  bs:∀ b o,base.get? b=some o→s.heap.get? b=some o∧H b=none
  bsz:base.objs.size≤s.heap.objs.size
  funs:s.heap.FunFrames base outer
  frf:∀ b∈frs outer,H b=none
  hok:HOk P w H s.heap
  bare:AllBare s.gens
  tb:TbOk K H
def CE (outer:List Env) (P:Program) (w:World) (H:Hp) (s:Shared) (Q:VK) (u:Value) (s':Shared):Prop :=
  ∃ v H',s'.os=s.os∧AllBare s'.gens∧Un (frs outer) [] H H' s.heap s'.heap∧HOk P w H' s'.heap∧RelV v u∧Q v H'
def CR (CX:CXT) (outer:List Env) (P:Program) (w:World) (H:Hp) (s:Shared) (Q:VK) (E:XK) (r:Result) (s':Shared):Prop :=
  match r with
  | .ok (.ret u)=>CE outer P w H s Q u s'
  | .ok _=>False
  | .error e=>CX outer H s E e s'
structure FnOk (P:Program) (w:World) (K:PySem.W.Frag) (mg:Str→Option Value) (base:Heap) (CX:CXT) (k:Nat) (f:Addr) (fd:FuncData) (ps:List Str) (sp:Sp):Prop where
  len:∀ vs H Q E,sp vs H Q E→vs.length=ps.length
  run:∀ (A:Around) (outer:List Env) (s:Shared) (H:Hp) (args:Args) (us:List Value) (vs:List V) (Q:VK) (E:XK),Room k A→Env0 P w K mg base A outer s H→BindsTo s fd args (ps.zip us)→Vals vs us→sp vs H Q E →
    codeAny (model P w) A (.call (.ref f) args) (CR CX outer P w H s Q E) s
theorem FnOk.mono {P:Program} {w:World} {K:PySem.W.Frag} {mg:Str→Option Value} {base:Heap} {CX:CXT} {j k:Nat} {f:Addr} {fd:FuncData} {ps:List Str} {sp:Sp} (F:FnOk P w K mg base CX j f fd ps sp) (h:j≤k) :
    FnOk P w K mg base CX k f fd ps sp:=⟨F.len,fun A outer s H args us vs Q E hr=>F.run A outer s H args us vs Q E (hr.mono h)⟩
section
variable {X:Cx} {pins:List (Addr×Obj)} {σ:St} {H:Hp} {s s':Shared}
theorem Inv.env0 (I:Inv X pins σ H s):Env0 X.prog X.w X.K X.mg X.base X.A X.stack s H :=
  ⟨I.ok.frames,I.ok.mod,I.bs,Nat.le_trans I.ok.bsz I.sz,I.stack,I.stkFree,I.hok,I.bare,I.ok.tb.un I.base⟩
theorem Inv.after {Q:VK} {u:Value} (I:Inv X pins σ H s) (h:CE X.stack X.prog X.w H s Q u s'):EP X pins σ Q u s':=by
  obtain ⟨v,H',os,bare,un,hok,r,q⟩:=h
  obtain ⟨hh,g,d,t,os'⟩:=s'
  obtain rfl:os'=s.os:=os
  exact ⟨v,H',I.call (h':=hh) (g':=g) (d':=d) (t':=t) (ch:=[]) un hok bare (fun b z=>absurd z (by simp)),r,q⟩
end
def tCall (sp:Sp) (dvs:List V) (E:XK) (t:TA):TE:=fun σ H Q=>t σ H fun vs H1=>sp (vs ++ dvs) H1 Q E
def Binds (K:PySem.W.Frag) (fd:FuncData) (ps:List Str) (ds:List Value):Prop :=
  ∀ (s:Shared) (us:List Value),K.In s.heap→(us ++ ds).length=ps.length→BindsTo s fd ⟨us,[]⟩ (ps.zip (us ++ ds))
theorem Binds.all {K:PySem.W.Frag} {fd:FuncData} {ps:List Str} (h:∀ us:List Value,us.length=ps.length→bindArgs fd ⟨us,[]⟩=pure (ps.zip us)):Binds K fd ps []:=fun s us _ hl=>by
  rw [List.append_nil] at hl ⊢
  exact .of_eq (h us hl)
def Passes (CX:CXT) (X:Cx) (E:XK):Prop:=∀ (pins:List (Addr×Obj)) (σ:St) (H:Hp) (s:Shared) (e:Value) (s':Shared),Inv X pins σ H s→CX X.stack H s E e s'→X.xe e s'
section
variable {X:Cx} {CX:CXT} {k:Nat} {f C:Addr} {fd:FuncData} {ps:List Str} {sp:Sp} {dvs:List V} {ds:List Value} {E:XK} {x m:Str} {p pos apos:Pos} {e o:Expr} {es:List Expr} {ta:TE} {t:TA}
theorem run_fn {pins:List (Addr×Obj)} {σ:St} {H:Hp} {s:Shared} {Q:VK} {us:List Value} {vs:List V} (F:FnOk X.prog X.w X.K X.mg X.base CX k f fd ps sp) (hr:Room k X.A) (hb:Binds X.K fd ps ds) (hd:Vals dvs ds) (hx:Passes CX X E)
    (I:Inv X pins σ H s) (r:Vals vs us) (h:sp (vs ++ dvs) H Q E):wpAny (model X.prog X.w) X.A (call (.ref f) us) (EP X pins σ Q) X.xe s:=by
  have r2:Vals (vs ++ dvs) (us ++ ds):=r.append hd
  have hl:(us ++ ds).length=ps.length:=by rw [← r2.length]; exact F.len _ _ _ _ h
  refine wpAny_call (codeAny_mono (F.run X.A X.stack s H ⟨us,[]⟩ (us ++ ds) (vs ++ dvs) Q E hr I.env0 (hb s us I.kIn hl) r2 h) fun r s' hq=>?_)
  cases r with
  | error e=>exact hx pins σ H s e s' I hq
  | ok fl =>
    cases fl with
    | ret u=>exact I.after hq
    | next=>exact False.elim hq
    | brk=>exact False.elim hq
    | cont=>exact False.elim hq
theorem pe_call (F:FnOk X.prog X.w X.K X.mg X.base CX k f fd ps sp) (hr:Room k X.A) (hg:Gl X x) (hm:X.mg x=some (.ref f)) (hk:PySem.W.keepIn X.K (.ref f)=true) (hb:Binds X.K fd ps ds) (hd:Vals dvs ds) (hx:Passes CX X E)
    (ha:PA X (e :: es) t) (hdb:(x == ("__debug__" : Str))=false:=by decide) (he:starEach (e :: es) X.env=(false,eval e X.env) :: starEach es X.env:=by rfl) (hpl:(backTo pos (starEach es X.env)).any (·.1)=false:=by rfl) :
    PE X (.Call (.Name x p) (e :: es) [] pos) (tCall sp dvs E t):=by
  intro pins s σ H Q I h
  refine wpAny_Call_Name_kw (ld_glob I hg hm ?_ hdb)
  refine PySem.W.callWith_K (h₀:=X.base) I.ok.mod.kin hk (thn (ha pos pins s σ H _ I h) fun us s1 ⟨vs,H1,I1,r,q⟩=>⟨I1.kIn,?_⟩) he hpl
  exact run_fn F hr hb hd hx I1 r q
end
section
variable {X:Cx} {CX:CXT} {k:Nat} {f C:Addr} {fd:FuncData} {ps ks:List Str} {sp:Sp} {E:XK} {x m:Str} {p pos apos kpos:Pos} {e o:Expr} {es:List Expr} {kws:List Keyword} {te ta:TE} {t tk:TA} {nm:Option Str}
variable {g:List Value→List Value→List Value} {gV:List V→List V→List V}
end
structure FnScope (N P:List Str) (sc:Scope):Prop where
  kind:sc.kind=.function
  co:sc.isCoroutine=false
  gen:sc.isGenerator=false
  nd:N.Nodup
  pre:N.take P.length=P
  par:∀ x∈P,sc.names.lookup x=some .local∨sc.names.lookup x=some .cell
  nofree:∀ y∈sc.names,y.2≠.free
theorem bindL_out {kindOf:Str→Option NameKind} {x:Str}:∀ {binds:List (Str×Value)} {m:Str→Option Value},(∀ v,(x,v)∉binds)→bindL kindOf binds m x=m x
  | [],_,_=>rfl
  | (n,v) :: r,m,h=>by
    unfold bindL
    rw [bindL_out fun w hw=>h w (List.mem_cons_of_mem _ hw)]
    split
    · have:x≠n:=by rintro rfl; exact h v List.mem_cons_self
      simp [this]
    · rfl
theorem bindC_out {kindOf:Str→Option NameKind} {x:Str}:∀ {binds:List (Str×Value)} {m:Str→Option Value},(∀ v,(x,v)∉binds)→bindC kindOf binds m x=m x
  | [],_,_=>rfl
  | (n,v) :: r,m,h=>by
    unfold bindC
    rw [bindC_out fun w hw=>h w (List.mem_cons_of_mem _ hw)]
    split
    · rfl
    · have:x≠n:=by rintro rfl; exact h v List.mem_cons_self
      simp [this]
theorem bindL_get {kindOf:Str→Option NameKind} {x:Str} {v:Value}:∀ {P:List Str} {vs:List Value} {i:Nat} {m:Str→Option Value},P.Nodup→P[i]?=some x→vs[i]?=some v→kindOf x=some .local →
    bindL kindOf (P.zip vs) m x=some v
  | [],_,_,_,_,h,_,_=>by simp at h
  | _ :: _,[],_,_,_,_,h,_=>by simp at h
  | p :: P,w :: vs,0,m,nd,h1,h2,hk=>by
    simp at h1 h2; subst h1; subst h2
    show bindL kindOf ((p,w) :: P.zip vs) m p=_
    unfold bindL
    rw [bindL_out fun v hv=>(List.nodup_cons.mp nd).1 (List.of_mem_zip hv).1,if_pos hk]
    simp
  | p :: P,w :: vs,i + 1,m,nd,h1,h2,hk=>by
    show bindL kindOf ((p,w) :: P.zip vs) m x=_
    unfold bindL
    exact bindL_get (i:=i) (List.nodup_cons.mp nd).2 (by simpa using h1) (by simpa using h2) hk
theorem bindC_get {kindOf:Str→Option NameKind} {x:Str} {v:Value}:∀ {P:List Str} {vs:List Value} {i:Nat} {m:Str→Option Value},P.Nodup→P[i]?=some x→vs[i]?=some v→kindOf x≠some .local →
    bindC kindOf (P.zip vs) m x=some v
  | [],_,_,_,_,h,_,_=>by simp at h
  | _ :: _,[],_,_,_,_,h,_=>by simp at h
  | p :: P,w :: vs,0,m,nd,h1,h2,hk=>by
    simp at h1 h2; subst h1; subst h2
    show bindC kindOf ((p,w) :: P.zip vs) m p=_
    unfold bindC
    rw [bindC_out fun v hv=>(List.nodup_cons.mp nd).1 (List.of_mem_zip hv).1,if_neg hk]
    simp
  | p :: P,w :: vs,i + 1,m,nd,h1,h2,hk=>by
    show bindC kindOf ((p,w) :: P.zip vs) m x=_
    unfold bindC
    exact bindC_get (i:=i) (List.nodup_cons.mp nd).2 (by simpa using h1) (by simpa using h2) hk
def start (N:List Str) (vs:List V):St:=vs.map some ++ List.replicate (N.length - vs.length) none
def cxOf (CX:CXT) (P:Program) (w:World) (K:PySem.W.Frag) (mg:Str→Option Value) (base:Heap) (N:List Str) (qual:Str) (scope:Scope) (f:Addr) (cd:Value) (A:Around) (outer:List Env) (s:Shared) (H:Hp) (E:XK):Cx where
  prog:=P
  w:=w
  K:=K
  mg:=mg
  base:=base
  A:=A.deeper (envOfC qual scope s.heap.objs.size f cd)
  N:=N
  s₀:=s
  H₀:=H
  env:=envOfC qual scope s.heap.objs.size f cd
  outer:=outer
  stack:=envOfC qual scope s.heap.objs.size f cd :: outer
  ex:=[]
  calm:=true
  fn:=fun _=>true
  pn:=[]
  xe:=fun e s'=>wpAny (model P w) (A.deeper (envOfC qual scope s.heap.objs.size f cd)) (leaving (envOfC qual scope s.heap.objs.size f cd) e) (fun _ s''=>CX outer H s E e s'') (fun e' s''=>CX outer H s E e' s'') s'
theorem cell_has {sc:Scope} {n:Nat} {x:Str} (h:sc.names.lookup x=some .cell):∃ c,(cellsFrom n sc.names []).lookup x=some c:=by
  have q:=PySem.W.cellsFrom_some sc.names n [] (.inl h)
  exact Option.isSome_iff_exists.mp q
theorem inv_start {CX:CXT} {P:Program} {w:World} {K:PySem.W.Frag} {mg:Str→Option Value} {base:Heap} {N ps:List Str} {qual:Str} {scope:Scope} {f:Addr} {cd:Value} {A:Around} {outer:List Env} {s s1:Shared} {H:Hp} {E:XK} {us:List Value} {vs:List V}
    (S:FnScope N ps scope) (hd:A.handled=none) (e0:Env0 P w K mg base A outer s H) (hl:vs.length=ps.length) (r:Vals vs us)
    (x:InCallC s s.heap.objs.size (bindL (envOfC qual scope s.heap.objs.size f cd).kindOf (ps.zip us) fun _=>none) (cellsFrom (s.heap.objs.size + 1) scope.names []) (bindC (envOfC qual scope s.heap.objs.size f cd).kindOf (ps.zip us) fun _=>none) s1) :
    Inv (cxOf CX P w K mg base N qual scope f cd A outer s H E) [] (start N vs) H s1:=by
  have hpl:ps.length≤N.length:=by have:=congrArg List.length S.pre; rw [List.length_take] at this; omega
  obtain ⟨h1,tk,rfl,hk⟩:=x.done
  have noA:∀ b:Addr,b∉(cxOf CX P w K mg base N qual scope f cd A outer s H E).ex:=fun b z=>absurd (show b∈([]:List Addr) from z) (by simp)
  refine ⟨⟨e0.mod,S.kind,rfl,rfl,Nat.le_refl _,fun y z c h1 h2=>?_,fun y hy=>?_,fun y c _ h=>?_,fun _=>hd,Around.frames_deeper e0.frames,.inr ⟨rfl,rfl⟩,fun b z=>absurd z (noA b),e0.bs,e0.bsz,fun b _ _=>noA b,fun b z=>absurd z (noA b),e0.funs,e0.frf,e0.tb⟩,
    rfl,e0.bare,Un.kept hk,⟨_,x.toInCall.ns,fun i y v h1 h2 h3=>?_⟩,fun y c h=>⟨_,x.cell y c h⟩,e0.hok.fresh (Nat.le_refl _),fun y c h=>?_,fun p hp=>absurd (show p∈([]:List (Addr×Obj)) from hp) (by simp),e0.hok.kept hk,?_⟩
  · exact name_of_addr x.apart (PySem.mem_of_lookup h1) (PySem.mem_of_lookup h2)
  · have hy:scope.names.lookup y=some .cell∨scope.names.lookup y=some .free:=hy
    rcases hy with hy | hy
    · exact cell_has hy
    · exact absurd rfl (S.nofree _ (PySem.mem_of_lookup hy))
  · exact Nat.le_of_lt (x.above y c (PySem.mem_of_lookup h))
  · have hi:i < vs.length:=by
      unfold start at h2
      by_cases hi:i < vs.length
      · exact hi
      · rw [List.getElem?_append_right (by simpa using hi)] at h2
        rw [List.getElem?_replicate] at h2
        split at h2 <;> cases h2
    have ha:vs[i]?=some v:=by
      unfold start at h2
      rw [List.getElem?_append_left (by simpa using hi),List.getElem?_map] at h2
      cases e:vs[i]? with
      | none=>rw [e] at h2; cases h2
      | some a=>rw [e] at h2; cases h2; rfl
    obtain ⟨u,hu,rv⟩:=r.get ha
    have hp:ps[i]?=some y:=by
      rw [← S.pre,List.getElem?_take_of_lt (by omega)]; exact h1
    have ndP:ps.Nodup:=by rw [← S.pre]; exact S.nd.sublist (List.take_sublist _ _)
    refine ⟨u,rv,?_⟩
    rcases S.par y (List.mem_of_getElem? hp) with k | k
    · exact .inl ⟨k,bindL_get ndP hp hu k⟩
    · obtain ⟨c,e⟩:=cell_has (n:=s.heap.objs.size + 1) k
      refine .inr ⟨.inl k,c,e,?_⟩
      have q:=x.cell y c e
      rw [bindC_get ndP hp hu (by show scope.names.lookup y≠_; rw [k]; decide)] at q
      exact q
  · exact .inl (e0.hok.fresh (Nat.le_of_lt (x.above y c (PySem.mem_of_lookup h))))
  · unfold start
    show _=N.length
    rw [List.length_append,List.length_map,List.length_replicate]
    omega
theorem fn_of {CX:CXT} {P:Program} {w:World} {K:PySem.W.Frag} {mg:Str→Option Value} {base:Heap} {k:Nat} {f:Addr} {name qual:Str} {params:Arguments} {body:List Stmt} {scope:Scope} {dV kV doc pm cdv ct oc:Value} {an od:Option Addr}
    {osl:Array (Option Value)} {N ps:List Str} {sp:Sp} (lk:K.lookup f=some ⟨oc,od,.func (PySem.W.fnOf name qual params body scope dV kV doc pm an cdv ct),osl⟩) (hcd:PySem.W.codeIn K cdv qual=true) (S:FnScope N ps scope)
    (len:∀ vs H Q E,sp vs H Q E→vs.length=ps.length)
    (hbody:∀ (A:Around) (outer:List Env) (s:Shared) (H:Hp) (vs:List V) (Q:VK) (E:XK),Room k (A.deeper (envOfC qual scope s.heap.objs.size f cdv))→sp vs H Q E →
      ∃ t,PSs (cxOf CX P w K mg base N qual scope f cdv A outer s H E) body t∧t { nx:=fun _ H'=>Q .non H',rt:=Q } (start N vs) H) :
    FnOk P w K mg base CX (k + 1) f (PySem.W.fnOf name qual params body scope dV kV doc pm an cdv ct) ps sp:=by
  refine ⟨len,fun A outer s H args us vs Q E hr e0 hb r hsp=>?_⟩
  have hl:=len _ _ _ _ hsp
  have KX:K.In s.heap:=e0.mod.kin.keeps fun b o e=>(e0.bs b o e).1
  have lim:s.heap.NoLimit:=e0.mod.nolimit.keeps fun b o e=>(e0.bs b o e).1
  have hkind:∀ y∈ps.zip us,scope.names.lookup y.1=some .local∨(scope.names.lookup y.1=some .cell∧((cellsFrom (s.heap.objs.size + 1) scope.names []).lookup y.1).isSome=true):=fun ⟨n,v⟩ hy=>by
    rcases S.par n (List.of_mem_zip hy).1 with q | q
    · exact .inl q
    · exact .inr ⟨q,PySem.W.cellsFrom_some _ _ _ (.inl q)⟩
  refine codeAny_call_function hr.depth (KX _ _ lk) rfl S.co S.gen rfl (PySem.W.codeRec_of KX hcd) (hb _ _ _ _ ?_)
  refine wpAny_newFunctionEnv_cells S.kind hkind fun env he s1 x=>?_
  subst he
  refine ⟨lim.keeps x.toInCall.keep,codeAny_func ?_⟩
  obtain ⟨t,ht,hq⟩:=hbody A outer s H vs Q E (hr.deeper _) hsp
  have I:Inv (cxOf CX P w K mg base N qual scope f cdv A outer s H E) [] (start N vs) H s1:=inv_start S hr.hd e0 hl r x
  refine wpAny_mono (ht [] s1 (start N vs) H _ I hq) (fun fl s' hs=>?_) fun e s' hs=>hs
  have fin:∀ {σ':St} {H':Hp} {v:V} {u:Value},Inv (cxOf CX P w K mg base N qual scope f cdv A outer s H E) [] σ' H' s'→RelV v u→Q v H'→CE outer P w H s Q u s' :=
    fun {σ' H' v u} J rv q=>⟨v,H',J.os,J.bare,J.base,J.hok,rv,q⟩
  cases fl with
  | ret u =>
    obtain ⟨v,σ',H',J,rv,q⟩:=hs
    exact fin J rv q
  | next =>
    obtain ⟨σ',H',J,q⟩:=hs
    exact fin (v:=V.non) (u:=Value.none) J rfl q
  | brk =>
    obtain ⟨_,_,_,q⟩:=hs
    exact False.elim q
  | cont =>
    obtain ⟨_,_,_,q⟩:=hs
    exact False.elim q
end L2
namespace L2
open PySem PySem.Spec PyProof.Rows
section
variable {X:Cx} {x:Str} {p pos:Pos} {e:Expr} {es:List Expr} {t:TA} {id T:String} {r:List V→Hp→VK→Prop}
def tCB (r:List V→Hp→VK→Prop) (t:TA):TE:=fun σ H Q=>t σ H fun vs H1=>r vs H1 Q
theorem pe_callB (hc:CallR X (.builtin id) r) (hg:Gl X x) (hm:X.mg x=none) (hv:bootBuiltins x=some (.builtin id)) (ha:PA X (e :: es) t) (hn:x ≠ "__name__" := by decide) (hdb:(x == ("__debug__" : Str))=false:=by decide)
    (he:starEach (e :: es) X.env=(false,eval e X.env) :: starEach es X.env:=by rfl) (hpl:(backTo pos (starEach es X.env)).any (·.1)=false:=by rfl):PE X (.Call (.Name x p) (e :: es) [] pos) (tCB r t):=by
  intro pins s σ H Q I h
  refine wpAny_Call_Name_kw (ld_blt I hg hm hv ?_ hn hdb)
  exact PyProof.Rows.callWith_builtin1 (thn (ha pos pins s σ H _ I h) fun us s1 ⟨vs,H1,I1,r1,q1⟩=>hc pins s1 σ H1 vs us Q I1 r1 q1) he hpl
theorem pe_callTy (hc:CallR X (.type T) r) (hg:Gl X x) (hm:X.mg x=none) (hv:bootBuiltins x=some (.type T)) (ha:PA X (e :: es) t) (hn:x ≠ "__name__" := by decide) (hdb:(x == ("__debug__" : Str))=false:=by decide)
    (he:starEach (e :: es) X.env=(false,eval e X.env) :: starEach es X.env:=by rfl) (hpl:(backTo pos (starEach es X.env)).any (·.1)=false:=by rfl):PE X (.Call (.Name x p) (e :: es) [] pos) (tCB r t):=by
  intro pins s σ H Q I h
  refine wpAny_Call_Name_kw (ld_blt I hg hm hv ?_ hn hdb)
  exact PyProof.Rows.callWith_type1 (thn (ha pos pins s σ H _ I h) fun us s1 ⟨vs,H1,I1,r1,q1⟩=>hc pins s1 σ H1 vs us Q I1 r1 q1) he hpl
end
end L2
namespace HT
open PySem PyProof.Rows
section
open PySem.SeqAt
open PySem.AutoSeq1 (wpAny_loadPart')
open PySem.MeetsSeq PySem.MeetsSeq2 PySem.MeetsSeq3
end
section
variable {prog:Program} {w:World} {A:Around} {E:Value→Shared→Prop} {s:Shared}
def sIx (n d:Nat):Option Int→Nat
  | none=>d
  | some v=>if v < 0 then (v + (n:Int)).toNat else min v.toNat n
theorem sIx_nat (n d k:Nat):sIx n d (some (k:Int))=min k n:=by
  show (if (k:Int) < 0 then ((k:Int) + (n:Int)).toNat else min (k:Int).toNat n)=min k n
  rw [if_neg (by omega),Int.toNat_natCast]
end
end HT
namespace L2
open PySem PySem.Spec PyProof.Rows
abbrev TO:=St→Hp→(Option Int→Hp→Prop)→Prop
def PO (X:Cx) (e:Option Expr) (t:TO):Prop :=
  ∀ (pins:List (Addr×Obj)) (s:Shared) (σ:St) (H:Hp) (Q:Option Int→Hp→Prop),Inv X pins σ H s→t σ H Q →
    wpAny (model X.prog X.w) X.A (evalPart e X.env) (fun u s'=>∃ o H',Inv X pins σ H' s'∧IsPart u o∧Q o H') X.xe s
def tNoPart:TO:=fun _ H Q=>Q none H
def tPart (t:TE):TO:=fun σ H Q=>t σ H fun x H1=>∃ i,x=.int i∧Q (some i) H1
theorem intsAre_of {ns:List Int}:∀ {us:List Value},Vals (ns.map V.int) us→IntsAre us ns:=by
  induction ns with
  | nil=>intro us r; rw [List.map_nil] at r; cases r; exact .nil
  | cons n ns ih =>
    intro us r
    rw [List.map_cons] at r
    cases r with
    | cons r1 r2 =>
      obtain ⟨t,e⟩:=r1
      subst e
      exact .cons n t (ih r2)
section
variable {X:Cx} {e:Expr} {te:TE} {lo hi:Option Expr} {tl th:TO} {pos p2:Pos}
theorem po_none:PO X none tNoPart:=by
  intro pins s σ H Q I h
  rw [evalPart_none]
  exact wpAny_pure ⟨none,H,I,.none,h⟩
theorem po_some (h:PE X e te):PO X (some e) (tPart te):=by
  intro pins s σ H Q I hw
  rw [evalPart_some]
  refine thn (h pins s σ H _ I hw) fun u s1 ⟨x,H1,I1,r1,q1⟩=>?_
  obtain ⟨i,rfl,q⟩:=q1
  obtain ⟨t,rfl⟩:=r1
  exact ⟨some i,H1,I1,.int i t,q⟩
def SlR (X:Cx) (r:V→Option Int→Option Int→Hp→VK→Prop):Prop :=
  ∀ (pins:List (Addr×Obj)) (s:Shared) (σ:St) (H:Hp) (x:V) (v vl vu:Value) (lo hi:Option Int) (sl:Addr) (Q:VK),Inv X pins σ H s→RelV x v→s.heap.IsSliceOf sl vl vu .none→IsPart vl lo→IsPart vu hi→r x lo hi H Q →
    ∃ T id,typeLookup (.type T) "__getitem__" = pure (some (.builtin id))∧s.TypeIs v T∧wpAny (model X.prog X.w) X.A (getItem v (.ref sl)) (EP X pins σ Q) X.xe s
def tSl (r:V→Option Int→Option Int→Hp→VK→Prop) (te:TE) (tl th:TO):TE:=fun σ H Q=>te σ H fun x H1=>tl σ H1 fun l H2=>th σ H2 fun u H3=>r x l u H3 Q
theorem pe_slice {r:V→Option Int→Option Int→Hp→VK→Prop} (hr:SlR X r) (he:PE X e te) (hl:PO X lo tl) (hu:PO X hi th):PE X (.Subscript e (.Slice lo hi none p2) pos) (tSl r te tl th):=by
  intro pins s σ H Q I h
  refine Subscript_ (thn (he pins s σ H _ I h) fun v s1 ⟨x,H1,I1,r1,q1⟩=>?_)
  refine wpAny_Slice (thn (hl pins s1 σ H1 _ I1 q1) fun vl s2 ⟨l,H2,I2,pl,q2⟩=>thn (hu pins s2 σ H2 _ I2 q2) fun vu s3 ⟨u,H3,I3,pu,q3⟩=>?_)
  rw [evalPart_none]
  refine wpAny_pure ?_
  have I4:Inv X pins σ H3 { s3 with heap:=s3.heap.push { cls:=.type "slice", data:=.fields #[vl,vu,.none] } }:=I3.kept (t':=s3.toks) fun b ob q=>Heap.get?_push_of_some _ q
  obtain ⟨T,id,hT,ht,hg⟩:=hr pins { s3 with heap:=s3.heap.push { cls:=.type "slice", data:=.fields #[vl,vu,.none] } } σ H3 x v vl vu l u s3.heap.objs.size Q I4 r1 (Heap.IsSliceOf.new ..) pl pu q3
  show wpAny (model X.prog X.w) X.A (subscriptTail e (.Slice lo hi none p2) v (.ref s3.heap.objs.size)) (EP X pins σ Q) X.xe { s3 with heap:=s3.heap.push { cls:=.type "slice", data:=.fields #[vl,vu,.none] } }
  exact tail_any (ops:=[.ref s3.heap.objs.size,v]) ht hT hg (by with_unfolding_all rfl)
def cutV (xs:List V) (lo hi:Option Int):List V:=(xs.drop (HT.sIx xs.length 0 lo)).take (HT.sIx xs.length xs.length hi - HT.sIx xs.length 0 lo)
theorem cutV_length (xs:List V) (lo hi:Option Int):(cutV xs lo hi).length≤xs.length:=by
  unfold cutV
  rw [List.length_take,List.length_drop]
  omega
end
end L2
namespace L2
open PySem PySem.Spec PyProof.Rows
def ixN (n:Nat) (i:Int):Option Nat:=if 0≤i then (if i < n then some i.toNat else none) else if -(n:Int)≤i then some (i + n).toNat else none
def atI {α:Type} (xs:List α) (i:Int):Option α:=(ixN xs.length i).bind fun j=>xs[j]?
theorem ixN_seq {n:Nat} {i:Int} {j:Nat} (h:ixN n i=some j):seqIndex? i n=some j∧j < n∧-(n:Int)≤i∧i < n:=by
  unfold ixN at h
  by_cases h0:0≤i
  · rw [if_pos h0] at h
    by_cases h1:i < n
    · rw [if_pos h1] at h
      have e:i.toNat=j:=Option.some.inj h
      exact ⟨by rw [seqIndex_of h0 h1,e],by omega,by omega,h1⟩
    · rw [if_neg h1] at h; cases h
  · rw [if_neg h0] at h
    by_cases h1:-(n:Int)≤i
    · rw [if_pos h1] at h
      have e:(i + n).toNat=j:=Option.some.inj h
      exact ⟨by rw [seqIndex_neg (by omega) h1,e],by omega,h1,by omega⟩
    · rw [if_neg h1] at h; cases h
theorem atI_get {α:Type} {xs:List α} {i:Int} {v:α} (h:atI xs i=some v):∃ j,seqIndex? i xs.length=some j∧xs[j]?=some v∧j < xs.length∧-(xs.length:Int)≤i∧i < xs.length:=by
  unfold atI at h
  cases e:ixN xs.length i with
  | none=>rw [e] at h; cases h
  | some j =>
    rw [e] at h
    obtain ⟨h1,h2,h3,h4⟩:=ixN_seq e
    exact ⟨j,h1,h,h2,h3,h4⟩
theorem atI_nat {α:Type} {xs:List α} {j:Nat} {v:α} (h:xs[j]?=some v):atI xs (j:Int)=some v:=by
  have hj:j < xs.length:=(List.getElem?_eq_some_iff.mp h).1
  have e:ixN xs.length (j:Int)=some j:=by
    unfold ixN
    rw [if_pos (by omega),if_pos (by omega)]; simp
  unfold atI; rw [e]; exact h
theorem atI_last {α:Type} (xs:List α) (v:α):atI (xs ++ [v]) (-1)=some v:=by
  have hl:(xs ++ [v]).length=xs.length + 1:=by simp
  have e:ixN (xs ++ [v]).length (-1)=some xs.length:=by
    unfold ixN
    rw [hl,if_neg (by decide),if_pos (by omega)]
    congr 1
    omega
  unfold atI
  rw [e]
  show (xs ++ [v])[xs.length]?=some v
  simp
def PlainIx (b:Expr):Prop:=∀ o i,subscripted b false o i=operate [o,i] (getItem o i)
def IxR (X:Cx) (r:R2):Prop :=
  ∀ (value slice:Expr) (pins:List (Addr×Obj)) (s:Shared) (σ:St) (H:Hp) (x y:V) (v u:Value) (Q:VK),Inv X pins σ H s→RelV x v→RelV y u→r x y H Q →
    subscripted slice false v u=operate [v,u] (getItem v u)→wpAny (model X.prog X.w) X.A (subscriptTail value slice v u) (EP X pins σ Q) X.xe s
def MtR (X:Cx) (id:String) (r:V→List V→Hp→VK→Prop):Prop :=
  ∀ (pins:List (Addr×Obj)) (s:Shared) (σ:St) (H:Hp) (x:V) (xs:List V) (v:Value) (us:List Value) (Q:VK),Inv X pins σ H s→RelV x v→Vals xs us→r x xs H Q →
    wpAny (model X.prog X.w) X.A (call (.builtin id) (v :: us)) (EP X pins σ Q) X.xe s
section
variable {X:Cx} {a b:Expr} {ta tb:TE} {pos:Pos}
theorem pe_ix {r:R2} (hr:IxR X r) (ha:PE X a ta) (hb:PE X b tb) (hs:PlainIx b):PE X (.Subscript a b pos) (tOp r ta tb):=by
  intro pins s σ H Q I h
  exact Subscript_ (binT ha hb I h fun v u s2 x y H2 I2 rx ry q=>hr a b pins s2 σ H2 x y v u Q I2 rx ry q (hs _ _))
def rIxL (K:PySem.W.Frag):R2:=fun x y H Q=>∃ p xs i v,x=.ref p∧y=.int i∧SqL K H p xs∧atI xs i=some v∧Q v H
theorem ix_list:IxR X (rIxL X.K):=by
  intro value slice pins s σ H x y v u Q I rx ry h hs
  obtain ⟨p,xs,i,z,rfl,rfl,hq,he,q⟩:=h
  cases rx
  obtain ⟨t,rfl⟩:=ry
  obtain ⟨its,r,pl,hz⟩:=I.list hq
  obtain ⟨j,h1,h2,h3,h4,h5⟩:=atI_get he
  obtain ⟨w,ew,rw'⟩:=r.get h2
  have hl:=r.length
  have hn:=line63
  have fin:EP X pins σ Q w s:=⟨z,H,I,rw',q⟩
  by_cases h0:0≤i
  · have hj:i.toNat=j:=by
      rw [seqIndex_of h0 h5] at h1
      exact Option.some.inj h1
    exact item_listR pl.isList h0 (by omega) (by rw [hj]; simpa using ew) fin hs
  · have hj:(i + (its.toArray.size:Int)).toNat=j:=by
      rw [seqIndex_neg (by omega) h4] at h1
      rw [List.size_toArray,← hl]
      exact Option.some.inj h1
    exact subscriptTail_builtinR (x:=w) pl.isList.typeIs slot_list_getitem.lookup
      (wpAny_getItem_list_neg (Q:=fun r s'=>r=w∧EP X pins σ Q r s') pl.isList (by omega) (by rw [List.size_toArray] <;> omega) (by omega) (by rw [hj]; simpa using ew) ⟨rfl,fin⟩) hs
theorem mapSeq_set (its:List Value) (n j:Nat) (u:Value):Obj.mapSeq (·.setIfInBounds j u) { cls:=.type "list", data:=.seq its.toArray n }={ cls:=.type "list", data:=.seq (its.set j u).toArray n }:=by
  simp [Obj.mapSeq]
theorem Inv.lst {pins:List (Addr×Obj)} {σ:St} {H:Hp} {s:Shared} {p:Addr} {xs:List V} (I:Inv X pins σ H s) (h:H p=some (.lst xs)) :
    ∃ (its:List Value) (n:Nat),Vals xs its∧s.heap.get? p=some { cls:=.type "list", data:=.seq its.toArray n }∧xs.length≤sizeLine:=by
  obtain ⟨z,its,n,r,e⟩:=I.hok p _ h
  exact ⟨its,n,r,e,z⟩
theorem Inv.lstUpd {pins:List (Addr×Obj)} {σ:St} {H:Hp} {s:Shared} {p:Addr} {xs ys:List V} {its its':List Value} {n n':Nat} {f:Obj→Obj} (I:Inv X pins σ H s) (h:H p=some (.lst xs))
    (ho:s.heap.get? p=some { cls:=.type "list", data:=.seq its.toArray n }) (hf:f { cls:=.type "list", data:=.seq its.toArray n }={ cls:=.type "list", data:=.seq its'.toArray n' }) (r:Vals ys its') (hz:ys.length≤sizeLine) (t:Nat) :
    Inv X pins σ (upd H p (.lst ys)) { s with heap:=s.heap.update p f,toks:=t }:=by
  have e:(s.heap.update p f).get? p=some { cls:=.type "list", data:=.seq its'.toArray n' }:=by
    rw [Heap.get?_update_self f ho (by rw [hf] <;> rfl),hf]
  refine I.write (x:=p) (e:=p) (by rw [h]; trivial) (.inl rfl) (fun b u hb q=>(Heap.get?_update_other _ _ (Ne.symm hb)).trans q) ⟨_,e⟩ ?_
  exact ⟨hz,its',n',r,e⟩
def rSetL:V→V→V→Hp→(Hp→Prop)→Prop:=fun o i v H Q=>∃ p xs k j,o=.ref p∧i=.int k∧H p=some (.lst xs)∧ixN xs.length k=some j∧Q (upd H p (.lst (xs.set j v)))
theorem set_list:PSet X rSetL:=by
  intro pins s σ H o i v ov iv u Q I ro ri rv h
  obtain ⟨p,xs,k,j,rfl,rfl,hp,hj,q⟩:=h
  cases ro
  obtain ⟨t,rfl⟩:=ri
  obtain ⟨its,n,r,ho,hz⟩:=I.lst hp
  obtain ⟨h1,h2,h3,h4⟩:=ixN_seq hj
  have hl:=r.length
  have hn:=line63
  have I':Inv X pins σ (upd H p (.lst (xs.set j v))) { s with heap:=s.heap.update p (Obj.mapSeq (·.setIfInBounds j u)) } :=
    I.lstUpd hp ho (mapSeq_set its n j u) (r.set rv j) (by rw [List.length_set]; exact hz) s.toks
  by_cases h0:0≤k
  · have hk:k.toNat=j:=by
      rw [seqIndex_of h0 h4] at h1
      exact Option.some.inj h1
    exact PySem.W.ki_setAt ho h0 (by omega) (by rw [List.size_toArray,← hl]; exact h4) (by rw [hk]; exact ⟨_,I',q⟩)
  · have hk:(k + (its.toArray.size:Int)).toNat=j:=by
      rw [seqIndex_neg (by omega) h3] at h1
      rw [List.size_toArray,← hl]
      exact Option.some.inj h1
    exact PySem.W.ki_setBack ho (by omega) (by rw [List.size_toArray,← hl]; exact h3) (by omega) (by rw [hk]; exact ⟨_,I',q⟩)
theorem slice_bounds (lo hi:Option Int) (n:Nat):(sliceBounds lo hi none n).1=((HT.sIx n 0 lo:Nat):Int)∧(sliceBounds lo hi none n).2.1=((HT.sIx n n hi:Nat):Int)∧(sliceBounds lo hi none n).2.2=1:=by
  refine ⟨?_,?_,rfl⟩
  · cases lo with
    | none=>simp [sliceBounds,HT.sIx]
    | some i =>
      simp only [sliceBounds,HT.sIx,Option.getD_none,show (1:Int) > 0 by decide,if_true]
      by_cases h:i < 0
      · simp only [h,if_true] <;> omega
      · simp only [h,if_false] <;> omega
  · cases hi with
    | none=>simp [sliceBounds,HT.sIx]
    | some i =>
      simp only [sliceBounds,HT.sIx,Option.getD_none,show (1:Int) > 0 by decide,if_true]
      by_cases h:i < 0
      · simp only [h,if_true] <;> omega
      · simp only [h,if_false] <;> omega
theorem slicePick_cut (its:List Value) (lo hi:Option Int):slicePick its.toArray lo hi none=((its.drop (HT.sIx its.length 0 lo)).take (HT.sIx its.length its.length hi - HT.sIx its.length 0 lo)).toArray:=by
  obtain ⟨h1,h2,h3⟩:=slice_bounds lo hi its.toArray.size
  unfold slicePick
  rw [h1,h2,h3]
  simp only [sliceRange_one,pick_run,List.size_toArray] <;> rfl
def rSlL (K:PySem.W.Frag):V→Option Int→Option Int→Hp→VK→Prop:=fun x lo hi H Q=>∃ a xs,x=.ref a∧SqL K H a xs∧∀ p,H p=none→Q (.ref p) (upd H p (.lst (cutV xs lo hi)))
theorem sl_list:SlR X (rSlL X.K):=by
  intro pins s σ H x v vl vu lo hi sl Q I rx hs pl pu h
  obtain ⟨a,xs,rfl,hx,q⟩:=h
  cases rx
  obtain ⟨its,r,ht,hz⟩:=I.list hx
  have hlen:=r.length
  refine ⟨"list", _,slot_list_getitem.lookup,ht.isList.typeIs,?_⟩
  refine wpAny_getItem_list_slice ht.isList hs pl pu .none (by simp) ?_ (by rw [List.size_toArray] <;> omega)
  rw [slicePick_cut,← hlen]
  refine ⟨.ref s.heap.objs.size,_,I.laid (t':=s.toks) (o:=.lst (cutV xs lo hi)) (fun b ob q=>Heap.get?_push_of_some _ q) (Nat.le_refl _) ?_,rfl,q _ (I.hok.fresh (Nat.le_refl _))⟩
  exact ⟨Nat.le_trans (cutV_length xs lo hi) hz,_,0,(r.drop (HT.sIx xs.length 0 lo)).take (HT.sIx xs.length xs.length hi - HT.sIx xs.length 0 lo),Heap.get?_push_size _ rfl⟩
def flatV:V→Bool
  | .non=>true
  | .bl _=>true
  | .int _=>true
  | .str _=>true
  | _=>false
def eqV:V→V→Bool
  | .non,.non=>true
  | .bl a,.bl b=>a == b
  | .bl a,.int b=>(if a then 1 else 0) == b
  | .int a,.bl b=>a == (if b then 1 else 0)
  | .int a,.int b=>a == b
  | .str a,.str b=>a == b
  | _,_=>false
theorem eqAt_V {A:Around} {s:Shared} {y x:V} {u v:Value} (ry:RelV y u) (rx:RelV x v) (fy:flatV y=true) (fx:flatV x=true):SeqAt.EqAt A s u v (eqV y x):=by
  cases y with
  | non =>
    cases ry
    cases x with
    | non=>cases rx; exact SeqAt.EqAt.same _
    | bl b=>cases rx; exact SeqAt.EqAt.none_bool b
    | int b=>obtain ⟨t,rfl⟩:=rx; exact SeqAt.EqAt.none_int b t
    | str b=>obtain ⟨t,rfl⟩:=rx; exact SeqAt.EqAt.none_str b t
    | _=>exact absurd (show false=true from fx) Bool.false_ne_true
  | bl a =>
    cases ry
    cases x with
    | non=>cases rx; exact SeqAt.EqAt.bool_none a
    | bl b=>cases rx; exact SeqAt.EqAt.bool_bool a b
    | int b=>obtain ⟨t,rfl⟩:=rx; exact SeqAt.EqAt.bool_int a b t
    | str b=>obtain ⟨t,rfl⟩:=rx; exact SeqAt.EqAt.bool_str a b t
    | _=>exact absurd (show false=true from fx) Bool.false_ne_true
  | int a =>
    obtain ⟨t',rfl⟩:=ry
    cases x with
    | non=>cases rx; exact SeqAt.EqAt.int_none a t'
    | bl b=>cases rx; exact SeqAt.EqAt.int_bool a t' b
    | int b=>obtain ⟨t,rfl⟩:=rx; exact SeqAt.EqAt.int_int a t' b t
    | str b=>obtain ⟨t,rfl⟩:=rx; exact SeqAt.EqAt.int_str a t' b t
    | _=>exact absurd (show false=true from fx) Bool.false_ne_true
  | str a =>
    obtain ⟨t',rfl⟩:=ry
    cases x with
    | non=>cases rx; exact SeqAt.EqAt.str_none a t'
    | bl b=>cases rx; exact SeqAt.EqAt.str_bool a t' b
    | int b=>obtain ⟨t,rfl⟩:=rx; exact SeqAt.EqAt.str_int a t' b t
    | str b=>obtain ⟨t,rfl⟩:=rx; exact SeqAt.EqAt.str_str a t' b t
    | _=>exact absurd (show false=true from fx) Bool.false_ne_true
  | _=>exact absurd (show false=true from fy) Bool.false_ne_true
def eqU (x:V) (u:Value):Bool:=match u with
  | .none=>eqV .non x
  | .bool b=>eqV (.bl b) x
  | .int i _=>eqV (.int i) x
  | .str z _=>eqV (.str z) x
  | _=>false
theorem eqU_of {x y:V} {u:Value} (r:RelV y u) (f:flatV y=true):eqU x u=eqV y x:=by
  cases y with
  | non=>cases r; rfl
  | bl b=>cases r; rfl
  | int i=>obtain ⟨t,rfl⟩:=r; rfl
  | str z=>obtain ⟨t,rfl⟩:=r; rfl
  | _=>exact absurd (show false=true from f) Bool.false_ne_true
theorem any_eqU {x:V}:∀ {xs:List V} {us:List Value},Vals xs us→xs.all flatV=true→us.any (eqU x)=xs.any fun y=>eqV y x
  | _,_,.nil,_=>rfl
  | y :: xs,u :: us,.cons r t,f=>by
    rw [List.all_cons,Bool.and_eq_true] at f
    rw [List.any_cons,List.any_cons,eqU_of r f.1,any_eqU t f.2]
theorem mem_eqAt {A:Around} {s:Shared} {x:V} {v:Value} (rx:RelV x v) (fx:flatV x=true):∀ {xs:List V} {us:List Value},Vals xs us→xs.all flatV=true→∀ u∈us,SeqAt.EqAt A s u v (eqU x u)
  | _,_,.nil,_=>fun u hu=>by cases hu
  | y :: xs,u :: us,.cons r t,f=>fun u' hu=>by
    rw [List.all_cons,Bool.and_eq_true] at f
    rcases List.mem_cons.mp hu with rfl | hu
    · rw [eqU_of r f.1]; exact eqAt_V r rx f.1 fx
    · exact mem_eqAt rx fx t f.2 u' hu
def inV (x:V) (xs:List V):Bool:=xs.any fun y=>eqV y x
def rIn (K:PySem.W.Frag) (neg:Bool):R2:=fun x y H Q=>∃ p xs,y=.ref p∧(SqL K H p xs∨SqT K H p xs)∧flatV x=true∧xs.all flatV=true∧Q (.bl (if neg then !inV x xs else inV x xs)) H
theorem op_in_seq:OpR X (compareOp .In) (rIn X.K false):=by
  intro pins s σ H x y v u Q I rx ry h
  obtain ⟨p,xs,rfl,hq,fx,fs,q⟩:=h
  cases ry
  rcases hq with hq | hq
  · obtain ⟨its,r,pl,hz⟩:=I.list hq
    refine SeqAt.in_listAt (eqU x) pl.isList (fun w hw=>mem_eqAt rx fx r fs w (by simpa using hw)) ⟨.bl _,H,I,rfl,?_⟩
    rw [show its.toArray.any (eqU x)=its.any (eqU x) by simp,any_eqU r fs]
    exact q
  · obtain ⟨its,r,pl,hz⟩:=I.tuple hq
    refine SeqAt.in_tupleAt (eqU x) pl (fun w hw=>mem_eqAt rx fx r fs w (by simpa using hw)) ⟨.bl _,H,I,rfl,?_⟩
    rw [show its.toArray.any (eqU x)=its.any (eqU x) by simp,any_eqU r fs]
    exact q
theorem op_notIn_seq:OpR X (compareOp .NotIn) (rIn X.K true):=by
  intro pins s σ H x y v u Q I rx ry h
  obtain ⟨p,xs,rfl,hq,fx,fs,q⟩:=h
  cases ry
  rcases hq with hq | hq
  · obtain ⟨its,r,pl,hz⟩:=I.list hq
    refine SeqAt.notIn_listAt (eqU x) pl.isList (fun w hw=>mem_eqAt rx fx r fs w (by simpa using hw)) ⟨.bl _,H,I,rfl,?_⟩
    rw [show its.toArray.any (eqU x)=its.any (eqU x) by simp,any_eqU r fs]
    exact q
  · obtain ⟨its,r,pl,hz⟩:=I.tuple hq
    refine SeqAt.notIn_tupleAt (eqU x) pl (fun w hw=>mem_eqAt rx fx r fs w (by simpa using hw)) ⟨.bl _,H,I,rfl,?_⟩
    rw [show its.toArray.any (eqU x)=its.any (eqU x) by simp,any_eqU r fs]
    exact q
theorem call_len_seq:CallR X (.builtin "len") (fun xs H Q=>∃ p ys,xs=[.ref p]∧(SqL X.K H p ys∨SqT X.K H p ys)∧Q (.int ys.length) H):=by
  intro pins s σ H xs us Q I r h
  obtain ⟨p,ys,rfl,hq,q⟩:=h
  obtain ⟨u,rfl,rx⟩:=vals1 r
  cases rx
  have hn:=line63
  rcases hq with hq | hq
  · obtain ⟨its,r',pl,hz⟩:=I.list hq
    have hlen:=r'.length
    exact Calls.call_len_list pl.isList (by simp only [List.size_toArray] <;> omega) ⟨.int ys.length,H,I.tok _,⟨s.toks + 1,by rw [List.size_toArray,hlen]⟩,q⟩
  · obtain ⟨its,r',pl,hz⟩:=I.tuple hq
    have hlen:=r'.length
    exact len_tuple pl (by simp only [List.size_toArray] <;> omega) ⟨.int ys.length,H,I.tok _,⟨s.toks + 1,by rw [List.size_toArray,hlen]⟩,q⟩
theorem call_list_of:CallR X (.type "list") (fun xs H Q=>∃ p ys,xs=[.ref p]∧(SqL X.K H p ys∨SqT X.K H p ys)∧∀ l,H l=none→Q (.ref l) (upd H l (.lst ys))):=by
  intro pins s σ H xs us Q I r h
  obtain ⟨p,ys,rfl,hq,q⟩:=h
  obtain ⟨u,rfl,rx⟩:=vals1 r
  cases rx
  have fin:∀ (its:List Value),Vals ys its→ys.length≤sizeLine→∀ (h':Heap) (c':Nat),(∀ b o',s.heap.get? b=some o'→h'.get? b=some o') →
      h'.get? s.heap.objs.size=some { cls:=.type "list", dict:=none,data:=.seq its.toArray c',slots:=#[] }→EP X pins σ Q (.ref s.heap.objs.size) { s with heap:=h' }:=fun its r' hz h' c' kp e =>
    ⟨.ref s.heap.objs.size,_,I.laid (t':=s.toks) kp (Nat.le_refl _) (show ObjOk X.prog X.w _ h' _ (.lst ys) from ⟨hz,its,c',r',e⟩),rfl,q _ (I.hok.fresh (Nat.le_refl _))⟩
  rcases hq with hq | hq
  · obtain ⟨its,r',pl,hz⟩:=I.list hq
    have hlen:=r'.length
    obtain ⟨o,ho,hc,n,hd⟩:=pl.isList
    exact call_list_seq p (.inl rfl) ho hc hd (fun h' c' kp e=>fin its r' hz h' c' kp e) (by simp only [List.size_toArray] <;> omega)
  · obtain ⟨its,r',pl,hz⟩:=I.tuple hq
    have hlen:=r'.length
    obtain ⟨o,ho,hc,n,hd⟩:=pl
    exact call_list_seq p (.inr rfl) ho hc hd (fun h' c' kp e=>fin its r' hz h' c' kp e) (by simp only [List.size_toArray] <;> omega)
def tyV (K:PySem.W.Frag) (T:String) (x:V) (H:Hp):Prop:=match x with
  | .str _=>T = "str"
  | .int _=>T = "int"
  | .ref p=>(T = "list" ∧ ∃ xs,SqL K H p xs)∨(T = "tuple" ∧ ∃ o,K.lookup p=some o∧o.cls=.type "tuple" ∧ o.dict=none) ∨
      (T = "dict" ∧ ((∃ kvs,H p=some (.dK kvs))∨∃ kvs,H p=some (.dT kvs)))∨(T = "set" ∧ ∃ S n,H p=some (.set S n))
  | _=>False
theorem tyV_is {pins:List (Addr×Obj)} {σ:St} {H:Hp} {s:Shared} {T:String} {x:V} {v:Value} (I:Inv X pins σ H s) (r:RelV x v) (ty:tyV X.K T x H) :
    s.TypeIs v T∧∀ a,v=.ref a→∃ ob,s.heap.get? a=some ob∧ob.dict=none:=by
  cases x with
  | str z =>
    obtain ⟨t,rfl⟩:=r
    cases (show T = "str" from ty)
    exact ⟨typeIs_str s z t,fun _ e=>nomatch e⟩
  | int i =>
    obtain ⟨t,rfl⟩:=r
    cases (show T = "int" from ty)
    exact ⟨typeIs_int s i t,fun _ e=>nomatch e⟩
  | ref p =>
    cases r
    rcases ty with ⟨rfl,xs,hq⟩ | ⟨rfl,o,hk,hc,hd⟩ | ⟨rfl,hk⟩ | ⟨rfl,S,n,hk⟩
    · obtain ⟨its,_,pl,_⟩:=I.list hq
      refine ⟨pl.isList.typeIs,fun a e=>?_⟩
      cases e
      obtain ⟨o,n,e,c,hd,_⟩:=pl
      exact ⟨o,e,hd⟩
    · refine ⟨⟨o,I.kIn p o hk,hc⟩,fun a e=>?_⟩
      cases e
      exact ⟨o,I.kIn _ o hk,hd⟩
    · have z:∃ o,s.heap.get? p=some o∧o.ExactDict:=by
        rcases hk with ⟨kvs,hk⟩ | ⟨kvs,hk⟩
        · obtain ⟨_,_,_,_,o,_,_,e,ex,_⟩:=I.hok p _ hk
          exact ⟨o,e,ex⟩
        · obtain ⟨_,_,_,_,o,_,_,e,ex,_⟩:=I.hok p _ hk
          exact ⟨o,e,ex⟩
      obtain ⟨o,e,ex⟩:=z
      refine ⟨⟨o,e,ex.1⟩,fun a e2=>?_⟩
      cases e2
      exact ⟨o,e,ex.2.1⟩
    · obtain ⟨o,_,_,_,e,ex,_⟩:=I.hok p _ hk
      refine ⟨⟨o,e,ex.1⟩,fun a e2=>?_⟩
      cases e2
      exact ⟨o,e,ex.2.1⟩
  | _=>exact False.elim ty
def tBM (K:PySem.W.Frag) (T:String) (r:V→List V→Hp→VK→Prop) (to:TE) (t:TA):TE:=fun σ H Q=>to σ H fun x H1=>tyV K T x H1∧t σ H1 fun xs H2=>r x xs H2 Q
variable {o e:Expr} {es:List Expr} {to:TE} {t:TA} {name:Str} {apos cpos:Pos} {T id:String} {r:V→List V→Hp→VK→Prop}
theorem pe_bm (pa:PlainAttrs T) (slot:Slot T name id) (hty:typeOf (.builtin id)=pure (.type "method_descriptor")) (hm:MtR X id r) (ho:PE X o to) (ha:PA X (e :: es) t)
    (hbase:attributeBase o name X.env (eval o X.env)=eval o X.env:=by rfl)
    (hfew:((backTo cpos (starEach (e :: es) X.env)).all (fun x=>!x.1) && (backToKw cpos (keywordEach [] X.env)).all (fun x=>x.1.isSome)
      && decide ((e :: es).length + ([]:List Keyword).length + (if ([]:List Keyword).isEmpty then 0 else 1) < 30))=true:=by rfl)
    (hline:(apos.endLine == cpos.line)=true:=by rfl) (hs:starEach (e :: es) X.env=(false,eval e X.env) :: starEach es X.env:=by rfl) (hplain:(backTo cpos (starEach es X.env)).any (·.1)=false:=by rfl) :
    PE X (.Call (.Attribute o name apos) (e :: es) [] cpos) (tBM X.K T r to t):=by
  intro pins s σ H Q I h
  refine wpAny_Call_method_late hbase hfew hline rfl (thn (ho pins s σ H _ I h) fun v s1 ⟨x,H1,I1,r1,ty,q1⟩=>?_)
  obtain ⟨h1,h2⟩:=tyV_is I1 r1 ty
  refine ⟨T,id,pa,slot,hty,h1,h2,?_⟩
  have hA:=ha cpos pins s1 σ H1 _ I1 q1
  rw [hs] at hA ⊢
  refine Calls.callWith_builtin (by show (false || (backTo cpos (starEach es X.env)).any (·.1))=false; rw [hplain] <;> rfl) (Calls.evalArgs_plain ?_)
  exact thn hA fun us s2 ⟨vs,H2,I2,r2,q2⟩=>hm pins s2 σ H2 x vs v us Q I2 r1 r2 q2
end
end L2
namespace L2
open PySem PySem.Spec PyProof.Rows
def MtM (X:Cx) (id:String) (r:V→List V→Hp→VK→Prop):Prop :=
  ∀ (pins:List (Addr×Obj)) (s:Shared) (σ:St) (H:Hp) (x:V) (xs:List V) (v:Value) (us:List Value) (Q:VK),Inv X pins σ H s→RelV x v→Vals xs us→r x xs H Q →
    wpAny (model X.prog X.w) X.A (call (.builtin id) (v :: us)) (EP X pins σ Q) X.xe s
theorem Vals.one:∀ {x:V} {us:List Value},Vals [x] us→∃ u,us=[u]∧RelV x u
  | _,_,.cons r .nil=>⟨_,rfl,r⟩
theorem Vals.two:∀ {x y:V} {us:List Value},Vals [x,y] us→∃ u v,us=[u,v]∧RelV x u∧RelV y v
  | _,_,_,.cons r (.cons q .nil)=>⟨_,_,rfl,r,q⟩
theorem Vals.reverse {xs:List V} {us:List Value} (h:Vals xs us):Vals xs.reverse us.reverse:=by
  induction h with
  | nil=>exact .nil
  | cons r t ih=>rw [List.reverse_cons,List.reverse_cons]; exact Vals.append ih (.cons r .nil)
section
variable {X:Cx} {pins:List (Addr×Obj)} {σ:St} {H:Hp} {s:Shared} {l b:Addr} {xs ys zs:List V}
theorem Inv.lset {its its':List Value} {n:Nat} {f:Array Value→Array Value} {t':Nat} (I:Inv X pins σ H s) (hH:H l=some (.lst xs))
    (e:s.heap.get? l=some { cls:=.type "list", data:=.seq its.toArray n }) (hf:f its.toArray=its'.toArray) (hv:Vals ys its') (hz:ys.length≤sizeLine) :
    Inv X pins σ (upd H l (.lst ys)) { s with heap:=s.heap.update l (Obj.mapSeq f),toks:=t' }:=by
  have q:=PySem.IsL.update e f
  rw [hf] at q
  refine I.write (x:=l) (e:=l) (by rw [hH]; exact trivial) (.inl rfl) (fun b' u hb hu=>(Heap.get?_update_other s.heap (Obj.mapSeq f) (Ne.symm hb)).trans hu) ⟨_,q⟩ ?_
  exact ⟨hz,its',_,hv,q⟩
theorem Inv.lnew {its:List Value} {t':Nat} (I:Inv X pins σ H s) (hv:Vals ys its) (hz:ys.length≤sizeLine) :
    Inv X pins σ (upd H s.heap.objs.size (.lst ys)) { s with heap:=s.heap.push { cls:=.type "list", data:=.seq its.toArray },toks:=t' } :=
  I.laid (fun _ _ q=>Heap.get?_push_of_some _ q) (Nat.le_refl _) ⟨hz,its,0,hv,Heap.get?_push_size _ rfl⟩
theorem Inv.fresh (I:Inv X pins σ H s):H s.heap.objs.size=none:=I.hok.fresh (Nat.le_refl _)
theorem Inv.lstM (I:Inv X pins σ H s) (hH:H l=some (.lst xs)):xs.length≤sizeLine∧∃ (its:List Value) (n:Nat),Vals xs its∧xs.length=its.length∧s.heap.get? l=some { cls:=.type "list", data:=.seq its.toArray n }:=by
  obtain ⟨z,its,n,r,e⟩:=I.hok l _ hH
  exact ⟨z,its,n,r,r.length,e⟩
end
section
variable {X:Cx}
def rAppend:V→List V→Hp→VK→Prop:=fun x vs H Q=>∃ l xs y,x=.ref l∧vs=[y]∧H l=some (.lst xs)∧xs.length < sizeLine∧Q .non (upd H l (.lst (xs ++ [y])))
theorem mt_append:MtM X "list.append" rAppend:=by
  intro pins s σ H x vs v us Q I rx rv h
  obtain ⟨l,xs,y,rfl,rfl,hH,hz,q⟩:=h
  cases rx
  obtain ⟨u,rfl,ru⟩:=rv.one
  obtain ⟨z,its,n,r,hl,e⟩:=I.lstM hH
  refine call_meets F.slot_list_append ⟨_,e,rfl⟩ F.entry_list_append (F.args_list_append_2 _ _) (PySem.list_append l its.toArray n u (by rw [List.size_toArray]; omega)) ⟨e,?_⟩
  refine ⟨.non,_,I.lset (its':=its ++ [u]) hH e (by simp) (r.append (.cons ru .nil)) ?_,rfl,q⟩
  rw [List.length_append,List.length_singleton]
  omega
end
section
variable {prog:Program} {w:World} {A:Around} {E:Value→Shared→Prop} {s:Shared}
end
section
variable {X:Cx}
end
end L2
namespace Att
open PySem PySem.W PySem.Calls PyProof.Rows
theorem ints_of_wellAll {P:Params} {h:Heap}:∀ (ns:List Int) (vs:List Value),WellAll P h vs (ns.map WData.int)→IntsAre vs ns:=by
  intro ns
  induction ns with
  | nil =>
    intro vs w
    rw [List.map_nil] at w
    cases w
    exact .nil
  | cons n ns ih =>
    intro vs w
    rw [List.map_cons] at w
    cases w with
    | cons a b =>
      cases a
      exact .cons _ _ (ih _ b)
theorem script_of {l:OpenLaw} {n:Nat} (hn:l.most=some n) {P:Params} {h:Heap} {args:List WData} {vals:List Value}
    (hpre:l.row.toRowW.claim.pre args=true) (hwl:WellAll P h vals args) :
    ∃ a vs ns,vals=[Value.ref a]∧args=[WData.list (ns.map WData.int)]∧h.get? a=some { cls:=.type "list", data:=.seq vs.toArray }∧IntsAre vs ns∧ns.length≤n:=by
  have hsh:WShape.hasAll [] args [.list .int]=true:=(pre_splitW hpre).1
  have hc:l.pre.holds [] { args:=args }=true:=(pre_splitW hpre).2
  obtain ⟨d,r,rfl,h1,h2⟩:=hasAllW_cons hsh
  obtain rfl:=hasAllW_nil h2
  obtain ⟨xs,rfl,h3⟩:=hasW_list h1
  obtain ⟨ns,rfl⟩:=items_int h3
  have hlen:ns.length≤n:=by
    unfold OpenLaw.pre at hc
    have h4:(WTm.not (.lt (.lit (.int (n:Int))) (.len (.arg 0)))).holds [] { args:=[.list (ns.map .int)] }=true:=by
      have h4:=(holds_andW hc).1
      rw [hn] at h4
      exact h4
    have h5:=condW_of h4 (w_not (w_lt w_lit (w_len_list (w_arg rfl))))
    rw [List.length_map] at h5
    refine Nat.le_of_not_lt fun q=>?_
    have q':(n:Int) < ((ns.length:Nat):Int):=by omega
    first
      | (rw [decide_eq_true q'] at h5; exact absurd h5 (by decide))
      | (simp at h5; omega)
  cases hwl with
  | cons w1 w2 =>
    cases w2
    cases w1 with
    | list ho hall=>exact ⟨_,_,ns,rfl,rfl,ho,ints_of_wellAll ns _ hall,hlen⟩
theorem post_true (l:OpenLaw) (args:List WData):l.row.toRowW.claim.post args (.bool true) args=true :=
  postW_of (r:=l.row.toRowW) (X:=(true == true))
    (show WShape.has [] (.bool true) .bool=true by first | rfl | decide | simp [WShape.has,WShape.arms,WShape.armsAll])
    (show (WTm.eq .res (.lit (.bool true))).value [] { args:=args,res:=some (.bool true),after:=args }=some (.bool (true == true)) from w_eq_bool (w_res rfl) w_lit) rfl
theorem attach_call {l:OpenLaw} {n:Nat} {q:Program} {loose:List Str} {XP:(Str→Option Value)→Heap→Prop} {YP:World→Heap→Prop} {d:DefRec}
    (hn:l.most=some n) (hdf:d.params.defaults=[])
    (call:∀ (w:World) (s₀ s₁:Shared) (mg mb:Str→Option Value) (fa:Addr) (o:Obj) (pm cd doc:Value) (a:Addr) (vs:List Value) (ns:List Int),
      Ground q loose [] XP w s₀ mg mb s₁.heap→YP w s₁.heap →
      s₁.heap.get? fa=some o→o.data=.func (docDef d.name d.params d.body d.scope pm cd doc)→s₁.heap.CodeRec cd d.name→mg d.name=some (.ref fa) →
      s₁.heap.get? a=some { cls:=.type "list", data:=.seq vs.toArray }→IntsAre vs ns→ns.length≤n→s₁.gens=#[] →
      codeAny (model l.prog w) callerA (.call (.ref fa) ⟨[.ref a],[]⟩) (fun r s'=>r=.ok (.ret (.bool true))∧OldK s₁.heap s'.heap∧s'.os=s₁.os∧AllBare s'.gens) s₁) :
    WalkO q loose XP YP l.row.toRowW d [] (fun f vs=>PySem.call f vs):=by
  intro w s₀ s₁ mg mb G Y fa o pm cd doc dV kV ho hd hcd hD hmg hg args vals as hpre hlay hrd hwl hlo
  obtain rfl:dV=.none:=Dflts.none hD hdf
  obtain rfl:kV=.none:=Dflts.noKw hD
  obtain ⟨a,vs,ns,rfl,rfl,hobj,hints,hlen⟩:=script_of hn hpre hwl
  refine enter_call (codeAny_mono (call w s₀ s₁ mg mb fa o pm cd doc a vs ns G Y ho (fd_plain hd) hcd hmg hobj hints hlen hg) fun r s' hq=>?_)
  obtain ⟨rfl,h2,h3,h4⟩:=hq
  exact ⟨.inl ⟨.bool true,.bool true,[],rfl,fun _=>rfl,.bool true,post_true l _,fun _=>⟨List.Pairwise.nil,fun _ hm=>(nomatch hm)⟩⟩,h2,h3,h4⟩
section
variable {prog:Program} {w:World} {A:Around} {E:Value→Shared→Prop} {s:Shared} {K:Frag}
end
end Att
namespace L2
open PySem PySem.Spec PyProof.Rows
theorem vals_ints:∀ {vs:List Value} {ns:List Int},IntsAre vs ns→Vals (ns.map V.int) vs
  | _,_,.nil=>.nil
  | _,_,.cons n t h=>.cons ⟨t,rfl⟩ (vals_ints h)
theorem tabsOf_mem {K:PySem.W.Frag} {p:Addr×Str} (h:p∈tabsOf K):∃ c o vs,K.lookup c=some o∧o.cls=.type "code" ∧ o.data=.fields vs∧vs[11]?=some (.ref p.1):=by
  obtain ⟨⟨c,_⟩,_,e⟩:=List.mem_filterMap.mp h
  obtain ⟨o,e1,e2⟩:=Option.bind_eq_some_iff.mp e
  unfold tabAt at e2
  split at e2
  · rename_i vs h1 h2
    split at e2
    · rename_i q t P h3 h4
      split at e2
      · cases e2
        exact ⟨c,o,vs,e1,h1,h2,h4⟩
      · cases e2
    · cases e2
  · cases e2
theorem law_call {P:Program} {w:World} {K:PySem.W.Frag} {mg mb:Str→Option Value} {CX:CXT} {k:Nat} {fa a:Addr} {fd:FuncData} {x:Str} {sp:Sp} {s₁:Shared} {vs:List Value} {ns:List Int}
    (KX:K.In s₁.heap) (hT0:(∀ p∈tabsOf K,s₁.heap.get? p.1=some (PySem.W.tabObj #[]))∧tabsUq K=true)
    (hbm:∃ bm ob,mg "__builtins__" = some (.ref bm)∧bm≠builtinsNs∧s₁.heap.get? bm=some ob∧ob.cls=.type "module" ∧ ob.dict=some builtinsNs∧ob.data=.plain)
    (hns:s₁.heap.Ns mainGlobals mg) (hb:s₁.heap.Ns builtinsNs mb) (hbb:∀ x:Str,x ≠ "__name__" → mb x=bootBuiltins x) (hlim:s₁.heap.NoLimit) (hg:s₁.gens=#[])
    (ha:s₁.heap.get? a=some { cls:=.type "list", data:=.seq vs.toArray }) (hi:IntsAre vs ns) (hl:ns.length≤sizeLine) (hr:Room k callerA)
    (F:∀ base:Heap,K.In base→base.Ns mainGlobals mg→FnOk P w K mg base CX k fa fd [x] sp) (hbind:∀ (s:Shared) (u:Value),BindsTo s fd ⟨[u],[]⟩ [(x,u)])
    (hsp:∀ H:Hp,SqL K H a (ns.map V.int)→sp [.ref a] H (fun v _=>v=.bl true) fun _ _ _=>False)
    (hCX:∀ H e s',CX [] H s₁ (fun _ _ _=>False) e s'→False) :
    codeAny (model P w) callerA (.call (.ref fa) ⟨[.ref a],[]⟩) (fun r s'=>r=.ok (.ret (.bool true))∧OldK s₁.heap s'.heap∧s'.os=s₁.os∧AllBare s'.gens) s₁:=by
  have uq:=hT0.2
  unfold tabsUq at uq
  have hT:∀ p∈tabsOf K,s₁.heap.get? p.1=some (PySem.W.tabObj #[])∧K.lookup p.1=none:=fun p hp=>⟨hT0.1 p hp,by
    have:=List.all_eq_true.mp uq p hp
    simp only [Bool.and_eq_true] at this
    exact Option.isNone_iff_eq_none.mp this.1⟩
  have one:∀ p q:Addr×Str,p∈tabsOf K→q∈tabsOf K→p.1=q.1→p.2=q.2:=fun p q hp hq e=>by
    have:=List.all_eq_true.mp uq p hp
    simp only [Bool.and_eq_true] at this
    have:=List.all_eq_true.mp this.2 q hq
    simpa [e] using this
  have rv:=vals_ints hi
  have lenV:=hi.length
  have core:∀ H:Hp,SqL K H a (ns.map V.int)→HOk P w H s₁.heap→(∀ b,H b=none∨(b=a∧∃ o xs,H b=some (.frz o (.lst xs)))∨∃ p∈tabsOf K,b=p.1∧∃ ps,H b=some (.tbl ps))→(H a≠none→K.lookup a=none)→TbOk K H →
      codeAny (model P w) callerA (.call (.ref fa) ⟨[.ref a],[]⟩) (fun r s'=>r=.ok (.ret (.bool true))∧OldK s₁.heap s'.heap∧s'.os=s₁.os∧AllBare s'.gens) s₁:=by
    intro H hS hok hA hK hTb
    have base_of:∀ {b:Addr} {o:Obj},s₁.heap.get? b=some o→H b=none→(hidT s₁.heap H).get? b=some o:=fun e n=>hidT_get e n
    have noA:∀ {b:Addr} {o:Obj},s₁.heap.get? b=some o→(∀ vs:Array Value,∀ n,o.data≠.seq vs n)→(∀ vs,o.data≠.fields vs)→H b=none:=fun {b o} e d1 d2=>by
      rcases hA b with z | ⟨rfl,_⟩ | ⟨p,hp,rfl,_⟩
      · exact z
      · rw [ha] at e; cases e
        exact absurd rfl (d1 _ _)
      · rw [(hT p hp).1] at e; cases e
        exact absurd rfl (d2 _)
    have nsK:∀ {b:Addr} {m:Str→Option Value},s₁.heap.Ns b m→(hidT s₁.heap H).Ns b m:=fun {b m} ⟨o,es,ep,e,d,r⟩=>⟨o,es,ep,base_of e (noA e (fun _ _ z=>by rw [d] at z; cases z) fun _ z=>by rw [d] at z; cases z),d,r⟩
    have hKb:K.In (hidT s₁.heap H):=fun b o e=>base_of (KX b o e) (by
      rcases hA b with z | ⟨rfl,_,_,z⟩ | ⟨p,hp,rfl,_⟩
      · exact z
      · rw [hK (by rw [z]; simp)] at e; cases e
      · rw [(hT p hp).2] at e; cases e)
    have hM:Mod K mg (hidT s₁.heap H):=⟨hKb,nsK hns,⟨mb,nsK hb,hbb⟩,let ⟨mc,h1,h2⟩:=hlim; ⟨mc,nsK h1,h2⟩,let ⟨bm,ob,q1,q2,q3,q4,q5,q6⟩:=hbm; ⟨bm,ob,q1,q2,base_of q3 (noA q3 (fun _ _ z=>by rw [q6] at z; cases z) fun _ z=>by rw [q6] at z; cases z),q4,q5,q6⟩⟩
    have e0:Env0 P w K mg (hidT s₁.heap H) callerA [] s₁ H:=⟨rfl,hM,fun b o e=>of_hidT e,Nat.le_of_eq (hidT_size _ _),trivial,fun b hb=>absurd (show b∈([]:List Addr) from hb) (by simp),hok,.of_eq hg,hTb⟩
    refine codeAny_mono ((F _ hKb (nsK hns)).run callerA [] s₁ H ⟨[.ref a],[]⟩ [.ref a] [.ref a] _ _ hr e0 (hbind s₁ (.ref a)) (.cons rfl .nil) (hsp H hS)) fun r s' h=>?_
    cases r with
    | error e=>exact (hCX H e s' h).elim
    | ok fl =>
      cases fl with
      | next=>exact False.elim h
      | brk=>exact False.elim h
      | cont=>exact False.elim h
      | ret u =>
        obtain ⟨v,H',os,bare,un,hok',r',q⟩:=h
        have q':v=.bl true:=q
        subst q'
        obtain rfl:u=Value.bool true:=r'
        refine ⟨rfl,⟨fun b o e=>?_,fun b o e=>un.there b o e (by simp)⟩,os,bare⟩
        rcases hA b with z | ⟨rfl,ob,xs,z⟩ | ⟨p,hp,rfl,ps,z⟩
        · exact .inl (un.keep b o e z (by intro z; exact absurd (show b∈([]:List Addr) from z) (by simp)) (by simp))
        · have z2:=un.frzs _ ob _ z
          obtain ⟨e1,_⟩:=hok _ _ z
          obtain ⟨e2,_⟩:=hok' _ _ z2
          rw [e] at e1; cases e1
          exact .inl e2
        · obtain ⟨m,z2⟩:=un.tbls _ _ z
          obtain ⟨vs',e2,_⟩:=hok' _ _ z2
          obtain ⟨c,oc,cs,k1,k2,k3,k4⟩:=tabsOf_mem hp
          rw [(hT p hp).1] at e
          cases e
          exact .inr (.inl ⟨⟨c,oc,cs,KX _ _ k1,k2,k3,k4⟩,rfl,#[],vs',rfl,by simpa using e2⟩)
  have tabH:∀ {H:Hp} {p:Addr×Str},p∈tabsOf K→ObjOk P w H s₁.heap p.1 (.tbl #[.str p.2 0]):=fun {H p} hp=>⟨#[],(hT p hp).1,trivial,fun q v z=>by cases z⟩
  let HT:Hp:=fun b=>((tabsOf K).find? fun p=>p.1 == b).map fun p=>HO.tbl #[.str p.2 0]
  have HTat:∀ b,HT b=none∨∃ p∈tabsOf K,b=p.1∧HT b=some (.tbl #[.str p.2 0]):=fun b=>by
    cases q:(tabsOf K).find? fun p=>p.1 == b with
    | none=>exact .inl (by show Option.map _ _=none; rw [q]; rfl)
    | some p=>exact .inr ⟨p,List.mem_of_find?_eq_some q,(show p.1=b by have:=List.find?_some q; simpa using this).symm,by show Option.map _ _=_; rw [q]; rfl⟩
  have HTok:TbOk K HT:=fun p hp=>by
    rcases HTat p.1 with z | ⟨q,hq,e,z⟩
    · exfalso
      have z':Option.map _ ((tabsOf K).find? fun q=>q.1 == p.1)=none:=z
      rw [Option.map_eq_none_iff,List.find?_eq_none] at z'
      exact z' p hp (by simp)
    · exact ⟨0,#[],by rw [z,one p q hp hq e]; simp⟩
  cases hk:K.lookup a with
  | some o =>
    have e:=KX a o hk
    rw [ha] at e
    cases e
    refine core HT (.inr ⟨_,vs.toArray,_,hk,rfl,rfl,rfl,by rw [List.size_toArray,lenV]; exact hl,by simpa using rv⟩) (fun b u z=>?_) (fun b=>?_) (fun z=>?_) HTok
    · rcases HTat b with y | ⟨p,hp,rfl,y⟩
      · rw [y] at z; cases z
      · rw [y] at z; cases z; exact tabH hp
    · rcases HTat b with y | ⟨p,hp,e,y⟩
      · exact .inl y
      · exact .inr (.inr ⟨p,hp,e,_,y⟩)
    · rcases HTat a with y | ⟨p,hp,rfl,y⟩
      · exact absurd y z
      · exact (hT p hp).2
  | none =>
    have na:∀ p∈tabsOf K,p.1≠a:=fun p hp e=>by
      have:=(hT p hp).1
      rw [e,ha] at this; cases this
    refine core (fun b=>if b=a then some (.frz { cls:=.type "list", data:=.seq vs.toArray } (.lst (ns.map V.int))) else HT b) (.inl (.inr ⟨{ cls:=.type "list", data:=.seq vs.toArray },if_pos rfl⟩)) (fun b u z=>?_) (fun b=>?_) (fun _=>hk) fun p hp=>?_
    · by_cases hb:b=a
      · have z':=(if_pos hb).symm.trans z
        cases z'
        subst hb
        exact ⟨ha,by rw [List.length_map]; exact hl,vs,_,rv,ha⟩
      · have z':=(if_neg hb).symm.trans z
        rcases HTat b with y | ⟨p,hp,rfl,y⟩
        · rw [y] at z'; cases z'
        · rw [y] at z'; cases z'; exact tabH hp
    · by_cases hb:b=a
      · exact .inr (.inl ⟨hb,_,_,if_pos hb⟩)
      · rcases HTat b with y | ⟨p,hp,e,y⟩
        · exact .inl ((if_neg hb).trans y)
        · exact .inr (.inr ⟨p,hp,e,_,(if_neg hb).trans y⟩)
    · obtain ⟨t,m,e⟩:=HTok p hp
      exact ⟨t,m,(if_neg (na p hp)).trans e⟩
end L2
namespace L2
open PySem PySem.Spec PyProof.Rows
theorem walk_of {l:PySem.W.OpenLaw} {n k:Nat} {q:Program} {loose:List Str} {XP:(Str→Option Value)→Heap→Prop} {YP:World→Heap→Prop} {d:DefRec} {K:Params→PySem.W.Frag} {CX:World→CXT} {sp:World→Sp} {x:Str}
    (hn:l.most=some n) (hn2:n≤sizeLine) (hdf:d.params.defaults=[]) (hr:Room k callerA)
    (hY:∀ (w:World) (h:Heap),YP w h→(K w.params).In h) (hT:∀ (w:World) (h:Heap),YP w h→(∀ p∈tabsOf (K w.params),h.get? p.1=some (PySem.W.tabObj #[]))∧tabsUq (K w.params)=true)
    (F:∀ (w:World) (mg:Str→Option Value) (fa:Addr) (h:Heap),(K w.params).In h→h.Ns mainGlobals mg→mg d.name=some (.ref fa) →
      ∃ fd:FuncData,(∀ (s:Shared) (u:Value),BindsTo s fd ⟨[u],[]⟩ [(x,u)]) ∧
        ∀ base:Heap,(K w.params).In base→base.Ns mainGlobals mg→FnOk l.prog w (K w.params) mg base (CX w) k fa fd [x] (sp w))
    (hsp:∀ (w:World) (H:Hp) (a:Addr) (ns:List Int),ns.length≤n→SqL (K w.params) H a (ns.map V.int)→sp w [.ref a] H (fun v _=>v=.bl true) fun _ _ _=>False)
    (hCX:∀ (w:World) (H:Hp) (s:Shared) (e:Value) (s':Shared),CX w [] H s (fun _ _ _=>False) e s'→False) :
    PySem.W.WalkO q loose XP YP l.row.toRowW d [] (fun f vs=>PySem.call f vs):=by
  refine Att.attach_call hn hdf fun w s₀ s₁ mg mb fa o pm cd doc a vs ns G Y ho hd hcd hmg hobj hints hlen hg=>?_
  have KX:=hY w _ Y
  obtain ⟨fd,hb,hF⟩:=F w mg fa _ KX G.T.g hmg
  exact law_call KX (hT w _ Y) G.T.bmain G.T.g G.T.b G.T.builtins G.T.nolimit hg hobj hints (Nat.le_trans hlen hn2) hr hF hb (fun H hS=>hsp w H a ns hlen hS) fun H e s'=>hCX w H s₁ e s'
end L2
namespace L2
open PySem PySem.Spec PyProof.Rows
def defArgs (s:Stmt):Arguments:=match s with
  | .FunctionDef _ a _ _ _ _ _ _ _ _=>a
  | _=>{ posonlyargs:=[],args:=[],vararg:=none,kwonlyargs:=[],kw_defaults:=[],kwarg:=none,defaults:=[] }
def defBody (s:Stmt):List Stmt:=match s with
  | .FunctionDef _ _ b _ _ _ _ _ _ _=>b
  | _=>[]
def defScope (s:Stmt):Scope:=match s with
  | .FunctionDef _ _ _ _ _ _ sc _ _ _=>sc
  | _=>{ kind:=.function,names:=[],isGenerator:=false,isCoroutine:=false }
abbrev CX0:CXT:=fun _ _ _ _ _ _=>False
abbrev E0:XK:=fun _ _ _=>False
theorem pass0 {X:Cx}:Passes CX0 X E0:=fun _ _ _ _ _ _ _ h=>h.elim
structure Fun (K:PySem.W.Frag) (x qual:Str) (st:Stmt) (f:Addr) (fd:FuncData):Prop where
  ex:∃ (oc:Value) (od:Option Addr) (kV doc pm:Value) (an:Option Addr) (cdv ct:Value) (osl:Array (Option Value)),
    fd=PySem.W.fnOf x qual (defArgs st) (defBody st) (defScope st) .none kV doc pm an cdv ct∧K.lookup f=some ⟨oc,od,.func fd,osl⟩∧PySem.W.codeIn K cdv qual=true
  kp:PySem.W.keepIn K (.ref f)=true
section
variable {P:Program} {w:World} {K:PySem.W.Frag} {mg:Str→Option Value} {base:Heap}
theorem Fun.ok {x qual:Str} {st:Stmt} {f:Addr} {fd:FuncData} {N ps:List Str} {k:Nat} {sp:Sp} (F:Fun K x qual st f fd) (S:FnScope N ps (defScope st)) (len:∀ vs H Q E,sp vs H Q E→vs.length=ps.length)
    (hbody:∀ (cdv:Value) (A:Around) (outer:List Env) (s:Shared) (H:Hp) (vs:List V) (Q:VK) (E:XK),Room k (A.deeper (envOfC qual (defScope st) s.heap.objs.size f cdv))→sp vs H Q E →
      ∃ t,PSs (cxOf CX0 P w K mg base N qual (defScope st) f cdv A outer s H E).nox (defBody st) t∧t { nx:=fun _ H'=>Q .non H',rt:=Q } (start N vs) H):FnOk P w K mg base CX0 (k + 1) f fd ps sp:=by
  obtain ⟨oc,od,kV,doc,pm,an,cdv,ct,osl,rfl,lk,hcd⟩:=F.ex
  refine fn_of lk hcd S len fun A outer s H vs Q E hr hsp=>?_
  obtain ⟨t,h,q⟩:=hbody cdv A outer s H vs Q E hr hsp
  exact ⟨t,h.nox,q⟩
theorem Fun.binds {x qual:Str} {st:Stmt} {f:Addr} {fd:FuncData} {ps:List Str} (F:Fun K x qual st f fd)
    (h:∀ (kV doc pm:Value) (an:Option Addr) (cdv ct:Value) (us:List Value),us.length=ps.length→bindArgs (PySem.W.fnOf x qual (defArgs st) (defBody st) (defScope st) .none kV doc pm an cdv ct) ⟨us,[]⟩=pure (ps.zip us)):Binds K fd ps []:=by
  obtain ⟨oc,od,kV,doc,pm,an,cdv,ct,osl,rfl,lk,hcd⟩:=F.ex
  exact .all (h kV doc pm an cdv ct)
theorem fun_mk {x qual:Str} {st:Stmt} {f:Addr} {oc:Value} {od an:Option Addr} {osl:Array (Option Value)} {kV doc pm cdv ct:Value} (l:K.lookup f=some ⟨oc,od,.func (PySem.W.fnOf x qual (defArgs st) (defBody st) (defScope st) .none kV doc pm an cdv ct),osl⟩)
    (c:PySem.W.codeIn K cdv qual=true) (k:PySem.W.keepIn K (.ref f)=true):Fun K x qual st f (PySem.W.fnOf x qual (defArgs st) (defBody st) (defScope st) .none kV doc pm an cdv ct):=⟨⟨oc,od,kV,doc,pm,an,cdv,ct,osl,rfl,l,c⟩,k⟩
end
theorem hu_of {A:Around} {k:Nat} (hr:Room k A):A.units + 1 < cLine:=Nat.lt_of_le_of_lt (Nat.add_le_add_left (by decide:1≤64) _) hr.units
section
variable {X:Cx}
theorem pv (i:Nat) {x:Str} {pos:Pos} (hN:X.N[i]?=some x:=by rfl) (hv:Vis X.env.scope x:=by first | exact Or.inl rfl | exact Or.inr (Or.inl rfl) | exact Or.inr (Or.inr rfl)) (hd:(x == ("__debug__" : Str))=false:=by decide)
    (hcd:(x == ("__classdict__" : Str))=false:=by decide):PE X (.Name x pos) (tVar i):=pe_var hN hv hd hcd
end
theorem iteF {A B:Prop} (h:B):if false=true then A else B:=by
  rw [if_neg Bool.false_ne_true]
  exact h
theorem iteT {A B:Prop} (h:A):if true=true then A else B:=by
  rw [if_pos rfl]
  exact h
def Same (H H':Hp):Prop:=∀ b o,H b=some o→H' b=some o
theorem Same.refl (H:Hp):Same H H:=fun _ _ h=>h
theorem Same.trans {H H1 H2:Hp} (a:Same H H1) (b:Same H1 H2):Same H H2:=fun c o h=>b c o (a c o h)
theorem Same.free {H H':Hp} (e:Same H H') {l:Addr} (h:H' l=Option.none):H l=Option.none:=by
  cases q:H l with
  | none=>rfl
  | some o =>
    rw [e l o q] at h
    cases h
theorem Same.seq {K:PySem.W.Frag} {H H':Hp} {a:Addr} {xs:List V} (e:Same H H') (h:SqL K H a xs):SqL K H' a xs:=by
  rcases h with (h | ⟨o,h⟩) | h
  · exact .inl (.inl (e _ _ h))
  · exact .inl (.inr ⟨o,e _ _ h⟩)
  · exact .inr h
end L2
set_option maxHeartbeats 1000000
namespace Sh
abbrev co (a b:Int):Prop:=Int.gcd a b=1
def pl (a b c d:Int):Int×Int :=
  let g:Int:=(Int.gcd b d:Nat)
  let t:=a * (d / g) + c * (b / g)
  let r:Int:=(Int.gcd t g:Nat)
  (t / r,(b / g) * (d / r))
end Sh
namespace Sh
theorem pow_mono {m n:Nat} (h:m≤n):2 ^ m≤2 ^ n:=Nat.pow_le_pow_right (by decide) h
theorem up {a:Int} {m n:Nat} (h1:a.natAbs < 2 ^ m) (h:m≤n):a.natAbs < 2 ^ n:=Nat.lt_of_lt_of_le h1 (pow_mono h)
end Sh
namespace Wd
end Wd
namespace Wd
def rng (n:Nat):List Int:=(List.range n).map fun (i:Nat)=>(i:Int)
def nxt:List Int→List Int→Option (List Int)
  | s :: r,d :: e=>if d + 1 < s then some ((d + 1) :: e) else (nxt r e).map fun x=>0 :: x
  | _,_=>none
end Wd
namespace L2
open PySem PySem.Spec PyProof.Rows PySem.SeqAt
section
variable {X:Cx}
theorem op_mulB:OpR X (binaryOp .Mult) (rI IntMulOk fun i j=>.int (i * j)):=opI fun _ _ _ _ _ _ _ hc q=>mul_int q hc
mutual
inductive Dp (K:PySem.W.Frag) (H:Hp):V→PyData→Prop
  | non:Dp K H .non .none
  | bl (b:Bool):Dp K H (.bl b) (.bool b)
  | int (i:Int):Dp K H (.int i) (.int i)
  | str (x:Str):Dp K H (.str x) (.str x)
  | lst {a:Addr} {xs:List V} {ds:List PyData}:SqL K H a xs→DpAll K H xs ds→Dp K H (.ref a) (.list ds)
  | tup {a:Addr} {xs:List V} {ds:List PyData}:SqT K H a xs→DpAll K H xs ds→Dp K H (.ref a) (.tuple ds)
inductive DpAll (K:PySem.W.Frag) (H:Hp):List V→List PyData→Prop
  | nil:DpAll K H [] []
  | cons {v:V} {vs:List V} {d:PyData} {ds:List PyData}:Dp K H v d→DpAll K H vs ds→DpAll K H (v :: vs) (d :: ds)
end
mutual
theorem Dp.reads {pins:List (Addr×Obj)} {σ:St} {H:Hp} {s:Shared} (I:Inv X pins σ H s):∀ {x:V} {d:PyData} {u:Value},Dp X.K H x d→RelV x u→∃ as,Reads s.heap u d as
  | _,_,u,.non,r=>by cases (show u=Value.none from r); exact ⟨_,.none⟩
  | _,_,u,.bl b,r=>by cases (show u=Value.bool b from r); exact ⟨_,.bool b⟩
  | _,_,u,.int i,r=>by obtain ⟨t,e⟩:=(show ∃ t,u=Value.int i t from r); subst e; exact ⟨_,.int i t⟩
  | _,_,u,.str x,r=>by obtain ⟨t,e⟩:=(show ∃ t,u=Value.str x t from r); subst e; exact ⟨_,.str x t⟩
  | _,_,u,@Dp.lst _ _ a xs ds h k,r=>by
    cases (show u=Value.ref a from r)
    obtain ⟨its,rv,⟨o,n,e,c,_,d⟩,_⟩:=I.list h
    obtain ⟨as,ra⟩:=DpAll.reads I k rv
    exact ⟨_,.list e c d (by simpa using ra)⟩
  | _,_,u,@Dp.tup _ _ a xs ds h k,r=>by
    cases (show u=Value.ref a from r)
    obtain ⟨its,rv,⟨o,e,c,n,d⟩,_⟩:=I.tuple h
    obtain ⟨as,ra⟩:=DpAll.reads I k rv
    exact ⟨_,.tuple e c d (by simpa using ra)⟩
theorem DpAll.reads {pins:List (Addr×Obj)} {σ:St} {H:Hp} {s:Shared} (I:Inv X pins σ H s):∀ {xs:List V} {ds:List PyData} {us:List Value},DpAll X.K H xs ds→Vals xs us→∃ as,ReadsAll s.heap us ds as
  | _,_,_,.nil,.nil=>⟨_,.nil⟩
  | _,_,_,.cons h k,.cons r t=>by
    obtain ⟨as,ra⟩:=Dp.reads I h r
    obtain ⟨bs,rb⟩:=DpAll.reads I k t
    exact ⟨_,.cons ra rb⟩
end
def rEqD (K:PySem.W.Frag) (neg:Bool):R2:=fun x y H Q=>∃ d e,Dp K H x d∧Dp K H y e∧shaped d=true∧shaped e=true∧Q (.bl (if neg then !PyData.eqv d e else PyData.eqv d e)) H
theorem op_eqD (hu:X.A.units + 64 < cLine):OpR X (compareOp .Eq) (rEqD X.K false):=by
  intro pins s σ H x y v u Q I rx ry h
  obtain ⟨d,e,h1,h2,z1,z2,q⟩:=h
  obtain ⟨as,ra⟩:=h1.reads I rx
  obtain ⟨bs,rb⟩:=h2.reads I ry
  exact eq_dataH ra rb z1 z2 hu ⟨.bl (PyData.eqv d e),H,I,rfl,q⟩
end
section
variable {X:Cx}
end
end L2
namespace L2
open PySem PySem.Spec PyProof.Rows
def Cx.blk (X:Cx) (N:List Str) (scope:Scope) (cl:List (Str×Addr)) (C:Addr) (s:Shared) (H:Hp) (fp:List Addr):Cx :=
  { X with N:=N,s₀:=s,H₀:=H,env:=compEnvC scope cl C X.env,outer:=X.stack,stack:=X.stack,ex:=fp,fn:=fun _=>false,pn:=[],xe:=fun _ _=>False }
def capt (js:List (Option Nat)) (σ:St):St:=js.map fun o=>match o with | none=>none | some j=>(σ[j]?).join
structure CompOk (X:Cx) (N:List Str) (scope:Scope) (cl:List (Str×Addr)) (js:List (Option Nat)):Prop where
  clos:closureFor scope X.env=pure cl
  nocell:∀ y∈scope.names,y.2≠.cell
  kind:scope.kind=.function
  names:∀ y∈scope.names,y.2=.local→scope.names.lookup y.1=some .local
  cells:∀ p∈cl,X.env.cells.lookup p.1=some p.2
  has:∀ y∈scope.names,y.2=.free→(cl.lookup y.1).isSome=true
  len:js.length=N.length
  cap:∀ (i j:Nat),js[i]?=some (some j)→∃ x,N[i]?=some x∧X.N[j]?=some x∧scope.names.lookup x=some .free∧(X.env.scope.names.lookup x=some .cell∨X.env.scope.names.lookup x=some .free)
def Sub (σ σ':St):Prop:=σ.length=σ'.length∧∀ (i:Nat) v,σ[i]?=some (some v)→σ'[i]?=some (some v)
theorem Sub.set {σ:St} {i:Nat} {x:Option V} (h:σ[i]?=some none):Sub σ (σ.set i x):=by
  refine ⟨by simp,fun j v e=>?_⟩
  have ne:j≠i:=by rintro rfl; rw [h] at e; cases e
  rw [List.getElem?_set_ne (Ne.symm ne)]
  exact e
theorem Sub.trans {a b c:St} (h:Sub a b) (k:Sub b c):Sub a c:=⟨h.1.trans k.1,fun i v e=>k.2 i v (h.2 i v e)⟩
theorem relabel_free {env:Env} (hk:env.scope.kind=.function):∀ {names:List (Str×NameKind)} {x:Str},names.lookup x=some .free→env.scope.names.lookup x=some .cell →
    (names.map fun (n,k)=>if (k == NameKind.free && env.scope.kind == .function && env.kindOf n == some .cell) then (n,NameKind.cell) else (n,k)).lookup x=some .cell
  | [],_,h,_=>by simp at h
  | (n,k) :: r,x,h,hc=>by
    have ih:=@relabel_free env hk r x
    show List.lookup x ((if (k == NameKind.free && env.scope.kind == .function && env.kindOf n == some .cell)=true then (n,NameKind.cell) else (n,k)) :: _)=_
    cases hx:x == n with
    | true =>
      have e:x=n:=by simpa using hx
      subst e
      simp only [List.lookup_cons,hx] at h
      cases h
      have c:(NameKind.free == NameKind.free && env.scope.kind == .function && env.kindOf x == some .cell)=true:=by
        have q:env.kindOf x=some .cell:=hc
        rw [hk,q]; rfl
      rw [if_pos c,List.lookup_cons,hx]
    | false =>
      simp only [List.lookup_cons,hx] at h
      by_cases hcc:(k == NameKind.free && env.scope.kind == .function && env.kindOf n == some .cell)=true
      · rw [if_pos hcc,List.lookup_cons,hx]; exact ih h hc
      · rw [if_neg hcc,List.lookup_cons,hx]; exact ih h hc
theorem relabel_keep {env:Env}:∀ {names:List (Str×NameKind)} {x:Str},names.lookup x=some .free→env.scope.names.lookup x=some .free →
    (names.map fun (n,k)=>if (k == NameKind.free && env.scope.kind == .function && env.kindOf n == some .cell) then (n,NameKind.cell) else (n,k)).lookup x=some .free
  | [],_,h,_=>by simp at h
  | (n,k) :: r,x,h,hc=>by
    have ih:=@relabel_keep env r x
    show List.lookup x ((if (k == NameKind.free && env.scope.kind == .function && env.kindOf n == some .cell)=true then (n,NameKind.cell) else (n,k)) :: _)=_
    cases hx:x == n with
    | true =>
      have e:x=n:=by simpa using hx
      subst e
      simp only [List.lookup_cons,hx] at h
      cases h
      have q:env.kindOf x=some .free:=hc
      rw [if_neg (by rw [q]; simp),List.lookup_cons,hx]
    | false =>
      simp only [List.lookup_cons,hx] at h
      by_cases hcc:(k == NameKind.free && env.scope.kind == .function && env.kindOf n == some .cell)=true
      · rw [if_pos hcc,List.lookup_cons,hx]; exact ih h hc
      · rw [if_neg hcc,List.lookup_cons,hx]; exact ih h hc
theorem relabel_back {env:Env}:∀ {names:List (Str×NameKind)} {x:Str},(∀ y∈names,y.2≠.cell) →
    ((names.map fun (n,k)=>if (k == NameKind.free && env.scope.kind == .function && env.kindOf n == some .cell) then (n,NameKind.cell) else (n,k)).lookup x=some .cell ∨
     (names.map fun (n,k)=>if (k == NameKind.free && env.scope.kind == .function && env.kindOf n == some .cell) then (n,NameKind.cell) else (n,k)).lookup x=some .free)→∃ y∈names,y.1=x∧y.2=.free
  | [],_,_,h=>by simp at h
  | (n,k) :: r,x,hn,h=>by
    have ih:=@relabel_back env r x (fun y hy=>hn y (List.mem_cons_of_mem _ hy))
    have h':List.lookup x ((if (k == NameKind.free && env.scope.kind == .function && env.kindOf n == some .cell)=true then (n,NameKind.cell) else (n,k)) :: (r.map fun (n,k)=>if (k == NameKind.free && env.scope.kind == .function && env.kindOf n == some .cell) then (n,NameKind.cell) else (n,k)))=some .cell ∨
      List.lookup x ((if (k == NameKind.free && env.scope.kind == .function && env.kindOf n == some .cell)=true then (n,NameKind.cell) else (n,k)) :: (r.map fun (n,k)=>if (k == NameKind.free && env.scope.kind == .function && env.kindOf n == some .cell) then (n,NameKind.cell) else (n,k)))=some .free:=h
    cases hx:x == n with
    | true =>
      have e:x=n:=by simpa using hx
      subst e
      by_cases hcc:(k == NameKind.free && env.scope.kind == .function && env.kindOf x == some .cell)=true
      · have kf:k=.free:=by
          cases k <;> first | rfl | (simp at hcc)
        exact ⟨(x,k),List.mem_cons_self,rfl,kf⟩
      · rw [if_neg hcc] at h'
        simp only [List.lookup_cons,hx] at h'
        rcases h' with q | q
        · cases q; exact absurd rfl (hn (x,.cell) List.mem_cons_self)
        · cases q; exact ⟨(x,.free),List.mem_cons_self,rfl,rfl⟩
    | false =>
      by_cases hcc:(k == NameKind.free && env.scope.kind == .function && env.kindOf n == some .cell)=true
      · rw [if_pos hcc] at h'
        simp only [List.lookup_cons,hx] at h'
        obtain ⟨y,hy,e⟩:=ih h'
        exact ⟨y,List.mem_cons_of_mem _ hy,e⟩
      · rw [if_neg hcc] at h'
        simp only [List.lookup_cons,hx] at h'
        obtain ⟨y,hy,e⟩:=ih h'
        exact ⟨y,List.mem_cons_of_mem _ hy,e⟩
section
variable {X:Cx} {N:List Str} {scope:Scope} {cl:List (Str×Addr)} {js:List (Option Nat)} {pins:List (Addr×Obj)} {σ:St} {H:Hp} {s:Shared} {fp:List Addr}
theorem blk_start (K:CompOk X N scope cl js) (I:Inv X pins σ H s) (hf:∀ b∈fp,FpOk X pins H b) (hlt:∀ b∈fp,b < s.heap.objs.size) {h1:Heap} {m1:Str→Option Value} {tk:Nat} (hn:h1.Ns s.heap.objs.size m1)
    (hk:∀ b o,s.heap.get? b=some o→h1.get? b=some o) :
    Inv (X.blk N scope cl s.heap.objs.size s H fp) [] (capt js σ) H { s with heap:=h1,toks:=tk }:=by
  have bigC:∀ b∈fp,b≠s.heap.objs.size:=fun b hb=>Nat.ne_of_lt (hlt b hb)
  have hcl:∀ x c,cl.lookup x=some c→X.env.cells.lookup x=some c:=fun x c e=>K.cells (x,c) (PySem.mem_of_lookup e)
  refine ⟨⟨I.ok.mod,K.kind,I.ok.glob,I.ok.blt,Nat.le_refl _,fun x y c e1 e2=>I.ok.inj x y c (hcl x c e1) (hcl y c e2),fun x hx=>?_,fun x c z _=>absurd z (by intro q; cases q),I.ok.hd,I.ok.frames,.inl rfl,fun b hb=>⟨bigC b hb,fun x c e=>(hf b hb).2.2.2.2.1 x c (hcl x c e)⟩,
    I.bs,Nat.le_trans I.ok.bsz I.sz,fun b o e hb=>?_,fun b hb z=>?_,I.stack,I.stkFree,I.ok.tb.un I.base⟩,rfl,I.bare,Un.kept hk,⟨m1,hn,fun i x v e1 e2 e3=>?_⟩,fun x c e=>?_,I.hok.fresh (Nat.le_refl _),fun x c e=>(I.freeC x c (hcl x c e)).imp id fun z=>⟨rfl,z.2⟩,fun p hp=>absurd (show p∈([]:List (Addr×Obj)) from hp) (by simp),I.hok.kept hk,?_⟩
  · obtain ⟨y,hy,e1,e2⟩:=relabel_back K.nocell hx
    have q:=K.has y hy e2
    rw [e1] at q
    exact Option.isSome_iff_exists.mp q
  · rcases (hf b hb).2.2.2.1 with z | z
    · exact I.ok.noex b o e z
    · exact absurd (Nat.lt_of_lt_of_le (Heap.lt_size e) (Nat.le_trans I.ok.bsz z)) (Nat.lt_irrefl _)
  · rcases List.mem_cons.mp (I.stkSub b z) with q | q
    · exact (hf b hb).2.1 q
    · exact (hf b hb).2.2.1 q
  ·
    have hi:(capt js σ)[i]?=some (some v):=e2
    unfold capt at hi
    rw [List.getElem?_map] at hi
    cases ej:js[i]? with
    | none=>rw [ej] at hi; cases hi
    | some o =>
      rw [ej] at hi
      cases o with
      | none=>cases hi
      | some j =>
        obtain ⟨y,h1',h2',h3',h4'⟩:=K.cap i j ej
        have e1':N[i]?=some x:=e1
        rw [h1'] at e1'
        cases e1'
        have hj:σ[j]?=some (some v):=by
          cases q:σ[j]? with
          | none=>have hi':(Option.join σ[j]?)=some v:=Option.some.inj hi; rw [q] at hi'; cases hi'
          | some w=>have hi':(Option.join σ[j]?)=some v:=Option.some.inj hi; rw [q] at hi'; cases w with
            | none=>cases hi'
            | some w=>exact congrArg some hi'
        obtain ⟨m,_,hl⟩:=I.loc
        obtain ⟨u,r,l⟩:=hl j x v h2' hj (.inr h4')
        refine ⟨u,r,.inr ⟨h4'.imp (fun z=>relabel_free I.ok.kind h3' z) (fun z=>relabel_keep h3' z),?_⟩⟩
        rcases l with ⟨k,_⟩ | ⟨_,c,ec,hc⟩
        · rcases h4' with h4' | h4' <;> exact absurd (k.symm.trans h4') (by intro z; cases z)
        · obtain ⟨c',ec'⟩:=Option.isSome_iff_exists.mp (K.has (x,.free) (PySem.mem_of_lookup h3') rfl)
          have e3':=hcl x c' ec'
          rw [ec] at e3'
          cases e3'
          exact ⟨c,ec',hc.keeps hk⟩
  · obtain ⟨v,hv⟩:=I.cell x c (hcl x c e)
    exact ⟨v,hv.keeps hk⟩
  · show (capt js σ).length=N.length
    unfold capt
    rw [List.length_map]
    exact K.len
theorem blk_end {σ':St} {H':Hp} {s':Shared} {h':Heap} (I:Inv X pins σ H s) (hf:∀ b∈fp,FpOk X pins H b) (J:Inv (X.blk N scope cl s.heap.objs.size s H fp) [] σ' H' s') (hs:Heap.SameBut s.heap.objs.size s'.heap h') :
    Inv X pins σ H' { s' with heap:=h' }:=by
  have neC:∀ b o,s.heap.get? b=some o→b≠s.heap.objs.size:=fun b o e=>Nat.ne_of_lt (Heap.lt_size e)
  have u:=J.base
  have u':Un (frs X.stack) fp H H' s.heap s'.heap:=u
  refine I.call' (s':={ s' with heap:=h' }) (ch:=fp) J.os ⟨fun b o e n hb hx=>?_,fun b o e n hb hx=>?_,u'.free,fun b o e hx=>?_,u'.tups,u'.frzs,u'.tbls⟩ (fun b ob e=>?_) J.bare fun b hb=>?_
  · exact (hs.2 b (neC b o e)).trans (u'.keep b o e n hb hx)
  · obtain ⟨sl,q⟩:=u'.slot b o e n hb hx
    exact ⟨sl,(hs.2 b (neC b o e)).trans q⟩
  · obtain ⟨o',q⟩:=u'.there b o e hx
    exact ⟨o',(hs.2 b (neC b o e)).trans q⟩
  · have hfree:H' s.heap.objs.size=none:=J.free
    refine (J.hok b ob e).stay (fun c w' hc q=>(hs.2 c ?_).trans q) (fun _ q=>q) fun _ _ q=>q
    rintro rfl
    rcases hc with rfl | hc
    · rw [hfree] at e; cases e
    · rw [hfree] at hc; cases hc
  · obtain ⟨f0,f1,f2,f3,f4,f5⟩:=hf b hb
    exact ⟨f3,f1,f4,f5⟩
end
end L2
namespace L2
open PySem PySem.Spec PyProof.Rows
def PIf (X:Cx) (ifs:List Expr) (t:TT):Prop :=
  ∀ (pins:List (Addr×Obj)) (s:Shared) (σ:St) (H:Hp) (Q:Bool→Hp→Prop),Inv X pins σ H s→t σ H Q →
    wpAny (model X.prog X.w) X.A (forIn ifs true fun c r=>if r=true then (do let ok ← isTrue c X.env (eval c X.env); pure (ForInStep.yield ok)) else pure (ForInStep.yield r)) (TP X pins σ Q) X.xe s
def tYes:TT:=fun _ H Q=>Q true H
theorem pif_nil {X:Cx}:PIf X [] tYes:=fun _ _ _ H _ I h=>wpAny_tests_nil ⟨H,I,h⟩
theorem pif_one {X:Cx} {c:Expr} {t:TT} (h:PT X c t):PIf X [c] t:=fun pins s σ H Q I q=>wpAny_tests_one (h pins s σ H Q I q)
def compR (J:It) (g:TG) (tt:TT) (te:TE) (σc:St) (Q:VK) (H1:Hp):Prop:=∀ D,H1 D=none →
  ∃ W:Nat→Nat→List V→Hp→Prop,(∃ m,W 0 m [] (upd H1 D (.lst [])))∧∀ i m ys H,W i m ys H →
    (J.stop i H∧Q (.ref D) H) ∨
    (J.go i H∧∃ N:List V→Hp→Prop,(∀ zs H',N zs H'→∃ m',m' < m∧W (i + 1) m' zs H')∧∀ x H',J.yld i H x H'→g x σc H' fun σ2 H2=>Sub σc σ2∧tt σ2 H2 fun b H3 =>
      if b=true then te σ2 H3 fun v H4=>H4 D=some (.lst ys)∧ys.length < sizeLine∧N (ys ++ [v]) (upd H4 D (.lst (ys ++ [v]))) else N ys H3)
def tComp (js:List (Option Nat)) (wi:TI) (g:TG) (tt:TT) (te:TE):TE:=fun σ H Q=>wi σ H fun J H1=>compR J g tt te (capt js σ) Q H1
section
variable {prog:Program} {w:World} {A:Around} {R:Result→Shared→Prop} {s:Shared}
theorem comp_loop {elt tg iter:Expr} {ifs:List Expr} {scope:Scope} {pos:Pos} {it acc:Value} {env:Env} (Iv:Nat→Shared→Prop) (F:Value→Shared→Prop) (hF:∀ e s,¬ F e s)
    (turn:∀ n s,Iv n s→wpAny (model prog w) A (pyNext it) (fun r s1=>(r=none→R (.ok .next) s1)∧∀ v,r=some v →
      wpAny (model prog w) A (letOwnedTupleGo tg it v) (fun _ s2=>wpAny (model prog w) A (assign tg env v) (fun _ s3 =>
        wpAny (model prog w) A (forIn ifs true fun c r=>if r=true then (do let ok ← isTrue c env (eval c env); pure (ForInStep.yield ok)) else pure (ForInStep.yield r)) (fun ok s4 =>
          (ok=false→∃ m,m < n∧Iv m s4)∧(ok=true→wpAny (model prog w) A (eval elt env) (fun x s5=>wpAny (model prog w) A (call (.builtin "list.append") [acc,x]) (fun _ s6=>∃ m,m < n∧Iv m s6) F s5) F s4)) F s3) F s2) F s1) F s)
    (n:Nat) (h:Iv n s):codeAny (model prog w) A (.compLoop (.ListComp elt [⟨tg,iter,ifs,0⟩] scope pos) 0 it acc env) R s:=by
  refine codeAny_loop rfl Iv (fun n s hI=>?_) n h
  show wpAny _ A (Sem.onRaise (compTurn (.ListComp elt [⟨tg,iter,ifs,0⟩] scope pos) 0 it acc env) (fun x=>do noteFrame x env; theTreesLotGoes x)) _ _ s
  refine wpAny_noted ?_
  rw [compTurn_list]
  have ff:∀ {E:Value→Shared→Prop} (e:Value) (s:Shared),F e s→E e s:=fun e s z=>(hF e s z).elim
  refine wpAny_bind (wpAny_standAt (wpAny_bind (wpAny_mono (turn n s hI) (fun r s1 h1=>?_) ff)))
  obtain ⟨h0,h1⟩:=h1
  cases r with
  | none=>exact wpAny_pure (h0 rfl)
  | some v =>
    refine wpAny_bind (wpAny_mono (h1 v rfl) (fun _ s2 h2=>?_) ff)
    refine wpAny_bind (wpAny_mono h2 (fun _ s3 h3=>?_) ff)
    refine wpAny_bind (wpAny_mono h3 (fun ok s4 h4=>?_) ff)
    cases ok with
    | false=>exact wpAny_pure ⟨rfl,h4.1 rfl⟩
    | true =>
      refine wpAny_bind (wpAny_bind (wpAny_mono (h4.2 rfl) (fun x s5 h5=>?_) ff))
      exact wpAny_bind (wpAny_mono h5 (fun _ s6 h6=>wpAny_pure (wpAny_pure ⟨rfl,h6⟩)) ff)
end
section
variable {X:Cx} {N:List Str} {scope:Scope} {cl:List (Str×Addr)} {js:List (Option Nat)} {pins:List (Addr×Obj)} {σ:St} {H:Hp} {s:Shared}
theorem comp_core {elt tg iter:Expr} {ifs:List Expr} {pos:Pos} {J:It} {fp:List Addr} {it:Addr} {tn:Nat→Heap→Prop} {g:TG} {tt:TT} {te:TE} {Q:VK} {E:Value→Shared→Prop} {RR:Value→Addr→Result→Shared→Prop}
    (hc:X.calm=true) (K:CompOk X N scope cl js) (I:Inv X pins σ H s) (T:Turn X.prog X.w X.K tg J fp it tn) (st:tn 0 s.heap) (hf:∀ b∈fp,FpOk X pins H b)
    (hg:∀ C s H fp,PG (X.blk N scope cl C s H fp) tg g) (ht:∀ C s H fp,PIf (X.blk N scope cl C s H fp) ifs tt) (he:∀ C s H fp,PE (X.blk N scope cl C s H fp) elt te)
    (hq:compR J g tt te (capt js σ) Q H)
    (hRR:∀ (D:Addr) (s3 s':Shared) (H':Hp) (σ':St),Inv X pins σ (upd H D (.lst [])) s3→(∀ b∈fp,FpOk X pins (upd H D (.lst [])) b)→Inv (X.blk N scope cl s3.heap.objs.size s3 (upd H D (.lst [])) fp) [] σ' H' s'→Q (.ref D) H'→RR (.ref D) s3.heap.objs.size (.ok .next) s') :
    wpAny (model X.prog X.w) X.A (newList []) (fun acc s3=>wpAny (model X.prog X.w) X.A (newFunctionEnv scope X.env.globals cl [] X.env.qual none .none (some X.env)) (fun cenv s4 =>
      codeAny (model X.prog X.w) X.A (.compStart (.ListComp elt [⟨tg,iter,ifs,0⟩] scope pos) 0 (.ref it) acc { cenv with scope:=relabel scope X.env }) (RR acc cenv.locals) s4) E s3) E s:=by
  have fresh:H s.heap.objs.size=none:=I.fresh
  have lt:∀ b∈fp,b < s.heap.objs.size:=fun b hb=>by
    obtain ⟨o,e,_⟩:=T.obj _ _ st b hb
    exact Heap.lt_size e
  obtain ⟨W,⟨m0,w0⟩,step⟩:=hq _ fresh
  refine wpAny_newObj_type ?_
  have I3:=I.lnew (ys:=[]) (its:=[]) (t':=s.toks) .nil (Nat.zero_le _)
  have f3:∀ b∈fp,FpOk X pins (upd H s.heap.objs.size (.lst [])) b:=fun b hb=>⟨by rw [upd_ne (Nat.ne_of_lt (lt b hb))]; exact (hf b hb).1,(hf b hb).2⟩
  generalize e3:({ s with heap:=s.heap.push { cls:=.type "list", data:=.seq ([]:List Value).toArray },toks:=s.toks }:Shared)=s3 at I3
  have st3:tn 0 s3.heap:=by
    rw [← e3]
    exact T.keep _ _ _ st fun b _ o e=>Heap.get?_push_of_some _ e
  have lt3:∀ b∈fp,b < s3.heap.objs.size:=fun b hb=>by
    obtain ⟨o,e,_⟩:=T.obj _ _ st3 b hb
    exact Heap.lt_size e
  refine wpAny_newFunctionEnv K.nocell (by intro y hy; simp at hy) (fun h4 n4 k4=>?_) K.kind
  have old:∀ b o,s3.heap.get? b=some o→h4.get? b=some o:=fun b o e=>(k4.2 b (Nat.ne_of_lt (Heap.lt_size e))).trans (Heap.get?_push_of_some _ e)
  have I4:=blk_start K I3 f3 lt3 (tk:=s3.toks + ([]:List (Str×Value)).length) n4 old
  have st4:tn 0 h4:=T.keep _ _ _ st3 fun b _ o e=>old b o e
  have fpB:∀ {H':Hp},(∀ b∈fp,H' b=none)→∀ b∈fp,FpOk (X.blk N scope cl s3.heap.objs.size s3 (upd H s.heap.objs.size (.lst [])) fp) [] H' b:=fun hn b hb =>
    ⟨hn b hb,Nat.ne_of_lt (lt3 b hb),fun z=>(List.mem_cons.mp (I3.stkSub b z)).elim (f3 b hb).2.1 (f3 b hb).2.2.1,.inl hb,fun x c e=>(f3 b hb).2.2.2.2.1 x c (K.cells (x,c) (PySem.mem_of_lookup e)),fun p hp=>absurd (show p∈([]:List (Addr×Obj)) from hp) (by simp)⟩
  have loop:codeAny (model X.prog X.w) X.A (.compLoop (.ListComp elt [⟨tg,iter,ifs,0⟩] scope pos) 0 (.ref it) (.ref s.heap.objs.size) (compEnvC scope cl s3.heap.objs.size X.env)) (RR (.ref s.heap.objs.size) s3.heap.objs.size)
      ({ s3 with heap:=h4,toks:=s3.toks + ([]:List (Str×Value)).length }:Shared):=by
    refine comp_loop (fun n s'=>∃ i ys H',Inv (X.blk N scope cl s3.heap.objs.size s3 (upd H s.heap.objs.size (.lst [])) fp) [] (capt js σ) H' s'∧tn i s'.heap∧(∀ b∈fp,H' b=none)∧W i n ys H') (fun _ _=>False) (fun _ _ z=>z) ?_ m0
      ⟨0,[],_,I4,st4,fun b hb=>(f3 b hb).1,w0⟩
    rintro n s5 ⟨i,ys,H5,I5,st5,fr5,w5⟩
    rcases step i n ys H5 w5 with ⟨stop,qn⟩ | ⟨go,Nn,hN,nxt⟩
    · refine thn (T.done (X.blk N scope cl s3.heap.objs.size s3 (upd H s.heap.objs.size (.lst [])) fp) rfl rfl rfl hc i [] s5 (capt js σ) H5 _ I5 (fpB fr5) st5 stop) fun r s6 ⟨hr,I6⟩=>⟨fun _=>?_,fun v e=>?_⟩
      · exact hRR _ s3 s6 H5 _ I3 f3 I6 qn
      · rw [hr] at e; cases e
    · refine thn (T.item (X.blk N scope cl s3.heap.objs.size s3 (upd H s.heap.objs.size (.lst [])) fp) rfl rfl rfl hc i [] s5 (capt js σ) H5 _ I5 (fpB fr5) st5 go) fun r s6 ⟨u,hr,h6⟩=>⟨fun e=>?_,fun v e=>?_⟩
      · rw [hr] at e; cases e
      rw [hr] at e; cases e
      refine thn h6 fun _ s7 ⟨x,H7,I7,r7,y7,st7,fr7⟩=>?_
      have I7':=I7.pinned (fpB fr7) (T.obj _ _ st7)
      have back:∀ {σ':St} {H':Hp} {s':Shared} {i' n':Nat} {zs:List V},Inv (X.blk N scope cl s3.heap.objs.size s3 (upd H s.heap.objs.size (.lst [])) fp) ([] ++ pinsAt fp s7.heap) σ' H' s'→Sub (capt js σ) σ'→W (i + 1) n' zs H' →
          ∃ i ys H',Inv (X.blk N scope cl s3.heap.objs.size s3 (upd H s.heap.objs.size (.lst [])) fp) [] (capt js σ) H' s'∧tn i s'.heap∧(∀ b∈fp,H' b=none)∧W i n' ys H':=fun {σ' H' s' i' n' zs} I' sb w'=>by
        refine ⟨i + 1,zs,H',(I'.unpinned).weak sb.1 sb.2,T.keep _ _ _ st7 fun b hb o e=>(I'.pin (b,o) (List.mem_append_right _ (List.mem_append_right _ (mem_pinsAt hb e)))).1,fun b hb=>?_,w'⟩
        obtain ⟨o,e,_⟩:=T.obj _ _ st7 b hb
        exact (I'.pin (b,o) (List.mem_append_right _ (List.mem_append_right _ (mem_pinsAt hb e)))).2.1
      refine thn (hg _ _ _ _ _ s7 (capt js σ) H7 x _ _ I7' r7 (nxt x H7 y7)) fun _ s8 ⟨σ8,H8,I8,sb8,q8⟩=>?_
      refine thn (ht _ _ _ _ _ s8 σ8 H8 _ I8 q8) fun ok s9 ⟨H9,I9,q9⟩=>⟨fun e=>?_,fun e=>?_⟩
      · rw [e,if_neg Bool.false_ne_true] at q9
        obtain ⟨m',hm,w'⟩:=hN _ _ q9
        exact ⟨m',hm,back (i':=0) I9 sb8 w'⟩
      · rw [e,if_pos rfl] at q9
        refine thn (he _ _ _ _ _ s9 σ8 H9 _ I9 q9) fun xv sa ⟨v,Ha,Ia,ra,qa,za,nn⟩=>?_
        obtain ⟨m',hm,w'⟩:=hN _ _ nn
        refine thn (mt_append (X:=X.blk N scope cl s3.heap.objs.size s3 (upd H s.heap.objs.size (.lst [])) fp) _ sa σ8 Ha (.ref s.heap.objs.size) [v] (.ref s.heap.objs.size) [xv] (fun y H'=>H'=upd Ha s.heap.objs.size (.lst (ys ++ [v]))) Ia rfl (.cons ra .nil) ⟨_,ys,v,rfl,rfl,qa,za,rfl⟩) fun y sb ⟨z,Hb,Ib,_,eb⟩=>?_
        rw [eb] at Ib
        exact ⟨m',hm,back (i':=0) Ib sb8 w'⟩
  exact codeAny_compStart_list loop (T.self _ 0 _ _ _ st4 loop)
theorem pe_comp {elt tg iter:Expr} {ifs:List Expr} {pos:Pos} {wi:TI} {g:TG} {tt:TT} {te:TE} (hc:X.calm=true) (K:CompOk X N scope cl js) (hi:PI X tg iter wi)
    (hg:∀ C s H fp,PG (X.blk N scope cl C s H fp) tg g) (ht:∀ C s H fp,PIf (X.blk N scope cl C s H fp) ifs tt) (he:∀ C s H fp,PE (X.blk N scope cl C s H fp) elt te)
    (hs:∀ x,foldedSetIterable iter X.env x=pure x:=by intro _; rfl):PE X (.ListComp elt [⟨tg,iter,ifs,0⟩] scope pos) (tComp js wi g tt te):=by
  intro pins s σ H Q I h
  rw [eval_ListComp]
  refine wpAny_comprehension_free (use:=none) rfl hs K.clos K.kind K.names (thn (hi pins s σ H _ I h) fun v s1 h1=>thn h1 fun itv s2 h2=>?_)
  obtain ⟨it,fp,tn,J,H2,e,I2,T,st2,f2,hq⟩:=h2
  subst e
  refine comp_core (RR:=fun acc C=>compPost (model X.prog X.w) X.A X.xe none (EP X pins σ Q) acc C) hc K I2 T st2 f2 hg ht he hq ?_
  intro D s3 s' H' σ' I3 f3 J' q
  obtain ⟨m,hn,_⟩:=J'.loc
  exact ⟨m,hn,fun h'' hs''=>⟨.ref D,H',blk_end I3 f3 J' hs'',rfl,q⟩⟩
theorem ps_setComp {elt tg iter:Expr} {ifs:List Expr} {pos spos py:Pos} {i:Nat} {y:Str} {wi:TI} {g:TG} {tt:TT} {te:TE} (hc:X.calm=true) (hN:X.N.Nodup) (hiN:X.N[i]?=some y) (hy:X.env.scope.names.lookup y=some .local) (K:CompOk X N scope cl js) (hi:PI X tg iter wi)
    (hg:∀ C s H fp,PG (X.blk N scope cl C s H fp) tg g) (ht:∀ C s H fp,PIf (X.blk N scope cl C s H fp) ifs tt) (he:∀ C s H fp,PE (X.blk N scope cl C s H fp) elt te)
    (hsw:swapsWith (.ListComp elt [⟨tg,iter,ifs,0⟩] scope pos) (some (.Name y py)) spos.line X.env=pure true:=by rfl)
    (hs:∀ x,foldedSetIterable iter X.env x=pure x:=by intro _; rfl):PS X (.Assign [.Name y py] (.ListComp elt [⟨tg,iter,ifs,0⟩] scope pos) spos) (tAsg (tComp js wi g tt te) (gName i)):=by
  intro pins s σ H D I h
  rw [exec_Assign_Name_used _ _ _ _ hsw]
  refine wpAny_bind (wpAny_standAt (wpAny_bind ?_))
  show wpAny _ X.A (do let _ ← comprehension (.ListComp elt [⟨tg,iter,ifs,0⟩] scope pos) scope X.env _ (newList []) false (eval iter X.env) (some (assign (.Name y py) X.env))) _ _ s
  refine wpAny_bind (wpAny_mono (wpAny_comprehension_free (use:=some (assign (.Name y py) X.env)) (Q:=fun _ s'=>SP X pins D .next s') rfl hs K.clos K.kind K.names
    (thn (hi pins s σ H _ I h) fun v s1 h1=>thn h1 fun itv s2 h2=>?_)) (fun _ s' hq=>wpAny_pure (wpAny_pure hq)) fun _ _ e=>e)
  obtain ⟨it,fp,tn,J,H2,e,I2,T,st2,f2,hq⟩:=h2
  subst e
  refine comp_core (RR:=fun acc C=>compPost (model X.prog X.w) X.A X.xe (some (assign (.Name y py) X.env)) (fun _ s'=>SP X pins D .next s') acc C) hc K I2 T st2 f2 hg ht he hq ?_
  intro Dl s3 s' H' σ' I3 f3 J' q
  have I':Inv X pins σ H' s':=blk_end I3 f3 J' (Heap.SameBut.refl ..)
  obtain ⟨m,hn,_⟩:=J'.loc
  have hC:s3.heap.objs.size≠X.env.locals:=Ne.symm (Nat.ne_of_lt I3.lt)
  have hcell:∀ x c,X.env.cells.lookup x=some c→c≠s3.heap.objs.size:=fun x c e z=>by
    obtain ⟨v,q⟩:=I3.cell x c e
    exact absurd q.lt (by rw [z]; exact Nat.lt_irrefl _)
  show wpAny _ X.A (assign (.Name y py) X.env (.ref Dl)) _ _ _
  refine wpAny_assign_Name (store_ok2 I' hN hiN (.inl hy) (v:=.ref Dl) rfl (fun s'' I'' ⟨a,hs2,ha⟩=>?_) (.inr hy))
  have ha':s3.heap.objs.size≠a:=by
    rcases ha with ha | ha
    · rw [ha]; exact hC
    · exact Ne.symm (hcell y a ha)
  refine ⟨m,hn.sameBut hs2 ha',fun h3 hs3=>?_⟩
  refine ⟨_,H',I''.turned (t':=s''.toks) (it:=s3.heap.objs.size) (fun b o hb e=>(hs3.2 b hb).trans e) J'.free hC (.inr I3.sz) hcell (fun p hp z=>?_),q⟩
  exact absurd (Heap.lt_size (I3.pin p hp).1) (by rw [z]; exact Nat.lt_irrefl _)
end
end L2
namespace L2
open PySem PySem.Spec PyProof.Rows
structure Callee (P:Program) (w:World) (K:PySem.W.Frag) (mg:Str→Option Value) (base:Heap) (CX:CXT) (x:Str) (ps:List Str) (k:Nat) (sp:Sp):Prop where
  ex:∃ f fd,FnOk P w K mg base CX k f fd ps sp∧mg x=some (.ref f)∧PySem.W.keepIn K (.ref f)=true∧Binds K fd ps []
section
variable {X:Cx} {CX:CXT} {k:Nat} {ps:List Str} {sp:Sp} {E:XK} {x:Str} {p pos:Pos} {e:Expr} {es:List Expr} {t:TA}
theorem pe_fn (C:Callee X.prog X.w X.K X.mg X.base CX x ps k sp) (hr:Room k X.A) (hg:Gl X x) (hx:Passes CX X E) (ha:PA X (e :: es) t)
    (hdb:(x == ("__debug__" : Str))=false:=by decide) (he:starEach (e :: es) X.env=(false,eval e X.env) :: starEach es X.env:=by rfl) (hpl:(backTo pos (starEach es X.env)).any (·.1)=false:=by rfl) :
    PE X (.Call (.Name x p) (e :: es) [] pos) (tCall sp [] E t):=by
  intro pins s σ H Q I h
  obtain ⟨f,fd,F,hm,hk,hb⟩:=C.ex
  exact (pe_call F hr hg hm hk hb .nil hx ha hdb he hpl) pins s σ H Q I h
end
theorem CompOk.of {X:Cx} {N:List Str} {scope:Scope} {cl:List (Str×Addr)} {js:List (Option Nat)} (clos:closureFor scope X.env=pure cl) (nc:(scope.names.all fun y=>y.2 != .cell)=true) (kind:scope.kind=.function)
    (nm:(scope.names.all fun y=>y.2 != .local || (scope.names.lookup y.1 == some .local))=true) (cells:∀ p∈cl,X.env.cells.lookup p.1=some p.2) (has:(scope.names.all fun y=>y.2 != .free || (cl.lookup y.1).isSome)=true)
    (len:js.length=N.length) (cap:((js.zip N).all fun p=>match p.1 with | none=>true | some j=>(X.N[j]? == some p.2) && (scope.names.lookup p.2 == some .free) && (X.env.scope.names.lookup p.2 == some .cell || X.env.scope.names.lookup p.2 == some .free))=true):CompOk X N scope cl js:=by
  rw [List.all_eq_true] at nc nm has cap
  refine ⟨clos,fun y hy=>by simpa using nc y hy,kind,fun y hy e=>?_,cells,fun y hy e=>?_,len,fun i j e=>?_⟩
  · have q:=nm y hy
    rw [e] at q
    simpa using q
  · have q:=has y hy
    rw [e] at q
    simpa using q
  · have hi:i < js.length:=(List.getElem?_eq_some_iff.mp e).1
    have hx:N[i]?=some (N[i]'(by omega)):=List.getElem?_eq_getElem (by omega)
    have hz:(js.zip N)[i]?=some (some j,N[i]'(by omega)):=by
      rw [List.getElem?_zip_eq_some]
      exact ⟨e,hx⟩
    have q:=cap _ (List.mem_of_getElem? hz)
    simp only [Bool.and_eq_true,Bool.or_eq_true,beq_iff_eq] at q
    exact ⟨_,hx,q.1.1,q.1.2,q.2⟩
theorem Same.new {H:Hp} {p:Addr} (h:H p=none) (o:HO):Same H (upd H p o):=fun b u q=>by rw [upd_ne (ne_of_none q h)]; exact q
def spLaw (K:PySem.W.Frag):Sp:=fun vs H Q _=>∃ (a:Addr) (ns:List Int),vs=[.ref a]∧SqL K H a (ns.map V.int)∧ns.length≤63∧∀ H',Q (.bl true) H'
end L2
namespace L2
open PySem PySem.Spec PyProof.Rows
theorem dp_ints {K:PySem.W.Frag} {H:Hp}:∀ ns:List Int,DpAll K H (ns.map V.int) (ns.map PyData.int)
  | []=>.nil
  | n :: r=>.cons (.int n) (dp_ints r)
end L2
namespace PySem
section
variable {prog:Program} {w:World} {A:Around} {E:Value→Shared→Prop} {s:Shared} {R:Result→Shared→Prop}
end
end PySem
namespace L2
open PySem PySem.Spec PyProof.Rows
section
variable {X:Cx}
end
end L2
namespace L2
open PySem PySem.Spec PyProof.Rows
section
variable {X:Cx} {K:PySem.W.Frag}
theorem ix_listK (hK:X.K=K):IxR X (rIxL K):=by subst hK; exact ix_list
theorem call_len_seqK (hK:X.K=K):CallR X (.builtin "len") (fun xs H Q=>∃ p ys,xs=[.ref p]∧(SqL K H p ys∨SqT K H p ys)∧Q (.int ys.length) H):=by subst hK; exact call_len_seq
theorem call_list_ofK (hK:X.K=K):CallR X (.type "list") (fun xs H Q=>∃ p ys,xs=[.ref p]∧(SqL K H p ys∨SqT K H p ys)∧∀ l,H l=none→Q (.ref l) (upd H l (.lst ys))):=by subst hK; exact call_list_of
theorem op_eqDK (hK:X.K=K) (hu:X.A.units + 64 < cLine):OpR X (compareOp .Eq) (rEqD K false):=by subst hK; exact op_eqD hu
theorem sl_listK (hK:X.K=K):SlR X (rSlL K):=by subst hK; exact sl_list
theorem op_in_seqK (hK:X.K=K):OpR X (compareOp .In) (rIn K false):=by subst hK; exact op_in_seq
theorem op_notIn_seqK (hK:X.K=K):OpR X (compareOp .NotIn) (rIn K true):=by subst hK; exact op_notIn_seq
end
end L2
namespace L2
open PySem PySem.Spec PyProof.Rows PySem.SeqAt
section
variable {X:Cx} {K:PySem.W.Frag}
def rEqS (K:PySem.W.Frag):R2:=fun x y H Q=>∃ d,Dp K H x d∧Dp K H y d∧shaped d=true∧Q (.bl true) H
def rNeS (K:PySem.W.Frag):R2:=fun x y H Q=>∃ d,Dp K H x d∧Dp K H y d∧shaped d=true∧Q (.bl false) H
theorem op_eqS (hu:X.A.units + 64 < cLine):OpR X (compareOp .Eq) (rEqS X.K):=by
  intro pins s σ H x y v u Q I rx ry h
  obtain ⟨d,h1,h2,z,q⟩:=h
  obtain ⟨as,ra⟩:=h1.reads I rx
  obtain ⟨bs,rb⟩:=h2.reads I ry
  refine eq_dataH ra rb z z hu ?_
  rw [eqv_refl d (canLay_of_shaped z)]
  exact ⟨.bl true,H,I,rfl,q⟩
theorem op_neS (hu:X.A.units + 64 < cLine):OpR X (compareOp .NotEq) (rNeS X.K):=by
  intro pins s σ H x y v u Q I rx ry h
  obtain ⟨d,h1,h2,z,q⟩:=h
  obtain ⟨as,ra⟩:=h1.reads I rx
  obtain ⟨bs,rb⟩:=h2.reads I ry
  refine ne_dataH ra rb z z hu ?_
  rw [eqv_refl d (canLay_of_shaped z)]
  exact ⟨.bl false,H,I,rfl,q⟩
theorem op_eqSK (hK:X.K=K) (hu:X.A.units + 64 < cLine):OpR X (compareOp .Eq) (rEqS K):=by subst hK; exact op_eqS hu
theorem op_neSK (hK:X.K=K) (hu:X.A.units + 64 < cLine):OpR X (compareOp .NotEq) (rNeS K):=by subst hK; exact op_neS hu
end
end L2
namespace L2
open PySem PySem.Spec PyProof.Rows
section
end
end L2
namespace Cm
open PySem L2
theorem take_succ {α:Type} {xs:List α} {i:Nat} {x:α} (h:xs[i]?=some x):xs.take (i + 1)=xs.take i ++ [x]:=by
  rw [List.take_add_one,h]; rfl
theorem callee {P:Program} {w:World} {K:PySem.W.Frag} {mg:Str→Option Value} {base:Heap} {x:Str} {st:Stmt} {f:Addr} {fd:FuncData} {ps:List Str} {k:Nat} {sp:Sp} (F:Fun K x x st f fd) (hm:mg x=some (.ref f)) (hb:Binds K fd ps []) (G:FnOk P w K mg base CX0 k f fd ps sp) :
    Callee P w K mg base CX0 x ps k sp:=⟨f,fd,G,hm,F.kp,hb⟩
structure At (K:PySem.W.Frag) (x:Str) (st:Stmt) (f:Addr) (fd:FuncData):Prop where
  ns:PySem.W.nsIn K mainGlobals x=some (some (.ref f))
  fn:Fun K x x st f fd
theorem top_mk {K:PySem.W.Frag} {x:Str} {st:Stmt} {f:Addr} {oc:Value} {od an:Option Addr} {osl:Array (Option Value)} {kV doc pm cdv ct:Value} (a:PySem.W.nsIn K mainGlobals x=some (some (.ref f)))
    (l:K.lookup f=some ⟨oc,od,.func (PySem.W.fnOf x x (defArgs st) (defBody st) (defScope st) .none kV doc pm an cdv ct),osl⟩) (c:PySem.W.codeIn K cdv x=true) (k:PySem.W.keepIn K (.ref f)=true):∃ f fd,At K x st f fd:=⟨f,_,a,fun_mk l c k⟩
end Cm
namespace Cm
open PySem L2
def Each (H:Hp):List Addr→List (List Int)→Prop
  | [],[]=>True
  | a :: r,x :: s=>H a=some (.lst (x.map V.int))∧Each H r s
  | _,_=>False
theorem Each.len {H:Hp}:∀ {rs:List Addr} {xs:List (List Int)},Each H rs xs→rs.length=xs.length
  | [],[],_=>rfl
  | _ :: _,_ :: _,h=>congrArg (· + 1) (Each.len h.2)
  | [],_ :: _,h=>h.elim
  | _ :: _,[],h=>h.elim
end Cm
namespace PD
open PySem L2
variable {K:PySem.W.Frag}
theorem Same.seqT {H H':Hp} {a:Addr} {xs:List V} (e:Same H H') (h:SqT K H a xs):SqT K H' a xs:=by
  rcases h with (h | ⟨o,h⟩) | h
  · exact .inl (.inl (e _ _ h))
  · exact .inl (.inr ⟨o,e _ _ h⟩)
  · exact .inr h
mutual
theorem dp_same {F F':Hp} (e:Same F F'):∀ {v:V} {d:PyData},Dp K F v d→Dp K F' v d
  | _,_,.non=>.non
  | _,_,.bl b=>.bl b
  | _,_,.int i=>.int i
  | _,_,.str x=>.str x
  | _,_,.lst h k=>.lst (e.seq h) (dpAll_same e k)
  | _,_,.tup h k=>.tup (Same.seqT e h) (dpAll_same e k)
theorem dpAll_same {F F':Hp} (e:Same F F'):∀ {vs:List V} {ds:List PyData},DpAll K F vs ds→DpAll K F' vs ds
  | _,_,.nil=>.nil
  | _,_,.cons h k=>.cons (dp_same e h) (dpAll_same e k)
end
theorem DpAll.length {F:Hp}:∀ {vs:List V} {ds:List PyData},DpAll K F vs ds→vs.length=ds.length
  | _,_,.nil=>rfl
  | _,_,.cons _ k=>congrArg (· + 1) (DpAll.length k)
theorem DpAll.get {F:Hp}:∀ {vs:List V} {ds:List PyData} {i:Nat} {d:PyData},DpAll K F vs ds→ds[i]?=some d→∃ v,vs[i]?=some v∧Dp K F v d
  | _,_,_,_,.nil,e=>by simp at e
  | _,_,0,_,.cons h _,e=>by simp at e; subst e; exact ⟨_,rfl,h⟩
  | _,_,i + 1,d,.cons _ k,e=>by
    obtain ⟨v,h1,h2⟩:=DpAll.get (i:=i) k (by simpa using e)
    exact ⟨v,by simpa using h1,h2⟩
theorem DpAll.append {F:Hp}:∀ {vs ws:List V} {ds es:List PyData},DpAll K F vs ds→DpAll K F ws es→DpAll K F (vs ++ ws) (ds ++ es)
  | _,_,_,_,.nil,k=>k
  | _,_,_,_,.cons h t,k=>.cons h (DpAll.append t k)
theorem DpAll.set {F:Hp} {v:V} {d:PyData} (h:Dp K F v d):∀ {vs:List V} {ds:List PyData} (n:Nat),DpAll K F vs ds→DpAll K F (vs.set n v) (ds.set n d)
  | _,_,_,.nil=>.nil
  | _,_,0,.cons _ t=>.cons h t
  | _,_,n + 1,.cons q t=>.cons q (DpAll.set h n t)
theorem DpAll.reverse {F:Hp}:∀ {vs:List V} {ds:List PyData},DpAll K F vs ds→DpAll K F vs.reverse ds.reverse
  | _,_,.nil=>.nil
  | _,_,.cons h t=>by
    rw [List.reverse_cons,List.reverse_cons]
    exact DpAll.append (DpAll.reverse t) (.cons h .nil)
theorem dpAll_ints {F:Hp} (ns:List Int):DpAll K F (ns.map V.int) (ns.map PyData.int):=dp_ints ns
theorem dpAll_of_ints {F:Hp}:∀ {vs:List V} {ns:List Int},DpAll K F vs (ns.map PyData.int)→vs=ns.map V.int
  | _,[],.nil=>rfl
  | _,n :: r,.cons h t=>by cases h; rw [List.map_cons,dpAll_of_ints t]
theorem dp_int {F:Hp} {v:V} {i:Int} (h:Dp K F v (.int i)):v=.int i:=by cases h; rfl
theorem dp_bl {F:Hp} {v:V} {b:Bool} (h:Dp K F v (.bool b)):v=.bl b:=by cases h; rfl
structure Gr (H F H' F':Hp):Prop where
  h:Same H H'
  f:Same F F'
  le:Same F' H'
  ap:∀ a o,H a=some o→F a=none→F' a=none
theorem Gr.refl {H F:Hp} (le:Same F H):Gr H F H F:=⟨.refl _,.refl _,le,fun _ _ _ h=>h⟩
theorem Gr.trans {H F H1 F1 H2 F2:Hp} (a:Gr H F H1 F1) (b:Gr H1 F1 H2 F2):Gr H F H2 F2:=⟨a.h.trans b.h,a.f.trans b.f,b.le,fun c o q n=>b.ap c o (a.h _ _ q) (a.ap c o q n)⟩
theorem Gr.newO {H F:Hp} {p:Addr} (le:Same F H) (hp:H p=none) (o:HO):Gr H F (upd H p o) F:=⟨Same.new hp o,.refl _,fun b u q=>by rw [upd_ne (ne_of_none (le _ _ q) hp)]; exact le _ _ q,fun _ _ _ n=>n⟩
inductive Sx where
  | fresh | spoil (T:Addr→Prop)
def Sx.has (S:Sx) (H0:Hp) (a:Addr):Prop:=match S with | .fresh=>H0 a≠none | .spoil T=>H0 a≠none∨T a
def LN (K:PySem.W.Frag) (κ:Bool) (S:Sx) (H0 F:Hp) (a:Addr) (xs:List V):Prop:=match κ with
  | true=>F a=some (.lst xs)∧¬ S.has H0 a
  | false=>SqL K F a xs
theorem LN.sq {κ:Bool} {S:Sx} {H0 F:Hp} {a:Addr} {xs:List V} (h:LN K κ S H0 F a xs):SqL K F a xs:=by
  cases κ with
  | true=>exact SqL.of h.1
  | false=>exact h
theorem LN.mono {κ:Bool} {S:Sx} {H0 F F':Hp} {a:Addr} {xs:List V} (h:LN K κ S H0 F a xs) (e:Same F F'):LN K κ S H0 F' a xs:=by
  cases κ with
  | true=>exact ⟨e _ _ h.1,h.2⟩
  | false=>exact e.seq h
theorem LN.new {κ:Bool} {S:Sx} {H0 F:Hp} {a:Addr} {xs:List V} (h:¬ S.has H0 a):LN K κ S H0 (upd F a (.lst xs)) a xs:=by
  cases κ with
  | true=>exact ⟨upd_same,h⟩
  | false=>exact SqL.of upd_same
mutual
inductive Rp (K:PySem.W.Frag) (κ:Bool) (S:Sx) (H0 F:Hp):V→PyData→Prop
  | non:Rp K κ S H0 F .non .none
  | bl (b:Bool):Rp K κ S H0 F (.bl b) (.bool b)
  | int (i:Int):Rp K κ S H0 F (.int i) (.int i)
  | str (x:Str):Rp K κ S H0 F (.str x) (.str x)
  | lst {a:Addr} {xs:List V} {ds:List PyData}:LN K κ S H0 F a xs→RpAll K κ S H0 F xs ds→Rp K κ S H0 F (.ref a) (.list ds)
  | tup {a:Addr} {xs:List V} {ds:List PyData}:SqT K F a xs→RpAll K κ S H0 F xs ds→Rp K κ S H0 F (.ref a) (.tuple ds)
inductive RpAll (K:PySem.W.Frag) (κ:Bool) (S:Sx) (H0 F:Hp):List V→List PyData→Prop
  | nil:RpAll K κ S H0 F [] []
  | cons {v:V} {vs:List V} {d:PyData} {ds:List PyData}:Rp K κ S H0 F v d→RpAll K κ S H0 F vs ds→RpAll K κ S H0 F (v :: vs) (d :: ds)
end
section
variable {κ κ':Bool} {S S':Sx} {H0 H0' F F':Hp}
mutual
theorem rp_map (hl:∀ a xs,LN K κ S H0 F a xs→LN K κ' S' H0' F' a xs) (ht:∀ a xs,SqT K F a xs→SqT K F' a xs):∀ {v:V} {d:PyData},Rp K κ S H0 F v d→Rp K κ' S' H0' F' v d
  | _,_,.non=>.non
  | _,_,.bl b=>.bl b
  | _,_,.int i=>.int i
  | _,_,.str x=>.str x
  | _,_,.lst h k=>.lst (hl _ _ h) (rpAll_map hl ht k)
  | _,_,.tup h k=>.tup (ht _ _ h) (rpAll_map hl ht k)
theorem rpAll_map (hl:∀ a xs,LN K κ S H0 F a xs→LN K κ' S' H0' F' a xs) (ht:∀ a xs,SqT K F a xs→SqT K F' a xs):∀ {vs:List V} {ds:List PyData},RpAll K κ S H0 F vs ds→RpAll K κ' S' H0' F' vs ds
  | _,_,.nil=>.nil
  | _,_,.cons h k=>.cons (rp_map hl ht h) (rpAll_map hl ht k)
end
theorem rp_mono (e:Same F F') {v:V} {d:PyData} (h:Rp K κ S H0 F v d):Rp K κ S H0 F' v d:=rp_map (fun _ _ z=>z.mono e) (fun _ _ z=>Same.seqT e z) h
theorem rpAll_mono (e:Same F F') {vs:List V} {ds:List PyData} (h:RpAll K κ S H0 F vs ds):RpAll K κ S H0 F' vs ds:=rpAll_map (fun _ _ z=>z.mono e) (fun _ _ z=>Same.seqT e z) h
mutual
theorem rp_dp:∀ {v:V} {d:PyData},Rp K κ S H0 F v d→Dp K F v d
  | _,_,.non=>.non
  | _,_,.bl b=>.bl b
  | _,_,.int i=>.int i
  | _,_,.str x=>.str x
  | _,_,.lst h k=>.lst h.sq (rpAll_dp k)
  | _,_,.tup h k=>.tup h (rpAll_dp k)
theorem rpAll_dp:∀ {vs:List V} {ds:List PyData},RpAll K κ S H0 F vs ds→DpAll K F vs ds
  | _,_,.nil=>.nil
  | _,_,.cons h k=>.cons (rp_dp h) (rpAll_dp k)
end
mutual
theorem dp_rp:∀ {v:V} {d:PyData},Dp K F v d→Rp K false S H0 F v d
  | _,_,.non=>.non
  | _,_,.bl b=>.bl b
  | _,_,.int i=>.int i
  | _,_,.str x=>.str x
  | _,_,.lst h k=>.lst h (dpAll_rp k)
  | _,_,.tup h k=>.tup h (dpAll_rp k)
theorem dpAll_rp:∀ {vs:List V} {ds:List PyData},DpAll K F vs ds→RpAll K false S H0 F vs ds
  | _,_,.nil=>.nil
  | _,_,.cons h k=>.cons (dp_rp h) (dpAll_rp k)
end
theorem rp_weak (hk:κ'=true→κ=true) {v:V} {d:PyData} (h:Rp K κ S H0 F v d):Rp K κ' S H0 F v d:=by
  cases κ' with
  | false=>exact dp_rp (rp_dp h)
  | true=>rw [hk rfl] at h; exact h
theorem RpAll.length {vs:List V} {ds:List PyData} (h:RpAll K κ S H0 F vs ds):vs.length=ds.length:=DpAll.length (rpAll_dp h)
theorem RpAll.get:∀ {vs:List V} {ds:List PyData} {i:Nat} {d:PyData},RpAll K κ S H0 F vs ds→ds[i]?=some d→∃ v,vs[i]?=some v∧Rp K κ S H0 F v d
  | _,_,_,_,.nil,e=>by simp at e
  | _,_,0,_,.cons h _,e=>by simp at e; subst e; exact ⟨_,rfl,h⟩
  | _,_,i + 1,d,.cons _ k,e=>by
    obtain ⟨v,h1,h2⟩:=RpAll.get (i:=i) k (by simpa using e)
    exact ⟨v,by simpa using h1,h2⟩
theorem RpAll.get':∀ {vs:List V} {ds:List PyData} {i:Nat} {v:V},RpAll K κ S H0 F vs ds→vs[i]?=some v→∃ d,ds[i]?=some d∧Rp K κ S H0 F v d
  | _,_,_,_,.nil,e=>by simp at e
  | _,_,0,_,.cons h _,e=>by simp at e; subst e; exact ⟨_,rfl,h⟩
  | _,_,i + 1,d,.cons _ k,e=>by
    obtain ⟨v,h1,h2⟩:=RpAll.get' (i:=i) k (by simpa using e)
    exact ⟨v,by simpa using h1,h2⟩
theorem RpAll.append:∀ {vs ws:List V} {ds es:List PyData},RpAll K κ S H0 F vs ds→RpAll K κ S H0 F ws es→RpAll K κ S H0 F (vs ++ ws) (ds ++ es)
  | _,_,_,_,.nil,k=>k
  | _,_,_,_,.cons h t,k=>.cons h (RpAll.append t k)
theorem RpAll.take:∀ {vs:List V} {ds:List PyData} (n:Nat),RpAll K κ S H0 F vs ds→RpAll K κ S H0 F (vs.take n) (ds.take n)
  | _,_,0,_=>.nil
  | _,_,_ + 1,.nil=>.nil
  | _,_,n + 1,.cons h t=>.cons h (RpAll.take n t)
theorem RpAll.drop:∀ {vs:List V} {ds:List PyData} (n:Nat),RpAll K κ S H0 F vs ds→RpAll K κ S H0 F (vs.drop n) (ds.drop n)
  | _,_,0,r=>r
  | _,_,_ + 1,.nil=>.nil
  | _,_,n + 1,.cons _ t=>RpAll.drop n t
theorem RpAll.set {v:V} {d:PyData} (h:Rp K κ S H0 F v d):∀ {vs:List V} {ds:List PyData} (n:Nat),RpAll K κ S H0 F vs ds→RpAll K κ S H0 F (vs.set n v) (ds.set n d)
  | _,_,_,.nil=>.nil
  | _,_,0,.cons _ t=>.cons h t
  | _,_,n + 1,.cons q t=>.cons q (RpAll.set h n t)
theorem RpAll.reverse:∀ {vs:List V} {ds:List PyData},RpAll K κ S H0 F vs ds→RpAll K κ S H0 F vs.reverse ds.reverse
  | _,_,.nil=>.nil
  | _,_,.cons h t=>by
    rw [List.reverse_cons,List.reverse_cons]
    exact RpAll.append (RpAll.reverse t) (.cons h .nil)
theorem rp_int {v:V} {i:Int} (h:Rp K κ S H0 F v (.int i)):v=.int i:=by cases h; rfl
theorem rp_bl {v:V} {b:Bool} (h:Rp K κ S H0 F v (.bool b)):v=.bl b:=by cases h; rfl
theorem rp_lst {v:V} {ds:List PyData} (h:Rp K κ S H0 F v (.list ds)):∃ a vs,v=.ref a∧LN K κ S H0 F a vs∧RpAll K κ S H0 F vs ds:=by cases h with | lst h k=>exact ⟨_,_,rfl,h,k⟩
end
def imm:PyData→Bool
  | .none=>true
  | .bool _=>true
  | .int _=>true
  | .str _=>true
  | .tuple ds=>immAll ds
  | _=>false
where immAll:List PyData→Bool
  | []=>true
  | d :: r=>imm d && immAll r
mutual
theorem dp_imm {κ:Bool} {S:Sx} {H0 F:Hp}:∀ {v:V} {d:PyData},imm d=true→Dp K F v d→Rp K κ S H0 F v d
  | _,_,_,.non=>.non
  | _,_,_,.bl b=>.bl b
  | _,_,_,.int i=>.int i
  | _,_,_,.str x=>.str x
  | _,_,h,.lst _ _=>by unfold imm at h; cases h
  | _,_,h,.tup q k=>.tup q (dpAll_imm (by unfold imm at h; exact h) k)
theorem dpAll_imm {κ:Bool} {S:Sx} {H0 F:Hp}:∀ {vs:List V} {ds:List PyData},imm.immAll ds=true→DpAll K F vs ds→RpAll K κ S H0 F vs ds
  | _,_,_,.nil=>.nil
  | _,_,h,.cons p k=>by
    unfold imm.immAll at h
    rw [Bool.and_eq_true] at h
    exact .cons (dp_imm h.1 p) (dpAll_imm h.2 k)
end
theorem dpAll_immL {κ:Bool} {S:Sx} {H0 F:Hp} {vs:List V} {ds:List PyData} (h:∀ d∈ds,imm d=true) (k:DpAll K F vs ds):RpAll K κ S H0 F vs ds:=by
  refine dpAll_imm ?_ k
  clear k
  induction ds with
  | nil=>rfl
  | cons d r ih =>
    unfold imm.immAll
    rw [h d List.mem_cons_self,ih fun x hx=>h x (List.mem_cons_of_mem _ hx)]
    rfl
inductive DV where
  | fz (κ:Bool) (d:PyData) | ow (κ:Bool) (ds:List PyData) | tn (d:PyData) | ox | o2 (r:Option Addr) (dss:List (List PyData)) | fn (a:Addr) | xn (o:Addr→HO) | oa (a:Addr) (κ:Bool) (ds:List PyData) | xp (φ:Hp→V→Prop) | od (o:HO)
abbrev Ctx:=List (Option DV)
structure OwnO (S:Sx) (H0 H F:Hp) (a:Addr) (o:HO):Prop where
  h:H a=some o
  f:F a=none
  n:H0 a=none
  s:¬ S.has H0 a
abbrev OwnAt (S:Sx) (H0 H F:Hp) (a:Addr) (vs:List V):Prop:=OwnO S H0 H F a (.lst vs)
structure IdA (r:Option Addr) (v:V) (a:Addr):Prop where
  eq:v=.ref a
  id:∀ b,r=some b→a=b
def HasV (K:PySem.W.Frag) (S:Sx) (H0 H F:Hp) (v:V):DV→Prop
  | .fz κ d=>Rp K κ S H0 F v d
  | .ow κ ds=>∃ a vs,v=.ref a∧OwnAt S H0 H F a vs∧RpAll K κ S H0 F vs ds
  | .tn d=>∃ T,S=.spoil T∧Rp K true (.spoil fun a=>¬ T a) (fun _=>none) F v d
  | .ox=>∃ a vs,v=.ref a∧OwnAt S H0 H F a vs
  | .fn a=>v=.ref a
  | .xn o=>∃ a,v=.ref a∧F a=some (o a)
  | .oa a κ ds=>v=.ref a∧∃ vs,OwnAt S H0 H F a vs∧RpAll K κ S H0 F vs ds
  | .xp φ=>∃ F1,Same F1 F∧φ F1 v
  | .od o=>∃ a,v=.ref a∧OwnO S H0 H F a o
  | .o2 r dss=>∃ a vs,IdA r v a∧OwnAt S H0 H F a vs∧V.ref a∉vs∧vs.Nodup∧vs.length=dss.length∧∀ (j:Nat) x,vs[j]?=some x→∃ b us ds,x=.ref b∧OwnAt S H0 H F b us∧dss[j]?=some ds∧RpAll K true S H0 F us ds
def Owns (H:Hp) (v:V):DV→Addr→Prop
  | .ow _ _,a=>v=.ref a
  | .ox,a=>v=.ref a
  | .oa _ _ _,a=>v=.ref a
  | .od _,a=>v=.ref a
  | .o2 _ _,a=>v=.ref a∨∃ p vs,v=.ref p∧H p=some (.lst vs)∧V.ref a∈vs
  | _,_=>False
structure DEnv (K:PySem.W.Frag) (S:Sx) (H0 F0 H F:Hp) (σ:St) (Γ:Ctx):Prop where
  gr:Gr H0 F0 H F
  l0:Same F0 H0
  sd:∀ a,S.has H0 a→∃ o,H a=some o
  s0:∀ T,S=.spoil T→∀ a,T a→H0 a=none
  len:σ.length=Γ.length
  has:∀ (i:Nat) (x:DV),Γ[i]?=some (some x)→∃ v,σ[i]?=some (some v)∧HasV K S H0 H F v x
  ne:∀ (i j:Nat) (x y:DV) (v w:V) (a:Addr),Γ[i]?=some (some x)→Γ[j]?=some (some y)→σ[i]?=some (some v)→σ[j]?=some (some w)→Owns H v x a→Owns H w y a→i=j
variable {S:Sx} {κ:Bool}
theorem DEnv.le {H0 F0 H F:Hp} {σ:St} {Γ:Ctx} (e:DEnv K S H0 F0 H F σ Γ):Same F H:=e.gr.le
theorem DEnv.out {H0 F0 H F:Hp} {σ:St} {Γ:Ctx} (e:DEnv K S H0 F0 H F σ Γ) {p:Addr} (hp:H p=none):¬ S.has H0 p:=fun c=>by
  obtain ⟨o,q⟩:=e.sd p c
  rw [hp] at q; cases q
theorem OwnO.mono {H0 H F H' F':Hp} {a:Addr} {u:HO} (o:OwnO S H0 H F a u) (g:Gr H F H' F'):OwnO S H0 H' F' a u:=⟨g.h _ _ o.h,g.ap _ _ o.h o.f,o.n,o.s⟩
theorem HasV.mono {H0 H F H' F':Hp} {v:V} {x:DV} (h:HasV K S H0 H F v x) (g:Gr H F H' F'):HasV K S H0 H' F' v x:=by
  cases x with
  | fz κ d=>exact rp_mono g.f h
  | ow κ ds=>obtain ⟨a,vs,e,o,k⟩:=h; exact ⟨a,vs,e,o.mono g,rpAll_mono g.f k⟩
  | tn d=>obtain ⟨T,e,k⟩:=h; exact ⟨T,e,rp_mono g.f k⟩
  | ox=>obtain ⟨a,vs,e,o⟩:=h; exact ⟨a,vs,e,o.mono g⟩
  | o2 r dss =>
    obtain ⟨a,vs,e,o,n1,n2,l,k⟩:=h
    refine ⟨a,vs,e,o.mono g,n1,n2,l,fun j x hx=>?_⟩
    obtain ⟨b,us,ds,e2,o2,h2,k2⟩:=k j x hx
    exact ⟨b,us,ds,e2,o2.mono g,h2,rpAll_mono g.f k2⟩
  | fn a=>exact h
  | xn φ=>obtain ⟨a,e,k⟩:=h; exact ⟨a,e,g.f _ _ k⟩
  | oa a κ ds=>obtain ⟨e,vs,o,k⟩:=h; exact ⟨e,vs,o.mono g,rpAll_mono g.f k⟩
  | xp φ=>obtain ⟨F1,s,k⟩:=h; exact ⟨F1,s.trans g.f,k⟩
  | od u=>obtain ⟨a,e,o⟩:=h; exact ⟨a,e,o.mono g⟩
theorem HasV.owns {H0 H F:Hp} {v:V} {x:DV} {a:Addr} (h:HasV K S H0 H F v x) (o:Owns H v x a):∃ u,OwnO S H0 H F a u:=by
  cases x with
  | fz _ _=>exact o.elim
  | tn _=>exact o.elim
  | ow κ ds=>obtain ⟨b,vs,e,w,_⟩:=h; cases (show v=.ref a from o); cases e; exact ⟨_,w⟩
  | ox=>obtain ⟨b,vs,e,w⟩:=h; cases (show v=.ref a from o); cases e; exact ⟨_,w⟩
  | o2 r dss =>
    obtain ⟨b,vs,e,w,_,_,_,k⟩:=h
    rcases o with o | ⟨p,us,e2,hp,hm⟩
    · cases o; cases e.eq; exact ⟨_,w⟩
    · cases e.eq
      cases e2
      have hw:=w.h
      rw [hp] at hw
      cases hw
      obtain ⟨j,hj⟩:=List.mem_iff_getElem?.mp hm
      obtain ⟨c,ws,ds,e3,o3,_⟩:=k j _ hj
      cases e3
      exact ⟨_,o3⟩
  | fn _=>exact o.elim
  | xn _=>exact o.elim
  | oa b κ ds=>obtain ⟨e,vs,w,_⟩:=h; cases (show v=.ref a from o); cases e; exact ⟨_,w⟩
  | xp _=>exact o.elim
  | od u=>obtain ⟨b,e,w⟩:=h; cases (show v=.ref a from o); cases e; exact ⟨u,w⟩
theorem Owns.back {H0 H F H':Hp} {v:V} {x:DV} {a:Addr} (h:HasV K S H0 H F v x) (g:∀ b us,OwnAt S H0 H F b us→H' b=some (.lst us)) (o:Owns H' v x a):Owns H v x a:=by
  cases x with
  | fz _ _=>exact o.elim
  | tn _=>exact o.elim
  | ow κ ds=>exact o
  | ox=>exact o
  | o2 r dss =>
    rcases o with o | ⟨p,us,e2,hp,hm⟩
    · exact .inl o
    · obtain ⟨b,vs,e',w,_⟩:=h
      have e:=e'.eq
      rw [e2] at e
      cases e
      rw [g _ _ w] at hp
      cases hp
      exact .inr ⟨p,_,e2,w.h,hm⟩
  | fn _=>exact o.elim
  | xn _=>exact o.elim
  | oa b κ ds=>exact o
  | xp _=>exact o.elim
  | od _=>exact o
theorem DEnv.mono {H0 F0 H F H' F':Hp} {σ:St} {Γ:Ctx} (e:DEnv K S H0 F0 H F σ Γ) (g:Gr H F H' F'):DEnv K S H0 F0 H' F' σ Γ where
  gr:=e.gr.trans g
  l0:=e.l0
  sd:=fun a h=>let ⟨o,q⟩:=e.sd a h; ⟨o,g.h _ _ q⟩
  s0:=e.s0
  len:=e.len
  has:=fun i x h=>let ⟨v,a,b⟩:=e.has i x h; ⟨v,a,b.mono g⟩
  ne:=fun i j x y v w a h1 h2 h3 h4 o1 o2=>by
    obtain ⟨v',q1,q2⟩:=e.has i x h1
    obtain ⟨w',q3,q4⟩:=e.has j y h2
    rw [h3] at q1
    cases q1
    rw [h4] at q3
    cases q3
    exact e.ne i j x y v w a h1 h2 h3 h4 (o1.back q2 fun _ _ z=>g.h _ _ z.h) (o2.back q4 fun _ _ z=>g.h _ _ z.h)
section
variable {Γ:Ctx}
def EvE (K:PySem.W.Frag) (S:Sx) (κ:Bool) (t:TE) (Γ:Ctx) (d:PyData):Prop:=∀ (H0 F0 H F:Hp) (σ:St),DEnv K S H0 F0 H F σ Γ→∀ Q:VK,(∀ v H' F',Gr H F H' F'→Rp K κ S H0 F' v d→Q v H')→t σ H Q
def EvO (K:PySem.W.Frag) (S:Sx) (κ:Bool) (t:TE) (Γ:Ctx) (ds:List PyData):Prop:=∀ (H0 F0 H F:Hp) (σ:St),DEnv K S H0 F0 H F σ Γ→∀ Q:VK,(∀ a vs H' F',Gr H F H' F'→H a=none→H' a=some (.lst vs)→F' a=none→RpAll K κ S H0 F' vs ds→Q (.ref a) H')→t σ H Q
def EvL (K:PySem.W.Frag) (S:Sx) (κ:Bool) (t:TE) (Γ:Ctx) (ds:List PyData):Prop:=∀ (H0 F0 H F:Hp) (σ:St),DEnv K S H0 F0 H F σ Γ→∀ Q:VK,(∀ a vs H' F',Gr H F H' F'→SqL K H' a vs→RpAll K κ S H0 F' vs ds→Q (.ref a) H')→t σ H Q
def EvD (K:PySem.W.Frag) (S:Sx) (t:TE) (Γ:Ctx) (d:PyData):Prop:=∀ (H0 F0 H F:Hp) (σ:St),DEnv K S H0 F0 H F σ Γ→∀ Q:VK,(∀ v H' F',Gr H F H' F'→Dp K H' v d→Q v H')→t σ H Q
def EvT (K:PySem.W.Frag) (S:Sx) (t:TT) (Γ:Ctx) (b:Bool):Prop:=∀ (H0 F0 H F:Hp) (σ:St),DEnv K S H0 F0 H F σ Γ→∀ Q:Bool→Hp→Prop,(∀ H' F',Gr H F H' F'→Q b H')→t σ H Q
def EvA (K:PySem.W.Frag) (S:Sx) (κ:Bool) (t:TA) (Γ:Ctx) (ds:List PyData):Prop:=∀ (H0 F0 H F:Hp) (σ:St),DEnv K S H0 F0 H F σ Γ→∀ Q:List V→Hp→Prop,(∀ vs H' F',Gr H F H' F'→RpAll K κ S H0 F' vs ds→Q vs H')→t σ H Q
def EvP (K:PySem.W.Frag) (S:Sx) (t:TO) (Γ:Ctx) (o:Option Int):Prop:=∀ (H0 F0 H F:Hp) (σ:St),DEnv K S H0 F0 H F σ Γ→∀ Q:Option Int→Hp→Prop,(∀ H' F',Gr H F H' F'→Q o H')→t σ H Q
theorem EvE.toD {t:TE} {d:PyData} (h:EvE K S κ t Γ d):EvD K S t Γ d:=fun H0 F0 H F σ e Q q=>h H0 F0 H F σ e Q fun v H' F' g p=>q v H' F' g (dp_same g.le (rp_dp p))
theorem EvE.weak {κ':Bool} {t:TE} {d:PyData} (h:EvE K S κ t Γ d) (hk:κ'=true→κ=true):EvE K S κ' t Γ d:=fun H0 F0 H F σ e Q q=>h H0 F0 H F σ e Q fun v H' F' g p=>q v H' F' g (rp_weak hk p)
theorem EvE.imm {κ':Bool} {t:TE} {d:PyData} (h:EvE K S κ t Γ d) (hk:imm d=true):EvE K S κ' t Γ d:=fun H0 F0 H F σ e Q q=>h H0 F0 H F σ e Q fun v H' F' g p=>q v H' F' g (dp_imm hk (rp_dp p))
theorem EvE.toL {t:TE} {ds:List PyData} (h:EvE K S κ t Γ (.list ds)):EvL K S κ t Γ ds:=fun H0 F0 H F σ e Q q=>h H0 F0 H F σ e Q fun v H' F' g p=>by
  obtain ⟨a,vs,rfl,h1,h2⟩:=rp_lst p
  exact q a vs H' F' g (g.le.seq h1.sq) h2
theorem EvL.imm {κ':Bool} {t:TE} {ds:List PyData} (h:EvL K S κ t Γ ds) (hk:∀ d∈ds,imm d=true):EvL K S κ' t Γ ds:=fun H0 F0 H F σ e Q q=>h H0 F0 H F σ e Q fun a vs H' F' g p k=>q a vs H' F' g p (dpAll_immL hk (rpAll_dp k))
theorem EvO.toL {t:TE} {ds:List PyData} (h:EvO K S κ t Γ ds):EvL K S κ t Γ ds:=fun H0 F0 H F σ e Q q=>h H0 F0 H F σ e Q fun a vs H' F' g _ p _ k=>q a vs H' F' g (SqL.of p) k
theorem EvO.toE {t:TE} {ds:List PyData} (h:EvO K S κ t Γ ds):EvE K S κ t Γ (.list ds):=fun H0 F0 H F σ e Q q=>h H0 F0 H F σ e Q fun a vs H' F' g n p f k=>by
  have s:Same F' (upd F' a (.lst vs)):=Same.new f _
  refine q (.ref a) H' (upd F' a (.lst vs)) ⟨g.h,g.f.trans s,fun b u z=>?_,fun b u z y=>?_⟩ (.lst (LN.new (e.out n)) (rpAll_mono s k))
  · by_cases eb:b=a
    · subst eb; rw [upd_same] at z; rw [← z]; exact p
    · rw [upd_ne eb] at z; exact g.le _ _ z
  · rw [upd_ne (ne_of_none z n)]; exact g.ap _ _ z y
theorem evl_own {i:Nat} {ds:List PyData} (h:Γ[i]?=some (some (.ow κ ds))):EvL K S κ (tVar i) Γ ds:=fun H0 F0 H F σ e Q q=>by
  obtain ⟨v,h1,a,vs,rfl,o,k⟩:=e.has i _ h
  exact ⟨_,h1,q a vs H F (.refl e.le) (SqL.of o.h) k⟩
theorem ev_var {i:Nat} {d:PyData} (h:Γ[i]?=some (some (.fz κ d))):EvE K S κ (tVar i) Γ d:=fun H0 F0 H F σ e Q q=>by
  obtain ⟨v,hv,hd⟩:=e.has i _ h
  exact ⟨v,hv,q v H F (.refl e.le) hd⟩
theorem ev_int {i:Int}:EvE K S κ (tC (.int i)) Γ (.int i):=fun _ _ H F _ e _ q=>q _ H F (.refl e.le) (.int i)
theorem ev_bl {b:Bool}:EvE K S κ (tC (.bl b)) Γ (.bool b):=fun _ _ H F _ e _ q=>q _ H F (.refl e.le) (.bl b)
theorem ev_non:EvE K S κ (tC .non) Γ .none:=fun _ _ H F _ e _ q=>q _ H F (.refl e.le) .non
theorem ev_op {r:R2} {ta tb:TE} {x y d:PyData} (ha:EvE K S false ta Γ x) (hb:EvE K S false tb Γ y) (hr:∀ v w H F (Q:VK),Same F H→Dp K F v x→Dp K F w y→(∀ z,(∀ F,Dp K F z d)→Q z H)→r v w H Q) (hi:imm d=true:=by rfl):EvE K S κ (tOp r ta tb) Γ d:=fun H0 F0 H F σ e Q q =>
  ha H0 F0 H F σ e _ fun v H1 F1 g1 p1=>hb H0 F0 H1 F1 σ (e.mono g1) _ fun w H2 F2 g2 p2=>by
    exact hr v w H2 F2 Q g2.le (dp_same g2.f (rp_dp p1)) (rp_dp p2) fun z p3=>q z H2 F2 (g1.trans g2) (dp_imm hi (p3 F2))
theorem ev_I0 {g:Int→Int→V} {ta tb:TE} {i j:Int} {d:PyData} (hi:imm d=true) (hg:∀ F,Dp K F (g i j) d) (ha:EvE K S false ta Γ (.int i)) (hb:EvE K S false tb Γ (.int j)):EvE K S κ (tOp (rI0 g) ta tb) Γ d :=
  ev_op ha hb (fun v w H F Q le p1 p2 k=>by cases dp_int p1; cases dp_int p2; exact ⟨i,j,rfl,rfl,k _ hg⟩) hi
theorem ev_I {C:Int→Int→Prop} {g:Int→Int→V} {ta tb:TE} {i j:Int} {d:PyData} (hi:imm d=true) (hg:∀ F,Dp K F (g i j) d) (ha:EvE K S false ta Γ (.int i)) (hb:EvE K S false tb Γ (.int j)) (hc:C i j):EvE K S κ (tOp (rI C g) ta tb) Γ d :=
  ev_op ha hb (fun v w H F Q le p1 p2 k=>by cases dp_int p1; cases dp_int p2; exact ⟨i,j,rfl,rfl,hc,k _ hg⟩) hi
theorem ev_add {ta tb:TE} {i j:Int} (ha:EvE K S false ta Γ (.int i)) (hb:EvE K S false tb Γ (.int j)):EvE K S κ (tOp (rI0 fun i j=>.int (i + j)) ta tb) Γ (.int (i + j)):=ev_I0 rfl (fun _=>.int _) ha hb
theorem ev_sub {ta tb:TE} {i j:Int} (ha:EvE K S false ta Γ (.int i)) (hb:EvE K S false tb Γ (.int j)):EvE K S κ (tOp (rI0 fun i j=>.int (i - j)) ta tb) Γ (.int (i - j)):=ev_I0 rfl (fun _=>.int _) ha hb
theorem ev_lt {ta tb:TE} {i j:Int} (ha:EvE K S false ta Γ (.int i)) (hb:EvE K S false tb Γ (.int j)):EvE K S κ (tOp (rI0 fun i j=>.bl (decide (i < j))) ta tb) Γ (.bool (decide (i < j))):=ev_I0 rfl (fun _=>.bl _) ha hb
theorem ev_gt {ta tb:TE} {i j:Int} (ha:EvE K S false ta Γ (.int i)) (hb:EvE K S false tb Γ (.int j)):EvE K S κ (tOp (rI0 fun i j=>.bl (decide (j < i))) ta tb) Γ (.bool (decide (j < i))):=ev_I0 rfl (fun _=>.bl _) ha hb
theorem ev_ge {ta tb:TE} {i j:Int} (ha:EvE K S false ta Γ (.int i)) (hb:EvE K S false tb Γ (.int j)):EvE K S κ (tOp (rI0 fun i j=>.bl (decide (j≤i))) ta tb) Γ (.bool (decide (j≤i))):=ev_I0 rfl (fun _=>.bl _) ha hb
theorem ev_mul {ta tb:TE} {i j:Int} (ha:EvE K S false ta Γ (.int i)) (hb:EvE K S false tb Γ (.int j)) (hc:IntMulOk i j):EvE K S κ (tOp (rI IntMulOk fun i j=>.int (i * j)) ta tb) Γ (.int (i * j)):=ev_I rfl (fun _=>.int _) ha hb hc
theorem ev_fdiv {ta tb:TE} {i j:Int} (ha:EvE K S false ta Γ (.int i)) (hb:EvE K S false tb Γ (.int j)) (hc:CDiv i j):EvE K S κ (tOp (rI CDiv fun i j=>.int (i / j)) ta tb) Γ (.int (i / j)):=ev_I rfl (fun _=>.int _) ha hb hc
theorem ev_mod {ta tb:TE} {i j:Int} (ha:EvE K S false ta Γ (.int i)) (hb:EvE K S false tb Γ (.int j)) (hc:0 < j):EvE K S κ (tOp (rI (fun _ j=>0 < j) fun i j=>.int (i % j)) ta tb) Γ (.int (i % j)):=ev_I rfl (fun _=>.int _) ha hb hc
theorem ev_neg {ta:TE} {i:Int} (ha:EvE K S false ta Γ (.int i)):EvE K S κ (tUn (rU fun i=>.int (-i)) ta) Γ (.int (-i)):=fun H0 F0 H F σ e Q q =>
  ha H0 F0 H F σ e _ fun v H1 F1 g1 p1=>by cases rp_int p1; exact ⟨i,rfl,q _ H1 F1 g1 (.int _)⟩
theorem dec_int (i j:Int):decide (V.int i=V.int j)=decide (i=j):=by by_cases h:i=j <;> simp [h]
theorem ev_eqI {ta tb:TE} {i j:Int} (ha:EvE K S false ta Γ (.int i)) (hb:EvE K S false tb Γ (.int j)):EvE K S κ (tOp rEq ta tb) Γ (.bool (decide (i=j))) :=
  ev_op ha hb fun v w H F Q le p1 p2 k=>by
    cases dp_int p1; cases dp_int p2
    refine ⟨rfl,?_⟩
    rw [dec_int]; exact k _ fun _=>.bl _
theorem ev_neI {ta tb:TE} {i j:Int} (ha:EvE K S false ta Γ (.int i)) (hb:EvE K S false tb Γ (.int j)):EvE K S κ (tOp rNe ta tb) Γ (.bool (!(decide (i=j)))) :=
  ev_op ha hb fun v w H F Q le p1 p2 k=>by
    cases dp_int p1; cases dp_int p2
    refine ⟨rfl,?_⟩
    rw [dec_int]; exact k _ fun _=>.bl _
def isNone:PyData→Bool
  | .none=>true
  | _=>false
theorem isNone_v {F:Hp} {v:V} {d:PyData} (h:Dp K F v d):decide (v=.non)=isNone d:=by
  cases h <;> first | rfl | exact decide_eq_false (by intro e; cases e)
theorem ev_isN {ta:TE} {d:PyData} (ha:EvD K S ta Γ d):EvE K S κ (tOp (fun x y H Q=>y=.non∧Q (.bl (decide (x=.non))) H) ta (tC .non)) Γ (.bool (isNone d)):=fun H0 F0 H F σ e Q q =>
  ha H0 F0 H F σ e _ fun v H1 F1 g1 p1=>⟨rfl,by rw [isNone_v p1]; exact q _ H1 F1 g1 (.bl _)⟩
theorem ev_notN {ta:TE} {d:PyData} (ha:EvD K S ta Γ d):EvE K S κ (tOp (fun x y H Q=>y=.non∧Q (.bl (!decide (x=.non))) H) ta (tC .non)) Γ (.bool (!isNone d)):=fun H0 F0 H F σ e Q q =>
  ha H0 F0 H F σ e _ fun v H1 F1 g1 p1=>⟨rfl,by rw [isNone_v p1]; exact q _ H1 F1 g1 (.bl _)⟩
theorem ev_eqD {neg:Bool} {ta tb:TE} {d f:PyData} (ha:EvD K S ta Γ d) (hb:EvD K S tb Γ f) (z1:SeqAt.shaped d=true) (z2:SeqAt.shaped f=true):EvE K S κ (tOp (rEqD K neg) ta tb) Γ (.bool (if neg then !PyData.eqv d f else PyData.eqv d f)):=fun H0 F0 H F σ e Q q =>
  ha H0 F0 H F σ e _ fun v H1 F1 g1 p1=>hb H0 F0 H1 F1 σ (e.mono g1) _ fun w H2 F2 g2 p2=>⟨d,f,dp_same g2.h p1,p2,z1,z2,q _ H2 F2 (g1.trans g2) (.bl _)⟩
theorem ev_eqSm {ta tb:TE} {d:PyData} (ha:EvD K S ta Γ d) (hb:EvD K S tb Γ d) (z:SeqAt.shaped d=true):EvE K S κ (tOp (rEqS K) ta tb) Γ (.bool true):=fun H0 F0 H F σ e Q q =>
  ha H0 F0 H F σ e _ fun v H1 F1 g1 p1=>hb H0 F0 H1 F1 σ (e.mono g1) _ fun w H2 F2 g2 p2=>⟨d,dp_same g2.h p1,p2,z,q _ H2 F2 (g1.trans g2) (.bl _)⟩
theorem ev_neSm {ta tb:TE} {d:PyData} (ha:EvD K S ta Γ d) (hb:EvD K S tb Γ d) (z:SeqAt.shaped d=true):EvE K S κ (tOp (rNeS K) ta tb) Γ (.bool false):=fun H0 F0 H F σ e Q q =>
  ha H0 F0 H F σ e _ fun v H1 F1 g1 p1=>hb H0 F0 H1 F1 σ (e.mono g1) _ fun w H2 F2 g2 p2=>⟨d,dp_same g2.h p1,p2,z,q _ H2 F2 (g1.trans g2) (.bl _)⟩
theorem atI_dp {H0 F:Hp} {vs:List V} {ds:List PyData} {i:Int} {d:PyData} (k:RpAll K κ S H0 F vs ds) (h:atI ds i=some d):∃ v,atI vs i=some v∧Rp K κ S H0 F v d:=by
  unfold atI at h ⊢
  rw [RpAll.length k]
  cases e:ixN ds.length i with
  | none=>rw [e] at h; cases h
  | some j=>rw [e] at h; exact RpAll.get k h
theorem ev_ixL {ta tb:TE} {ds:List PyData} {i:Int} {d:PyData} (ha:EvL K S κ ta Γ ds) (hb:EvE K S false tb Γ (.int i)) (h:atI ds i=some d):EvE K S κ (tOp (rIxL K) ta tb) Γ d:=fun H0 F0 H F σ e Q q =>
  ha H0 F0 H F σ e _ fun a vs H1 F1 g1 p1 k1=>hb H0 F0 H1 F1 σ (e.mono g1) _ fun w H2 F2 g2 p2=>by
    cases rp_int p2
    obtain ⟨v,h1,h2⟩:=atI_dp (rpAll_mono g2.f k1) h
    exact ⟨a,vs,i,v,rfl,rfl,g2.h.seq p1,h1,q _ H2 F2 (g1.trans g2) h2⟩
theorem ev_and {ta tb:TE} {a b:Bool} (ha:EvE K S false ta Γ (.bool a)) (hb:a=true→EvE K S false tb Γ (.bool b)):EvE K S κ (tAndV ta tb) Γ (.bool (a && b)):=fun H0 F0 H F σ e Q q =>
  ha H0 F0 H F σ e _ fun v H1 F1 g1 p1=>by
    cases rp_bl p1
    refine ⟨a,rfl,?_⟩
    cases a with
    | true=>exact iteT (hb rfl H0 F0 H1 F1 σ (e.mono g1) Q fun v H2 F2 g2 p2=>by cases rp_bl p2; exact q _ H2 F2 (g1.trans g2) (.bl _))
    | false=>exact iteF (q _ H1 F1 g1 (.bl _))
theorem ev_not {ta:TE} {a:Bool} (ha:EvE K S false ta Γ (.bool a)):EvE K S κ (tNotV ta) Γ (.bool (!a)):=fun H0 F0 H F σ e Q q =>
  ha H0 F0 H F σ e _ fun v H1 F1 g1 p1=>by cases rp_bl p1; exact ⟨a,rfl,q _ H1 F1 g1 (.bl _)⟩
theorem et_test {t:TE} {b:Bool} (h:EvE K S false t Γ (.bool b)):EvT K S (tTest t) Γ b:=fun H0 F0 H F σ e Q q =>
  h H0 F0 H F σ e _ fun v H1 F1 g1 p1=>by cases rp_bl p1; exact ⟨b,rfl,q H1 F1 g1⟩
theorem et_B {t:TE} {b:Bool} (h:EvE K S false t Γ (.bool b)):EvT K S (tB t) Γ b:=fun H0 F0 H F σ e Q q =>
  h H0 F0 H F σ e _ fun v H1 F1 g1 p1=>by cases rp_bl p1; exact ⟨b,rfl,q H1 F1 g1⟩
theorem et_and {t u:TT} {a b:Bool} (ha:EvT K S t Γ a) (hb:a=true→EvT K S u Γ b):EvT K S (tAnd t u) Γ (a && b):=fun H0 F0 H F σ e Q q =>
  ha H0 F0 H F σ e _ fun H1 F1 g1=>by
    cases a with
    | true=>exact iteT (hb rfl H0 F0 H1 F1 σ (e.mono g1) Q fun H2 F2 g2=>q H2 F2 (g1.trans g2))
    | false=>exact iteF (q H1 F1 g1)
theorem et_or {t u:TT} {a b:Bool} (ha:EvT K S t Γ a) (hb:a=false→EvT K S u Γ b):EvT K S (tOr t u) Γ (a || b):=fun H0 F0 H F σ e Q q =>
  ha H0 F0 H F σ e _ fun H1 F1 g1=>by
    cases a with
    | false=>exact iteF (hb rfl H0 F0 H1 F1 σ (e.mono g1) Q fun H2 F2 g2=>q H2 F2 (g1.trans g2))
    | true=>exact iteT (q H1 F1 g1)
theorem et_not {t:TT} {a:Bool} (ha:EvT K S t Γ a):EvT K S (tNot t) Γ (!a):=fun H0 F0 H F σ e Q q=>ha H0 F0 H F σ e _ fun H1 F1 g1=>q H1 F1 g1
theorem et_yes:EvT K S tYes Γ true:=fun H0 F0 H F σ e Q q=>q H F (.refl e.le)
theorem EvT.eq {t:TT} {a b:Bool} (h:EvT K S t Γ a) (e:a=b):EvT K S t Γ b:=e ▸ h
theorem EvE.eq {t:TE} {a b:PyData} (h:EvE K S κ t Γ a) (e:a=b):EvE K S κ t Γ b:=e ▸ h
theorem EvO.eq {t:TE} {a b:List PyData} (h:EvO K S κ t Γ a) (e:a=b):EvO K S κ t Γ b:=e ▸ h
theorem ea_nil:EvA K S κ tNil Γ []:=fun H0 F0 H F σ e Q q=>q [] H F (.refl e.le) .nil
theorem ea_cons {t:TE} {u:TA} {d:PyData} {ds:List PyData} (h:EvE K S κ t Γ d) (k:EvA K S κ u Γ ds):EvA K S κ (tCons t u) Γ (d :: ds):=fun H0 F0 H F σ e Q q =>
  h H0 F0 H F σ e _ fun v H1 F1 g1 p1=>k H0 F0 H1 F1 σ (e.mono g1) _ fun vs H2 F2 g2 p2=>q _ H2 F2 (g1.trans g2) (.cons (rp_mono g2.f p1) p2)
theorem evo_lst {t:TA} {ds:List PyData} (h:EvA K S κ t Γ ds) (hz:ds.length≤sizeLine):EvO K S κ (tLst t) Γ ds:=fun H0 F0 H F σ e Q q =>
  h H0 F0 H F σ e _ fun vs H1 F1 g1 p1=>⟨by rw [RpAll.length p1]; exact hz,fun p hp=>q p vs _ F1 (g1.trans (.newO g1.le hp _)) (g1.h.free hp) upd_same (g1.le.free hp) p1⟩
def spD (K:PySem.W.Frag) (κ:Bool) (pre:List PyData→PyData→Prop):Sp:=fun vs H Q _=>∃ F ds d,Same F H∧DpAll K F vs ds∧pre ds d∧∀ v H' F',Gr H F H' F'→Rp K κ .fresh H F' v d→Q v H'
theorem ev_callF {pre:List PyData→PyData→Prop} {E:XK} {t:TA} {ds:List PyData} {d:PyData} (h:EvA K S false t Γ ds) (hp:pre ds d):EvE K S κ (tCall (spD K true pre) [] E t) Γ d:=fun H0 F0 H F σ e Q q =>
  h H0 F0 H F σ e _ fun vs H1 F1 g1 p1=>⟨F1,ds,d,g1.le,by rw [List.append_nil]; exact rpAll_dp p1,hp,fun v H2 F2 g2 p2=>q v H2 F2 (g1.trans g2) (rp_weak (κ:=true) (fun _=>rfl) (rp_map (κ:=true) (κ':=true) (S':=S) (H0':=H0) (fun a xs z=>⟨z.1,fun c=>by
    obtain ⟨u,hu⟩:=(e.mono g1).sd a c
    exact z.2 (by show H1 a≠none; rw [hu]; simp)⟩) (fun _ _ z=>z) p2))⟩
theorem ev_len {ta:TE} {ds:List PyData} (h:EvL K S false ta Γ ds):EvE K S κ (tCB (fun xs H Q=>∃ p ys,xs=[.ref p]∧(SqL K H p ys∨SqT K H p ys)∧Q (.int ys.length) H) (tCons ta tNil)) Γ (.int ds.length):=fun H0 F0 H F σ e Q q =>
  h H0 F0 H F σ e _ fun a vs H1 F1 g1 p1 k1=>⟨a,vs,rfl,.inl p1,q _ H1 F1 g1 (by rw [RpAll.length k1]; exact .int _)⟩
theorem evo_list {ta:TE} {ds:List PyData} (h:EvL K S κ ta Γ ds):EvO K S κ (tCB (fun xs H Q=>∃ p ys,xs=[.ref p]∧(SqL K H p ys∨SqT K H p ys)∧∀ l,H l=none→Q (.ref l) (upd H l (.lst ys))) (tCons ta tNil)) Γ ds:=fun H0 F0 H F σ e Q q =>
  h H0 F0 H F σ e _ fun a vs H1 F1 g1 p1 k1=>⟨a,vs,rfl,.inl p1,fun p hp=>q p vs _ F1 (g1.trans (.newO g1.le hp _)) (g1.h.free hp) upd_same (g1.le.free hp) k1⟩
def cutD (xs:List PyData) (lo hi:Option Int):List PyData:=(xs.drop (HT.sIx xs.length 0 lo)).take (HT.sIx xs.length xs.length hi - HT.sIx xs.length 0 lo)
theorem cut_dp {H0 F:Hp} {vs:List V} {ds:List PyData} {lo hi:Option Int} (k:RpAll K κ S H0 F vs ds):RpAll K κ S H0 F (cutV vs lo hi) (cutD ds lo hi):=by
  unfold cutV cutD
  rw [RpAll.length k]
  exact RpAll.take _ (RpAll.drop _ k)
theorem ep_none:EvP K S tNoPart Γ none:=fun H0 F0 H F σ e Q q=>q H F (.refl e.le)
theorem ep_some {t:TE} {i:Int} (h:EvE K S false t Γ (.int i)):EvP K S (tPart t) Γ (some i):=fun H0 F0 H F σ e Q q =>
  h H0 F0 H F σ e _ fun v H1 F1 g1 p1=>by cases rp_int p1; exact ⟨i,rfl,q H1 F1 g1⟩
theorem evo_slice {t:TE} {tl th:TO} {ds:List PyData} {lo hi:Option Int} (h:EvL K S κ t Γ ds) (hl:EvP K S tl Γ lo) (hh:EvP K S th Γ hi):EvO K S κ (tSl (rSlL K) t tl th) Γ (cutD ds lo hi):=fun H0 F0 H F σ e Q q =>
  h H0 F0 H F σ e _ fun a vs H1 F1 g1 p1 k1=>hl H0 F0 H1 F1 σ (e.mono g1) _ fun H2 F2 g2=>hh H0 F0 H2 F2 σ ((e.mono g1).mono g2) _ fun H3 F3 g3 =>
    ⟨a,vs,rfl,(g2.h.trans g3.h).seq p1,fun p hp=>q p _ _ F3 (((g1.trans g2).trans g3).trans (.newO g3.le hp _)) (((g1.trans g2).trans g3).h.free hp) upd_same (g3.le.free hp) (cut_dp (rpAll_mono (g2.f.trans g3.f) k1))⟩
end
end PD
namespace L2
open PySem PySem.Spec PyProof.Rows
section
variable {X:Cx} {K:PySem.W.Frag}
def rCatS (K:PySem.W.Frag):R2:=fun x y H Q=>∃ l b xs zs,x=.ref l∧y=.ref b∧SqL K H l xs∧SqL K H b zs∧xs.length + zs.length≤sizeLine∧∀ p,H p=none→Q (.ref p) (upd H p (.lst (xs ++ zs)))
theorem op_catS:OpR X (binaryOp .Add) (rCatS X.K):=by
  intro pins s σ H x y v u Q I rx ry h
  obtain ⟨l,b,xs,zs,rfl,rfl,hH,hB,hz,q⟩:=h
  cases rx
  cases ry
  obtain ⟨its,r,pl,z⟩:=I.list hH
  obtain ⟨its2,r2,pl2,z2⟩:=I.list hB
  have l1:=r.length
  have l2:=r2.length
  obtain ⟨⟨cls,dd,data,sl⟩,ho,hc,n,hd⟩:=pl.isList
  obtain ⟨⟨cls2,dd2,data2,sl2⟩,ho2,hc2,n2,hd2⟩:=pl2.isList
  simp only at hc hd hc2 hd2
  subst hc hd hc2 hd2
  have e:its.toArray ++ its2.toArray=(its ++ its2).toArray:=by simp
  refine concat_meets ⟨_,ho,rfl⟩ ⟨_,ho2,rfl⟩ noFill_list_add seq_list_add PySem.F.slot_list_add PySem.F.entry_list_add (PySem.F.args_list_add_2 _ _) (list_addW l b its.toArray its2.toArray n n2 dd dd2 sl sl2 (by simp only [List.size_toArray]; omega)) ⟨ho,ho2,?_⟩
  rw [e]
  exact ⟨.ref _,_,I.lnew (t':=s.toks) (r.append r2) (by rw [List.length_append]; omega),rfl,q _ I.fresh⟩
def tyD:PyData→String
  | .none => "NoneType"
  | .bool _ => "bool"
  | .int _ => "int"
  | .str _ => "str"
  | .list _ => "list"
  | .tuple _ => "tuple"
  | _ => "object"
def rIsiD (K:PySem.W.Frag):List V→Hp→VK→Prop:=fun xs H Q=>∃ x d T b,xs=[x,.ty T]∧Dp K H x d∧PySem.W.kitOne K (.type (tyD d)) (.type T)=some b∧Q (.bl b) H
theorem call_isiD:CallR X (.builtin "isinstance") (rIsiD X.K):=by
  intro pins s σ H xs us Q I r h
  obtain ⟨x,d,T,b,rfl,dp,e,q⟩:=h
  obtain ⟨u,v,rfl,ru,rv⟩:=r.two
  cases (show v=Value.type T from rv)
  have fin:∀ tk,EP X pins σ Q (.bool b) { s with toks:=tk }:=fun tk=>⟨.bl b,H,I.tok tk,rfl,q⟩
  cases dp with
  | non=>cases (show u=Value.none from ru); exact PySem.W.kia_one PySem.W.kitx_none I.kIn True.intro e (fun z=>nomatch z) fin
  | bl y=>cases (show u=Value.bool y from ru); exact PySem.W.kia_one PySem.W.kitx_bool I.kIn True.intro e (fun z=>nomatch z) fin
  | int i=>obtain ⟨t,z⟩:=(show ∃ t,u=Value.int i t from ru); cases z; exact PySem.W.kia_one PySem.W.kitx_int I.kIn True.intro e (fun z=>nomatch z) fin
  | str y=>obtain ⟨t,z⟩:=(show ∃ t,u=Value.str y t from ru); cases z; exact PySem.W.kia_one PySem.W.kitx_str I.kIn True.intro e (fun z=>nomatch z) fin
  | @lst a xs ds h k =>
    cases (show u=Value.ref a from ru)
    obtain ⟨its,rv,⟨o,n,h1,h2,_⟩,_⟩:=I.list h
    exact PySem.W.kia_one PySem.W.kitx_list I.kIn ⟨_,h1,h2⟩ e (fun z=>nomatch z) fin
  | @tup a xs ds h k =>
    cases (show u=Value.ref a from ru)
    obtain ⟨its,rv,⟨o,h1,h2,_⟩,_⟩:=I.tuple h
    exact PySem.W.kia_one PySem.W.kitx_tuple I.kIn ⟨_,h1,h2⟩ e (fun z=>nomatch z) fin
theorem call_isiDK (hK:X.K=K):CallR X (.builtin "isinstance") (rIsiD K):=by subst hK; exact call_isiD
theorem op_catSK (hK:X.K=K):OpR X (binaryOp .Add) (rCatS K):=by subst hK; exact op_catS
end
end L2
namespace PD
open PySem L2
section
variable {K:PySem.W.Frag} {S:Sx} {κ:Bool} {Γ:Ctx}
theorem evo_cat {ta tb:TE} {xs ys:List PyData} (ha:EvL K S κ ta Γ xs) (hb:EvL K S κ tb Γ ys) (hz:xs.length + ys.length≤sizeLine):EvO K S κ (tOp (rCatS K) ta tb) Γ (xs ++ ys):=fun H0 F0 H F σ e Q q =>
  ha H0 F0 H F σ e _ fun a vs H1 F1 g1 p1 k1=>hb H0 F0 H1 F1 σ (e.mono g1) _ fun b ws H2 F2 g2 p2 k2 =>
    ⟨a,b,vs,ws,rfl,rfl,g2.h.seq p1,p2,by rw [RpAll.length k1,RpAll.length k2]; exact hz,fun p hp=>q p _ _ F2 ((g1.trans g2).trans (.newO g2.le hp _)) ((g1.trans g2).h.free hp) upd_same (g2.le.free hp) (RpAll.append (rpAll_mono g2.f k1) k2)⟩
theorem ev_isi {ta:TE} {d:PyData} {T:String} {b:Bool} (h:EvD K S ta Γ d) (hi:PySem.W.kitOne K (.type (tyD d)) (.type T)=some b):EvE K S κ (tCB (rIsiD K) (tCons ta (tCons (tC (.ty T)) tNil))) Γ (.bool b):=fun H0 F0 H F σ e Q q =>
  h H0 F0 H F σ e _ fun v H1 F1 g1 p1=>⟨v,d,T,b,rfl,p1,hi,q _ H1 F1 g1 (.bl b)⟩
theorem flat_int (ns:List Int):(ns.map V.int).all flatV=true:=by
  rw [List.all_eq_true]
  intro v hv
  obtain ⟨n,_,rfl⟩:=List.mem_map.mp hv
  rfl
theorem inV_int (i:Int) (ns:List Int):inV (.int i) (ns.map V.int)=decide (i∈ns):=by
  unfold inV
  rw [List.any_map]
  by_cases h:i∈ns
  · rw [decide_eq_true h,List.any_eq_true]
    exact ⟨i,h,by show eqV (.int i) (.int i)=true; simp [eqV]⟩
  · rw [decide_eq_false h,List.any_eq_false]
    intro x hx hq
    have:x=i:=by
      have q:eqV (.int x) (.int i)=true:=hq
      simpa [eqV] using q
    exact h (this ▸ hx)
theorem ev_inI {neg:Bool} {ta tb:TE} {i:Int} {ns:List Int} (ha:EvE K S false ta Γ (.int i)) (hb:EvL K S false tb Γ (ns.map .int)):EvE K S κ (tOp (rIn K neg) ta tb) Γ (.bool (if neg then !decide (i∈ns) else decide (i∈ns))):=fun H0 F0 H F σ e Q q =>
  ha H0 F0 H F σ e _ fun v H1 F1 g1 p1=>hb H0 F0 H1 F1 σ (e.mono g1) _ fun b ws H2 F2 g2 p2 k2=>by
    cases rp_int p1
    cases dpAll_of_ints (rpAll_dp k2)
    refine ⟨b,_,rfl,.inl p2,rfl,flat_int ns,?_⟩
    rw [inV_int]
    exact q _ H2 F2 (g1.trans g2) (.bl _)
def ExG (K:PySem.W.Frag) (S:Sx) (κ:Bool) (g:TG) (js:List Nat) (d:PyData) (Γ:Ctx) (k:Ctx→Prop):Prop:=∀ (H0 F0 H F:Hp) (σ:St) (v:V),DEnv K S H0 F0 H F σ Γ→Rp K κ S H0 F v d→∀ Q:St→Hp→Prop,
  (∀ Γ' σ' H' F',k Γ'→Gr H F H' F'→DEnv K S H0 F0 H' F' σ' Γ'→σ'.length=σ.length→(∀ j,j∉js→σ'[j]?=σ[j]?)→Q σ' H')→g v σ H Q
theorem DEnv.set {H0 F0 H F:Hp} {σ:St} {i:Nat} {v:V} {x:DV} (e:DEnv K S H0 F0 H F σ Γ) (p:HasV K S H0 H F v x)
    (hne:∀ a,Owns H v x a→∀ (j:Nat) y w,j≠i→Γ[j]?=some (some y)→σ[j]?=some (some w)→¬ Owns H w y a):DEnv K S H0 F0 H F (σ.set i (some v)) (Γ.set i (some x)):=by
  refine ⟨e.gr,e.l0,e.sd,e.s0,by simp [e.len],fun j f h=>?_,fun j k' x1 y1 v1 w1 b g1 g2 g3 g4 o1 o2=>?_⟩
  · by_cases hj:j=i
    · subst hj
      by_cases hl:j < Γ.length
      · rw [List.getElem?_set_self hl] at h
        cases h
        exact ⟨v,by rw [List.getElem?_set_self (by rw [e.len]; exact hl)],p⟩
      · rw [List.getElem?_eq_none (by simp; omega)] at h
        cases h
    · rw [List.getElem?_set_ne (Ne.symm hj)] at h ⊢
      exact e.has j f h
  · have li:∀ {j:Nat} {y:DV},(Γ.set i (some x))[j]?=some (some y)→j < Γ.length:=fun {j y} z=>by
      have:=(List.getElem?_eq_some_iff.mp z).1
      rw [List.length_set] at this
      exact this
    by_cases hj:j=i
    · subst hj
      by_cases hk:k'=j
      · exact hk.symm
      · rw [List.getElem?_set_self (by rw [e.len]; exact li g1)] at g3
        rw [List.getElem?_set_self (li g1)] at g1
        cases g1
        cases g3
        rw [List.getElem?_set_ne (Ne.symm hk)] at g4 g2
        exact absurd o2 (hne b o1 k' y1 w1 hk g2 g4)
    · rw [List.getElem?_set_ne (Ne.symm hj)] at g3 g1
      by_cases hk:k'=i
      · subst hk
        rw [List.getElem?_set_self (by rw [e.len]; exact li g2)] at g4
        rw [List.getElem?_set_self (li g2)] at g2
        cases g2
        cases g4
        exact absurd o1 (hne b o2 j x1 v1 hj g1 g3)
      · rw [List.getElem?_set_ne (Ne.symm hk)] at g4 g2
        exact e.ne j k' x1 y1 v1 w1 b g1 g2 g3 g4 o1 o2
theorem DEnv.setF {H0 F0 H F:Hp} {σ:St} {i:Nat} {v:V} {d:PyData} (e:DEnv K S H0 F0 H F σ Γ) (p:Rp K κ S H0 F v d):DEnv K S H0 F0 H F (σ.set i (some v)) (Γ.set i (some (.fz κ d))):=e.set (x:=.fz κ d) p fun _ z=>z.elim
theorem OwnO.other {H0 H F:Hp} {a b:Addr} {u oo:HO} (w:OwnO S H0 H F b u) (h:b≠a):OwnO S H0 (upd H a oo) F b u:=⟨by rw [upd_ne h]; exact w.h,w.f,w.n,w.s⟩
theorem HasV.other {H0 H F:Hp} {a:Addr} {v:V} {x:DV} {oo:HO} (h:HasV K S H0 H F v x) (n:¬ Owns H v x a):HasV K S H0 (upd H a oo) F v x:=by
  cases x with
  | fz κ d=>exact h
  | tn d=>exact h
  | ow κ ds=>obtain ⟨b,us,eb,wo,kk⟩:=h; exact ⟨b,us,eb,wo.other fun z=>n (by rw [eb,z]; rfl),kk⟩
  | ox=>obtain ⟨b,us,eb,wo⟩:=h; exact ⟨b,us,eb,wo.other fun z=>n (by rw [eb,z]; rfl)⟩
  | o2 r dss =>
    obtain ⟨b,us,eb,wo,n1,n2,l,k⟩:=h
    refine ⟨b,us,eb,wo.other fun z=>n (.inl (by rw [eb.eq,z])),n1,n2,l,fun j y hy=>?_⟩
    obtain ⟨c,ws,ds,e2,o2,h2,k2⟩:=k j y hy
    exact ⟨c,ws,ds,e2,o2.other fun z=>n (.inr ⟨b,us,eb.eq,wo.h,by rw [← z,← e2]; exact List.mem_of_getElem? hy⟩),h2,k2⟩
  | fn a=>exact h
  | xn φ=>exact h
  | oa b κ ds=>obtain ⟨eb,us,wo,kk⟩:=h; exact ⟨eb,us,wo.other fun z=>n (by rw [eb,z]; rfl),kk⟩
  | xp φ=>exact h
  | od u=>obtain ⟨b,eb,wo⟩:=h; exact ⟨b,eb,wo.other fun z=>n (by rw [eb,z]; rfl)⟩
theorem Owns.other {H0 H F:Hp} {a c:Addr} {v:V} {x:DV} {oo:HO} (h:HasV K S H0 H F v x) (n:¬ Owns H v x a) (o:Owns (upd H a oo) v x c):Owns H v x c:=by
  cases x with
  | fz _ _=>exact o.elim
  | tn _=>exact o.elim
  | ow κ ds=>exact o
  | ox=>exact o
  | o2 r dss =>
    rcases o with o | ⟨p,us,e2,hp,hm⟩
    · exact .inl o
    · rw [upd_ne (fun z=>n (.inl (by rw [e2,z])))] at hp
      exact .inr ⟨p,us,e2,hp,hm⟩
  | fn _=>exact o.elim
  | xn _=>exact o.elim
  | oa _ _ _=>exact o
  | xp _=>exact o.elim
  | od _=>exact o
theorem DEnv.putO {H0 F0 H F:Hp} {σ:St} {i:Nat} {a:Addr} {v:V} {oo:HO} {x y:DV} (e:DEnv K S H0 F0 H F σ Γ) (h:Γ[i]?=some (some x)) (ha:σ[i]?=some (some v)) (ho:Owns H v x a)
    (k:HasV K S H0 (upd H a oo) F v y) (ko:∀ c,Owns (upd H a oo) v y c→Owns H v x c):DEnv K S H0 F0 (upd H a oo) F σ (Γ.set i (some y)):=by
  obtain ⟨v',q1,q2⟩:=e.has i x h
  rw [ha] at q1
  cases q1
  obtain ⟨ws,w⟩:=q2.owns ho
  have hs:Same F (upd H a oo):=fun b u z=>by
    have:b≠a:=by rintro rfl; rw [w.f] at z; cases z
    rw [upd_ne this]; exact e.le _ _ z
  have li:=(List.getElem?_eq_some_iff.mp h).1
  have far:∀ {j:Nat} {f:DV} {u:V},j≠i→Γ[j]?=some (some f)→σ[j]?=some (some u)→¬ Owns H u f a:=fun {j f u} hj z r o=>hj (e.ne j i f x u v a z h r ha o ho)
  refine ⟨⟨fun b u z=>?_,e.gr.f,hs,e.gr.ap⟩,e.l0,fun b c=>?_,e.s0,by simp [e.len],fun j f z=>?_,fun j k' x1 y1 v1 w1 b g1 g2 g3 g4 o1 o2=>?_⟩
  · rw [upd_ne (ne_of_none z w.n)]; exact e.gr.h _ _ z
  · obtain ⟨o,q⟩:=e.sd b c
    by_cases hb:b=a
    · subst hb; exact ⟨_,upd_same⟩
    · exact ⟨o,by rw [upd_ne hb]; exact q⟩
  · by_cases hj:j=i
    · subst hj
      rw [List.getElem?_set_self li] at z
      cases z
      exact ⟨_,ha,k⟩
    · rw [List.getElem?_set_ne (Ne.symm hj)] at z
      obtain ⟨u,r1,r2⟩:=e.has j f z
      exact ⟨u,r1,r2.other (far hj z r1)⟩
  · have bk:∀ {j:Nat} {f:DV} {u:V},(Γ.set i (some y))[j]?=some (some f)→σ[j]?=some (some u)→Owns (upd H a oo) u f b→∃ g,Γ[j]?=some (some g)∧Owns H u g b:=fun {j f u} z r o=>by
      by_cases hj:j=i
      · subst hj
        rw [List.getElem?_set_self li] at z
        cases z
        rw [ha] at r
        cases r
        exact ⟨x,h,ko b o⟩
      · rw [List.getElem?_set_ne (Ne.symm hj)] at z
        obtain ⟨u',r1,r2⟩:=e.has j f z
        rw [r] at r1
        cases r1
        exact ⟨f,z,o.other r2 (far hj z r)⟩
    obtain ⟨f1,z1,w1'⟩:=bk g1 g3 o1
    obtain ⟨f2,z2,w2'⟩:=bk g2 g4 o2
    exact e.ne j k' f1 f2 v1 w1 b z1 z2 g3 g4 w1' w2'
theorem DEnv.put {H0 F0 H F:Hp} {σ:St} {i:Nat} {a:Addr} {v:V} {vs:List V} {x y:DV} (e:DEnv K S H0 F0 H F σ Γ) (h:Γ[i]?=some (some x)) (ha:σ[i]?=some (some v)) (ho:Owns H v x a)
    (k:HasV K S H0 (upd H a (.lst vs)) F v y) (ko:∀ c,Owns (upd H a (.lst vs)) v y c→Owns H v x c):DEnv K S H0 F0 (upd H a (.lst vs)) F σ (Γ.set i (some y)):=e.putO h ha ho k ko
theorem OwnO.frz {H0 H F:Hp} {a b:Addr} {u oo:HO} (w:OwnO S H0 H F b u) (h:b≠a):OwnO S H0 H (upd F a oo) b u:=⟨w.h,by rw [upd_ne h]; exact w.f,w.n,w.s⟩
theorem HasV.frz {H0 H F:Hp} {a:Addr} {v:V} {x:DV} {vs:List V} (h:HasV K S H0 H F v x) (s:Same F (upd F a (.lst vs))) (n:¬ Owns H v x a):HasV K S H0 H (upd F a (.lst vs)) v x:=by
  cases x with
  | fz κ d=>exact rp_mono s h
  | tn d=>obtain ⟨T,eT,k⟩:=h; exact ⟨T,eT,rp_mono s k⟩
  | ow κ ds=>obtain ⟨b,us,eb,wo,kk⟩:=h; exact ⟨b,us,eb,wo.frz fun z=>n (by rw [eb,z]; rfl),rpAll_mono s kk⟩
  | ox=>obtain ⟨b,us,eb,wo⟩:=h; exact ⟨b,us,eb,wo.frz fun z=>n (by rw [eb,z]; rfl)⟩
  | o2 r dss =>
    obtain ⟨b,us,eb,wo,n1,n2,l,k⟩:=h
    refine ⟨b,us,eb,wo.frz fun z=>n (.inl (by rw [eb.eq,z])),n1,n2,l,fun j y hy=>?_⟩
    obtain ⟨c,ws,ds,e2,o2,h2,k2⟩:=k j y hy
    exact ⟨c,ws,ds,e2,o2.frz fun z=>n (.inr ⟨b,us,eb.eq,wo.h,by rw [← z,← e2]; exact List.mem_of_getElem? hy⟩),h2,rpAll_mono s k2⟩
  | fn a=>exact h
  | xn φ=>obtain ⟨b,e,k⟩:=h; exact ⟨b,e,s _ _ k⟩
  | oa b κ ds=>obtain ⟨eb,us,wo,kk⟩:=h; exact ⟨eb,us,wo.frz fun z=>n (by rw [eb,z]; rfl),rpAll_mono s kk⟩
  | xp φ=>obtain ⟨F1,s1,k⟩:=h; exact ⟨F1,s1.trans s,k⟩
  | od u=>obtain ⟨b,eb,wo⟩:=h; exact ⟨b,eb,wo.frz fun z=>n (by rw [eb,z]; rfl)⟩
theorem DEnv.froz {H0 F0 H F:Hp} {σ:St} {i:Nat} {a:Addr} {v:V} {vs:List V} {x y:DV} (e:DEnv K S H0 F0 H F σ Γ) (h:Γ[i]?=some (some x)) (hv:σ[i]?=some (some v)) (ho:Owns H v x a) (w:OwnAt S H0 H F a vs)
    (k:HasV K S H0 H (upd F a (.lst vs)) v y) (ko:∀ c,Owns H v y c→Owns H v x c):Same F (upd F a (.lst vs))∧DEnv K S H0 F0 H (upd F a (.lst vs)) σ (Γ.set i (some y)):=by
  have s:Same F (upd F a (.lst vs)):=Same.new w.f _
  have li:=(List.getElem?_eq_some_iff.mp h).1
  have g:Gr H0 F0 H (upd F a (.lst vs)):=⟨e.gr.h,e.gr.f.trans s,fun b u z=>by
    by_cases eb:b=a
    · subst eb; rw [upd_same] at z; rw [← z]; exact w.h
    · rw [upd_ne eb] at z; exact e.le _ _ z,fun b u z y=>by
    rw [upd_ne (ne_of_none z w.n)]; exact e.gr.ap _ _ z y⟩
  refine ⟨s,g,e.l0,e.sd,e.s0,by simp [e.len],fun j f z=>?_,fun j k' x1 y1 v1 w1 b g1 g2 g3 g4 o1 o2=>?_⟩
  · by_cases hj:j=i
    · subst hj
      rw [List.getElem?_set_self li] at z
      cases z
      exact ⟨v,hv,k⟩
    · rw [List.getElem?_set_ne (Ne.symm hj)] at z
      obtain ⟨u,r1,r2⟩:=e.has j f z
      exact ⟨u,r1,r2.frz s fun o=>hj (e.ne j i f x u v a z h r1 hv o ho)⟩
  · have bk:∀ {j:Nat} {f:DV} {u:V},(Γ.set i (some y))[j]?=some (some f)→σ[j]?=some (some u)→Owns H u f b→∃ g,Γ[j]?=some (some g)∧Owns H u g b:=fun {j f u} z r o=>by
      by_cases hj:j=i
      · subst hj
        rw [List.getElem?_set_self li] at z
        cases z
        rw [hv] at r
        cases r
        exact ⟨x,h,ko b o⟩
      · rw [List.getElem?_set_ne (Ne.symm hj)] at z
        exact ⟨f,z,o⟩
    obtain ⟨f1,z1,w1'⟩:=bk g1 g3 o1
    obtain ⟨f2,z2,w2'⟩:=bk g2 g4 o2
    exact e.ne j k' f1 f2 v1 w1 b z1 z2 g3 g4 w1' w2'
theorem DEnv.freeze {H0 F0 H F:Hp} {σ:St} {i:Nat} {ds:List PyData} (e:DEnv K S H0 F0 H F σ Γ) (h:Γ[i]?=some (some (.ow κ ds))):∃ F',Same F F'∧DEnv K S H0 F0 H F' σ (Γ.set i (some (.fz κ (.list ds)))):=by
  obtain ⟨v,q1,a,vs,rfl,w,q5⟩:=e.has i _ h
  exact ⟨_,e.froz (y:=.fz κ (.list ds)) h q1 rfl w (.lst (LN.new w.s) (rpAll_mono (Same.new w.f _) q5)) fun _ z=>z.elim⟩
theorem eg_name {i:Nat} {d:PyData} {k:Ctx→Prop} (h:k (Γ.set i (some (.fz κ d)))):ExG K S κ (gName i) [i] d Γ k:=fun H0 F0 H F σ v e p Q q =>
  q _ _ H F h (.refl e.le) (e.setF p) (by simp) fun j hj=>by rw [List.getElem?_set_ne (by intro z; exact hj (by simp [z]))]
structure ItD (K:PySem.W.Frag) (S:Sx) (κ:Bool) (H0 F:Hp) (J:It) (ds:List PyData):Prop where
  go:∀ i H F',Same F F'→Same F' H→i < ds.length→J.go i H
  yld:∀ i H F' x H',Same F F'→Same F' H→(∀ a,S.has H0 a→∃ o,H a=some o)→i < ds.length→J.yld i H x H'→∃ d F'',ds[i]?=some d∧Gr H F' H' F''∧Rp K κ S H0 F'' x d
  stop:∀ H F',Same F F'→Same F' H→J.stop ds.length H
def EvI (K:PySem.W.Frag) (S:Sx) (κ:Bool) (t:TI) (Γ:Ctx) (ds:List PyData):Prop:=∀ (H0 F0 H F:Hp) (σ:St),DEnv K S H0 F0 H F σ Γ→∀ R:It→Hp→Prop,(∀ J H' F',Gr H F H' F'→ItD K S κ H0 F' J ds→R J H')→t σ H R
theorem ei_list {t:TE} {ds:List PyData} (h:EvE K S κ t Γ (.list ds)):EvI K S κ (iList K t) Γ ds:=fun H0 F0 H F σ e R q =>
  h H0 F0 H F σ e _ fun v H1 F1 g1 p1=>by
    obtain ⟨a,vs,rfl,h1,h2⟩:=rp_lst p1
    have hl:=RpAll.length h2
    have up:∀ {F' H':Hp},Same F1 F'→Same F' H'→SqL K H' a vs:=fun s1 s2=>(s1.trans s2).seq h1.sq
    refine ⟨a,rfl,⟨vs,up (.refl _) g1.le⟩,q _ H1 F1 g1 ⟨fun i H' F' s1 s2 hi=>?_,fun i H' F' x H'' s1 s2 _ hi y=>?_,fun H' F' s1 s2=>?_⟩⟩
    · exact ⟨vs,vs[i]'(by omega),up s1 s2,by simp⟩
    · obtain ⟨rfl,y⟩:=y
      obtain ⟨d,hd,hp⟩:=RpAll.get' h2 (y vs (up s1 s2))
      exact ⟨d,F',hd,.refl s2,rp_mono s1 hp⟩
    · exact ⟨vs,up s1 s2,by omega⟩
theorem ei_rng1 {t:TA} {n:Int} (h:EvA K S false t Γ [.int n]) (h1:-(2 ^ 62)≤n) (h2:n < 2 ^ 62):EvI K S κ (iRng1 t) Γ ((List.range n.toNat).map fun i:Nat=>.int (i:Int)):=fun H0 F0 H F σ e R q =>
  h H0 F0 H F σ e _ fun vs H1 F1 g1 p1=>by
    cases p1 with
    | cons p p1 =>
      cases p1
      cases rp_int p
      refine ⟨n,rfl,h1,h2,q _ H1 F1 g1 ⟨fun i H' F' s1 s2 hi=>?_,fun i H' F' x H'' s1 s2 _ hi y=>?_,fun H' F' s1 s2=>?_⟩⟩
      · show i < n.toNat
        simpa using hi
      · obtain ⟨rfl,rfl⟩:=y
        have hi':i < n.toNat:=by simpa using hi
        refine ⟨.int i,F',by simp [hi'],.refl s2,?_⟩
        have:(0:Int) + (i:Int)=i:=by omega
        rw [this]; exact .int _
      · show n.toNat≤_
        simp
theorem ei_rng2 {t:TA} {m n:Int} (h:EvA K S false t Γ [.int m,.int n]) (h1:-(2 ^ 62)≤m∧m < 2 ^ 62∧-(2 ^ 62)≤n∧n < 2 ^ 62):EvI K S κ (iRng2 t) Γ ((List.range (n - m).toNat).map fun i:Nat=>.int (m + (i:Int))):=fun H0 F0 H F σ e R q =>
  h H0 F0 H F σ e _ fun vs H1 F1 g1 p1=>by
    cases p1 with
    | cons p p1 =>
      cases p1 with
      | cons p' p1 =>
        cases p1
        cases rp_int p
        cases rp_int p'
        refine ⟨m,n,rfl,h1,q _ H1 F1 g1 ⟨fun i H' F' s1 s2 hi=>?_,fun i H' F' x H'' s1 s2 _ hi y=>?_,fun H' F' s1 s2=>?_⟩⟩
        · show i < (n - m).toNat
          simpa using hi
        · obtain ⟨rfl,rfl⟩:=y
          have hi':i < (n - m).toNat:=by simpa using hi
          exact ⟨.int (m + i),F',by simp [hi'],.refl s2,.int _⟩
        · show (n - m).toNat≤_
          simp
def captG (js:List (Option Nat)) (Γ:Ctx):Ctx:=js.map fun o=>match o with | none=>none | some j=>(Γ[j]?).join
theorem captG_get {js:List (Option Nat)} {i:Nat} {d:DV} (h:(captG js Γ)[i]?=some (some d)):∃ j,js[i]?=some (some j)∧Γ[j]?=some (some d):=by
  unfold captG at h
  rw [List.getElem?_map] at h
  cases e:js[i]? with
  | none=>rw [e] at h; cases h
  | some o =>
    rw [e] at h
    cases o with
    | none=>cases h
    | some j =>
      refine ⟨j,rfl,?_⟩
      have h':(Γ[j]?).join=some d:=Option.some.inj h
      cases q:Γ[j]? with
      | none=>rw [q] at h'; cases h'
      | some o=>rw [q] at h'; exact congrArg some h'
theorem capt_get {js:List (Option Nat)} {σ:St} {i j:Nat} {v:V} (h:js[i]?=some (some j)) (k:σ[j]?=some (some v)):(capt js σ)[i]?=some (some v):=by
  unfold capt
  rw [List.getElem?_map,h]
  show some ((σ[j]?).join)=_
  rw [k]; rfl
theorem DEnv.capt {H0 F0 H F:Hp} {σ:St} {js:List (Option Nat)} (e:DEnv K S H0 F0 H F σ Γ) (hj:∀ i j k:Nat,js[i]?=some (some k)→js[j]?=some (some k)→i=j):DEnv K S H0 F0 H F (L2.capt js σ) (captG js Γ):=by
  refine ⟨e.gr,e.l0,e.sd,e.s0,by unfold L2.capt captG; simp,fun i d h=>?_,fun i j x y v w a h1 h2 h3 h4 o1 o2=>?_⟩
  · obtain ⟨j,e1,e2⟩:=captG_get h
    obtain ⟨v,e3,e4⟩:=e.has j d e2
    exact ⟨v,capt_get e1 e3,e4⟩
  · obtain ⟨m,e1,e2⟩:=captG_get h1
    obtain ⟨n,e3,e4⟩:=captG_get h2
    obtain ⟨v1,q1,_⟩:=e.has m x e2
    obtain ⟨v2,q2,_⟩:=e.has n y e4
    have c1:=capt_get (σ:=σ) e1 q1
    have c2:=capt_get (σ:=σ) e3 q2
    rw [h3] at c1
    rw [h4] at c2
    cases c1
    cases c2
    have:=e.ne m n x y v w a e2 e4 q1 q2 o1 o2
    subst this
    exact hj i j m e1 e3
theorem evo_comp {κ':Bool} {js:List (Option Nat)} {wi:TI} {g:TG} {tt:TT} {te:TE} {is:List Nat} {ds:List PyData} (p:PyData→Bool) (f:PyData→PyData) (hi:EvI K S κ' wi Γ ds) (hjs:∀ i∈is,js[i]?=some none) (hj:∀ i j k:Nat,js[i]?=some (some k)→js[j]?=some (some k)→i=j)
    (hz:ds.length≤sizeLine) (hb:∀ d∈ds,ExG K S κ' g is d (captG js Γ) fun Γ'=>EvT K S tt Γ' (p d)∧(p d=true→EvE K S κ te Γ' (f d))):EvO K S κ (tComp js wi g tt te) Γ ((ds.filter p).map f):=fun H0 F0 H F σ e Q q =>
  hi H0 F0 H F σ e _ fun J H1 F1 g1 I1=>by
    intro D hD
    have sdm:∀ {H2 F2:Hp},Gr H1 F1 H2 F2→∀ a,S.has H0 a→∃ o,H2 a=some o:=fun g2 a c=>let ⟨o,z⟩:=(e.mono g1).sd a c; ⟨o,g2.h _ _ z⟩
    refine ⟨fun i m ys H2=>m=ds.length - i∧i≤ds.length∧∃ F2,Gr H1 F1 H2 F2∧H2 D=some (.lst ys)∧F2 D=none∧RpAll K κ S H0 F2 ys (((ds.take i).filter p).map f),⟨_,rfl,Nat.zero_le _,F1,.newO g1.le hD _,upd_same,g1.le.free hD,.nil⟩,?_⟩
    rintro i m ys H2 ⟨rfl,hi,F2,g2,hl,fl,k2⟩
    by_cases hlt:i < ds.length
    · refine .inr ⟨I1.go i H2 F2 g2.f g2.le hlt,fun zs H3=>i + 1≤ds.length∧∃ F2,Gr H1 F1 H3 F2∧H3 D=some (.lst zs)∧F2 D=none∧RpAll K κ S H0 F2 zs (((ds.take (i + 1)).filter p).map f),fun zs H3 h3=>⟨ds.length - (i + 1),by omega,rfl,h3⟩,fun x H3 y=>?_⟩
      obtain ⟨d,F3,hd,g3,p3⟩:=I1.yld i H2 F2 x H3 g2.f g2.le (sdm g2) hlt y
      have hl3:=g3.h _ _ hl
      have fl3:=g3.ap _ _ hl fl
      have E3:=((e.mono g1).mono (g2.trans g3)).capt hj
      refine hb d (List.mem_of_getElem? hd) H0 F0 H3 F3 _ x E3 p3 _ fun Γ' σ' H4 F4 hΓ g4 E4 len4 out4=>?_
      obtain ⟨ht,he⟩:=hΓ
      have hl4:=g4.h _ _ hl3
      have fl4:=g4.ap _ _ hl3 fl3
      have tk:ds.take (i + 1)=ds.take i ++ [d]:=by rw [List.take_add_one,hd]; rfl
      refine ⟨⟨len4.symm,fun j v hv=>?_⟩,ht H0 F0 H4 F4 σ' E4 _ fun H5 F5 g5=>?_⟩
      · by_cases hjj:j∈is
        · have:=hjs j hjj
          unfold L2.capt at hv
          rw [List.getElem?_map,this] at hv
          cases hv
        · rw [out4 j hjj]; exact hv
      have hl5:=g5.h _ _ hl4
      have fl5:=g5.ap _ _ hl4 fl4
      cases hpd:p d with
      | false =>
        refine iteF ⟨hlt,F5,g2.trans ((g3.trans g4).trans g5),hl5,fl5,?_⟩
        rw [tk,List.filter_append,List.map_append]
        simp only [List.filter_cons,hpd,List.filter_nil]
        simpa using rpAll_mono ((g3.trans g4).trans g5).f k2
      | true =>
        refine iteT (he hpd H0 F0 H5 F5 σ' (E4.mono g5) _ fun v H6 F6 g6 p6=>?_)
        have hl6:=g6.h _ _ hl5
        have fl6:=g6.ap _ _ hl5 fl5
        have gg:=(g3.trans g4).trans (g5.trans g6)
        have G6:=g2.trans gg
        refine ⟨hl6,?_,hlt,F6,⟨fun b u z=>?_,G6.f,fun b u z=>?_,G6.ap⟩,upd_same,fl6,?_⟩
        · have h1:=RpAll.length k2
          rw [List.length_map] at h1
          have h2:=List.length_filter_le p (ds.take i)
          rw [List.length_take] at h2
          omega
        · rw [upd_ne (ne_of_none z hD)]; exact G6.h _ _ z
        · rw [upd_ne (by rintro rfl; rw [fl6] at z; cases z)]; exact G6.le _ _ z
        · rw [tk,List.filter_append,List.map_append]
          simp only [List.filter_cons,hpd,List.filter_nil,if_true,List.map_cons,List.map_nil]
          exact RpAll.append (rpAll_mono gg.f k2) (.cons p6 .nil)
    · have ei:i=ds.length:=by omega
      subst ei
      rw [List.take_length] at k2
      exact .inl ⟨I1.stop H2 F2 g2.f g2.le,q D ys H2 F2 (g1.trans g2) (g1.h.free hD) hl fl k2⟩
end
end PD
namespace PD
open PySem L2
section
variable {K:PySem.W.Frag} {S:Sx} {κ:Bool} {Γ:Ctx}
structure Post where
  nx:Ctx→Prop
  rt:PyData→Prop
  bk:Ctx→Prop:=fun _=>False
  ct:Ctx→Prop:=fun _=>False
  kr:Bool:=false
structure Into (K:PySem.W.Frag) (S:Sx) (H0 F0 B:Hp) (P:Post) (D:Ends):Prop where
  nx:∀ Γ' σ' H' F',P.nx Γ'→Same B F'→DEnv K S H0 F0 H' F' σ' Γ'→D.nx σ' H'
  rt:∀ d v H' F',P.rt d→Gr H0 F0 H' F'→Rp K P.kr .fresh H0 F' v d→D.rt v H'
  bk:∀ Γ' σ' H' F',P.bk Γ'→Same B F'→DEnv K S H0 F0 H' F' σ' Γ'→D.bk σ' H'
  ct:∀ Γ' σ' H' F',P.ct Γ'→Same B F'→DEnv K S H0 F0 H' F' σ' Γ'→D.ct σ' H'
theorem Into.mono {H0 F0 F F':Hp} {P:Post} {D:Ends} (h:Into K S H0 F0 F P D) (s:Same F F'):Into K S H0 F0 F' P D :=
  ⟨fun Γ' σ' H' F' p s'=>h.nx Γ' σ' H' F' p (s.trans s'),h.rt,fun Γ' σ' H' F' p s'=>h.bk Γ' σ' H' F' p (s.trans s'),fun Γ' σ' H' F' p s'=>h.ct Γ' σ' H' F' p (s.trans s')⟩
def Avoid (S:Sx) (B:Hp):Prop:=∀ T,S=.spoil T→∀ a xs,B a=some (.lst xs)→¬ T a
def ExT (K:PySem.W.Frag) (S S':Sx) (t:TS) (Γ:Ctx) (P:Post):Prop:=∀ (H0 F0 H F:Hp) (σ:St) (B:Hp),DEnv K S H0 F0 H F σ Γ→Same B F→(S'=S∨Avoid S B)→∀ D:Ends,Into K S' H0 F0 B P D→t D σ H
abbrev ExS (K:PySem.W.Frag) (S:Sx) (t:TS) (Γ:Ctx) (P:Post):Prop:=ExT K S S t Γ P
variable {S':Sx}
variable {P:Post}
theorem ex_next (h:P.nx Γ):ExS K S tNext Γ P:=fun H0 F0 H F σ B e b _ D I=>I.nx Γ σ H F h b e
theorem ex_seq {t u:TS} (N:Ctx→Prop) (h1:ExT K S S t Γ { P with nx:=N,bk:=fun _=>False,ct:=fun _=>False }) (h2:∀ Γ',N Γ'→ExT K S S' u Γ' P):ExT K S S' (tSeq t u) Γ P:=fun H0 F0 H F σ B e b v D I =>
  h1 H0 F0 H F σ B e b (.inl rfl) { D with nx:=u D } ⟨fun Γ' σ' H' F' n s e'=>h2 Γ' n H0 F0 H' F' σ' B e' s v D I,I.rt,fun _ _ _ _ z=>z.elim,fun _ _ _ _ z=>z.elim⟩
theorem has_fresh {H0:Hp} {a:Addr} (h:¬ S.has H0 a):¬ Sx.has .fresh H0 a:=by
  cases S with
  | fresh=>exact h
  | spoil T=>exact fun c=>h (.inl c)
theorem ret_kind {H0 F:Hp} {kr:Bool} {v:V} {d:PyData} (hk:(S=S∧κ=kr)∨kr=false) (p:Rp K κ S H0 F v d):Rp K kr .fresh H0 F v d:=by
  rcases hk with ⟨_,rfl⟩ | rfl
  · cases κ with
    | false=>exact dp_rp (rp_dp p)
    | true=>exact rp_map (κ:=true) (κ':=true) (fun a xs z=>⟨z.1,has_fresh z.2⟩) (fun _ _ z=>z) p
  · exact dp_rp (rp_dp p)
theorem ex_ret {te:TE} {d:PyData} (κ:Bool) (h:EvE K S κ te Γ d) (hr:P.rt d) (hk:(S=S∧κ=P.kr)∨P.kr=false):ExT K S S' (tRet te) Γ P:=fun H0 F0 H F σ B e b _ D I=>h H0 F0 H F σ e _ fun v H' F' g p=>I.rt d v H' F' hr (e.gr.trans g) (ret_kind hk p)
theorem ex_freeze {t:TS} (i:Nat) {ds:List PyData} (h:Γ[i]?=some (some (.ow κ ds))) (k:ExT K S S' t (Γ.set i (some (.fz κ (.list ds)))) P):ExT K S S' t Γ P:=fun H0 F0 H F σ B e b v D I=>by
  obtain ⟨F',s,e'⟩:=e.freeze h
  exact k H0 F0 H F' σ B e' (b.trans s) v D I
theorem ex_retO {i:Nat} {ds:List PyData} (h:Γ[i]?=some (some (.ow κ ds))) (hr:P.rt (.list ds)) (hk:(S=S∧κ=P.kr)∨P.kr=false):ExT K S S' (tRet (tVar i)) Γ P :=
  ex_freeze i h (ex_ret κ (ev_var (by rw [List.getElem?_set_self (List.getElem?_eq_some_iff.mp h).1])) hr hk)
theorem ex_set {te:TE} {i:Nat} {d:PyData} (h:EvE K S κ te Γ d) (k:P.nx (Γ.set i (some (.fz κ d)))):ExS K S (tAsg te (gName i)) Γ P:=fun H0 F0 H F σ B e b _ D I =>
  h H0 F0 H F σ e _ fun v H' F' g p=>I.nx _ _ H' F' k (b.trans g.f) ((e.mono g).setF p)
theorem ex_setO {te:TE} {i:Nat} {ds:List PyData} (h:EvO K S κ te Γ ds) (k:P.nx (Γ.set i (some (.ow κ ds)))):ExS K S (tAsg te (gName i)) Γ P:=fun H0 F0 H F σ B e b _ D I =>
  h H0 F0 H F σ e _ fun a vs H' F' g n p f q=>I.nx _ _ H' F' k (b.trans g.f) ((e.mono g).set (x:=.ow κ ds) ⟨a,vs,rfl,⟨p,f,e.gr.h.free n,e.out n⟩,q⟩ fun c oc j y w hj z hw o=>by
    cases (show V.ref a=.ref c from oc)
    obtain ⟨v,q1,q2⟩:=e.has j y z
    rw [hw] at q1
    cases q1
    obtain ⟨us,w1⟩:=q2.owns (o.back q2 fun _ _ z=>g.h _ _ z.h)
    have:=w1.h
    rw [n] at this; cases this)
theorem ex_append {te:TE} {i:Nat} {ds:List PyData} {d:PyData} (h:Γ[i]?=some (some (.ow κ ds))) (he:EvE K S κ te Γ d) (hz:ds.length < sizeLine) (k:P.nx (Γ.set i (some (.ow κ (ds ++ [d]))))):ExS K S (tDrop (tBM K "list" rAppend (tVar i) (tCons te tNil))) Γ P:=fun H0 F0 H F σ B e b _ D I=>by
  obtain ⟨v0,q1,a,vs,rfl,w,q5⟩:=e.has i _ h
  refine ⟨_,q1,.inl ⟨rfl,_,SqL.of w.h⟩,he H0 F0 H F σ e _ fun v H' F' g p=>?_⟩
  have k':=rpAll_mono g.f q5
  refine ⟨a,vs,v,rfl,rfl,g.h _ _ w.h,by rw [RpAll.length q5]; exact hz,?_⟩
  exact I.nx _ _ _ F' k (b.trans g.f) ((e.mono g).put (y:=.ow κ (ds ++ [d])) h q1 (show Owns H' (.ref a) (.ow κ ds) a from rfl) ⟨a,_,rfl,⟨upd_same,(w.mono g).f,w.n,w.s⟩,RpAll.append k' (.cons p .nil)⟩ fun _ z=>z)
theorem ex_setItem {te ti:TE} {i j:Nat} {m:Int} {ds:List PyData} {d:PyData} (h:Γ[i]?=some (some (.ow κ ds))) (he:EvE K S κ te Γ d) (hi:EvE K S false ti Γ (.int m)) (hm:ixN ds.length m=some j) (k:P.nx (Γ.set i (some (.ow κ (ds.set j d))))) :
    ExS K S (tAsg te (gSub (tVar i) ti rSetL)) Γ P:=fun H0 F0 H F σ B e b _ D I=>by
  obtain ⟨v0,q1,a,vs,rfl,w,q5⟩:=e.has i _ h
  refine he H0 F0 H F σ e _ fun v H1 F1 g1 p1=>⟨_,q1,hi H0 F0 H1 F1 σ (e.mono g1) _ fun w' H2 F2 g2 p2=>?_⟩
  cases rp_int p2
  have k':=rpAll_mono (g1.trans g2).f q5
  refine ⟨a,vs,m,j,rfl,rfl,(g1.trans g2).h _ _ w.h,by rw [RpAll.length q5]; exact hm,?_⟩
  exact I.nx _ _ _ F2 k (b.trans (g1.trans g2).f) ((e.mono (g1.trans g2)).put (y:=.ow κ (ds.set j d)) h q1 (show Owns H2 (.ref a) (.ow κ ds) a from rfl) ⟨a,_,rfl,⟨upd_same,(w.mono (g1.trans g2)).f,w.n,w.s⟩,RpAll.set (rp_mono g2.f p1) _ k'⟩ fun _ z=>z)
theorem ex_if {c:TT} {t u:TS} {b:Bool} (hc:EvT K S c Γ b) (h1:b=true→ExT K S S' t Γ P) (h2:b=false→ExT K S S' u Γ P):ExT K S S' (tIfS c t u) Γ P:=fun H0 F0 H F σ B e bb v D I =>
  hc H0 F0 H F σ e _ fun H' F' g=>by
    cases b with
    | true=>exact iteT (h1 rfl H0 F0 H' F' σ B (e.mono g) (bb.trans g.f) v D I)
    | false=>exact iteF (h2 rfl H0 F0 H' F' σ B (e.mono g) (bb.trans g.f) v D I)
theorem ex_for {wi:TI} {g:TG} {tb:TS} {ds:List PyData} (κ:Bool) (Iv:Nat→Ctx→Prop) (hi:EvI K S κ wi Γ ds) (h0:Iv 0 Γ)
    (hs:∀ i d Γ',ds[i]?=some d→Iv i Γ'→∃ js,ExG K S κ g js d Γ' fun Γ''=>ExS K S tb Γ'' { nx:=Iv (i + 1),rt:=P.rt,bk:=P.nx,ct:=Iv (i + 1),kr:=P.kr }) (hd:∀ Γ',Iv ds.length Γ'→P.nx Γ'):ExS K S (tFor wi g tb) Γ P:=fun H0 F0 H F σ B e b _ D I =>
  hi H0 F0 H F σ e _ fun J H1 F1 g1 I1=>by
    refine ⟨fun i m σ2 H2=>m=ds.length - i∧i≤ds.length∧∃ Γ2 F2,Iv i Γ2∧Same F1 F2∧DEnv K S H0 F0 H2 F2 σ2 Γ2,⟨_,rfl,Nat.zero_le _,Γ,F1,h0,.refl _,e.mono g1⟩,?_⟩
    rintro i m σ2 H2 ⟨rfl,hi,Γ2,F2,v2,s2,e2⟩
    have b1:Same B F1:=b.trans g1.f
    by_cases hlt:i < ds.length
    · refine .inr ⟨I1.go i H2 F2 s2 e2.le hlt,fun σ3 H3=>i + 1≤ds.length∧∃ Γ3 F3,Iv (i + 1) Γ3∧Same F1 F3∧DEnv K S H0 F0 H3 F3 σ3 Γ3,fun σ3 H3 h3=>⟨_,by omega,rfl,h3⟩,fun x H3 y=>?_⟩
      obtain ⟨d,F3,hd,g3,p3⟩:=I1.yld i H2 F2 x H3 s2 e2.le e2.sd hlt y
      obtain ⟨js,hg⟩:=hs i d Γ2 hd v2
      refine hg H0 F0 H3 F3 σ2 x (e2.mono g3) p3 _ fun Γ' σ' H4 F4 k4 g4 e4 _ _=>?_
      have s4:Same F1 F4:=s2.trans (g3.f.trans g4.f)
      exact k4 H0 F0 H4 F4 σ' F1 e4 s4 (.inl rfl) _ ⟨fun Γ5 σ5 H5 F5 n s5 e5=>⟨hlt,Γ5,F5,n,s5,e5⟩,I.rt,fun Γ5 σ5 H5 F5 n s5 e5=>I.nx Γ5 σ5 H5 F5 n (b1.trans s5) e5,fun Γ5 σ5 H5 F5 n s5 e5=>⟨hlt,Γ5,F5,n,s5,e5⟩⟩
    · have ei:i=ds.length:=by omega
      subst ei
      exact .inl ⟨I1.stop H2 F2 s2 e2.le,I.nx Γ2 σ2 H2 F2 (hd Γ2 v2) (b1.trans s2) e2⟩
theorem ex_while {c:TT} {tb:TS} (Iv:Nat→Ctx→Prop) (m0:Nat) (h0:Iv m0 Γ)
    (hs:∀ m Γ',Iv m Γ'→∃ b,EvT K S c Γ' b∧(b=true→ExS K S tb Γ' { nx:=fun Γ''=>∃ m',m' < m∧Iv m' Γ'',rt:=P.rt,bk:=P.nx,ct:=fun Γ''=>∃ m',m' < m∧Iv m' Γ'',kr:=P.kr })∧(b=false→P.nx Γ')):ExS K S (tWhile c tb) Γ P:=fun H0 F0 H F σ B e bb _ D I=>by
  refine ⟨fun m σ2 H2=>∃ Γ2 F2,Iv m Γ2∧Same B F2∧DEnv K S H0 F0 H2 F2 σ2 Γ2,⟨m0,Γ,F,h0,bb,e⟩,?_⟩
  rintro m σ2 H2 ⟨Γ2,F2,v2,s2,e2⟩
  obtain ⟨b,hc,h1,h2⟩:=hs m Γ2 v2
  refine hc H0 F0 H2 F2 σ2 e2 _ fun H3 F3 g3=>?_
  have s3:=s2.trans g3.f
  cases b with
  | true =>
    refine iteT ⟨fun σ4 H4=>∃ m',m' < m∧∃ Γ4 F4,Iv m' Γ4∧Same B F4∧DEnv K S H0 F0 H4 F4 σ4 Γ4,fun σ4 H4 ⟨m',hm,h⟩=>⟨m',hm,h⟩,?_⟩
    exact h1 rfl H0 F0 H3 F3 σ2 B (e2.mono g3) s3 (.inl rfl) _ ⟨fun Γ5 σ5 H5 F5 ⟨m',hm,n⟩ s5 e5=>⟨m',hm,Γ5,F5,n,s5,e5⟩,I.rt,fun Γ5 σ5 H5 F5 n s5 e5=>I.nx Γ5 σ5 H5 F5 n s5 e5,fun Γ5 σ5 H5 F5 ⟨m',hm,n⟩ s5 e5=>⟨m',hm,Γ5,F5,n,s5,e5⟩⟩
  | false=>exact iteF (I.nx Γ2 σ2 H3 F3 (h2 rfl) s3 (e2.mono g3))
def startG (n:Nat) (ds:List PyData):Ctx:=ds.map (fun d=>some (.fz false d)) ++ List.replicate (n - ds.length) none
theorem denv_start {H F:Hp} {N:List Str} {vs:List V} {ds:List PyData} (le:Same F H) (k:DpAll K F vs ds):DEnv K .fresh H F H F (L2.start N vs) (startG N.length ds):=by
  have l:=DpAll.length k
  have no:∀ (i:Nat) (x:DV),(startG N.length ds)[i]?=some (some x)→∃ d,x=.fz false d∧ds[i]?=some d:=fun i x h=>by
    unfold startG at h
    by_cases hi:i < ds.length
    · rw [List.getElem?_append_left (by simpa using hi),List.getElem?_map] at h
      rw [List.getElem?_eq_getElem hi] at h ⊢
      have h':some (DV.fz false ds[i])=some x:=Option.some.inj h
      exact ⟨_,(Option.some.inj h').symm,rfl⟩
    · rw [List.getElem?_append_right (by simpa using Nat.le_of_not_lt hi)] at h
      rw [List.getElem?_replicate] at h
      split at h <;> cases h
  refine ⟨.refl le,le,fun a c=>?_,fun T z=>(nomatch z),by unfold L2.start startG; simp [l],fun i x h=>?_,fun i j x y v w a h _ _ _ o=>?_⟩
  · cases q:H a with
    | none=>exact absurd q c
    | some o=>exact ⟨o,rfl⟩
  · obtain ⟨d',e,h'⟩:=no i _ h
    cases e
    obtain ⟨v,h1,h2⟩:=DpAll.get k h'
    refine ⟨v,?_,dp_rp h2⟩
    unfold L2.start
    have hi:=(List.getElem?_eq_some_iff.mp h1).1
    rw [List.getElem?_append_left (by simpa using hi),List.getElem?_map,h1]
    rfl
  · obtain ⟨d',e,_⟩:=no i _ h
    cases e
    exact o.elim
theorem run_body {t:TS} {N:List Str} {H F:Hp} {vs:List V} {ds:List PyData} {d:PyData} {Q:VK} {Γ:Ctx} (hΓ:startG N.length ds=Γ) (h:ExS K .fresh t Γ { nx:=fun _=>d=.none,rt:=fun x=>x=d,kr:=κ }) (le:Same F H) (k:DpAll K F vs ds)
    (q:∀ v H' F',Gr H F H' F'→Rp K κ .fresh H F' v d→Q v H'):t { nx:=fun _ H'=>Q .non H',rt:=Q } (L2.start N vs) H:=by
  subst hΓ
  refine h H F H F (L2.start N vs) F (denv_start le k) (.refl _) (.inl rfl) _ ⟨fun Γ' σ' H' F' n _ e=>?_,fun d' v H' F' e g p=>?_,fun _ _ _ _ z=>z.elim,fun _ _ _ _ z=>z.elim⟩
  · have n':d=.none:=n
    subst n'
    exact q .non H' F' e.gr .non
  · have e':d'=d:=e
    subst e'
    exact q v H' F' g p
theorem spD_len {pre:List PyData→PyData→Prop} {n:Nat} (h:∀ ds d,pre ds d→ds.length=n) {vs:List V} {H:Hp} {Q:VK} {E:XK} (s:spD K κ pre vs H Q E):vs.length=n:=by
  obtain ⟨F,ds,d,_,k,p,_⟩:=s
  rw [DpAll.length k]
  exact h ds d p
def isLst:Option HO→Bool
  | some (.lst _)=>true
  | _=>false
open Classical in
noncomputable def drop (T:Addr→Prop) (F:Hp):Hp:=fun a=>if T a∧isLst (F a)=true then none else F a
theorem drop_some {T:Addr→Prop} {F:Hp} {a:Addr} {o:HO}:drop T F a=some o↔F a=some o∧¬ (T a∧isLst (some o)=true):=by
  unfold drop
  constructor
  · intro h
    split at h
    · cases h
    · rename_i c; rw [h] at c; exact ⟨h,c⟩
  · rintro ⟨h,c⟩
    rw [h,if_neg c]
end
end PD
namespace PD
open PySem L2
inductive SetC:Ctx→Nat→Option DV→Ctx→Prop
  | zero {a x:Option DV} {l:Ctx}:SetC (a :: l) 0 x (x :: l)
  | succ {a x:Option DV} {l l':Ctx} {i:Nat}:SetC l i x l'→SetC (a :: l) (i + 1) x (a :: l')
theorem SetC.eq {Γ Γ':Ctx} {i:Nat} {x:Option DV} (h:SetC Γ i x Γ'):Γ.set i x=Γ':=by
  induction h with
  | zero=>rfl
  | succ _ ih=>rw [List.set_cons_succ,ih]
inductive GetC:Ctx→Nat→DV→Prop
  | zero {x:DV} {l:Ctx}:GetC (some x :: l) 0 x
  | succ {a:Option DV} {x:DV} {l:Ctx} {i:Nat}:GetC l i x→GetC (a :: l) (i + 1) x
theorem GetC.eq {Γ:Ctx} {i:Nat} {x:DV} (h:GetC Γ i x):Γ[i]?=some (some x):=by
  induction h with
  | zero=>rfl
  | succ _ ih=>rw [List.getElem?_cons_succ,ih]
inductive CaptC:List (Option Nat)→Ctx→Ctx→Prop
  | nil {Γ:Ctx}:CaptC [] Γ []
  | no {js:List (Option Nat)} {Γ Γ':Ctx}:CaptC js Γ Γ'→CaptC (none :: js) Γ (none :: Γ')
  | got {js:List (Option Nat)} {Γ Γ':Ctx} {j:Nat} {x:DV}:GetC Γ j x→CaptC js Γ Γ'→CaptC (some j :: js) Γ (some x :: Γ')
theorem CaptC.eq {js:List (Option Nat)} {Γ Γ':Ctx} (h:CaptC js Γ Γ'):captG js Γ=Γ':=by
  induction h with
  | nil=>rfl
  | no _ ih =>
    unfold captG at ih ⊢
    rw [List.map_cons,ih]
  | got g _ ih =>
    unfold captG at ih ⊢
    rw [List.map_cons,ih]
    show (Option.join _ :: _)=_
    rw [g.eq]
    rfl
section
variable {K:PySem.W.Frag} {S S':Sx} {κ κ':Bool} {Γ Γ' Γ'':Ctx} {P:Post}
theorem evv {i:Nat} {d:PyData} (h:GetC Γ i (.fz κ' d)) (hk:κ=true→κ'=true):EvE K S κ (tVar i) Γ d:=(ev_var h.eq).weak hk
theorem evi {i:Nat} {d:PyData} (h:GetC Γ i (.fz κ' d)) (hk:imm d=true):EvE K S κ (tVar i) Γ d:=(ev_var h.eq).imm hk
theorem EvL.weak {t:TE} {ds:List PyData} (h:EvL K S κ' t Γ ds) (hk:κ=true→κ'=true):EvL K S κ t Γ ds:=fun H0 F0 H F σ e Q q=>h H0 F0 H F σ e Q fun a vs H' F' g p k=>q a vs H' F' g p (by
  cases κ with
  | false=>exact dpAll_rp (rpAll_dp k)
  | true=>rw [hk rfl] at k; exact k)
theorem evw {i:Nat} {ds:List PyData} (h:GetC Γ i (.ow κ' ds)) (hk:κ=true→κ'=true):EvL K S κ (tVar i) Γ ds:=(evl_own h.eq).weak hk
theorem exs {te:TE} {u:TS} {i:Nat} {d:PyData} (κ:Bool) (h:EvE K S κ te Γ d) (e:SetC Γ i (some (.fz κ d)) Γ') (k:ExT K S S' u Γ' P):ExT K S S' (tSeq (tAsg te (gName i)) u) Γ P:=ex_seq (·=Γ') (ex_set h e.eq) fun _ z=>z ▸ k
theorem exs1 {te:TE} {i:Nat} {d:PyData} (κ:Bool) (h:EvE K S κ te Γ d) (e:SetC Γ i (some (.fz κ d)) Γ') (k:P.nx Γ'):ExS K S (tAsg te (gName i)) Γ P:=ex_set h (e.eq ▸ k)
theorem exo {te:TE} {u:TS} {i:Nat} {ds:List PyData} (κ:Bool) (h:EvO K S κ te Γ ds) (e:SetC Γ i (some (.ow κ ds)) Γ') (k:ExT K S S' u Γ' P):ExT K S S' (tSeq (tAsg te (gName i)) u) Γ P:=ex_seq (·=Γ') (ex_setO h e.eq) fun _ z=>z ▸ k
theorem exa {te:TE} {u:TS} {i:Nat} {ds:List PyData} {d:PyData} (h:GetC Γ i (.ow κ ds)) (he:EvE K S κ te Γ d) (e:SetC Γ i (some (.ow κ (ds ++ [d]))) Γ') (hz:ds.length < sizeLine) (k:ExT K S S' u Γ' P):ExT K S S' (tSeq (tDrop (tBM K "list" rAppend (tVar i) (tCons te tNil))) u) Γ P:=ex_seq (·=Γ') (ex_append h.eq he hz e.eq) fun _ z=>z ▸ k
theorem exa1 {te:TE} {i:Nat} {ds:List PyData} {d:PyData} (h:GetC Γ i (.ow κ ds)) (he:EvE K S κ te Γ d) (e:SetC Γ i (some (.ow κ (ds ++ [d]))) Γ') (hz:ds.length < sizeLine) (k:P.nx Γ'):ExS K S (tDrop (tBM K "list" rAppend (tVar i) (tCons te tNil))) Γ P:=ex_append h.eq he hz (e.eq ▸ k)
theorem exi1 {te ti:TE} {i j:Nat} {m:Int} {ds:List PyData} {d:PyData} (h:GetC Γ i (.ow κ ds)) (he:EvE K S κ te Γ d) (hi:EvE K S false ti Γ (.int m)) (hm:ixN ds.length m=some j) (e:SetC Γ i (some (.ow κ (ds.set j d))) Γ') (k:P.nx Γ'):ExS K S (tAsg te (gSub (tVar i) ti rSetL)) Γ P:=ex_setItem h.eq he hi hm (e.eq ▸ k)
theorem exfz {t:TS} (i:Nat) {ds:List PyData} (h:GetC Γ i (.ow κ ds)) (e:SetC Γ i (some (.fz κ (.list ds))) Γ') (k:ExT K S S' t Γ' P):ExT K S S' t Γ P:=ex_freeze i h.eq (by rw [e.eq]; exact k)
theorem egn {i:Nat} {d:PyData} {k:Ctx→Prop} (e:SetC Γ i (some (.fz κ d)) Γ') (h:k Γ'):ExG K S κ (gName i) [i] d Γ k:=eg_name (by rw [e.eq]; exact h)
theorem exro {i:Nat} {ds:List PyData} (h:GetC Γ i (.ow κ ds)) (hr:P.rt (.list ds)) (hk:(S=S∧κ=P.kr)∨P.kr=false):ExT K S S' (tRet (tVar i)) Γ P:=ex_retO h.eq hr hk
theorem exif {c:TT} {t u v:TS} {b:Bool} (N:Ctx→Prop) (hc:EvT K S c Γ b) (h1:b=true→ExS K S t Γ { P with nx:=N,bk:=fun _=>False,ct:=fun _=>False }) (h2:b=false→ExS K S u Γ { P with nx:=N,bk:=fun _=>False,ct:=fun _=>False }) (k:∀ Γ',N Γ'→ExT K S S' v Γ' P):ExT K S S' (tSeq (tIfS c t u) v) Γ P:=ex_seq N (ex_if hc h1 h2) k
theorem exif2 {c:TT} {t u v:TS} {b:Bool} (hc:EvT K S c Γ b) (h1:b=true→ExT K S S' (tSeq t v) Γ P) (h2:b=false→ExT K S S' (tSeq u v) Γ P):ExT K S S' (tSeq (tIfS c t u) v) Γ P:=fun H0 F0 H F σ B e bb vv D I=>by
  refine hc H0 F0 H F σ e _ fun H' F' g=>?_
  cases b with
  | true=>exact iteT (h1 rfl H0 F0 H' F' σ B (e.mono g) (bb.trans g.f) vv D I)
  | false=>exact iteF (h2 rfl H0 F0 H' F' σ B (e.mono g) (bb.trans g.f) vv D I)
theorem exn {v:TS} (k:ExT K S S' v Γ P):ExT K S S' (tSeq tNext v) Γ P:=ex_seq (·=Γ) (ex_next rfl) fun _ z=>z ▸ k
theorem exifF {c:TT} {t v:TS} {b:Bool} (hc:EvT K S c Γ b) (hb:b=false) (k:ExT K S S' v Γ P):ExT K S S' (tSeq (tIfS c t tNext) v) Γ P:=exif2 hc (fun h=>by rw [hb] at h; cases h) fun _=>exn k
theorem exfor {wi:TI} {g:TG} {tb u:TS} {ds:List PyData} (κ:Bool) (Iv:Nat→Ctx→Prop) (hi:EvI K S κ wi Γ ds) (h0:Iv 0 Γ)
    (hs:∀ i d Γ',ds[i]?=some d→Iv i Γ'→∃ js,ExG K S κ g js d Γ' fun Γ''=>ExS K S tb Γ'' { nx:=Iv (i + 1),rt:=P.rt,bk:=Iv ds.length,ct:=Iv (i + 1),kr:=P.kr }) (hd:∀ Γ',Iv ds.length Γ'→ExT K S S' u Γ' P):ExT K S S' (tSeq (tFor wi g tb) u) Γ P:=ex_seq (Iv ds.length) (ex_for κ Iv hi h0 hs fun _ h=>h) hd
theorem exrs {te:TE} {v:TS} {d:PyData} (κ:Bool) (h:EvE K S κ te Γ d) (hr:P.rt d) (hk:(S=S∧κ=P.kr)∨P.kr=false):ExT K S S' (tSeq (tRet te) v) Γ P:=ex_seq (fun _=>False) (ex_ret κ h hr hk) fun _ z=>z.elim
theorem evo_comp' {js:List (Option Nat)} {Γc:Ctx} {wi:TI} {g:TG} {tt:TT} {te:TE} {is:List Nat} {ds:List PyData} (κ':Bool) (p:PyData→Bool) (f:PyData→PyData) (hi:EvI K S κ' wi Γ ds) (hc:CaptC js Γ Γc) (hjs:(is.all fun i=>js[i]? == some none)=true)
    (hj:(js.filterMap id).Nodup) (hz:ds.length≤sizeLine) (hb:∀ d∈ds,ExG K S κ' g is d Γc fun Γ'=>EvT K S tt Γ' (p d)∧(p d=true→EvE K S κ te Γ' (f d))):EvO K S κ (tComp js wi g tt te) Γ ((ds.filter p).map f):=by
  refine evo_comp p f hi (fun i hi=>?_) ?_ hz (by rw [hc.eq]; exact hb)
  · have:=List.all_eq_true.mp hjs i hi
    simpa using this
  · intro i j k h1 h2
    clear hc hjs hi hb
    induction js generalizing i j with
    | nil=>simp at h1
    | cons o js ih =>
      cases o with
      | none =>
        cases i with
        | zero=>simp at h1
        | succ i =>
          cases j with
          | zero=>simp at h2
          | succ j=>rw [ih (by simpa using hj) i j (by simpa using h1) (by simpa using h2)]
      | some m =>
        have hj':(m :: js.filterMap id).Nodup:=by simpa using hj
        have hm:=(List.nodup_cons.mp hj').1
        cases i with
        | zero =>
          cases j with
          | zero=>rfl
          | succ j =>
            have e1:m=k:=by simpa using h1
            subst e1
            have h2':js[j]?=some (some m):=by simpa using h2
            exact absurd (show m∈js.filterMap id from List.mem_filterMap.mpr ⟨some m,List.mem_of_getElem? h2',rfl⟩) hm
        | succ i =>
          cases j with
          | zero =>
            have e1:m=k:=by simpa using h2
            subst e1
            have h2':js[i]?=some (some m):=by simpa using h1
            exact absurd (show m∈js.filterMap id from List.mem_filterMap.mpr ⟨some m,List.mem_of_getElem? h2',rfl⟩) hm
          | succ j=>rw [ih (List.nodup_cons.mp hj').2 i j (by simpa using h1) (by simpa using h2)]
theorem evo_map {js:List (Option Nat)} {Γc:Ctx} {wi:TI} {g:TG} {te:TE} {is:List Nat} {ds:List PyData} (κ':Bool) (f:PyData→PyData) (hi:EvI K S κ' wi Γ ds) (hc:CaptC js Γ Γc) (hjs:(is.all fun i=>js[i]? == some none)=true)
    (hj:(js.filterMap id).Nodup) (hz:ds.length≤sizeLine) (hb:∀ d∈ds,ExG K S κ' g is d Γc fun Γ'=>EvE K S κ te Γ' (f d)):EvO K S κ (tComp js wi g tYes te) Γ (ds.map f):=by
  have h:=evo_comp' (K:=K) (S:=S) (κ:=κ) (g:=g) (tt:=tYes) (te:=te) (is:=is) κ' (fun _=>true) f hi hc hjs hj hz fun d hd H0 F0 H F σ v e p Q q=>hb d hd H0 F0 H F σ v e p Q fun Γ' σ' H' F' k=>q Γ' σ' H' F' ⟨et_yes,fun _=>k⟩
  rwa [List.filter_eq_self.mpr (fun _ _=>rfl)] at h
end
end PD
namespace PD
open PySem L2
inductive StartC:Nat→List PyData→Ctx→Prop
  | z:StartC 0 [] []
  | no {n:Nat} {Γ:Ctx}:StartC n [] Γ→StartC (n + 1) [] (none :: Γ)
  | got {n:Nat} {d:PyData} {ds:List PyData} {Γ:Ctx}:StartC n ds Γ→StartC (n + 1) (d :: ds) (some (.fz false d) :: Γ)
theorem StartC.eq {n:Nat} {ds:List PyData} {Γ:Ctx} (h:StartC n ds Γ):startG n ds=Γ:=by
  induction h with
  | z=>rfl
  | @no n Γ _ ih =>
    rw [← ih]
    unfold startG
    simp [List.replicate_succ]
  | @got n d ds Γ _ ih =>
    rw [← ih]
    unfold startG
    simp
theorem run_def {K:PySem.W.Frag} {κ:Bool} {t:TS} {N:List Str} {n:Nat} {H F:Hp} {vs:List V} {ds:List PyData} {d:PyData} {Q:VK} {Γ:Ctx} (le:Same F H) (k:DpAll K F vs ds) (q:∀ v H' F',Gr H F H' F'→Rp K κ .fresh H F' v d→Q v H') (hn:N.length=n) (hΓ:StartC n ds Γ)
    (h:ExS K .fresh t Γ { nx:=fun _=>d=.none,rt:=fun x=>x=d,kr:=κ }):t { nx:=fun _ H'=>Q .non H',rt:=Q } (L2.start N vs) H:=run_body (hn ▸ hΓ.eq) h le k q
end PD
namespace PD
open PySem L2
section
variable {K:PySem.W.Frag} {S:Sx} {κ:Bool} {Γ:Ctx}
end
theorem asm {p:Prop} (h:p):p:=h
theorem kit_of {K:PySem.W.Frag} {t c:Value} {b:Bool} (h:PySem.W.kitOne K t c=some b):PySem.W.kitOne K t c=some b:=h
end PD
namespace L2
open PySem PySem.Spec PyProof.Rows
section
variable {X:Cx} {K:PySem.W.Frag}
theorem pi_listK {tg l:Expr} {tl:TE} (hK:X.K=K) (hl:PE X l tl):PI X tg l (iList K tl):=by subst hK; exact pi_list hl
variable {o e:Expr} {es:List Expr} {to:TE} {t:TA} {name:Str} {apos cpos:Pos} {T id:String} {r:V→List V→Hp→VK→Prop}
theorem pe_bmK (hK:X.K=K) (pa:PlainAttrs T) (slot:Slot T name id) (hty:typeOf (.builtin id)=pure (.type "method_descriptor")) (hm:MtR X id r) (ho:PE X o to) (ha:PA X (e :: es) t)
    (hbase:attributeBase o name X.env (eval o X.env)=eval o X.env:=by rfl)
    (hfew:((backTo cpos (starEach (e :: es) X.env)).all (fun x=>!x.1) && (backToKw cpos (keywordEach [] X.env)).all (fun x=>x.1.isSome)
      && decide ((e :: es).length + ([]:List Keyword).length + (if ([]:List Keyword).isEmpty then 0 else 1) < 30))=true:=by rfl)
    (hline:(apos.endLine == cpos.line)=true:=by rfl) (hs:starEach (e :: es) X.env=(false,eval e X.env) :: starEach es X.env:=by rfl) (hplain:(backTo cpos (starEach es X.env)).any (·.1)=false:=by rfl):PE X (.Call (.Attribute o name apos) (e :: es) [] cpos) (tBM K T r to t):=by subst hK; exact pe_bm pa slot hty hm ho ha hbase hfew hline hs hplain
end
end L2
namespace PD
open PySem L2
abbrev il (ns:List Int):PyData:=.list (ns.map .int)
def optD:Option Int→PyData
  | none=>.none
  | some i=>.int i
abbrev vl (vw:List (Option Int)):PyData:=.list (vw.map optD)
theorem imm_ints (ns:List Int):∀ d∈ns.map PyData.int,imm d=true:=fun d hd=>by
  obtain ⟨n,_,rfl⟩:=List.mem_map.mp hd
  rfl
section
variable {K:PySem.W.Frag} {S:Sx} {κ:Bool} {Γ:Ctx}
theorem evl_ints {t:TE} {ns:List Int} (h:EvE K S false t Γ (.list (ns.map .int))):EvL K S κ t Γ (ns.map .int):=h.toL.imm (imm_ints ns)
end
theorem get_map {α:Type} {g:α→PyData} {ns:List α} {i:Nat} {d:PyData} (h:(ns.map g)[i]?=some d):∃ n,ns[i]?=some n∧d=g n:=by
  rw [List.getElem?_map] at h
  cases e:ns[i]? with
  | none=>rw [e] at h; cases h
  | some n=>rw [e] at h; exact ⟨n,rfl,(Option.some.inj h).symm⟩
theorem small_mul {i j:Int} (h0:-(2 ^ 64) < j) (h1:j < 2 ^ 64):IntMulOk i j:=.of_right (intBits_le_64 h0 h1)
theorem atI_map {α:Type} {g:α→PyData} {xs:List α} {i:Nat} {x:α} (h:xs[i]?=some x):atI (xs.map g) (i:Int)=some (g x):=atI_nat (by rw [List.getElem?_map,h]; rfl)
theorem ixN_nat {n i:Nat} (h:i < n):ixN n (i:Int)=some i:=by
  unfold ixN
  rw [if_pos (by omega),if_pos (by omega)]
  simp
theorem range_get {n i:Nat} {d:PyData} (h:((List.range n).map fun k:Nat=>PyData.int (k:Int))[i]?=some d):i < n∧d=.int i:=by
  rw [List.getElem?_map] at h
  by_cases hi:i < n
  · rw [List.getElem?_range hi] at h
    exact ⟨hi,(Option.some.inj h).symm⟩
  · rw [List.getElem?_eq_none (by simp; omega)] at h
    cases h
theorem range_len (n:Nat):((List.range n).map fun k:Nat=>PyData.int (k:Int)).length=n:=by rw [List.length_map,List.length_range]
end PD
namespace PD
open PySem L2
end PD
namespace L2
open PySem PySem.Spec PyProof.Rows
section
variable {X:Cx} {CX:CXT} {k:Nat} {ps:List Str} {sp:Sp} {E:XK} {x:Str} {p pos:Pos} {e:Expr} {es:List Expr} {t:TA}
end
end L2
namespace PD
open PySem L2
section
variable {K:PySem.W.Frag} {S S':Sx} {κ:Bool} {Γ:Ctx} {P:Post}
end
end PD
namespace Sx2
open Sh Wd
def smT:List (Int×Int)→Int×Int→Int×Int
  | [],x=>x
  | y :: r,x=>smT r (x.1 * y.2 + y.1 * x.2,x.2 * y.2)
def sm (xs:List (Int×Int)):Int×Int:=smT xs (0,1)
end Sx2
namespace PD
open PySem L2
section
variable {K:PySem.W.Frag} {S S':Sx} {κ:Bool} {Γ:Ctx} {P:Post}
end
theorem lay_map {α:Type} {g:α→PyData} (h:∀ x,PyData.canLay0 (g x)=true):∀ xs:List α,PyData.canLayAll0 (xs.map g)=true
  | []=>rfl
  | x :: r=>by
    show (PyData.canLay0 (g x) && PyData.canLayAll0 (r.map g))=true
    rw [h,lay_map h r]
    rfl
theorem depth_map {α:Type} {g:α→PyData} {n:Nat} (h:∀ x,PyData.depth (g x)≤n):∀ xs:List α,PyData.depthAll (xs.map g)≤n
  | []=>Nat.zero_le _
  | x :: r=>by
    show max (PyData.depth (g x)) (PyData.depthAll (r.map g))≤n
    have:=depth_map h r
    have:=h x
    omega
theorem shaped_of {d:PyData} (h1:PyData.canLay0 d=true) (h2:PyData.depth d≤50):SeqAt.shaped d=true:=by
  unfold SeqAt.shaped
  rw [h1]
  simp
  omega
end PD
namespace L2
open PySem PySem.Spec PyProof.Rows
def srt (ns:List Int):List Int:=ns.mergeSort fun a b=>decide (a≤b)
theorem perm_sorted:∀ {a b:List Int},a.Perm b→a.Pairwise (·≤·)→b.Pairwise (·≤·)→a=b
  | [],b,p,_,_=>p.nil_eq
  | x :: r,[],p,_,_=>absurd p.length_eq (by simp)
  | x :: r,y :: t,p,h1,h2=>by
    have a1:=List.pairwise_cons.mp h1
    have a2:=List.pairwise_cons.mp h2
    have hx:x∈y :: t:=p.mem_iff.mp List.mem_cons_self
    have hy:y∈x :: r:=p.mem_iff.mpr List.mem_cons_self
    have e:x=y:=by
      rcases List.mem_cons.mp hx with e | hx
      · exact e
      · rcases List.mem_cons.mp hy with e | hy
        · exact e.symm
        · have:=a2.1 x hx
          have:=a1.1 y hy
          omega
    subst e
    rw [perm_sorted p.cons_inv a1.2 a2.2]
theorem srt_perm (ns:List Int):(srt ns).Perm ns:=List.mergeSort_perm ns _
theorem srt_sorted (ns:List Int):(srt ns).Pairwise (·≤·):=by
  have:=List.pairwise_mergeSort (le:=fun a b:Int=>decide (a≤b)) (fun a b c h1 h2=>by simp at *; omega) (fun a b=>by simp; omega) ns
  exact this.imp fun h=>by simpa using h
theorem srt_eq {a ns:List Int} (p:a.Perm ns) (h:a.Pairwise (·≤·)):a=srt ns:=perm_sorted (p.trans (srt_perm ns).symm) h (srt_sorted ns)
section
variable {X:Cx} {K:PySem.W.Frag}
theorem vals_of_ints:∀ {ns:List Int} {us:List Value},IntsAre us ns→Vals (ns.map V.int) us
  | _,_,.nil=>.nil
  | _,_,.cons _ t r=>.cons ⟨t,rfl⟩ (vals_of_ints r)
def rSorted (K:PySem.W.Frag):List V→Hp→VK→Prop:=fun xs H Q=>∃ p ns,xs=[.ref p]∧SqL K H p (ns.map V.int)∧ns.length < 64∧∀ l,H l=none→Q (.ref l) (upd H l (.lst ((srt ns).map V.int)))
theorem call_sorted:CallR X (.builtin "sorted") (rSorted X.K):=by
  intro pins s σ H xs us Q I r h
  obtain ⟨p,ns,rfl,hq,h64,q⟩:=h
  obtain ⟨u,rfl,rx⟩:=vals1 r
  cases rx
  obtain ⟨its,r',pl,hz⟩:=I.list hq
  have hl:=r'.length
  rw [List.length_map] at hl hz
  refine sorted_ints (vs:=its) pl.isList (intsAre_of r') (by omega) fun out ns' a1 a2 a3=>?_
  have e:=srt_eq a2 a3
  subst e
  obtain ⟨c,hc⟩:=sortedAll_at s.heap its out
  exact ⟨.ref (s.heap.objs.size + 1),_,I.laid (t':=s.toks) (fun _ _=>sortedAll_old) (Nat.le_succ _) (show ObjOk X.prog X.w _ _ _ (.lst ((srt ns).map V.int)) from ⟨by rw [List.length_map,(srt_perm ns).length_eq]; exact hz,out.toList,c,vals_of_ints a1,by simpa using hc⟩),rfl,q _ (I.hok.fresh (Nat.le_succ _))⟩
theorem call_sortedK (hK:X.K=K):CallR X (.builtin "sorted") (rSorted K):=by subst hK; exact call_sorted
def rInsert:V→List V→Hp→VK→Prop:=fun x vs H Q=>∃ l xs j y,x=.ref l∧vs=[.int j,y]∧H l=some (.lst xs)∧0≤j∧j≤(xs.length:Int)∧xs.length < sizeLine∧Q .non (upd H l (.lst (xs.take j.toNat ++ y :: xs.drop j.toNat)))
theorem mt_insert:MtM X "list.insert" rInsert:=by
  intro pins s σ H x vs v us Q I rx rv h
  obtain ⟨l,xs,j,y,rfl,rfl,hH,h0,hj,hz,q⟩:=h
  cases rx
  cases rv with
  | cons ru rv' =>
    obtain ⟨t,rfl⟩:=ru
    obtain ⟨u,rfl,ry⟩:=Vals.one rv'
    obtain ⟨z,its,n,r,hl,e⟩:=I.lstM hH
    have hb:sizeLine < 2 ^ 62:=by decide
    have hf:Builtin.List.listFitsIndex j=true:=fitsIndex_both (by omega) (by omega)
    have hs:its.toArray.size≤sizeLine:=by rw [List.size_toArray]; omega
    have e1:¬ (j < 0):=by omega
    have e2:min j.toNat its.length=j.toNat:=by omega
    refine call_meets F.slot_list_insert ⟨_,e,rfl⟩ F.entry_list_insert (F.args_list_insert_3 _ _ _) (AutoSeq1.list_insert_list_int_val_1 l its.toArray n j t u (by rw [hf]; decide) hs) ⟨e,?_⟩
    refine ⟨.non,_,I.lset (its':=its.take j.toNat ++ u :: its.drop j.toNat) hH e ?_ ((r.take j.toNat).append (.cons ry (r.drop j.toNat))) ?_,rfl,q⟩
    · simp only [e1,if_false,List.size_toArray,e2]
      apply Array.toList_inj.mp
      simp
      exact List.take_of_length_le (by rw [List.length_drop]; exact Nat.le_refl _)
    · rw [List.length_append,List.length_cons,List.length_take,List.length_drop]
      omega
end
end L2
namespace PD
open PySem L2
section
variable {K:PySem.W.Frag} {S S':Sx} {κ κ':Bool} {Γ Γ' Γ'':Ctx} {P:Post}
theorem rpAll_ints {H0 F:Hp} (ns:List Int):RpAll K κ S H0 F (ns.map V.int) (ns.map .int):=dpAll_immL (imm_ints ns) (dpAll_ints ns)
theorem evo_sorted {ta:TE} {ns:List Int} (h:EvL K S false ta Γ (ns.map .int)) (h64:ns.length < 64):EvO K S κ (tCB (rSorted K) (tCons ta tNil)) Γ ((srt ns).map .int):=fun H0 F0 H F σ e Q q =>
  h H0 F0 H F σ e _ fun a vs H1 F1 g1 p1 k1=>by
    cases dpAll_of_ints (rpAll_dp k1)
    exact ⟨a,ns,rfl,p1,h64,fun p hp=>q p _ _ F1 (g1.trans (.newO g1.le hp _)) (g1.h.free hp) upd_same (g1.le.free hp) (rpAll_ints _)⟩
theorem ex_insert {te ti:TE} {i:Nat} {m:Int} {ds:List PyData} {d:PyData} (h:Γ[i]?=some (some (.ow κ ds))) (hi:EvE K S false ti Γ (.int m)) (he:EvE K S κ te Γ d) (h0:0≤m) (h1:m≤ds.length) (hz:ds.length < sizeLine) (k:P.nx (Γ.set i (some (.ow κ (ds.take m.toNat ++ d :: ds.drop m.toNat))))) :
    ExS K S (tDrop (tBM K "list" rInsert (tVar i) (tCons ti (tCons te tNil)))) Γ P:=fun H0 F0 H F σ B e b _ D I=>by
  obtain ⟨v0,q1,a,vs,rfl,w,q5⟩:=e.has i _ h
  refine ⟨_,q1,.inl ⟨rfl,_,SqL.of w.h⟩,hi H0 F0 H F σ e _ fun v1 H1 F1 g1 p1=>he H0 F0 H1 F1 σ (e.mono g1) _ fun v H' F' g2 p=>?_⟩
  cases rp_int p1
  have g:=g1.trans g2
  have k':=rpAll_mono g.f q5
  have hl:=RpAll.length q5
  refine ⟨a,vs,m,v,rfl,rfl,g.h _ _ w.h,h0,by rw [hl]; exact h1,by rw [hl]; exact hz,?_⟩
  exact I.nx _ _ _ F' k (b.trans g.f) ((e.mono g).put (y:=.ow κ (ds.take m.toNat ++ d :: ds.drop m.toNat)) h q1 (show Owns H' (.ref a) (.ow κ ds) a from rfl) ⟨a,_,rfl,⟨upd_same,(w.mono g).f,w.n,w.s⟩,RpAll.append (RpAll.take _ k') (.cons p (RpAll.drop _ k'))⟩ fun _ z=>z)
theorem exin {te ti:TE} {i:Nat} {m:Int} {ds:List PyData} {d:PyData} (h:GetC Γ i (.ow κ ds)) (hi:EvE K S false ti Γ (.int m)) (he:EvE K S κ te Γ d) (h0:0≤m) (h1:m≤ds.length) (hz:ds.length < sizeLine) (e:SetC Γ i (some (.ow κ (ds.take m.toNat ++ d :: ds.drop m.toNat))) Γ') (k:P.nx Γ') :
    ExS K S (tDrop (tBM K "list" rInsert (tVar i) (tCons ti (tCons te tNil)))) Γ P:=ex_insert h.eq hi he h0 h1 hz (e.eq ▸ k)
theorem tup_drop {T:Addr→Prop} {F:Hp} {a:Addr} {xs:List V} (z:SqT K F a xs):SqT K (drop T F) a xs:=by
  rcases z with (z | ⟨o,z⟩) | z
  · exact .inl (.inl (drop_some.mpr ⟨z,fun c=>nomatch c.2⟩))
  · exact .inl (.inr ⟨o,drop_some.mpr ⟨z,fun c=>nomatch c.2⟩⟩)
  · exact .inr z
theorem drop_none {T:Addr→Prop} {F:Hp} {a:Addr} {xs:List V} (h:F a=some (.lst xs)) (t:T a):drop T F a=none:=by
  cases q:drop T F a with
  | none=>rfl
  | some o =>
    obtain ⟨q1,q2⟩:=drop_some.mp q
    rw [h] at q1
    cases q1
    exact absurd ⟨t,rfl⟩ q2
end
end PD
namespace L2
open PySem PySem.Spec PyProof.Rows
section
variable {X:Cx} {K:PySem.W.Frag}
theorem vals_bl:∀ {bs:List Bool} {us:List Value},Vals (bs.map V.bl) us→us=bs.map Value.bool
  | [],_,.nil=>rfl
  | _ :: _,_,.cons r t=>by rw [vals_bl t,show _=Value.bool _ from r]; rfl
theorem all_range:∀ (bs:List Bool) (f:Nat→Bool),(∀ i b,bs[i]?=some b→f i=b)→(List.range bs.length).all f=bs.all fun b=>b
  | [],_,_=>rfl
  | b :: r,f,h=>by
    have ih:=all_range r (fun i=>f (i + 1)) fun i b' hb=>h (i + 1) b' (by simpa using hb)
    rw [List.length_cons,List.range_succ_eq_map,List.all_cons,List.all_map,List.all_cons,h 0 b rfl,← ih]
    rfl
def rAll (K:PySem.W.Frag):List V→Hp→VK→Prop:=fun xs H Q=>∃ p,∃ bs:List Bool,xs=[.ref p]∧SqL K H p (bs.map V.bl)∧Q (.bl (bs.all fun b=>b)) H
theorem call_all (hc:X.calm=true):CallR X (.builtin "all") (rAll X.K):=by
  intro pins s σ H xs us Q I r h
  obtain ⟨p,bs,rfl,hq,q⟩:=h
  obtain ⟨u,rfl,rx⟩:=vals1 r
  cases rx
  obtain ⟨its,r',pl,hz⟩:=I.list hq
  have e:=vals_bl r'
  subst e
  have hl:=pl.isList
  refine call_all_walk (wpAny_pyIter_list hl ?_)
  have hne:p≠s.heap.objs.size:=by
    obtain ⟨o,ho,_⟩:=hl
    exact Nat.ne_of_lt (Heap.lt_size ho)
  refine ⟨s.heap.objs.size,_,_,_,_,_,fun i=>bs.getD i false,rfl,Walks.list (A:=X.A.in1) (I.ok.hd hc) _ p hne (bs.map Value.bool).toArray,⟨⟨_,Heap.get?_push_size _ rfl,rfl,rfl⟩,hl.push _⟩,fun i v s Q E hP hQ=>?_,fun h' tk hk=>?_⟩
  · have hP':(bs.map Value.bool)[i]?=some v:=by simpa using hP
    rw [List.getElem?_map] at hP'
    cases eb:bs[i]? with
    | none=>rw [eb] at hP'; cases hP'
    | some b =>
      rw [eb] at hP'
      cases hP'
      have:bs.getD i false=b:=by rw [List.getD_eq_getElem?_getD,eb]; rfl
      have hQ':Q (bs.getD i false) s:=hQ
      rw [this] at hQ'
      exact wpAny_truthy_bool hQ'
  · have e:(List.range (bs.map Value.bool).toArray.size).all (fun i=>bs.getD i false)=bs.all fun b=>b:=by
      rw [List.size_toArray,List.length_map]
      exact all_range bs _ fun i b hb=>by rw [List.getD_eq_getElem?_getD,hb]; rfl
    rw [e]
    exact ⟨.bl _,H,I.kept fun b o eb=>hk b o (by simpa using Nat.ne_of_lt (Heap.lt_size eb)) (Heap.get?_push_of_some _ eb),rfl,q⟩
theorem call_allK (hK:X.K=K) (hc:X.calm=true):CallR X (.builtin "all") (rAll K):=by subst hK; exact call_all hc
end
end L2
namespace PD
open PySem L2
section
variable {K:PySem.W.Frag} {S S':Sx} {κ κ':Bool} {Γ Γ' Γ'':Ctx} {P:Post}
theorem dpAll_of_bls {F:Hp}:∀ {vs:List V} {bs:List Bool},DpAll K F vs (bs.map PyData.bool)→vs=bs.map V.bl
  | _,[],.nil=>rfl
  | _,_ :: _,.cons h t=>by rw [dp_bl h,dpAll_of_bls t]; rfl
theorem ev_all {ta:TE} {bs:List Bool} (h:EvL K S false ta Γ (bs.map .bool)):EvE K S κ (tCB (rAll K) (tCons ta tNil)) Γ (.bool (bs.all fun b=>b)):=fun H0 F0 H F σ e Q q =>
  h H0 F0 H F σ e _ fun a vs H1 F1 g1 p1 k1=>by
    cases dpAll_of_bls (rpAll_dp k1)
    exact ⟨a,bs,rfl,p1,q _ H1 F1 g1 (.bl _)⟩
theorem rpAll_of {H0 F:Hp}:∀ {vs:List V} {ds:List PyData},vs.length=ds.length→(∀ (j:Nat) v d,vs[j]?=some v→ds[j]?=some d→Rp K κ S H0 F v d)→RpAll K κ S H0 F vs ds
  | [],[],_,_=>.nil
  | [],_ :: _,h,_=>by cases h
  | _ :: _,[],h,_=>by cases h
  | v :: vs,d :: ds,h,k=>.cons (k 0 v d rfl rfl) (rpAll_of (by simpa using h) fun j v' d' h1 h2=>k (j + 1) v' d' (by simpa using h1) (by simpa using h2))
theorem nodup_inj {α:Type}:∀ {l:List α},l.Nodup→∀ {i j:Nat} {x:α},l[i]?=some x→l[j]?=some x→i=j
  | [],_,i,j,x,h,_=>by simp at h
  | y :: r,n,0,0,x,_,_=>rfl
  | y :: r,n,0,j + 1,x,h1,h2=>by
    have e:y=x:=by simpa using h1
    exact absurd (List.mem_of_getElem? (show r[j]?=some x by simpa using h2)) (e ▸ (List.nodup_cons.mp n).1)
  | y :: r,n,i + 1,0,x,h1,h2=>by
    have e:y=x:=by simpa using h2
    exact absurd (List.mem_of_getElem? (show r[i]?=some x by simpa using h1)) (e ▸ (List.nodup_cons.mp n).1)
  | y :: r,n,i + 1,j + 1,x,h1,h2=>by rw [nodup_inj (List.nodup_cons.mp n).2 (show r[i]?=some x by simpa using h1) (show r[j]?=some x by simpa using h2)]
theorem exo2 {wi:TI} {i:Nat} {u:TS} {ds:List PyData} (hi:EvI K S κ' wi Γ ds) (hz:ds.length≤sizeLine) (es:SetC Γ i (some (.o2 none (List.replicate ds.length []))) Γ') (k:ExT K S S' u Γ' P) :
    ExT K S S' (tSeq (tAsg (tComp [none] wi (gName 0) tYes (tLst tNil)) (gName i)) u) Γ P:=fun H0 F0 H F σ B e bb vv D I =>
  hi H0 F0 H F σ e _ fun J H1 F1 g1 I1=>by
    intro L hL
    have sdm:∀ {H2 F2:Hp},Gr H1 F1 H2 F2→∀ a,S.has H0 a→∃ o,H2 a=some o:=fun g2 a c=>let ⟨o,z⟩:=(e.mono g1).sd a c; ⟨o,g2.h _ _ z⟩
    refine ⟨fun n m ys H2=>m=ds.length - n∧n≤ds.length∧∃ F2,Gr H1 F1 H2 F2∧H2 L=some (.lst ys)∧F2 L=none∧V.ref L∉ys∧ys.Nodup∧ys.length=n∧∀ (j:Nat) x,ys[j]?=some x→∃ c,x=.ref c∧H1 c=none∧H2 c=some (.lst [])∧F2 c=none,
      ⟨_,rfl,Nat.zero_le _,F1,.newO g1.le hL _,upd_same,g1.le.free hL,by simp,List.nodup_nil,rfl,by simp⟩,?_⟩
    rintro n m ys H2 ⟨rfl,hn,F2,g2,hl,fl,n1,n2,n3,hy⟩
    by_cases hlt:n < ds.length
    · refine .inr ⟨I1.go n H2 F2 g2.f g2.le hlt,fun zs H3=>n + 1≤ds.length∧∃ F2,Gr H1 F1 H3 F2∧H3 L=some (.lst zs)∧F2 L=none∧V.ref L∉zs∧zs.Nodup∧zs.length=n + 1∧∀ (j:Nat) x,zs[j]?=some x→∃ c,x=.ref c∧H1 c=none∧H3 c=some (.lst [])∧F2 c=none,fun zs H3 h3=>⟨ds.length - (n + 1),by omega,rfl,h3⟩,fun x H3 y=>?_⟩
      obtain ⟨d,F3,hd,g3,p3⟩:=I1.yld n H2 F2 x H3 g2.f g2.le (sdm g2) hlt y
      have g:=g2.trans g3
      have hl3:=g3.h _ _ hl
      have fl3:=g3.ap _ _ hl fl
      refine ⟨Sub.set rfl,?_⟩
      unfold tYes
      dsimp only
      refine iteT ⟨Nat.zero_le _,fun p hp=>?_⟩
      have npL:p≠L:=by rintro rfl; rw [hl3] at hp; cases hp
      have fp3:F3 p=none:=g3.le.free hp
      have hp1:H1 p=none:=g.h.free hp
      have np:V.ref p∉ys:=fun hm=>by
        obtain ⟨j,hj⟩:=List.mem_iff_getElem?.mp hm
        obtain ⟨c,ec,_,h2,_⟩:=hy j _ hj
        cases ec
        have:=g3.h _ _ h2
        rw [hp] at this; cases this
      refine ⟨by rw [upd_ne npL.symm]; exact hl3,by omega,hlt,F3,⟨fun b u z=>?_,g.f,fun b u z=>?_,g.ap⟩,upd_same,fl3,?_,?_,by rw [List.length_append,n3]; rfl,fun j x hx=>?_⟩
      · rw [upd_ne (ne_of_none z hL),upd_ne (ne_of_none z hp1)]
        exact g.h _ _ z
      · rw [upd_ne (by rintro rfl; rw [fl3] at z; cases z),upd_ne (by rintro rfl; rw [fp3] at z; cases z)]
        exact g3.le _ _ z
      · intro hm
        rcases List.mem_append.mp hm with hm | hm
        · exact n1 hm
        · have:V.ref L=.ref p:=by simpa using hm
          cases this
          exact npL rfl
      · refine List.nodup_append.mpr ⟨n2,by simp,fun a ha b hb=>?_⟩
        have:b=.ref p:=by simpa using hb
        rintro rfl
        exact np (this ▸ ha)
      · by_cases hj:j < ys.length
        · rw [List.getElem?_append_left hj] at hx
          obtain ⟨c,rfl,h1,h2,h3⟩:=hy j x hx
          have ncL:c≠L:=by rintro rfl; exact n1 (List.mem_of_getElem? hx)
          have ncp:c≠p:=by rintro rfl; exact np (List.mem_of_getElem? hx)
          exact ⟨c,rfl,h1,by rw [upd_ne ncL,upd_ne ncp]; exact g3.h _ _ h2,g3.ap _ _ h2 h3⟩
        · rw [List.getElem?_append_right (by omega)] at hx
          have:j - ys.length=0:=by
            have:=(List.getElem?_eq_some_iff.mp hx).1
            simp at this
            omega
          rw [this] at hx
          cases (show some (V.ref p)=some x from hx)
          exact ⟨p,rfl,hp1,by rw [upd_ne npL,upd_same],fp3⟩
    · have en:n=ds.length:=by omega
      subst en
      have g:=g1.trans g2
      have e2:=e.mono g
      have hHL:H L=none:=g1.h.free hL
      refine .inl ⟨I1.stop H2 F2 g2.f g2.le,?_⟩
      obtain rfl:=es.eq
      have hv:HasV K S H0 H2 F2 (.ref L) (.o2 none (List.replicate ds.length [])):=⟨L,ys,⟨rfl,fun _ z=>nomatch z⟩,⟨hl,fl,e.gr.h.free hHL,e.out hHL⟩,n1,n2,by rw [List.length_replicate]; exact n3,fun j x hx=>by
        obtain ⟨c,rfl,h1,h2,h3⟩:=hy j x hx
        have hHc:H c=none:=g1.h.free h1
        have hj:=(List.getElem?_eq_some_iff.mp hx).1
        exact ⟨c,[],[],rfl,⟨h2,h3,e.gr.h.free hHc,e.out hHc⟩,by rw [List.getElem?_replicate,if_pos (by omega)],.nil⟩⟩
      refine k H0 F0 H2 F2 _ B (e2.set hv fun a oa j y w hj z hw o=>?_) (bb.trans g.f) vv D I
      obtain ⟨v,q1,q2⟩:=e.has j y z
      rw [hw] at q1
      cases q1
      obtain ⟨us,w1⟩:=q2.owns (o.back q2 fun _ _ z=>g.h _ _ z.h)
      have ha:=w1.h
      rcases oa with oa | ⟨p,vs,ep,hp,hm⟩
      · cases oa
        rw [hHL] at ha; cases ha
      · cases ep
        rw [hl] at hp
        cases hp
        obtain ⟨j',hj'⟩:=List.mem_iff_getElem?.mp hm
        obtain ⟨c,ec,h1,_⟩:=hy j' _ hj'
        cases ec
        rw [g1.h.free h1] at ha; cases ha
theorem evl_o2 {r:Option Addr} {ti:TE} {i j:Nat} {m:Int} {dss:List (List PyData)} {ds:List PyData} (h:GetC Γ i (.o2 r dss)) (hi:EvE K S false ti Γ (.int m)) (hm:ixN dss.length m=some j) (hd:dss[j]?=some ds):EvL K S true (tOp (rIxL K) (tVar i) ti) Γ ds:=fun H0 F0 H F σ e Q q=>by
  obtain ⟨v0,q1,a,vs,⟨rfl,hid⟩,w,n1,n2,n3,hk⟩:=e.has i _ h.eq
  refine ⟨_,q1,hi H0 F0 H F σ e _ fun w' H1 F1 g1 p1=>?_⟩
  cases rp_int p1
  have hj:=(List.getElem?_eq_some_iff.mp hd).1
  have hx:vs[j]?=some (vs[j]'(by omega)):=List.getElem?_eq_getElem (by omega)
  obtain ⟨b,us,ds',ex,ow,hd',kk⟩:=hk j _ hx
  rw [hd] at hd'
  cases hd'
  have hat:atI vs m=some (.ref b):=by
    unfold atI
    rw [n3,hm]
    show vs[j]?=_
    rw [hx,ex]
  exact ⟨a,vs,m,_,rfl,rfl,SqL.of (g1.h _ _ w.h),hat,q b us H1 F1 g1 (SqL.of (g1.h _ _ ow.h)) (rpAll_mono g1.f kk)⟩
theorem ex_o2app {r:Option Addr} {ti te:TE} {i j:Nat} {m:Int} {dss:List (List PyData)} {ds:List PyData} {d:PyData} (h:GetC Γ i (.o2 r dss)) (hi:EvE K S false ti Γ (.int m)) (hm:ixN dss.length m=some j) (hd:dss[j]?=some ds) (he:EvE K S true te Γ d) (hz:ds.length < sizeLine)
    (es:SetC Γ i (some (.o2 r (dss.set j (ds ++ [d])))) Γ') (k:P.nx Γ'):ExS K S (tDrop (tBM K "list" rAppend (tOp (rIxL K) (tVar i) ti) (tCons te tNil))) Γ P:=fun H0 F0 H F σ B e bb _ D I=>by
  obtain ⟨v0,q1,a,vs,⟨rfl,hid⟩,w,n1,n2,n3,hk⟩:=e.has i _ h.eq
  refine ⟨_,q1,hi H0 F0 H F σ e _ fun w' H1 F1 g1 p1=>?_⟩
  cases rp_int p1
  have hj:=(List.getElem?_eq_some_iff.mp hd).1
  have hx:vs[j]?=some (vs[j]'(by omega)):=List.getElem?_eq_getElem (by omega)
  obtain ⟨b,us,ds',ex,ow,hd',kk⟩:=hk j _ hx
  rw [hd] at hd'
  cases hd'
  rw [ex] at hx
  have hat:atI vs m=some (.ref b):=by
    unfold atI
    rw [n3,hm]
    exact hx
  refine ⟨a,vs,m,_,rfl,rfl,SqL.of (g1.h _ _ w.h),hat,.inl ⟨rfl,_,SqL.of (g1.h _ _ ow.h)⟩,he H0 F0 H1 F1 σ (e.mono g1) _ fun v H2 F2 g2 p2=>?_⟩
  have g:=g1.trans g2
  have ow2:=ow.mono g
  have w2:=w.mono g
  have nba:b≠a:=by rintro rfl; exact n1 (List.mem_of_getElem? hx)
  refine ⟨b,us,v,rfl,rfl,ow2.h,by rw [RpAll.length kk]; exact hz,?_⟩
  obtain rfl:=es.eq
  refine I.nx _ _ _ F2 k (bb.trans g.f) ((e.mono g).put (y:=.o2 r (dss.set j (ds ++ [d]))) h.eq q1 (show Owns H2 (.ref a) (.o2 r dss) b from .inr ⟨a,vs,rfl,w2.h,List.mem_of_getElem? hx⟩) ?_ ?_)
  · refine ⟨a,vs,⟨rfl,hid⟩,w2.other nba.symm,n1,n2,by rw [List.length_set]; exact n3,fun j' x hx'=>?_⟩
    by_cases hjj:j'=j
    · subst hjj
      rw [hx] at hx'
      cases hx'
      exact ⟨b,us ++ [v],ds ++ [d],rfl,⟨upd_same,ow2.f,ow2.n,ow2.s⟩,by rw [List.getElem?_set_self hj],RpAll.append (rpAll_mono g.f kk) (.cons p2 .nil)⟩
    · obtain ⟨c,ws,ds',rfl,oc,hc,kc⟩:=hk j' x hx'
      have ncb:c≠b:=by
        rintro rfl
        exact hjj (nodup_inj n2 hx' hx)
      exact ⟨c,ws,ds',rfl,(oc.mono g).other ncb,by rw [List.getElem?_set_ne (Ne.symm hjj)]; exact hc,rpAll_mono g.f kc⟩
  · rintro c (oc | ⟨p,xs,ep,hp,hm'⟩)
    · exact .inl oc
    · cases ep
      rw [upd_ne nba.symm,w2.h] at hp
      cases hp
      exact .inr ⟨a,vs,rfl,w2.h,hm'⟩
theorem HasV.frzG {H0 H F F':Hp} {v:V} {x:DV} (h:HasV K S H0 H F v x) (s:Same F F') (n:∀ c,Owns H v x c→F' c=none):HasV K S H0 H F' v x:=by
  cases x with
  | fz κ d=>exact rp_mono s h
  | tn d=>obtain ⟨T,eT,k⟩:=h; exact ⟨T,eT,rp_mono s k⟩
  | ow κ ds=>obtain ⟨b,us,eb,wo,kk⟩:=h; exact ⟨b,us,eb,⟨wo.h,n b eb,wo.n,wo.s⟩,rpAll_mono s kk⟩
  | ox=>obtain ⟨b,us,eb,wo⟩:=h; exact ⟨b,us,eb,⟨wo.h,n b eb,wo.n,wo.s⟩⟩
  | o2 r dss =>
    obtain ⟨b,us,eb,wo,n1,n2,l,k⟩:=h
    refine ⟨b,us,eb,⟨wo.h,n b (.inl eb.eq),wo.n,wo.s⟩,n1,n2,l,fun j y hy=>?_⟩
    obtain ⟨c,ws,ds,e2,o2,h2,k2⟩:=k j y hy
    exact ⟨c,ws,ds,e2,⟨o2.h,n c (.inr ⟨b,us,eb.eq,wo.h,by rw [← e2]; exact List.mem_of_getElem? hy⟩),o2.n,o2.s⟩,h2,rpAll_mono s k2⟩
  | fn a=>exact h
  | xn φ=>obtain ⟨b,e,k⟩:=h; exact ⟨b,e,s _ _ k⟩
  | oa b κ ds=>obtain ⟨eb,us,wo,kk⟩:=h; exact ⟨eb,us,⟨wo.h,n b eb,wo.n,wo.s⟩,rpAll_mono s kk⟩
  | xp φ=>obtain ⟨F1,s1,k⟩:=h; exact ⟨F1,s1.trans s,k⟩
  | od u=>obtain ⟨b,eb,wo⟩:=h; exact ⟨b,eb,⟨wo.h,n b eb,wo.n,wo.s⟩⟩
open Classical in
noncomputable def frzF (F H:Hp) (a:Addr) (vs:List V):Hp:=fun c=>if c=a∨V.ref c∈vs then H c else F c
theorem DEnv.frz2 {r:Option Addr} {i:Nat} {dss:List (List PyData)} {H0 F0 H F:Hp} {σ:St} (e:DEnv K S H0 F0 H F σ Γ) (h:GetC Γ i (.o2 r dss)) (es:SetC Γ i (some (.fz true (.list (dss.map .list)))) Γ') :
    ∃ (Ff:Hp) (A:Addr→Prop),DEnv K S H0 F0 H Ff σ Γ'∧Same F Ff∧(∀ c,A c→F c=none∧∃ vs,Ff c=some (.lst vs))∧∀ c,¬ A c→Ff c=F c:=by
  have h':=h.eq
  obtain ⟨v0,q1,a,vs,⟨rfl,hid⟩,w,n1,n2,n3,hk⟩:=e.has i _ h'
  have inn:∀ {c:Addr},(c=a∨V.ref c∈vs)→∃ us,OwnAt S H0 H F c us:=fun {c} hc=>by
    rcases hc with rfl | hc
    · exact ⟨_,w⟩
    · obtain ⟨j,hj⟩:=List.mem_iff_getElem?.mp hc
      obtain ⟨b,us,ds,eb,ow,_⟩:=hk j _ hj
      cases eb
      exact ⟨us,ow⟩
  have Fin:∀ {c:Addr},(c=a∨V.ref c∈vs)→frzF F H a vs c=H c:=fun hc=>if_pos hc
  have Fout:∀ {c:Addr},¬ (c=a∨V.ref c∈vs)→frzF F H a vs c=F c:=fun hc=>if_neg hc
  have s:Same F (frzF F H a vs):=fun c o hc=>by
    rw [Fout fun z=>by obtain ⟨us,ow⟩:=inn z; rw [ow.f] at hc; cases hc]
    exact hc
  have le:Same (frzF F H a vs) H:=fun c o hc=>by
    by_cases z:c=a∨V.ref c∈vs
    · rw [Fin z] at hc; exact hc
    · rw [Fout z] at hc; exact e.le _ _ hc
  have li:=(List.getElem?_eq_some_iff.mp h').1
  have own:∀ {c:Addr},(c=a∨V.ref c∈vs)→Owns H (.ref a) (.o2 r dss) c:=fun {c} hc=>by
    rcases hc with rfl | hc
    · exact .inl rfl
    · exact .inr ⟨a,vs,rfl,w.h,hc⟩
  obtain rfl:=es.eq
  have hv:HasV K S H0 H (frzF F H a vs) (.ref a) (.fz true (.list (dss.map .list))):=by
    refine .lst ⟨by rw [Fin (.inl rfl)]; exact w.h,w.s⟩ (rpAll_of (by rw [List.length_map]; exact n3) fun j v d h1 h2=>?_)
    obtain ⟨b,us,ds,rfl,ow,hd,kk⟩:=hk j v h1
    rw [List.getElem?_map,hd] at h2
    cases h2
    exact .lst ⟨by rw [Fin (.inr (List.mem_of_getElem? h1))]; exact ow.h,ow.s⟩ (rpAll_mono s kk)
  have eF:DEnv K S H0 F0 H (frzF F H a vs) σ (Γ.set i (some (.fz true (.list (dss.map .list))))):=by
    refine ⟨⟨e.gr.h,e.gr.f.trans s,le,fun c o hc hn=>?_⟩,e.l0,e.sd,e.s0,by simp [e.len],fun j f z=>?_,fun j k' x1 y1 v1 w1 b g1 g2 g3 g4 o1 o2=>?_⟩
    · rw [Fout fun z=>by obtain ⟨us,ow⟩:=inn z; rw [ow.n] at hc; cases hc]
      exact e.gr.ap c o hc hn
    · by_cases hj:j=i
      · subst hj
        rw [List.getElem?_set_self li] at z
        cases z
        exact ⟨_,q1,hv⟩
      · rw [List.getElem?_set_ne (Ne.symm hj)] at z
        obtain ⟨u,r1,r2⟩:=e.has j f z
        refine ⟨u,r1,r2.frzG s fun c oc=>?_⟩
        by_cases zc:c=a∨V.ref c∈vs
        · exact absurd (e.ne j i f _ u _ c z h' r1 q1 oc (own zc)) hj
        · rw [Fout zc]
          obtain ⟨us,wo⟩:=r2.owns oc
          exact wo.f
    · by_cases hj:j=i
      · subst hj
        rw [List.getElem?_set_self li] at g1
        cases g1
        exact o1.elim
      · by_cases hk':k'=i
        · subst hk'
          rw [List.getElem?_set_self li] at g2
          cases g2
          exact o2.elim
        · rw [List.getElem?_set_ne (Ne.symm hj)] at g1
          rw [List.getElem?_set_ne (Ne.symm hk')] at g2
          exact e.ne j k' x1 y1 v1 w1 b g1 g2 g3 g4 o1 o2
  refine ⟨_,fun c=>c=a∨V.ref c∈vs,eF,s,fun c hc=>?_,fun c hc=>Fout hc⟩
  obtain ⟨us,ow⟩:=inn hc
  exact ⟨ow.f,us,by rw [Fin hc]; exact ow.h⟩
theorem exfz2 {r:Option Addr} {t:TS} (i:Nat) {dss:List (List PyData)} (h:GetC Γ i (.o2 r dss)) (es:SetC Γ i (some (.fz true (.list (dss.map .list)))) Γ') (k:ExT K S S' t Γ' P):ExT K S S' t Γ P:=fun H0 F0 H F σ B e bb vv D I=>by
  obtain ⟨Ff,A,eF,s,_⟩:=e.frz2 h es
  exact k H0 F0 H _ σ B eF (bb.trans s) vv D I
theorem imm_drop {H0 F:Hp} {T:Addr→Prop} {vs:List V} {ds:List PyData} (h:∀ d∈ds,imm d=true) (k:DpAll K F vs ds):RpAll K κ S H0 (drop T F) vs ds :=
  dpAll_immL h (rpAll_dp (rpAll_map (κ:=true) (κ':=true) (S:=.spoil T) (S':=.fresh) (H0:=fun _=>none) (H0':=fun _=>none) (F:=F) (F':=drop T F) (fun a xs z=>⟨drop_some.mpr ⟨z.1,fun c=>z.2 (.inr c.1)⟩,fun c=>z.2 (.inl c)⟩) (fun _ _ z=>tup_drop z) (dpAll_immL h k)))
theorem evo_call {pre:List PyData→PyData→Prop} {E:XK} {t:TA} {ds xs:List PyData} (h:EvA K S false t Γ ds) (hp:pre ds (.list xs)) (him:∀ d∈xs,imm d=true):EvO K S κ (tCall (spD K true pre) [] E t) Γ xs:=fun H0 F0 H F σ e Q q =>
  h H0 F0 H F σ e _ fun vs H1 F1 g1 p1=>⟨F1,ds,_,g1.le,by rw [List.append_nil]; exact rpAll_dp p1,hp,fun v H2 F2 g2 p2=>by
    obtain ⟨a,us,rfl,hl,hk⟩:=rp_lst p2
    have h1:H1 a=none:=Classical.byContradiction fun z=>hl.2 z
    have g:=g1.trans g2
    refine q a us H2 (drop (fun c=>c=a) F2) ⟨g.h,fun b o z=>drop_some.mpr ⟨g.f _ _ z,?_⟩,fun b o z=>g.le _ _ (drop_some.mp z).1,fun b o z n=>?_⟩ (g1.h.free h1) (g2.le _ _ hl.1) (drop_none hl.1 rfl) (imm_drop him (rpAll_dp hk))
    · rintro ⟨rfl,_⟩
      have:=e.le _ _ z
      rw [g1.h.free h1] at this; cases this
    · cases q':drop (fun c=>c=a) F2 b with
      | none=>rfl
      | some o' =>
        have:=(drop_some.mp q').1
        rw [g.ap _ _ z n] at this; cases this⟩
theorem thaw {H0 F0 H F:Hp} {σ:St} {i:Nat} {ds:List PyData} {Γf:Ctx} (e:DEnv K S H0 F0 H F σ Γ) (h:GetC Γ i (.ow κ ds)) (es:SetC Γ i (some (.fz κ (.list ds))) Γf) :
    ∃ a Ff,DEnv K S H0 F0 H Ff σ Γf∧∀ H' F',Gr H Ff H' F'→Gr H F H' (drop (fun c=>c=a) F'):=by
  obtain ⟨v,q1,a,vs,rfl,w,q5⟩:=e.has i _ h.eq
  obtain ⟨s,e'⟩:=e.froz (y:=.fz κ (.list ds)) h.eq q1 rfl w (.lst (LN.new w.s) (rpAll_mono (Same.new w.f _) q5)) fun _ z=>z.elim
  rw [es.eq] at e'
  refine ⟨a,_,e',fun H' F' g=>⟨g.h,fun c o z=>drop_some.mpr ⟨g.f _ _ (s _ _ z),?_⟩,fun c o z=>g.le _ _ (drop_some.mp z).1,fun c o z n=>?_⟩⟩
  · rintro ⟨rfl,_⟩
    rw [w.f] at z; cases z
  · by_cases hc:c=a
    · subst hc
      exact drop_none (g.f _ _ upd_same) rfl
    · cases q':drop (fun c=>c=a) F' c with
      | none=>rfl
      | some o' =>
        have:=(drop_some.mp q').1
        rw [g.ap _ _ z (by rw [upd_ne hc]; exact n)] at this; cases this
theorem et_thaw (i:Nat) {t:TT} {b:Bool} {ds:List PyData} {Γf:Ctx} (h:GetC Γ i (.ow κ ds)) (es:SetC Γ i (some (.fz κ (.list ds))) Γf) (k:EvT K S t Γf b):EvT K S t Γ b:=fun H0 F0 H F σ e Q q=>by
  obtain ⟨a,Ff,e',g⟩:=thaw e h es
  exact k H0 F0 H Ff σ e' Q fun H' F' g'=>q H' _ (g H' F' g')
end
end PD
namespace PD
open PySem L2
section
variable {K:PySem.W.Frag} {S S':Sx} {κ κ':Bool} {Γ Γ' Γ'':Ctx} {P:Post}
theorem evo_each {α:Type} {js:List (Option Nat)} {Γc:Ctx} {wi:TI} {g:TG} {te:TE} {is:List Nat} {xs:List α} (κ':Bool) (u f:α→PyData) (hu:∀ x∈xs,∀ y∈xs,u x=u y→f x=f y) (hi:EvI K S κ' wi Γ (xs.map u)) (hc:CaptC js Γ Γc) (hjs:(is.all fun i=>js[i]? == some none)=true)
    (hj:(js.filterMap id).Nodup) (hz:xs.length≤sizeLine) (hb:∀ x∈xs,ExG K S κ' g is (u x) Γc fun Γ'=>EvE K S κ te Γ' (f x)):EvO K S κ (tComp js wi g tYes te) Γ (xs.map f):=by
  classical
  let F:PyData→PyData:=fun d=>if h:∃ x,x∈xs∧u x=d then f h.choose else .none
  have hF:∀ x∈xs,F (u x)=f x:=fun x hx=>by
    have h:∃ y,y∈xs∧u y=u x:=⟨x,hx,rfl⟩
    show (if h:∃ y,y∈xs∧u y=u x then f h.choose else .none)=_
    rw [dif_pos h]
    exact hu _ h.choose_spec.1 _ hx h.choose_spec.2
  refine EvO.eq (evo_map (κ:=κ) κ' F hi hc hjs hj (by rw [List.length_map]; exact hz) fun d hd=>?_) ?_
  · obtain ⟨x,hx,rfl⟩:=List.mem_map.mp hd
    rw [hF x hx]
    exact hb x hx
  · rw [List.map_map]
    exact List.map_congr_left fun x hx=>hF x hx
theorem line62:sizeLine < 2 ^ 62:=by decide
end
end PD
namespace L2
open PySem PySem.Spec PyProof.Rows
section
variable {P:Program} {w:World} {H H':Hp} {h h':Heap}
end
section
variable {P:Program} {w:World} {outer:List Env} {H H':Hp} {s s':Shared} {C a:Addr} {B:Heap} {t:Value}
end
end L2
namespace L2
open PySem PySem.Spec PyProof.Rows
section
variable {X:Cx} {E:XK} {x:Str} {C:Addr} {e0:Expr} {es:List Expr} {ta:TA} {np cpos pos:Pos}
end
end L2
namespace L2
open PySem PySem.Spec PyProof.Rows PySem.W PySem.Builtin PySem.Builtin.ObjectAttr PySem.Builtin.Getset_descriptor
section
variable {prog:Program} {w:World} {A:Around} {E:Value→Shared→Prop} {s:Shared} {K:Frag} {a C:Addr} {o:Obj}
end
end L2
namespace L2
open PySem PySem.Spec PyProof.Rows PySem.W
section
variable {X:Cx} {K:Frag}
end
section
variable {M:Model} {A:Around} {E:Value→Shared→Prop} {s:Shared} {env:Env}
end
section
variable {X:Cx} {pins:List (Addr×Obj)} {σ:St} {H:Hp} {s:Shared}
end
section
variable {M:Model} {A:Around} {E:Value→Shared→Prop} {s:Shared} {K:Frag} {a C D:Addr}
end
end L2
namespace L2
open PySem PySem.Spec PyProof.Rows PySem.W
section
variable {X:Cx} {pins:List (Addr×Obj)} {σ:St} {H:Hp} {s:Shared}
end
section
variable {X:Cx} {k:Nat} {ps:List Str} {sp:Sp} {x y n:Str} {p np cpos epos hpos tpos:Pos} {e:Expr} {es:List Expr} {ta:TA} {C D:Addr} {i:Nat} {b0:Stmt} {suite:List Stmt} {th:TS}
end
end L2
namespace L2
open PySem PySem.Spec PyProof.Rows
section
variable {P:Program} {w:World} {K:PySem.W.Frag} {mg:Str→Option Value} {base:Heap}
end
end L2
namespace PD
open PySem L2
section
variable {K:PySem.W.Frag} {S S':Sx} {κ κ':Bool} {Γ Γ' Γ'':Ctx} {P:Post} {E:XK} {C:Addr}
end
end PD
namespace L2
open PySem PySem.Spec PyProof.Rows
section
variable {X:Cx} {K:PySem.W.Frag}
end
end L2
namespace PD
open PySem L2
section
variable {K:PySem.W.Frag} {S S':Sx} {κ κ':Bool} {Γ Γ' Γ'':Ctx} {P:Post} {E:XK} {C:Addr}
inductive Arg (K:PySem.W.Frag) (F:Hp):V→DV→Prop
  | dat {v:V} {d:PyData}:Dp K F v d→Arg K F v (.fz false d)
  | thg {a:Addr} {o:Addr→HO}:F a=some (o a)→Arg K F (.ref a) (.xn o)
inductive ArgAll (K:PySem.W.Frag) (F:Hp):List V→List DV→Prop
  | nil:ArgAll K F [] []
  | cons {v:V} {x:DV} {vs:List V} {xs:List DV}:Arg K F v x→ArgAll K F vs xs→ArgAll K F (v :: vs) (x :: xs)
theorem Arg.mono {F F':Hp} {v:V} {x:DV} (h:Arg K F v x) (s:Same F F'):Arg K F' v x:=by
  cases h with
  | dat h=>exact .dat (dp_same s h)
  | thg h=>exact .thg (s _ _ h)
theorem ArgAll.mono {F F':Hp} (s:Same F F'):∀ {vs:List V} {xs:List DV},ArgAll K F vs xs→ArgAll K F' vs xs
  | _,_,.nil=>.nil
  | _,_,.cons h t=>.cons (Arg.mono h s) (ArgAll.mono s t)
theorem ArgAll.length {F:Hp}:∀ {vs:List V} {xs:List DV},ArgAll K F vs xs→vs.length=xs.length
  | _,_,.nil=>rfl
  | _,_,.cons _ t=>congrArg (· + 1) (ArgAll.length t)
theorem ArgAll.get {F:Hp}:∀ {vs:List V} {xs:List DV} {i:Nat} {x:DV},ArgAll K F vs xs→xs[i]?=some x→∃ v,vs[i]?=some v∧Arg K F v x
  | _,_,_,_,.nil,e=>by simp at e
  | _,_,0,_,.cons h _,e=>by simp at e; subst e; exact ⟨_,rfl,h⟩
  | _,_,i + 1,x,.cons _ t,e=>by
    obtain ⟨v,h1,h2⟩:=ArgAll.get (i:=i) t (by simpa using e)
    exact ⟨v,by simpa using h1,h2⟩
theorem Arg.has {H F:Hp} {v:V} {x:DV} (h:Arg K F v x):HasV K .fresh H H F v x:=by
  cases h with
  | dat h=>exact dp_rp h
  | thg h=>exact ⟨_,rfl,h⟩
theorem Arg.noOwn {F H:Hp} {v w:V} {x:DV} {a:Addr} (h:Arg K F v x):¬ Owns H w x a:=by
  cases h <;> exact fun o=>o.elim
def spV (K:PySem.W.Frag) (κ:Bool) (pre:List DV→PyData→Prop):Sp:=fun vs H Q _=>∃ F xs d,Same F H∧ArgAll K F vs xs∧pre xs d∧∀ v H' F',Gr H F H' F'→Rp K κ .fresh H F' v d→Q v H'
theorem spV_len {pre:List DV→PyData→Prop} {n:Nat} (h:∀ xs d,pre xs d→xs.length=n) {vs:List V} {H:Hp} {Q:VK} (s:spV K κ pre vs H Q E):vs.length=n:=by
  obtain ⟨F,xs,d,_,k,p,_⟩:=s
  rw [k.length]
  exact h xs d p
inductive StartV:Nat→List DV→Ctx→Prop
  | z:StartV 0 [] []
  | no {n:Nat} {Γ:Ctx}:StartV n [] Γ→StartV (n + 1) [] (none :: Γ)
  | got {n:Nat} {x:DV} {xs:List DV} {Γ:Ctx}:StartV n xs Γ→StartV (n + 1) (x :: xs) (some x :: Γ)
theorem StartV.len {n:Nat} {xs:List DV} {Γ:Ctx} (h:StartV n xs Γ):Γ.length=n∧xs.length≤n:=by
  induction h with
  | z=>exact ⟨rfl,Nat.le_refl _⟩
  | no _ ih=>exact ⟨by rw [List.length_cons,ih.1],Nat.zero_le _⟩
  | got _ ih=>exact ⟨by rw [List.length_cons,ih.1],by rw [List.length_cons]; omega⟩
theorem StartV.get {n:Nat} {xs:List DV} {Γ:Ctx} (h:StartV n xs Γ):∀ {i:Nat} {x:DV},Γ[i]?=some (some x)→xs[i]?=some x:=by
  induction h with
  | z=>intro i x e; simp at e
  | no _ ih =>
    intro i x e
    cases i with
    | zero=>simp at e
    | succ i =>
      have:=ih (i:=i) (by simpa using e)
      simp at this
  | got _ ih =>
    intro i x e
    cases i with
    | zero=>simpa using e
    | succ i =>
      have:=ih (i:=i) (by simpa using e)
      simpa using this
theorem denv_startV {H F:Hp} {N:List Str} {n:Nat} {vs:List V} {xs:List DV} (le:Same F H) (k:ArgAll K F vs xs) (hn:N.length=n) (hΓ:StartV n xs Γ):DEnv K .fresh H F H F (L2.start N vs) Γ:=by
  have l:=k.length
  have sl:=hΓ.len
  refine ⟨.refl le,le,fun a c=>?_,fun T z=>(nomatch z),by unfold L2.start; rw [List.length_append,List.length_map,List.length_replicate,sl.1]; omega,fun i x h=>?_,fun i j x y v w a h _ _ _ o=>?_⟩
  · cases q:H a with
    | none=>exact absurd q c
    | some o=>exact ⟨o,rfl⟩
  · obtain ⟨v,h1,h2⟩:=k.get (hΓ.get h)
    refine ⟨v,?_,h2.has⟩
    unfold L2.start
    have hi:=(List.getElem?_eq_some_iff.mp h1).1
    rw [List.getElem?_append_left (by simpa using hi),List.getElem?_map,h1]
    rfl
  · obtain ⟨v',_,h2⟩:=k.get (hΓ.get h)
    exact fun o'=>(h2.noOwn o).elim
theorem run_defV {t:TS} {N:List Str} {n:Nat} {H F:Hp} {vs:List V} {xs:List DV} {d:PyData} {Q:VK} (le:Same F H) (k:ArgAll K F vs xs) (q:∀ v H' F',Gr H F H' F'→Rp K κ .fresh H F' v d→Q v H') (hn:N.length=n) (hΓ:StartV n xs Γ)
    (h:ExS K .fresh t Γ { nx:=fun _=>d=.none,rt:=fun x=>x=d,kr:=κ }):t { nx:=fun _ H'=>Q .non H',rt:=Q } (L2.start N vs) H :=
  h H F H F _ F (denv_startV le k hn hΓ) (.refl _) (.inl rfl) _ ⟨fun Γ' σ' H' F' n b e=>q _ H' F' e.gr (by rw [n]; exact .non),fun d' v H' F' r g p=>q v H' F' g (r ▸ p),fun _ _ _ _ z=>z.elim,fun _ _ _ _ z=>z.elim⟩
def EvV (K:PySem.W.Frag) (S:Sx) (t:TA) (Γ:Ctx) (xs:List DV):Prop:=∀ (H0 F0 H F:Hp) (σ:St),DEnv K S H0 F0 H F σ Γ→∀ Q:List V→Hp→Prop,(∀ vs H' F',Gr H F H' F'→ArgAll K F' vs xs→Q vs H')→t σ H Q
theorem evv_nil:EvV K S tNil Γ []:=fun _ _ H F _ e Q q=>q [] H F (.refl e.le) .nil
theorem evv_cons {t:TE} {u:TA} {d:PyData} {xs:List DV} (h:EvE K S false t Γ d) (k:EvV K S u Γ xs):EvV K S (tCons t u) Γ (.fz false d :: xs):=fun H0 F0 H F σ e Q q =>
  h H0 F0 H F σ e _ fun v H1 F1 g1 p1=>k H0 F0 H1 F1 σ (e.mono g1) _ fun vs H2 F2 g2 p2=>q _ H2 F2 (g1.trans g2) (.cons (.dat (dp_same g2.f (rp_dp p1))) p2)
theorem evv_thg {i:Nat} {u:TA} {o:Addr→HO} {xs:List DV} (h:GetC Γ i (.xn o)) (k:EvV K S u Γ xs):EvV K S (tCons (tVar i) u) Γ (.xn o :: xs):=fun H0 F0 H F σ e Q q=>by
  obtain ⟨v,q1,a,rfl,q2⟩:=e.has i _ h.eq
  exact ⟨_,q1,k H0 F0 H F σ e _ fun vs H2 F2 g2 p2=>q _ H2 F2 g2 (.cons (.thg (g2.f _ _ q2)) p2)⟩
theorem ev_callV {pre:List DV→PyData→Prop} {t:TA} {xs:List DV} {d:PyData} (h:EvV K S t Γ xs) (hp:pre xs d):EvE K S κ (tCall (spV K true pre) [] E t) Γ d:=fun H0 F0 H F σ e Q q =>
  h H0 F0 H F σ e _ fun vs H1 F1 g1 p1=>⟨F1,xs,d,g1.le,by rw [List.append_nil]; exact p1,hp,fun v H2 F2 g2 p2=>q v H2 F2 (g1.trans g2) (rp_weak (κ:=true) (fun _=>rfl) (rp_map (κ:=true) (κ':=true) (S':=S) (H0':=H0) (fun a xs z=>⟨z.1,fun c=>by
    obtain ⟨u,hu⟩:=(e.mono g1).sd a c
    exact z.2 (by show H1 a≠none; rw [hu]; simp)⟩) (fun _ _ z=>z) p2))⟩
end
end PD
namespace PD
open PySem L2
section
variable {K:PySem.W.Frag} {S S':Sx} {κ κ':Bool} {Γ Γ' Γ'':Ctx} {P:Post} {E:XK}
theorem DEnv.newOwn {H0 F0 H F H' F':Hp} {σ:St} {b:Addr} (e:DEnv K S H0 F0 H F σ Γ) (g:Gr H F H' F') (hb:H b=none) (j:Nat) (f:DV) (u:V) (z:Γ[j]?=some (some f)) (r:σ[j]?=some (some u)):¬ Owns H' u f b:=fun o=>by
  obtain ⟨u',q1,q2⟩:=e.has j f z
  rw [r] at q1
  cases q1
  obtain ⟨us,w⟩:=q2.owns (o.back q2 fun _ _ z=>g.h _ _ z.h)
  have:=w.h
  rw [hb] at this; cases this
def ExM (K:PySem.W.Frag) (t:TS) (Γ:Ctx) (G:Hp→Hp→Hp→Hp→V→Prop):Prop:=∀ (H0 F0 H F:Hp) (σ:St),DEnv K .fresh H0 F0 H F σ Γ→∀ D:Ends,(∀ v H' F',G H0 F0 H' F' v→D.rt v H')→t D σ H
theorem exm_seq {t u:TS} {G:Hp→Hp→Hp→Hp→V→Prop} (N:Ctx→Prop) (h1:ExS K .fresh t Γ { nx:=N,rt:=fun _=>False }) (h2:∀ Γ',N Γ'→ExM K u Γ' G):ExM K (tSeq t u) Γ G:=fun H0 F0 H F σ e D q =>
  h1 H0 F0 H F σ F e (.refl _) (.inl rfl) _ ⟨fun Γ' σ' H' F' n _ e'=>h2 Γ' n H0 F0 H' F' σ' e' D q,fun _ _ _ _ z=>z.elim,fun _ _ _ _ z=>z.elim,fun _ _ _ _ z=>z.elim⟩
theorem run_m {t:TS} {N:List Str} {n:Nat} {H F:Hp} {vs:List V} {ds:List PyData} {G:Hp→Hp→Hp→Hp→V→Prop} {D:Ends} (le:Same F H) (k:DpAll K F vs ds) (q:∀ v H' F',G H F H' F' v→D.rt v H') (hn:N.length=n) (hΓ:StartC n ds Γ) (h:ExM K t Γ G):t D (L2.start N vs) H:=by
  have e:=denv_start (N:=N) le k
  rw [hn,hΓ.eq] at e
  exact h H F H F _ e D q
end
end PD
namespace PD
open PySem L2
section
variable {K:PySem.W.Frag} {S S':Sx} {κ κ':Bool} {Γ Γ' Γ'':Ctx} {P:Post} {E:XK}
end
end PD
namespace L2
open PySem PySem.Spec PyProof.Rows
section
variable {X:Cx}
end
end L2
namespace PD
open PySem L2
section
variable {K:PySem.W.Frag} {S S':Sx} {κ κ':Bool} {Γ Γ' Γ'' Γ3:Ctx} {P:Post}
theorem evo_eachIf {α:Type} {js:List (Option Nat)} {Γc:Ctx} {wi:TI} {g:TG} {tt:TT} {te:TE} {is:List Nat} {xs:List α} (κ':Bool) (u f:α→PyData) (p:α→Bool) (hu:∀ x∈xs,∀ y∈xs,u x=u y→f x=f y∧p x=p y) (hi:EvI K S κ' wi Γ (xs.map u)) (hc:CaptC js Γ Γc) (hjs:(is.all fun i=>js[i]? == some none)=true)
    (hj:(js.filterMap id).Nodup) (hz:xs.length≤sizeLine) (hb:∀ x∈xs,ExG K S κ' g is (u x) Γc fun Γ'=>EvT K S tt Γ' (p x)∧(p x=true→EvE K S κ te Γ' (f x))):EvO K S κ (tComp js wi g tt te) Γ ((xs.filter p).map f):=by
  classical
  let F:PyData→PyData:=fun d=>if h:∃ x,x∈xs∧u x=d then f h.choose else .none
  let G:PyData→Bool:=fun d=>if h:∃ x,x∈xs∧u x=d then p h.choose else false
  have ex:∀ x∈xs,∃ y,y∈xs∧u y=u x:=fun x hx=>⟨x,hx,rfl⟩
  have hF:∀ x∈xs,F (u x)=f x:=fun x hx=>by
    show (if h:∃ y,y∈xs∧u y=u x then f h.choose else .none)=_
    rw [dif_pos (ex x hx)]
    exact (hu _ (ex x hx).choose_spec.1 _ hx (ex x hx).choose_spec.2).1
  have hG:∀ x∈xs,G (u x)=p x:=fun x hx=>by
    show (if h:∃ y,y∈xs∧u y=u x then p h.choose else false)=_
    rw [dif_pos (ex x hx)]
    exact (hu _ (ex x hx).choose_spec.1 _ hx (ex x hx).choose_spec.2).2
  refine EvO.eq (evo_comp' (κ:=κ) κ' G F hi hc hjs hj (by rw [List.length_map]; exact hz) fun d hd=>?_) ?_
  · obtain ⟨x,hx,rfl⟩:=List.mem_map.mp hd
    rw [hF x hx,hG x hx]
    exact hb x hx
  · rw [List.filter_map,List.map_map]
    have e1:xs.filter (G∘u)=xs.filter p:=List.filter_congr fun x hx=>hG x hx
    rw [e1]
    exact List.map_congr_left fun x hx=>hF x (List.mem_filter.mp hx).1
theorem evo_rngIf {js:List (Option Nat)} {Γc:Ctx} {ta:TA} {g:TG} {tt:TT} {te:TE} {is:List Nat} {n:Nat} (f:Nat→PyData) (p:Nat→Bool) (hi:EvA K S false ta Γ [.int n]) (hn:n≤sizeLine) (hc:CaptC js Γ Γc) (hjs:(is.all fun i=>js[i]? == some none)=true)
    (hj:(js.filterMap id).Nodup) (hb:∀ k:Nat,k < n→ExG K S true g is (.int k) Γc fun Γ'=>EvT K S tt Γ' (p k)∧(p k=true→EvE K S κ te Γ' (f k))):EvO K S κ (tComp js (iRng1 ta) g tt te) Γ (((List.range n).filter p).map f) :=
  evo_eachIf true (fun k:Nat=>.int (k:Int)) f p (fun x _ y _ h=>by cases Int.ofNat.inj (PyData.int.inj h); exact ⟨rfl,rfl⟩) (ei_rng1 (n:=(n:Int)) hi (by omega) (by have:=line62; omega)) hc hjs hj (by rw [List.length_range]; exact hn) fun k hk=>hb k (List.mem_range.mp hk)
end
end PD
namespace L2
open PySem PySem.Spec PyProof.Rows
section
variable {X:Cx} {K:PySem.W.Frag}
def dd (ns:List Int):List Int:=ns.foldl step_dedup []
theorem firstMet_all (ns:List Int):firstMet (fun i=>ns.getD i 0) ns.length=dd ns:=by
  unfold firstMet dd
  congr 1
  refine List.ext_getElem? fun i=>?_
  rw [List.getElem?_map]
  by_cases h:i < ns.length
  · rw [List.getElem?_range h,List.getElem?_eq_getElem h]
    show some (ns.getD i 0)=_
    rw [List.getD_eq_getElem?_getD,List.getElem?_eq_getElem h]
    rfl
  · rw [List.getElem?_eq_none (by rw [List.length_range]; omega),List.getElem?_eq_none (by omega)]
    rfl
theorem dd_snoc (ns:List Int) (k:Int):dd (ns ++ [k])=step_dedup (dd ns) k:=by
  unfold dd
  rw [List.foldl_append]
  rfl
theorem dd_mem (ns:List Int):∀ k,k∈dd ns↔k∈ns:=by
  suffices h:∀ n,∀ k,k∈dd (ns.take n)↔k∈ns.take n by simpa using h ns.length
  intro n
  induction n with
  | zero=>intro k; rfl
  | succ n ih =>
    intro k
    by_cases hn:n < ns.length
    · have e:ns.take (n + 1)=ns.take n ++ [ns[n]]:=by rw [List.take_succ,List.getElem?_eq_getElem hn]; rfl
      rw [e,dd_snoc]
      unfold step_dedup
      split
      · rename_i h
        obtain ⟨x,hx,ex⟩:=List.any_eq_true.mp h
        have:=eq_of_beq ex
        subst this
        rw [ih,List.mem_append]
        refine ⟨.inl,fun z=>?_⟩
        rcases z with z | z
        · exact z
        · rw [List.mem_singleton.mp z]
          exact (ih _).mp hx
      · rw [List.mem_append,List.mem_append,ih]
    · rw [List.take_of_length_le (by omega)]
      have:=ih k
      rw [List.take_of_length_le (by omega)] at this
      exact this
theorem dd_len (ns:List Int):(dd ns).length≤ns.length:=by
  have:=length_foldl_step_dedup_le ns ([]:List Int)
  simpa [dd] using this
end
end L2
namespace PD
open PySem L2
section
variable {K:PySem.W.Frag} {S S':Sx} {κ κ':Bool} {Γ Γ' Γ'':Ctx} {P:Post}
end
end PD
namespace PD
open PySem L2
section
variable {K:PySem.W.Frag} {S S':Sx} {κ κ':Bool} {Γ Γ' Γ'':Ctx} {P:Post}
def EvG (K:PySem.W.Frag) (S:Sx) (κ:Bool) (t:TE) (Γ:Ctx) (G:PyData→Prop):Prop:=∀ (H0 F0 H F:Hp) (σ:St),DEnv K S H0 F0 H F σ Γ→∀ Q:VK,(∀ d v H' F',G d→Gr H F H' F'→Rp K κ S H0 F' v d→Q v H')→t σ H Q
def spW (K:PySem.W.Frag) (κ:Bool) (pre:List PyData→(PyData→Prop)→Prop):Sp:=fun vs H Q _=>∃ F ds G,Same F H∧DpAll K F vs ds∧pre ds G∧∀ d v H' F',G d→Gr H F H' F'→Rp K κ .fresh H F' v d→Q v H'
theorem spW_len {pre:List PyData→(PyData→Prop)→Prop} {n:Nat} (h:∀ ds G,pre ds G→ds.length=n) {vs:List V} {H:Hp} {Q:VK} {E:XK} (s:spW K κ pre vs H Q E):vs.length=n:=by
  obtain ⟨F,ds,d,_,k,p,_⟩:=s
  rw [DpAll.length k]
  exact h ds d p
theorem evg_call {pre:List PyData→(PyData→Prop)→Prop} {E:XK} {t:TA} {ds:List PyData} {G:PyData→Prop} (h:EvA K S false t Γ ds) (hp:pre ds G):EvG K S κ (tCall (spW K true pre) [] E t) Γ G:=fun H0 F0 H F σ e Q q =>
  h H0 F0 H F σ e _ fun vs H1 F1 g1 p1=>⟨F1,ds,G,g1.le,by rw [List.append_nil]; exact rpAll_dp p1,hp,fun d v H2 F2 hd g2 p2=>q d v H2 F2 hd (g1.trans g2) (rp_weak (κ:=true) (fun _=>rfl) (rp_map (κ:=true) (κ':=true) (S':=S) (H0':=H0) (fun a xs z=>⟨z.1,fun c=>by
    obtain ⟨u,hu⟩:=(e.mono g1).sd a c
    exact z.2 (by show H1 a≠none; rw [hu]; simp)⟩) (fun _ _ z=>z) p2))⟩
theorem exg {te:TE} {u:TS} {i:Nat} {G:PyData→Prop} {Γ':PyData→Ctx} (κ:Bool) (h:EvG K S κ te Γ G) (es:∀ d,SetC Γ i (some (.fz κ d)) (Γ' d)) (k:∀ d,G d→ExT K S S' u (Γ' d) P):ExT K S S' (tSeq (tAsg te (gName i)) u) Γ P :=
  ex_seq (fun Γ1=>∃ d,G d∧Γ1=Γ' d) (fun H0 F0 H F σ B e b _ D I=>h H0 F0 H F σ e _ fun d v H' F' hd g p=>I.nx _ _ H' F' ⟨d,hd,rfl⟩ (b.trans g.f) (by rw [← (es d).eq]; exact (e.mono g).setF p)) fun Γ1 ⟨d,hd,z⟩=>z ▸ k d hd
def EvOG (K:PySem.W.Frag) (S:Sx) (κ:Bool) (t:TE) (Γ:Ctx) (G:List PyData→Prop):Prop:=∀ (H0 F0 H F:Hp) (σ:St),DEnv K S H0 F0 H F σ Γ→∀ Q:VK,(∀ ds a vs H' F',G ds→Gr H F H' F'→H a=none→H' a=some (.lst vs)→F' a=none→RpAll K κ S H0 F' vs ds→Q (.ref a) H')→t σ H Q
theorem exog {te:TE} {u:TS} {i:Nat} {G:List PyData→Prop} {Γ':List PyData→Ctx} (κ:Bool) (h:EvOG K S κ te Γ G) (es:∀ ds,SetC Γ i (some (.ow κ ds)) (Γ' ds)) (k:∀ ds,G ds→ExT K S S' u (Γ' ds) P):ExT K S S' (tSeq (tAsg te (gName i)) u) Γ P :=
  ex_seq (fun Γ1=>∃ ds,G ds∧Γ1=Γ' ds) (fun H0 F0 H F σ B e b _ D I=>h H0 F0 H F σ e _ fun ds a vs H' F' hd g n p f q=>I.nx _ _ H' F' ⟨ds,hd,rfl⟩ (b.trans g.f) (by
    rw [← (es ds).eq]
    exact (e.mono g).set (x:=.ow κ ds) ⟨a,vs,rfl,⟨p,f,e.gr.h.free n,e.out n⟩,q⟩ fun c oc j y w hj z hw o=>by
      cases (show V.ref a=.ref c from oc)
      obtain ⟨v,q1,q2⟩:=e.has j y z
      rw [hw] at q1
      cases q1
      obtain ⟨us,w1⟩:=q2.owns (o.back q2 fun _ _ z=>g.h _ _ z.h)
      have:=w1.h
      rw [n] at this; cases this)) fun Γ1 ⟨ds,hd,z⟩=>z ▸ k ds hd
theorem run_defW {t:TS} {N:List Str} {n:Nat} {H F:Hp} {vs:List V} {ds:List PyData} {G:PyData→Prop} {Q:VK} {Γ:Ctx} (le:Same F H) (k:DpAll K F vs ds) (q:∀ d v H' F',G d→Gr H F H' F'→Rp K κ .fresh H F' v d→Q v H') (hn:N.length=n) (hΓ:StartC n ds Γ)
    (h:ExS K .fresh t Γ { nx:=fun _=>False,rt:=G,kr:=κ }):t { nx:=fun _ H'=>Q .non H',rt:=Q } (L2.start N vs) H:=by
  have e:=denv_start (N:=N) le k
  rw [hn,hΓ.eq] at e
  exact h H F H F _ F e (.refl _) (.inl rfl) _ ⟨fun _ _ _ _ z=>z.elim,fun d v H' F' r g p=>q d v H' F' r g p,fun _ _ _ _ z=>z.elim,fun _ _ _ _ z=>z.elim⟩
end
end PD
namespace L2
open PySem
def Rise (xs:Array Nat):Prop:=xs.toList.Pairwise (· < ·)
theorem Rise.lt {xs:Array Nat} (r:Rise xs) {i j:Nat} (h:i < j) (hj:j < xs.size):xs[i]'(by omega) < xs[j]:=by
  have:=List.pairwise_iff_getElem.mp r i j (by simp; omega) (by simpa using hj) h
  simpa using this
theorem below_go (xs:Array Nat) (r:Rise xs) (j:Nat):∀ (fuel lo hi:Nat),lo≤hi→hi≤xs.size→hi - lo≤fuel →
    (∀ i (h:i < xs.size),i < lo→xs[i] < j)→(∀ i (h:i < xs.size),hi≤i→j≤xs[i]) →
    SetTable.below.go xs j fuel lo hi≤xs.size∧(∀ i (h:i < xs.size),i < SetTable.below.go xs j fuel lo hi→xs[i] < j)∧∀ i (h:i < xs.size),SetTable.below.go xs j fuel lo hi≤i→j≤xs[i]
  | 0,lo,hi,h1,h2,h3,a,b=>by
    have:lo=hi:=by omega
    subst this
    exact ⟨h2,a,b⟩
  | f + 1,lo,hi,h1,h2,h3,a,b=>by
    unfold SetTable.below.go
    by_cases hl:lo < hi
    · rw [if_pos hl]
      dsimp only
      have hm:(lo + hi) / 2 < xs.size:=by omega
      have eg:xs.getD ((lo + hi) / 2) j=xs[(lo + hi) / 2]:=by simp [hm]
      rw [eg]
      by_cases hx:xs[(lo + hi) / 2] < j
      · rw [if_pos hx]
        refine below_go xs r j f _ _ (by omega) h2 (by omega) (fun i hi' hlt=>?_) b
        by_cases e:i=(lo + hi) / 2
        · subst e; exact hx
        · exact Nat.lt_trans (r.lt (show i < (lo + hi) / 2 by omega) hm) hx
      · rw [if_neg hx]
        refine below_go xs r j f _ _ (by omega) (by omega) (by omega) a fun i hi' hle=>?_
        by_cases e:i=(lo + hi) / 2
        · subst e; omega
        · have:=r.lt (show (lo + hi) / 2 < i by omega) hi'
          omega
    · rw [if_neg hl]
      have:lo=hi:=by omega
      subst this
      exact ⟨h2,a,b⟩
theorem below_ok (xs:Array Nat) (r:Rise xs) (j:Nat):SetTable.below xs j≤xs.size∧(∀ i (h:i < xs.size),i < SetTable.below xs j→xs[i] < j)∧∀ i (h:i < xs.size),SetTable.below xs j≤i→j≤xs[i] :=
  below_go xs r j _ _ _ (Nat.zero_le _) (Nat.le_refl _) (by omega) (fun _ _ h=>by omega) fun i h z=>by omega
structure TOk (b:Bool) (t:SetTable):Prop where
  led:t.led=b
  rise:Rise t.place
  dum:t.dummies=#[]
theorem TOk.fresh {b:Bool} {f m:Nat}:TOk b (.fresh f m b):=⟨rfl,List.Pairwise.nil,rfl⟩
theorem TOk.plain {b c:Bool} {t:SetTable} (h:TOk b t):TOk b { t with plain:=c }:=⟨h.led,h.rise,h.dum⟩
theorem TOk.standIn {b:Bool} {t:SetTable} (h:TOk b t) (n:Nat):TOk b (t.standIn n):=⟨h.led,by
  show (Array.range n).toList.Pairwise (· < ·)
  rw [Array.toList_range]
  exact List.pairwise_lt_range,rfl⟩
theorem TOk.orStandIn {b:Bool} {t:SetTable} (h:TOk b t) (n:Nat):TOk b (t.orStandIn n):=by
  unfold SetTable.orStandIn
  split
  · exact h
  · exact h.standIn n
theorem has_nil (j:Nat):SetTable.has #[] j=false:=rfl
theorem slot_ne {t:SetTable} {j:Nat} (h:t.slot j=.empty):t.place[SetTable.below t.place j]?≠some j:=by
  intro z
  unfold SetTable.slot at h
  simp [z] at h
theorem probe_empty {t:SetTable} {b:Bool} (ht:TOk b t) {g:Nat→Int} {h:Int}:∀ (n:Nat) (p:SetTable.Probe) {j:Nat} {d:Option Nat},p.dummy=none→SetTable.probe.go t g h n p=some (.empty j d)→d=none∧t.slot j=.empty
  | 0,p,j,d,_,e=>by cases e
  | n + 1,p,j,d,hp,e=>by
    unfold SetTable.probe.go at e
    split at e
    · rename_i hs
      injection e with e
      injection e with e1 e2
      subst e1
      exact ⟨e2 ▸ hp,hs⟩
    · rename_i hs
      exfalso
      unfold SetTable.slot at hs
      rw [ht.dum] at hs
      simp only [has_nil] at hs
      split at hs <;> simp at hs
    · split at e
      · cases e
      · refine probe_empty ht n _ ?_ e
        unfold SetTable.advance
        split
        · exact hp
        · exact hp
theorem put_ok {b:Bool} {t:SetTable} (h:TOk b t) {j:Nat} (hj:t.slot j=.empty):TOk b (t.put j).1:=by
  refine ⟨h.led,?_,by show (if SetTable.has t.dummies j=true then _ else _)=_; rw [h.dum,has_nil]; rfl⟩
  have hn:=slot_ne hj
  obtain ⟨a,b,c⟩:=below_ok t.place h.rise j
  show (SetTable.insertAt t.place (SetTable.below t.place j) j).toList.Pairwise (· < ·)
  generalize SetTable.below t.place j=p at *
  rw [SetTable.toList_insertAt,List.pairwise_append]
  have hr:t.place.toList.Pairwise (· < ·):=h.rise
  refine ⟨hr.sublist (List.take_sublist _ _),?_,?_⟩
  · rw [List.pairwise_cons]
    refine ⟨fun x hx=>?_,hr.sublist (List.drop_sublist _ _)⟩
    obtain ⟨i,hi,rfl⟩:=List.mem_iff_getElem.mp hx
    rw [List.length_drop,Array.length_toList] at hi
    rw [List.getElem_drop,Array.getElem_toList]
    have:=c (p + i) (by omega) (by omega)
    by_cases z:i=0
    · subst z
      have h2:t.place[p]≠j:=fun q=>hn (by rw [Array.getElem?_eq_getElem (by omega),q])
      simp only [Nat.add_zero] at this ⊢
      omega
    · have h3:=h.rise.lt (show p < p + i by omega) (show p + i < t.place.size by omega)
      have h4:=c p (by omega) (Nat.le_refl _)
      omega
  · intro x hx y hy
    obtain ⟨i,hi,rfl⟩:=List.mem_iff_getElem.mp hx
    rw [List.length_take,Array.length_toList] at hi
    rw [List.getElem_take,Array.getElem_toList]
    have h1:=b i (by omega) (by omega)
    rcases List.mem_cons.mp hy with rfl | hy
    · exact h1
    · obtain ⟨k,hk,rfl⟩:=List.mem_iff_getElem.mp hy
      rw [List.length_drop,Array.length_toList] at hk
      rw [List.getElem_drop,Array.getElem_toList]
      have:=c (p + k) (by omega) (by omega)
      omega
theorem layNew_ok {b:Bool} {t:SetTable} (h:TOk b t) (es:Array (Int×Value)) (k:Int) (x:Value):TOk b (layNew t es k x).2.1:=by
  unfold layNew
  split
  · rename_i slot wd e
    unfold SetTable.freeSlot at e
    split at e
    · rename_i j d e2
      obtain ⟨rfl,hs⟩:=probe_empty h _ _ rfl e2
      injection e with e
      injection e with e3 _
      have e3:j=slot:=e3
      subst e3
      exact (put_ok h hs).orStandIn _
    · cases e
  · exact h.standIn _
theorem relayAll_ok {b:Bool} {t:SetTable} (h:TOk b t) (es:Array (Int×Value)) (n:Nat):TOk b (relayAll t es n).2.1:=by
  unfold relayAll
  split
  · rename_i t' order e
    dsimp only
    split
    · unfold SetTable.relaid SetTable.laid at e
      simp only [Option.bind_eq_bind] at e
      obtain ⟨ow,_,e⟩:=Option.bind_eq_some_iff.mp e
      injection e with e
      injection e with e1 e2
      subst e1
      refine ⟨h.led,?_,rfl⟩
      show List.Pairwise (· < ·) _
      dsimp only
      rw [List.pairwise_map,List.pairwise_filterMap]
      refine List.pairwise_lt_range.imp fun {i j} hij x hx y hy=>?_
      obtain ⟨u,_,rfl⟩:=Option.map_eq_some_iff.mp hx
      obtain ⟨u',_,rfl⟩:=Option.map_eq_some_iff.mp hy
      exact hij
    · exact h.standIn _
  · exact h.standIn _
theorem pickOrder_perm {α:Type} (next:Nat→Nat) (xs:Array α):(pickOrder next xs).toList.Perm xs.toList:=by
  suffices h:∀ (n k:Nat) (l:List α) (out:Array α),l.length=n→(pickOrder.go next n k l out).toList.Perm (out.toList ++ l) by
    have:=h xs.size 0 xs.toList #[] (by simp)
    simpa [pickOrder] using this
  intro n
  induction n with
  | zero =>
    intro k l out hl
    have:l=[]:=List.length_eq_zero_iff.mp hl
    subst this
    simp [pickOrder.go]
  | succ n ih =>
    intro k l out hl
    unfold pickOrder.go
    have hm:next k % l.length < l.length:=Nat.mod_lt _ (by omega)
    rw [List.getElem?_eq_getElem hm]
    dsimp only
    refine (ih _ _ _ (by rw [List.length_eraseIdx_of_lt hm]; omega)).trans ?_
    rw [Array.toList_push,List.append_assoc]
    refine List.Perm.append_left _ ?_
    have e:l=l.take (next k % l.length) ++ l[next k % l.length] :: l.drop (next k % l.length + 1):=by
      rw [← List.drop_eq_getElem_cons hm,List.take_append_drop]
    conv=>rhs; rw [e]
    rw [List.eraseIdx_eq_take_drop_succ,List.singleton_append]
    exact List.perm_middle.symm
end L2
namespace L2
open PySem PySem.Spec PyProof.Rows
def IsE (e:Int×Value):Prop:=∃ k t,e=(hashInt k,.int k t)
def kOf (e:Int×Value):Int:=match e.2 with | .int k _=>k | _=>0
def SetI (b:Bool) (a:Addr) (l:List Int) (h:Heap):Prop :=
  ∃ o es ep t,h.get? a=some o∧o.ExactSet∧o.data=.set es ep t∧(∀ e∈es.toList,IsE e)∧(es.toList.map kOf).Perm l∧es.size < scanBound∧t.fits es.size=true∧TOk b t
section
variable {prog:Program} {w:World} {A:Around} {E:Value→Shared→Prop} {s:Shared} {b:Bool} {a:Addr} {l:List Int}
theorem SetI.at {h h':Heap} (x:SetI b a l h) (e:∀ o,h.get? a=some o→h'.get? a=some o):SetI b a l h' :=
  let ⟨o,es,ep,t,ho,r⟩:=x
  ⟨o,es,ep,t,e o ho,r⟩
theorem IsE.elems {es:List (Int×Value)} (h:∀ e∈es,IsE e):ElemsOf (intKind prog w) es:=fun e he=>by
  obtain ⟨k,t,rfl⟩:=h e he
  exact ⟨⟨k,intKind_is _ _ k t,rfl⟩,rfl⟩
theorem IsE.is {e:Int×Value} (h:IsE e) (k:Int):(intKind prog w).is k e.2=true↔kOf e=k:=by
  obtain ⟨j,t,rfl⟩:=h
  constructor
  · intro z
    exact ((intKind prog w).inj _ _ _ z (intKind_is _ _ j t)).symm
  · intro z
    have z:j=k:=z
    subst z
    exact intKind_is _ _ j t
theorem storeI {o:Obj} {es:Array (Int×Value)} {ep:Nat} {t:SetTable} {h:Heap} (ho:h.get? a=some o) (hd:o.data=.set es ep t) (es':Array (Int×Value)) (t':SetTable) :
    (h.update a (Obj.putSet es' t')).get? a=some { o with data:=.set es' (ep + 1) t' }:=by
  have q:=Heap.get?_update_self (Obj.putSet es' t') ho (by rw [putSet_of _ _ hd]; rfl)
  rwa [putSet_of _ _ hd] at q
theorem tailI {g:Bool→Sem Unit} (hg:∀ (c:Bool) (s₁:Shared) (R:Unit→Shared→Prop),R () s₁→wpAny (model prog w) A (g c) R E s₁)
    {o:Obj} {es:Array (Int×Value)} {ep:Nat} {t:SetTable} (ho:s.heap.get? a=some o) (hex:o.ExactSet) (hd:o.data=.set es ep t)
    {es1:Array (Int×Value)} {t2:SetTable} (he:∀ e∈es1.toList,IsE e) (hp:(es1.toList.map kOf).Perm l) (hz:es1.size < scanBound) (hf:t2.fits es1.size=true) (ht:TOk b t2) {wd:Bool} {R:Option Bool→Shared→Prop}
    (k:∀ h',Heap.SameBut a s.heap h'→SetI b a l h'→R (some true) { s with heap:=h' }) :
    wpAny (model prog w) A (do
      storeSet a es1 t2
      if (!wd && t2.tooFull)=true then do
        g (relayAll t2 es1 (SetTable.grown es1.size)).2.2; storeSet a (relayAll t2 es1 (SetTable.grown es1.size)).1 (relayAll t2 es1 (SetTable.grown es1.size)).2.1; pure (some true)
      else pure (some true)) R E s:=by
  refine wpAny_bind (wpAny_storeSet_of ho hd ?_ (fits_of_scanBound hz))
  have g1:=storeI ho hd es1 t2
  have u1:=Heap.SameBut.update s.heap a (Obj.putSet es1 t2)
  split
  · have hr:=relayAll_perm t2 es1 (SetTable.grown es1.size)
    have hq:=relayAll_fits t2 es1 (SetTable.grown es1.size)
    have hk:=relayAll_ok ht es1 (SetTable.grown es1.size)
    generalize relayAll t2 es1 (SetTable.grown es1.size)=Z at hr hq hk ⊢
    obtain ⟨es2,t3,gv⟩:=Z
    dsimp only at hr hq hk ⊢
    have z2:es2.size=es1.size:=by have:=hr.length_eq; simpa using this
    refine wpAny_bind (hg _ _ _ ?_)
    refine wpAny_bind (wpAny_storeSet_of g1 rfl ?_ (fits_of_scanBound (by rw [z2]; exact hz)))
    exact wpAny_pure (k _ (u1.trans (Heap.SameBut.update _ a _)) ⟨_,es2,_,t3,storeI g1 rfl es2 t3,hex,rfl,fun e x=>he e (hr.mem_iff.mp x),(hr.map kOf).trans hp,by rw [z2]; exact hz,hq,hk⟩)
  · exact wpAny_pure (k _ u1 ⟨_,es1,_,t2,g1,hex,rfl,he,hp,hz,hf,ht⟩)
theorem addI {k:Int} {tk:Tok} {Q:Bool→Shared→Prop} (hS:SetI b a l s.heap) (hl:l.length + 1 < scanBound)
    (h:∀ (r:Bool) h',Heap.SameBut a s.heap h'→SetI b a (step_dedup l k) h'→Q r { s with heap:=h' }) :
    wpAny (model prog w) A (setAddHashed a (.int k tk) (hashInt k)) Q E s:=by
  obtain ⟨o,es,ep,t,ho,hex,hd,hE,hp,hz,hf,ht⟩:=hS
  have hel:ElemsOf (intKind prog w) es.toList:=IsE.elems hE
  have hn:es.size=l.length:=by have:=hp.length_eq; simpa using this
  have hm:∀ k',k'∈l↔∃ e∈es.toList,(intKind prog w).is k' e.2=true:=fun k'=>by
    rw [← hp.mem_iff,List.mem_map]
    exact ⟨fun ⟨e,x,y⟩=>⟨e,x,((hE e x).is k').mpr y⟩,fun ⟨e,x,y⟩=>⟨e,x,((hE e x).is k').mp y⟩⟩
  unfold setAddHashed setAddHashedIn
  refine wpAny_holding (wpAny_bind (wpAny_setState_of ho hd hf ?_))
  dsimp only
  rw [byScan_of (knd:=intKind prog w) (x:=.int k tk) rfl hz hel]
  simp only [↓reduceIte]
  unfold setAddByScan
  refine wpAny_bind (wpAny_bind (wpAny_rule ?_))
  refine wpAny_bind (wpAny_setScan_of (knd:=intKind prog w) (k:=k) (intKind_is _ _ k tk) ho hd hf hel ?_)
  cases hr:List.findIdx? (fun e=>(intKind prog w).is k e.2) es.toList with
  | some j =>
    dsimp only
    obtain ⟨hj,hpj,_⟩:=List.findIdx?_eq_some_iff_getElem.mp hr
    have hk:k∈l:=(hm k).mpr ⟨es.toList[j],List.getElem_mem hj,hpj⟩
    have e1:step_dedup l k=l:=by unfold step_dedup; rw [if_pos (List.any_eq_true.mpr ⟨k,hk,by simp⟩)]
    have q:=h false s.heap (Heap.SameBut.refl a s.heap) (e1.symm ▸ ⟨o,es,ep,t,ho,hex,hd,hE,hp,hz,hf,ht⟩)
    exact wpAny_pure (wpAny_pure q)
  | none =>
    dsimp only
    have hk:k∉l:=fun z=>by
      obtain ⟨e,he,hpe⟩:=(hm k).mp z
      have q:=List.findIdx?_eq_none_iff.mp hr e he
      rw [hpe] at q; cases q
    have e1:step_dedup l k=l ++ [k]:=by
      unfold step_dedup
      refine if_neg fun z=>?_
      obtain ⟨x,hx,ex⟩:=List.any_eq_true.mp z
      exact hk (eq_of_beq ex ▸ hx)
    have hgw:∀ (c:Bool) {s₁:Shared} {R:Unit→Shared→Prop},R () s₁→wpAny (model prog w) A (match c with | true=>rule "set.scan.the-table-gave-way" | false=>pure ()) R E s₁:=fun c s₁ R q=>by
      cases c
      · exact wpAny_pure q
      · exact wpAny_rule q
    have hperm:=layNew_perm t es (hashInt k) (.int k tk)
    have hfits:=layNew_fits t es (hashInt k) (.int k tk)
    have hok:=layNew_ok ht es (hashInt k) (.int k tk)
    show wpAny _ _ (let (es,t,wasDummy,gave):=layNew t es (hashInt k) (.int k tk); _) _ _ _
    generalize layNew t es (hashInt k) (.int k tk)=Z at hperm hfits hok ⊢
    obtain ⟨es1,t1,wd,gv⟩:=Z
    dsimp only at hperm hfits hok ⊢
    rw [Array.toList_push] at hperm
    have hE1:∀ e∈es1.toList,IsE e:=fun e he=>by
      rcases List.mem_append.mp (hperm.mem_iff.mp he) with z | z
      · exact hE e z
      · rw [List.mem_singleton.mp z]; exact ⟨k,tk,rfl⟩
    have hp1:(es1.toList.map kOf).Perm (l ++ [k]):=by
      refine (hperm.map kOf).trans ?_
      rw [List.map_append]
      exact hp.append_right _
    have hz1:es1.size < scanBound:=by
      have q:=hp1.length_eq
      rw [List.length_map,Array.length_toList,List.length_append] at q
      have:es1.size=l.length + 1:=q
      omega
    refine wpAny_bind (hgw _ ?_)
    have kk:∀ h',Heap.SameBut a s.heap h'→SetI b a (l ++ [k]) h'→Q true { s with heap:=h' }:=fun h' u v=>h true h' u (e1.symm ▸ v)
    split
    · refine wpAny_bind ?_
      rw [hashByValue_scannable 8 (x:=.int k tk) rfl]
      refine wpAny_pure ?_
      refine tailI ?_ ho hex hd hE1 hp1 hz1 ?_ ?_ fun h' u v=>wpAny_pure (kk h' u v)
      · exact fun c s₁ R q=>hgw c q
      · split
        · exact hfits
        · exact SetTable.fits_plain_off hfits
      · split
        · exact hok
        · exact hok.plain
    · refine wpAny_bind (wpAny_pure ?_)
      simp only [↓reduceIte]
      refine tailI ?_ ho hex hd hE1 hp1 hz1 hfits hok fun h' u v=>wpAny_pure (kk h' u v)
      exact fun c s₁ R q=>hgw c q
end
end L2
namespace L2
open PySem PySem.Spec PyProof.Rows
end L2
namespace L2
open PySem PySem.Spec PyProof.Rows
section
variable {prog:Program} {w:World} {A:Around} {E:Value→Shared→Prop} {s:Shared} {b:Bool} {a I:Addr} {l:List Int}
end
end L2
namespace L2
open PySem PySem.Spec PyProof.Rows
section
variable {prog:Program} {w:World} {A:Around} {E:Value→Shared→Prop} {s:Shared} {b:Bool} {a I:Addr} {l:List Int}
end
end L2
namespace L2
open PySem PySem.Spec PyProof.Rows
section
variable {prog:Program} {w:World} {A:Around} {E:Value→Shared→Prop} {s:Shared} {b:Bool} {a I T:Addr} {l:List Int}
end
end L2
namespace L2
open PySem PySem.Spec PyProof.Rows
section
variable {prog:Program} {w:World} {A:Around} {E:Value→Shared→Prop} {s:Shared} {b:Bool} {a I T:Addr} {l:List Int}
end
end L2
namespace L2
open PySem PySem.Spec PyProof.Rows
section
variable {prog:Program} {w:World} {A:Around} {E:Value→Shared→Prop} {s:Shared} {b:Bool} {a I T:Addr} {l:List Int}
theorem updateI {R:Result→Shared→Prop} {fp wr:List Addr} {G:Array GenState→Array GenState→Prop} {n:Nat} {P:Nat→Value→Prop} {St:Nat→Shared→Prop} (W:WalksS prog w A.in1 I fp wr G n P St) (S:Addr) (hSf:S∉fp)
    (val:Nat→Int) (hval:∀ i v,P i v→∃ t,v=.int (val i) t) (hz:n + 1 < scanBound) :
    ∀ (k i:Nat) (s:Shared),n - i=k→i≤n→St i s→SetI b S (firstMet val i) s.heap→(∀ s',Moved (S :: wr) G s s'→SetI b S (firstMet val n) s'.heap→R (.ok (.ret .none)) s') →
      codeAny (model prog w) A (.builtin "set.update.loop" ⟨[.ref S,.ref I],[]⟩) R s:=by
  have hSw:S∉wr:=fun h=>hSf (W.sub _ h)
  have sb:∀ c∈wr,c∈S :: wr:=fun c=>List.mem_cons_of_mem _
  intro k
  induction k with
  | zero =>
    intro i s hk hi st hS hR
    obtain rfl:i=n:=by omega
    refine codeAny_builtin F.entry_set_update_loop ?_
    rw [Around.under_plainId F.plain_set_update_loop _]
    show wpAny _ A.in1 (pyNext (.ref I) >>= _) _ _ s
    refine wpAny_bind (W.done s _ _ st fun s' hm=>wpAny_pure (hR s' (hm.mono sb) (hS.at fun o z=>hm.heap S o hSw z)))
  | succ k ih =>
    intro i s hk hi st hS hR
    have hlt:i < n:=by omega
    refine codeAny_builtin F.entry_set_update_loop ?_
    rw [Around.under_plainId F.plain_set_update_loop _]
    show wpAny _ A.in1 (pyNext (.ref I) >>= _) _ _ s
    refine wpAny_bind (W.item i s _ _ hlt st fun v s' hP st' hm=>?_)
    obtain ⟨t,rfl⟩:=hval i v hP
    have hS':SetI b S (firstMet val i) s'.heap:=hS.at fun o z=>hm.heap S o hSw z
    show wpAny _ A.in1 (holding [Value.int (val i) t] (setAdd S (.int (val i) t)) >>= _) _ _ s'
    refine wpAny_bind (wpAny_holding ?_)
    unfold setAdd
    refine wpAny_holding (wpAny_bind ((intKind prog w).pyHash (k:=val i) (intKind_is _ _ _ _) ?_))
    have room:(firstMet val i).length + 1 < scanBound:=by have:=firstMet_length_le val i; omega
    refine addI (s:={ s' with toks:=s'.toks + 1 }) hS' room fun r h' u hS2=>?_
    rw [← firstMet_succ] at hS2
    refine wpAny_pure ⟨plainId_quiet F.plain_set_update_loop _,ih (i + 1) _ (by omega) hlt (W.frame _ s' _ _ st' (Nat.le_succ _) fun c hc o z=>?_) hS2 fun s'' hm'' hS''=>?_⟩
    · rw [u.2 c fun q:c=S=>hSf (by rw [← q]; exact hc)]; exact z
    · refine hR s'' (Moved.trans W.gtrans ((hm.mono sb).then_heap (Nat.le_succ _) fun c o hc z=>?_) hm'') hS''
      rw [u.2 c fun q:c=S=>hc (by rw [q]; exact .head _)]; exact z
theorem newI (x:Value) {Q₁:Value→Shared→Prop} (hb:w.params.followText "set-order" = b)
    (h:Q₁ (.ref s.heap.objs.size) { s with heap:=s.heap.push { cls:=.type "set", dict:=none,data:=.set #[] 0 (.fresh 0 0 (!b)) } }) :
    codeAny (model prog w) A (.call (.builtin "set.__new__") ⟨[.type "set", x],[]⟩) (wants Q₁ E) s:=by
  refine codeAny_of_tree ?_
  show wpAny _ A.in1 (do checkBuiltinCall "set.__new__" ⟨[.type "set", x],[]⟩; again (.builtin "set.__new__" ⟨[.type "set", x],[]⟩)) _ _ s
  refine wpAny_bind (wpAny_of_eq (F.newCall_set_1 x) (wpAny_pure ⟨plainId_quiet F.plain_set_new _,codeAny_builtin F.entry_set_new ?_⟩))
  rw [Around.under_plainId F.plain_set_new _]
  unfold Builtin.«set.__new__» Builtin.Frozenset.newClass
  have hsub:=sub_set_self
  obtain ⟨hp,g,d,tk,os⟩:=s
  dsimp only
  wp_walk
  refine wpAny_askSetting (wpAny_pure ?_)
  dsimp only
  simp only [newObj]
  refine wpAny_bind (wpAny_alloc (wpAny_pure (wpAny_pure ?_)))
  rw [show (model prog w).w.params.followText "set-order" = b from hb]
  exact h
end
end L2
namespace L2
open PySem PySem.Spec PyProof.Rows
section
variable {prog:Program} {w:World} {A:Around} {E:Value→Shared→Prop} {s:Shared} {b:Bool} {a I T:Addr} {l:List Int}
set_option maxHeartbeats 3200000 in
theorem setOfI {L:Addr} {items:Array Value} {ns:List Int} {Q:Value→Shared→Prop} (hh:A.handled=none) (hb:w.params.followText "set-order" = b) (hl:s.heap.IsList L items) (hi:IntsAre items.toList ns) (hz:items.size + 1 < scanBound)
    (k:∀ (h':Heap) (tk:Nat),SetI (!b) s.heap.objs.size (firstMet (fun i=>ns.getD i 0) items.size) h'→(∀ c o,s.heap.get? c=some o→h'.get? c=some o)→Q (.ref s.heap.objs.size) { s with heap:=h',toks:=tk }) :
    wpAny (model prog w) A (call (.type "set") [.ref L]) Q E s:=by
  obtain ⟨c,tl,hmro⟩:=F.called_set.mro
  have hmade:=F.called_set.made
  have hsub:=F.called_set.sub
  refine wpAny_call (codeAny_of_tree ?_)
  show wpAny _ _ (callAny (.type "set") _) _ _ _
  refine wpAny_pure ⟨Code.quiet_builtin _ (by decide +kernel),codeAny_builtin F.entry_type_call ?_⟩
  rw [Around.under_plain (weight_type_call_type "set" [.ref L] []) rfl]
  have h1:=F.called_set.notType
  have h2:=F.called_set.canCreate
  have hct:=F.typeCall_set_1 (.ref L)
  repeat (any_goals (first | assumption | wp_step))
  refine codeAny_mono (newI (.ref L) (E:=E) hb (Q₁:=fun x s₁=>x=.ref s.heap.objs.size∧s₁={ s with heap:=s.heap.push { cls:=.type "set", dict:=none,data:=.set #[] 0 (.fresh 0 0 (!b)) } }) ⟨rfl,rfl⟩) fun r s₁ hr=>?_
  cases r with
  | error e=>exact hr
  | ok fl =>
    cases fl with
    | ret obj =>
      obtain ⟨rfl,rfl⟩:=hr
      generalize ho0:({ cls:=.type "set", dict:=none,data:=.set #[] 0 (.fresh 0 0 (!b)) }:Obj)=o0
      have hS:(s.heap.push o0).get? s.heap.objs.size=some o0:=Heap.get?_push_size _ (by rw [← ho0]; rfl)
      have hS0:SetI (!b) s.heap.objs.size [] (s.heap.push o0):=⟨o0,#[],0,_,hS,by rw [← ho0]; exact ⟨rfl,rfl,rfl⟩,by rw [← ho0],(fun e z=>by simp at z),.nil,by decide,by rfl,TOk.fresh⟩
      have hT:Shared.TypeIs { s with heap:=s.heap.push o0 } (.ref s.heap.objs.size) "set" := ⟨_,hS,by rw [← ho0]⟩
      have hli:=F.called_set.init.lookup
      have hbi:=F.called_set.init.bind (.ref s.heap.objs.size)
      repeat (any_goals (first | assumption | wp_step))
      refine codeAny_mono (codeAny_call_builtin (R:=wants (fun r s₂=>r=.none∧∃ h' tk,s₂={ s with heap:=h',toks:=tk }∧SetI (!b) s.heap.objs.size (firstMet (fun i=>ns.getD i 0) items.size) h' ∧
          (∀ c o,s.heap.get? c=some o→h'.get? c=some o)) E) F.called_set.init.plain F.entry_set_init (check_set_init_1 hT ?_)) fun r₂ s₂ hr₂=>?_
      · obtain ⟨ol,hol,hcl,nl,hdl⟩:=hl
        obtain ⟨oc,od,odt,osl⟩:=ol
        simp only at hcl hdl
        subst hcl; subst hdl
        have hol':(s.heap.push o0).get? L=some { cls:=.type "list", dict:=od,data:=.seq items nl,slots:=osl }:=Heap.get?_push_of_some _ hol
        have e1:=F.sub_list_set
        have e2:=F.sub_list_frozenset
        have hne:(Value.type "list" == Value.type "dict")=false:=by decide
        have hl1:(s.heap.push o0).IsList L items:=⟨_,hol',rfl,nl,rfl⟩
        have hz0:(s.heap.push o0).objs.size=s.heap.objs.size + 1:=Heap.size_push _ _
        subst ho0
        unfold Builtin.«set.__init__» noKeywords Builtin.Frozenset.updateFrom
        generalize hPI:pyIter=PI
        wp_walk
        subst hPI
        refine wpAny_pyIter_list hl1 ?_
        refine wpAny_bind (wpAny_runValue ?_)
        have hlS:L < s.heap.objs.size:=Heap.lt_size hol
        have hh3:A.in1.in1.in1.handled=none:=hh
        have hneI:L≠(s.heap.push { cls:=.type "set", dict:=none,data:=.set #[] 0 (.fresh 0 0 (!b)) }).objs.size:=by rw [hz0]; exact Nat.ne_of_lt (Nat.lt_succ_of_lt hlS)
        have hSf:s.heap.objs.size∉[(s.heap.push { cls:=.type "set", dict:=none,data:=.set #[] 0 (.fresh 0 0 (!b)) }).objs.size,L]:=by
          rw [hz0]
          intro z
          rcases List.mem_cons.mp z with z | z
          · exact Nat.ne_of_lt (Nat.lt_succ_self _) z
          · exact Nat.ne_of_gt hlS (List.mem_singleton.mp z)
        have hval:∀ (i:Nat) (v:Value),items[i]?=some v→∃ t,v=.int ((fun i=>ns.getD i 0) i) t:=fun i v hv=>IntsAre.int_at hi i v (by rw [Array.getElem?_toList]; exact hv)
        refine updateI (b:=!b) ((Walks.list hh3 _ L hneI items).toS) s.heap.objs.size hSf (fun i=>ns.getD i 0) hval hz (items.size - 0) 0 _ (by omega) (Nat.zero_le _) ⟨⟨_,Heap.get?_push_size _ rfl,rfl,rfl⟩,(hl1.push _)⟩ ?hS0 ?hR
        case hS0=>exact hS0.at fun o z=>Heap.get?_push_of_some _ z
        case hR =>
          intro s' hm hS'
          obtain ⟨h',g',d',tk',os'⟩:=s'
          have eg:g'=s.gens:=hm.gens
          have ed:d'=s.drawn:=hm.drawn
          have eo:os'=s.os:=hm.os
          subst eg; subst ed; subst eo
          show wpAny _ _ _ _ _ _
          refine wpAny_pure ?_
          show wpAny _ _ (ret Value.none) _ _ _
          refine wpAny_pure ⟨rfl,h',tk',rfl,hS',fun c o z=>?_⟩
          have hc:c < s.heap.objs.size:=Heap.lt_size z
          refine hm.heap c o (fun q=>?_) (Heap.get?_push_of_some _ (Heap.get?_push_of_some _ z))
          rcases List.mem_cons.mp q with q | q
          · exact Nat.ne_of_lt hc q
          · have q:=List.mem_singleton.mp q
            rw [hz0] at q
            exact Nat.ne_of_lt (Nat.lt_succ_of_lt hc) q
      · cases r₂ with
        | error e=>exact hr₂
        | ok fl₂ =>
          cases fl₂ with
          | ret r =>
            obtain ⟨rfl,h',tk,rfl,hS',hk'⟩:=hr₂
            repeat (any_goals (first | assumption | wp_step))
            exact k _ _ hS' hk'
          | _=>exact hr₂.elim
    | _=>exact hr.elim
end
end L2
namespace L2
open PySem PySem.Spec PyProof.Rows
section
variable {X:Cx} {K:PySem.W.Frag} {b:Bool}
def SetB (b:Bool) (a:Addr) (l:List Int):HO:=.ext (SetI (!b) a l)
theorem setB_ok {P:Program} {w:World} {H:Hp} {h:Heap} {a:Addr} {l:List Int} (x:SetI (!b) a l h):ObjOk P w H h a (SetB b a l) :=
  ⟨x,(let ⟨o,_,_,_,ho,_⟩:=x; ⟨o,ho⟩),fun _ _ x1 k=>x1.at k⟩
def rSetB (K:PySem.W.Frag) (b:Bool):List V→Hp→VK→Prop:=fun xs H Q=>∃ p ns,xs=[.ref p]∧SqL K H p (ns.map V.int)∧ns.length < 4000∧∀ l,H l=none→Q (.ref l) (upd H l (SetB b l (dd ns)))
theorem call_setB (hK:X.K=K) (hc:X.calm=true) (hb:X.w.params.followText "set-order" = b):CallR X (.type "set") (rSetB K b):=by
  subst hK
  intro pins s σ H xs us Q I r h
  obtain ⟨p,ns,rfl,hq,hz,q⟩:=h
  obtain ⟨u,rfl,rx⟩:=vals1 r
  cases rx
  obtain ⟨its,r',pl,hy⟩:=I.list hq
  have hl:=r'.length
  rw [List.length_map] at hl hy
  refine setOfI (ns:=ns) (I.ok.hd hc) hb pl.isList (by simpa using intsAre_of r') (by rw [List.size_toArray]; unfold scanBound; omega) fun h' tk hS hk=>?_
  have z2:its.toArray.size=ns.length:=by rw [List.size_toArray,hl]
  rw [z2,firstMet_all] at hS
  exact ⟨.ref s.heap.objs.size,_,I.laid (t':=tk) hk (Nat.le_refl _) (setB_ok hS),rfl,q _ (I.hok.fresh (Nat.le_refl _))⟩
def rLenB (b:Bool):List V→Hp→VK→Prop:=fun xs H Q=>∃ p l,xs=[.ref p]∧H p=some (SetB b p l)∧Q (.int l.length) H
theorem call_lenB:CallR X (.builtin "len") (rLenB b):=by
  intro pins s σ H xs us Q I r h
  obtain ⟨p,l,rfl,hH,q⟩:=h
  obtain ⟨u,rfl,rx⟩:=vals1 r
  cases rx
  obtain ⟨o,es,ep,t,ho,hex,hd,_,hp,hz,hf,_⟩:SetI (!b) p l s.heap:=(I.hok p _ hH).1
  have e:es.size=l.length:=by have:=hp.length_eq; simpa using this
  exact PySem.call_len_set ho hex hd hf (by unfold scanBound at hz; omega) ⟨.int l.length,H,I.tok _,⟨_,by rw [e]⟩,q⟩
end
end L2
namespace PD
open PySem L2
section
variable {K:PySem.W.Frag} {S S':Sx} {κ κ' b:Bool} {Γ Γ' Γ'':Ctx} {P:Post}
end
end PD
namespace L2
open PySem PySem.Spec PyProof.Rows
section
variable {X:Cx} {K:PySem.W.Frag}
end
end L2
namespace PD
open PySem L2
section
variable {K:PySem.W.Frag} {S S':Sx} {κ κ':Bool} {Γ Γ' Γ'':Ctx} {P:Post}
end
end PD
namespace L2
open PySem PySem.Spec PyProof.Rows
section
variable {X:Cx} {K:PySem.W.Frag} {e:Expr} {te:TE} {lo hi:Option Expr} {st:Expr} {tl th ts:TO} {p2 pos:Pos}
end
end L2
namespace PD
open PySem L2
section
variable {K:PySem.W.Frag} {S S':Sx} {κ κ':Bool} {Γ Γ' Γ'':Ctx} {P:Post}
end
end PD
namespace PD
open PySem L2
section
variable {K:PySem.W.Frag} {S S':Sx} {κ κ':Bool} {Γ Γ' Γ'':Ctx} {P:Post}
end
end PD
namespace PD
open PySem L2
section
variable {K:PySem.W.Frag} {S S':Sx} {κ κ':Bool} {Γ Γ' Γ'':Ctx} {P:Post}
end
end PD
namespace L2
open PySem
end L2
namespace L2
open PySem
end L2
namespace L2
open PySem PySem.Spec PyProof.Rows
theorem set_entryAnd:entryFor table "set.__and__" = some Builtin.«frozenset.__and__»:=entryFor_alias (id' := "frozenset.__and__") (by kernel_rfl) rfl (by decide +kernel) (by kernel_rfl)
def FreshI (b:Bool) (m:Nat) (a:Addr) (h:Heap):Prop:=∃ o ep t,h.get? a=some o∧o.ExactSet∧o.data=.set #[] ep t∧TOk b t∧t.place=#[]∧(∃ k,t.mask + 1=2 ^ k)∧m≤t.mask
theorem FreshI.fits {t:SetTable} {b:Bool} (h:TOk b t) (e:t.place=#[]):t.fits (#[]:Array (Int×Value)).size=true:=by
  unfold SetTable.fits SetTable.fill
  rw [e,h.dum]
  simp
theorem FreshI.set {b:Bool} {m:Nat} {a:Addr} {h:Heap} (x:FreshI b m a h):SetI b a [] h:=by
  obtain ⟨o,ep,t,ho,hx,hd,ht,hp,_⟩:=x
  exact ⟨o,#[],ep,t,ho,hx,hd,(fun e z=>by simp at z),.nil,by decide,FreshI.fits ht hp,ht⟩
section
variable {prog:Program} {w:World} {A:Around} {E:Value→Shared→Prop} {s:Shared} {b:Bool} {a r o:Addr} {l l1 l2:List Int} {m:Nat}
end
end L2
namespace L2
open PySem PySem.Spec PyProof.Rows
section
variable {prog:Program} {w:World} {A:Around} {E:Value→Shared→Prop} {s:Shared} {bt:Bool} {a r o:Addr} {l l1 l2:List Int} {m:Nat}
theorem newSetI {Q:Value→Shared→Prop} (hb:w.params.followText "set-order" = bt)
    (k:∀ ob,FreshI (!bt) 7 s.heap.objs.size (s.heap.push ob)→Q (.ref s.heap.objs.size) { s with heap:=s.heap.push ob }):wpAny (model prog w) A (newSet (.type "set")) Q E s:=by
  unfold newSet setsByText
  refine wpAny_bind (wpAny_bind (wpAny_askSetting (wpAny_pure ?_)))
  rw [show (model prog w).w.params.followText "set-order" = bt from hb]
  dsimp only
  simp only [newObj]
  exact wpAny_bind (wpAny_alloc (wpAny_pure (k _ ⟨_,0,_,Heap.get?_push_size _ rfl,⟨rfl,rfl,rfl⟩,rfl,TOk.fresh,rfl,⟨3,rfl⟩,Nat.le_refl _⟩)))
theorem quietI {sets:List Addr} {Q:Bool→Shared→Prop} (h:∀ a∈sets,∃ b l,SetI b a l s.heap) (k:Q true s):wpAny (model prog w) A (setsQuiet sets) Q E s:=by
  unfold setsQuiet
  refine wpAny_bind (wpAny_forIn_list _ (fun rest r s'=>r.1=none∧s'=s∧∀ a∈rest,∃ b l,SetI b a l s.heap) _ ?_ ?_ _ _ ⟨rfl,rfl,h⟩)
  · rintro x rest ⟨r1,r2⟩ s' ⟨e1,rfl,hr⟩
    obtain ⟨b,l,ob,es,ep,t,ho,hex,hd,hE,hp,hz,hf,ht⟩:=hr x (.head _)
    refine wpAny_bind (wpAny_setEntries_of ho hd hf ?_)
    refine wpAny_bind (wpAny_forIn_array' _ (fun rest r s''=>r.1=none∧s''=s'∧∀ e∈rest,IsE e) _ ?_ ?_ _ _ ⟨rfl,rfl,hE⟩)
    · rintro e rest2 ⟨q1,q2⟩ s'' ⟨e2,rfl,h2⟩
      obtain ⟨k',t',rfl⟩:=h2 e (.head _)
      exact wpAny_pure ⟨rfl,rfl,fun y hy=>h2 y (.tail _ hy)⟩
    · rintro ⟨q1,q2⟩ s'' ⟨e2,rfl,_⟩
      have e2:q1=none:=e2
      subst e2
      exact wpAny_pure ⟨rfl,rfl,fun y hy=>hr y (.tail _ hy)⟩
  · rintro ⟨r1,r2⟩ s' ⟨e1,rfl,_⟩
    have e1:r1=none:=e1
    subst e1
    exact wpAny_pure k
end
end L2
namespace L2
open PySem PySem.Spec PyProof.Rows
section
variable {prog:Program} {w:World} {A:Around} {E:Value→Shared→Prop} {s:Shared} {bt:Bool} {a r o p q:Addr} {l l1 l2:List Int} {m:Nat}
theorem anySetI {h:Heap} {Q:Bool→Shared→Prop} {b:Bool} (hS:SetI b a l s.heap) (k:Q true s):wpAny (model prog w) A (Builtin.Frozenset.isAnySet (.ref a)) Q E s:=by
  obtain ⟨ob,_,_,_,ho,hx,_⟩:=hS
  unfold Builtin.Frozenset.isAnySet
  refine wpAny_bind (wpAny_isInstance (b:=true) ⟨ob,ho,hx.1⟩ sub_set_self (wpAny_pure k))
end
end L2
namespace L2
open PySem PySem.Spec PyProof.Rows
section
variable {X:Cx} {K:PySem.W.Frag} {b:Bool}
theorem dd_nd (ns:List Int):(dd ns).Nodup:=by
  suffices z:∀ n,(dd (ns.take n)).Nodup by simpa using z ns.length
  intro n
  induction n with
  | zero=>exact List.nodup_nil
  | succ n ih =>
    by_cases hn:n < ns.length
    · have e:ns.take (n + 1)=ns.take n ++ [ns[n]]:=by rw [List.take_succ,List.getElem?_eq_getElem hn]; rfl
      rw [e,dd_snoc]
      unfold step_dedup
      split
      · exact ih
      · rename_i h
        rw [List.nodup_append]
        refine ⟨ih,by simp,fun x hx y hy=>?_⟩
        rw [List.mem_singleton.mp hy]
        rintro rfl
        exact h (List.any_eq_true.mpr ⟨_,hx,by simp⟩)
    · have e1:ns.take (n + 1)=ns.take n:=by rw [List.take_of_length_le (by omega),List.take_of_length_le (by omega)]
      rw [e1]
      exact ih
end
end L2
namespace PD
open PySem L2
section
variable {K:PySem.W.Frag} {S S':Sx} {κ κ' b:Bool} {Γ Γ' Γ'':Ctx} {P:Post}
end
end PD
namespace PD
open PySem L2
section
variable {K:PySem.W.Frag} {S S':Sx} {κ κ':Bool} {Γ Γ' Γ'':Ctx} {P:Post}
end
end PD
namespace L2
open PySem PySem.Spec PyProof.Rows
section
variable {prog:Program} {w:World} {A:Around} {E:Value→Shared→Prop} {s:Shared}
end
section
variable {X:Cx} {K:PySem.W.Frag} {pos:Pos}
end
section
variable {P:Program} {w:World} {K:PySem.W.Frag} {mg:Str→Option Value} {base:Heap}
end
section
variable {X:Cx} {CX:CXT} {k:Nat} {ps:List Str} {sp:Sp} {E:XK} {x:Str} {p pos:Pos} {e:Expr} {es:List Expr} {t:TA}
end
end L2
namespace Cm
open PySem L2
end Cm
namespace PD
open PySem L2
section
variable {K:PySem.W.Frag} {S S':Sx} {κ κ':Bool} {Γ Γ' Γ'':Ctx} {P:Post}
end
end PD
namespace PD
open PySem L2
section
variable {K:PySem.W.Frag} {S S':Sx} {κ:Bool} {Γ:Ctx} {P:Post}
end
end PD
namespace L2
open PySem PySem.Spec PyProof.Rows
section
variable {P:Program} {w:World} {K:PySem.W.Frag} {mg:Str→Option Value} {base:Heap}
end
end L2
namespace PD
open PySem L2
section
variable {K:PySem.W.Frag} {S S':Sx} {κ κ':Bool} {Γ Γ' Γ'':Ctx} {P:Post} {E:XK} {C:Addr}
end
end PD
namespace PD
open PySem L2
section
variable {K:PySem.W.Frag} {S S':Sx} {κ κ':Bool} {Γ Γ' Γ'':Ctx} {P:Post} {E:XK} {C:Addr}
end
end PD
namespace PD
open PySem L2
section
variable {K:PySem.W.Frag} {S S':Sx} {κ κ':Bool} {Γ Γ' Γ'':Ctx} {P:Post}
end
end PD
namespace PD
open PySem L2
section
variable {K:PySem.W.Frag} {S S':Sx} {κ κ':Bool} {Γ Γ' Γ'':Ctx} {P:Post} {xs ys zs:List PyData}
theorem DEnv.any {H0 F0 H F:Hp} {σ:St} {i:Nat} {v:Option V} (e:DEnv K S H0 F0 H F σ Γ) (hi:∀ x,Γ[i]?≠some (some x)):DEnv K S H0 F0 H F (σ.set i v) Γ:=by
  have ne:∀ {j:Nat} {x:DV},Γ[j]?=some (some x)→i≠j:=fun h z=>hi _ (z ▸ h)
  refine ⟨e.gr,e.l0,e.sd,e.s0,by rw [List.length_set]; exact e.len,fun j x h=>?_,fun j k x y v w a h1 h2 h3 h4 o1 o2=>?_⟩
  · rw [List.getElem?_set_ne (ne h)]
    exact e.has j x h
  · rw [List.getElem?_set_ne (ne h1)] at h3
    rw [List.getElem?_set_ne (ne h2)] at h4
    exact e.ne j k x y v w a h1 h2 h3 h4 o1 o2
end
end PD
namespace PD
open PySem L2
section
variable {K:PySem.W.Frag} {S S':Sx} {κ κ':Bool} {Γ Γ' Γ'':Ctx} {P:Post} {E:XK}
end
end PD
namespace PD
open PySem L2
section
variable {K:PySem.W.Frag} {S S':Sx} {κ κ':Bool} {Γ Γ' Γ'':Ctx} {P:Post}
end
end PD
namespace PD
open PySem L2
section
variable {K:PySem.W.Frag} {S S':Sx} {κ κ':Bool} {Γ Γ' Γ'':Ctx} {P:Post}
end
end PD
namespace L2
open PySem PySem.Spec PyProof.Rows
section
variable {prog:Program} {w:World} {A:Around} {E:Value→Shared→Prop} {s:Shared} {b bt:Bool} {a r o p q:Addr} {l l1 l2:List Int}
theorem findI {k:Int} {tk:Tok} {Q:Option Nat→Shared→Prop} (hS:SetI b a l s.heap) (h:∀ x:Option Nat,(x.isSome=true↔k∈l)→Q x s):wpAny (model prog w) A (setFind a (.int k tk) (hashInt k)) Q E s:=by
  obtain ⟨ob,es,ep,t,ho,hex,hd,hE,hp,hz,hf,ht⟩:=hS
  have hel:ElemsOf (intKind prog w) es.toList:=IsE.elems hE
  have hm:k∈l↔∃ e∈es.toList,(intKind prog w).is k e.2=true:=by
    rw [← hp.mem_iff,List.mem_map]
    exact ⟨fun ⟨e,x,y⟩=>⟨e,x,((hE e x).is k).mpr y⟩,fun ⟨e,x,y⟩=>⟨e,x,((hE e x).is k).mp y⟩⟩
  unfold setFind setFindIn
  refine wpAny_bind (wpAny_setState_of ho hd hf ?_)
  dsimp only
  rw [byScan_of (knd:=intKind prog w) (x:=.int k tk) rfl hz hel]
  simp only [↓reduceIte]
  refine wpAny_bind (wpAny_rule ?_)
  refine wpAny_bind (wpAny_setScan_of (knd:=intKind prog w) (k:=k) (intKind_is _ _ k tk) ho hd hf hel ?_)
  cases hr:List.findIdx? (fun e=>(intKind prog w).is k e.2) es.toList with
  | none =>
    dsimp only
    refine wpAny_pure (h none ⟨fun z=>(by cases z),fun z=>?_⟩)
    obtain ⟨e,he,hpe⟩:=hm.mp z
    have q:=List.findIdx?_eq_none_iff.mp hr e he
    rw [hpe] at q; cases q
  | some j =>
    dsimp only
    obtain ⟨hj,hpj,_⟩:=List.findIdx?_eq_some_iff_getElem.mp hr
    exact wpAny_pure (h (some (0 + j)) ⟨fun _=>hm.mpr ⟨es.toList[j],List.getElem_mem hj,hpj⟩,fun _=>rfl⟩)
theorem walkA {also:List Addr} {Q:Array (Int×Value)→Shared→Prop} (hb:w.params.followText "set-order" = bt) (hR:SetI (!bt) r l1 s.heap) (hO:SetI (!bt) o l2 s.heap) (hA:∀ x∈also,∃ c l,SetI c x l s.heap)
    (k:∀ (ws:Array (Int×Value)) h',(∀ e∈ws.toList,IsE e)→(ws.toList.map kOf).Perm l2→Heap.SameBut r s.heap h'→SetI (!bt) r l1 h'→Q ws { s with heap:=h' }):wpAny (model prog w) A (setWalkUnseen o also (some r)) Q E s:=by
  obtain ⟨ob,es,ep,t,ho,hex,hd,hE,hp,hz,hf,ht⟩:=id hO
  have ks:∀ ws:Array (Int×Value),ws.toList.Perm es.toList→Q ws s:=fun ws pm=>k ws s.heap (fun e x=>hE e (pm.mem_iff.mp x)) ((pm.map kOf).trans hp) (Heap.SameBut.refl _ _) hR
  unfold setWalkUnseen
  refine wpAny_bind (wpAny_setState_of ho hd hf ?_)
  dsimp only
  unfold setsByText
  refine wpAny_bind (wpAny_bind (wpAny_askSetting (wpAny_pure ?_)))
  rw [show (model prog w).w.params.followText "set-order" = bt from hb]
  cases bt with
  | true =>
    simp only [Bool.true_or,↓reduceIte]
    unfold setWalk
    refine wpAny_bind (wpAny_setState_of ho hd hf ?_)
    dsimp only
    unfold setsByText
    refine wpAny_bind (wpAny_bind (wpAny_askSetting (wpAny_pure ?_)))
    rw [show (model prog w).w.params.followText "set-order" = true from hb]
    simp only [↓reduceIte]
    exact wpAny_bind (wpAny_askSetting (wpAny_pure (ks _ (pickOrder_perm _ _))))
  | false =>
    have led:t.led=true:=ht.led
    by_cases c:(false || (t.led && t.plain) || decide (es.size≤1))=true
    · rw [if_pos c]
      unfold setWalk
      refine wpAny_bind (wpAny_setState_of ho hd hf ?_)
      dsimp only
      unfold setsByText
      refine wpAny_bind (wpAny_bind (wpAny_askSetting (wpAny_pure ?_)))
      rw [show (model prog w).w.params.followText "set-order" = false from hb]
      simp only [Bool.false_eq_true,↓reduceIte]
      split
      · rename_i z
        have z:(!t.plain && decide (es.size > 1))=true:=z
        rw [led] at c
        simp at c z
        have y:¬ 1 < es.size:=by
          rcases c with c | c
          · rw [c] at z
            exact absurd z.1 (by decide)
          · omega
        exact absurd z.2 y
      · refine wpAny_bind (wpAny_of_eq (a:=()) ?_ ?_)
        · show (if (!t.led && decide (es.size > 1))=true then _ else _)=_
          rw [led]
          rfl
        · exact wpAny_pure (ks es (.refl _))
    · rw [if_neg c]
      refine wpAny_bind (quietI (fun x hx=>?_) ?_)
      · rcases List.mem_cons.mp hx with rfl | hx
        · exact ⟨_,_,hO⟩
        · exact hA x hx
      rw [if_neg (by decide)]
      refine wpAny_bind (wpAny_rule ?_)
      obtain ⟨ob1,es1,ep1,t1,ho1,hex1,hd1,hE1,hp1,hz1,hf1,ht1⟩:=id hR
      refine wpAny_bind (wpAny_setState_of ho1 hd1 hf1 ?_)
      dsimp only
      split
      · refine wpAny_bind (wpAny_storeSet_of ho1 hd1 ?_ (fits_of_scanBound hz1))
        refine wpAny_pure (k es _ hE hp (Heap.SameBut.update ..) ⟨_,es1,_,_,storeI ho1 hd1 _ _,hex1,rfl,hE1,hp1,hz1,hf1,⟨?_,ht1.rise,ht1.dum⟩⟩)
        show (t1.led && t.led)=_
        rw [ht1.led,led]
        rfl
      · exact wpAny_pure (ks es (.refl _))
theorem sizeI {Q:Nat→Shared→Prop} (hS:SetI b a l s.heap) (k:Q l.length s):wpAny (model prog w) A (Builtin.Frozenset.sizeOf a) Q E s:=by
  obtain ⟨ob,es,ep,t,ho,hex,hd,hE,hp,hz,hf,ht⟩:=hS
  have hn:es.size=l.length:=by have:=hp.length_eq; simpa using this
  unfold Builtin.Frozenset.sizeOf
  refine wpAny_bind (wpAny_setEntries_of ho hd hf (wpAny_pure ?_))
  rw [hn]
  exact k
theorem dd_step {l:List Int} {k:Int} (nd:l.Nodup):(step_dedup l k).Nodup∧(∀ x,x∈step_dedup l k↔x∈l∨x=k)∧(step_dedup l k).length≤l.length + 1:=by
  unfold step_dedup
  split
  · rename_i z
    obtain ⟨y,hy,ey⟩:=List.any_eq_true.mp z
    have ey:=eq_of_beq ey
    subst ey
    exact ⟨nd,fun x=>⟨.inl,fun z=>z.elim id fun z=>z ▸ hy⟩,by omega⟩
  · rename_i z
    refine ⟨?_,fun x=>by rw [List.mem_append,List.mem_singleton],by rw [List.length_append]; exact Nat.le_refl _⟩
    rw [List.nodup_append]
    refine ⟨nd,by simp,fun x hx y hy=>?_⟩
    rw [List.mem_singleton.mp hy]
    rintro rfl
    exact z (List.any_eq_true.mpr ⟨_,hx,by simp⟩)
theorem andI {Q:Value→Shared→Prop} (hb:w.params.followText "set-order" = bt) (hP:SetI (!bt) p l1 s.heap) (hR:SetI (!bt) q l2 s.heap) (hne:p≠q) (hl:l1.length + l2.length < 2000)
    (k:∀ h' l3,SetI (!bt) s.heap.objs.size l3 h'→(∀ c ob,s.heap.get? c=some ob→h'.get? c=some ob)→(∀ x,x∈l3↔x∈l1∧x∈l2)→l3.Nodup→l3.length≤l1.length + l2.length→Q (.ref s.heap.objs.size) { s with heap:=h' }) :
    wpAny (model prog w) A (binaryOp .BitAnd (.ref p) (.ref q)) Q E s:=by
  obtain ⟨op,_,_,_,hop,hxp,_⟩:=id hP
  obtain ⟨oq,_,_,_,hoq,hxq,_⟩:=id hR
  have hp:p < s.heap.objs.size:=Heap.lt_size hop
  have hq:q < s.heap.objs.size:=Heap.lt_size hoq
  have hT:s.TypeIs (.ref p) "set" := ⟨op,hop,hxp.1⟩
  refine wpAny_binaryOp_same hT ⟨oq,hoq,hxq.1⟩ F.fills_set_and F.slot_set_and (wpAny_call_entry F.slot_set_and hT set_entryAnd ?_ (F.args_set_and_2 _ _))
  unfold Builtin.«frozenset.__and__»
  show wpAny _ _ (do
    if !(← Builtin.Frozenset.isAnySet (.ref p) <&&> Builtin.Frozenset.isAnySet (.ref q)) then rule s!"frozenset.{"__and__"}.declined"; return ← ret .notImplemented
    ret (← Builtin.Frozenset.intersection s!"frozenset.{"__and__"}" p (.ref q))) _ _ _
  refine wpAny_bind (wpAny_bind (anySetI (h:=s.heap) hP ?_))
  show wpAny _ _ (Builtin.Frozenset.isAnySet (Value.ref q)) _ _ _
  refine anySetI (h:=s.heap) hR ?_
  simp only [Bool.not_true,Bool.false_eq_true,↓reduceIte]
  refine wpAny_bind ?_
  unfold Builtin.Frozenset.intersection
  rw [if_neg (by simpa using Ne.symm hne)]
  unfold Builtin.Frozenset.baseOf
  refine wpAny_bind (wpAny_bind (wpAny_isInstance (b:=true) ⟨op,hop,hxp.1⟩ sub_set_self (wpAny_pure ?_)))
  simp only [↓reduceIte]
  refine wpAny_bind (newSetI hb fun o1 f1=>?_)
  unfold Builtin.Frozenset.addrOf
  refine wpAny_bind (wpAny_pure ?_)
  have up:∀ c ob,s.heap.get? c=some ob→(s.heap.push o1).get? c=some ob:=fun c ob z=>Heap.get?_push_of_some _ z
  have hP1:SetI (!bt) p l1 (s.heap.push o1):=hP.at fun _ z=>up _ _ z
  have hR1:SetI (!bt) q l2 (s.heap.push o1):=hR.at fun _ z=>up _ _ z
  refine wpAny_bind (wpAny_holding ?_)
  refine wpAny_bind (anySetI (s:={ s with heap:=s.heap.push o1 }) (h:=s.heap) hR1 ?_)
  rw [if_pos rfl]
  refine wpAny_bind (wpAny_pure ?_)
  refine wpAny_bind (sizeI (s:={ s with heap:=s.heap.push o1 }) hR1 ?_)
  refine wpAny_bind (sizeI (s:={ s with heap:=s.heap.push o1 }) hP1 ?_)
  obtain ⟨⟨ak,wk⟩,ep,la,lw,hA,hW,na,nw,hiff,hlw⟩:∃ pr:Addr×Addr,(if l2.length > l1.length then (q,p) else (p,q))=pr∧∃ la lw,SetI (!bt) pr.1 la (s.heap.push o1)∧SetI (!bt) pr.2 lw (s.heap.push o1)∧s.heap.objs.size≠pr.1∧s.heap.objs.size≠pr.2∧(∀ x,x∈la∧x∈lw↔x∈l1∧x∈l2)∧lw.length≤l1.length + l2.length:=by
    by_cases c:l2.length > l1.length
    · exact ⟨_,if_pos c,l2,l1,hR1,hP1,Nat.ne_of_gt hq,Nat.ne_of_gt hp,fun x=>And.comm,by omega⟩
    · exact ⟨_,if_neg c,l1,l2,hP1,hR1,Nat.ne_of_gt hp,Nat.ne_of_gt hq,fun x=>Iff.rfl,by omega⟩
  rw [ep]
  dsimp only at hA hW na nw ⊢
  obtain ⟨ob2,es2,ep2,t2,ho2,hx2,hd2,hE2,hp2,hz2,hf2,ht2⟩:=id hW
  refine wpAny_bind (wpAny_setEpoch_of (s:={ s with heap:=s.heap.push o1 }) ho2 hd2 hf2 ?_)
  refine wpAny_bind (walkA (s:={ s with heap:=s.heap.push o1 }) hb f1.set hW (fun x hx=>?_) fun ws h2 wE wp u2 f2=>?_)
  · rcases List.mem_cons.mp hx with rfl | hx
    · exact ⟨_,_,hA⟩
    · rw [List.mem_singleton.mp hx]; exact ⟨_,_,f1.set⟩
  refine wpAny_bind (wpAny_forIn_array' _ (fun rest _ s'=>∃ l h',s'={ s with heap:=h' }∧Heap.SameBut s.heap.objs.size (s.heap.push o1) h'∧SetI (!bt) s.heap.objs.size l h'∧(∀ e∈rest,IsE e)∧(∀ x,(x∈l∨(x∈la∧x∈rest.map kOf))↔x∈la∧x∈lw)∧l.Nodup∧l.length + rest.length≤lw.length) _ ?_ ?_ _ _ ⟨[],h2,rfl,u2,f2,wE,fun x=>by rw [wp.mem_iff]; simp,List.nodup_nil,by have:=wp.length_eq; rw [List.length_map] at this; simpa using Nat.le_of_eq this⟩)
  · rintro e rest _ s' ⟨l,h',rfl,u,f,hE',hm,hnd,hlen⟩
    obtain ⟨kk,tk,rfl⟩:=hE' e (.head _)
    rw [List.length_cons] at hlen
    have hA':SetI (!bt) ak la h':=hA.at fun ob z=>by rw [u.2 ak (Ne.symm na)]; exact z
    have un:∀ (h3:Heap) (Q':Unit→Shared→Prop),Heap.SameBut s.heap.objs.size h' h3→Q' () { s with heap:=h3 }→wpAny (model prog w) A.in1 (Builtin.Frozenset.unchanged s!"frozenset.{"__and__"}" wk ep2) Q' E { s with heap:=h3 }:=fun h3 Q' u3 qq=>by
      unfold Builtin.Frozenset.unchanged
      refine wpAny_bind (wpAny_setEpoch_of (s:={ s with heap:=h3 }) ?_ hd2 hf2 ?_)
      · show h3.get? wk=some ob2
        rw [u3.2 wk (Ne.symm nw),u.2 wk (Ne.symm nw)]
        exact ho2
      · rw [if_neg (by simp)]
        exact wpAny_pure qq
    refine wpAny_bind (wpAny_holding (wpAny_bind (findI (s:={ s with heap:=h' }) hA' fun x hx=>?_)))
    by_cases c:x.isSome=true
    · rw [if_pos c]
      refine wpAny_bind (addI (s:={ s with heap:=h' }) f (by unfold scanBound; omega) fun rr h3 u3 f3=>wpAny_pure ?_)
      refine wpAny_bind (un h3 _ u3 (wpAny_pure ?_))
      obtain ⟨d1,d2,d3⟩:=dd_step (k:=kk) hnd
      refine ⟨_,h3,rfl,u.trans u3,f3,fun y hy=>hE' y (.tail _ hy),fun y=>?_,d1,by omega⟩
      rw [← hm y,d2 y,List.map_cons]
      show _↔_∨(_∧y∈kk :: _)
      rw [List.mem_cons]
      have ka:=hx.mp c
      constructor
      · rintro ((z | rfl) | z)
        · exact .inl z
        · exact .inr ⟨ka,.inl rfl⟩
        · exact .inr ⟨z.1,.inr z.2⟩
      · rintro (z | ⟨z1,z | z⟩)
        · exact .inl (.inl z)
        · exact .inl (.inr z)
        · exact .inr ⟨z1,z⟩
    · rw [if_neg c]
      refine wpAny_pure (wpAny_bind (un h' _ (Heap.SameBut.refl _ _) (wpAny_pure ?_)))
      refine ⟨l,h',rfl,u,f,fun y hy=>hE' y (.tail _ hy),fun y=>?_,hnd,by omega⟩
      rw [← hm y,List.map_cons]
      show _↔_∨(_∧y∈kk :: _)
      rw [List.mem_cons]
      have ka:kk∉la:=fun z=>c (hx.mpr z)
      constructor
      · rintro (z | z)
        · exact .inl z
        · exact .inr ⟨z.1,.inr z.2⟩
      · rintro (z | ⟨z1,rfl | z⟩)
        · exact .inl z
        · exact absurd z1 ka
        · exact .inr ⟨z1,z⟩
  · rintro _ s' ⟨l,h',rfl,u,f,_,hm,hnd,hlen⟩
    refine wpAny_pure (wpAny_pure ?_)
    exact wpAny_pure ⟨_,rfl,by simp,k h' l f (fun c ob z=>by rw [u.2 c (Nat.ne_of_lt (Heap.lt_size z))]; exact up c ob z) (fun x=>by rw [← hiff x,← hm x]; simp) hnd (by simp at hlen; omega)⟩
end
end L2
namespace L2
open PySem PySem.Spec PyProof.Rows
section
variable {X:Cx} {K:PySem.W.Frag} {b:Bool}
def rAndB (b:Bool):R2:=fun x y H Q=>∃ p q l1 l2,x=.ref p∧y=.ref q∧p≠q∧H p=some (SetB b p l1)∧H q=some (SetB b q l2)∧l1.length + l2.length < 2000 ∧
  ∀ c l3,H c=none→(∀ k,k∈l3↔k∈l1∧k∈l2)→l3.Nodup→l3.length≤l1.length + l2.length→Q (.ref c) (upd H c (SetB b c l3))
theorem op_andB (hc:X.calm=true) (hb:X.w.params.followText "set-order" = b):OpR X (binaryOp .BitAnd) (rAndB b):=by
  intro pins s σ H x y v u Q I rx ry h
  obtain ⟨p,q,l1,l2,rfl,rfl,hne,hp,hq,hz,k⟩:=h
  cases rx
  cases ry
  exact andI hb (I.hok p _ hp).1 (I.hok q _ hq).1 hne hz fun h' l3 f kk a1 a2 a3=>⟨.ref s.heap.objs.size,_,I.laid (t':=s.toks) kk (Nat.le_refl _) (setB_ok f),rfl,k _ l3 (I.hok.fresh (Nat.le_refl _)) a1 a2 a3⟩
end
end L2
namespace PD
open PySem L2
section
variable {K:PySem.W.Frag} {S S':Sx} {κ κ' b:Bool} {Γ Γ' Γ'':Ctx} {P:Post}
theorem ev_lenAnd {ta tc:TE} {ns ms:List Int} (h1:EvL K S false ta Γ (ns.map .int)) (h2:EvL K S false tc Γ (ms.map .int)) (hz:ns.length + ms.length < 2000) :
    EvE K S κ (tCB (rLenB b) (tCons (tOp (rAndB b) (tCB (rSetB K b) (tCons ta tNil)) (tCB (rSetB K b) (tCons tc tNil))) tNil)) Γ (.int ((dd ns).filter fun k=>decide (k∈ms)).length):=fun H0 F0 H F σ e Q q =>
  h1 H0 F0 H F σ e _ fun a vs H1 F1 g1 p1 k1=>by
    cases dpAll_of_ints (rpAll_dp k1)
    refine ⟨a,ns,rfl,p1,by omega,fun p hp=>?_⟩
    have g2:=g1.trans (.newO g1.le hp (SetB b p (dd ns)))
    refine h2 H0 F0 _ F1 σ (e.mono g2) _ fun c ws H3 F3 g3 p3 k3=>?_
    cases dpAll_of_ints (rpAll_dp k3)
    refine ⟨c,ms,rfl,p3,by omega,fun r hr=>?_⟩
    have g4:=(g2.trans g3).trans (.newO g3.le hr (SetB b r (dd ms)))
    have hpH:H3 p=some (SetB b p (dd ns)):=g3.h _ _ upd_same
    have hne:p≠r:=fun z=>by rw [z,hr] at hpH; cases hpH
    have d1:=dd_len ns
    have d2:=dd_len ms
    refine ⟨p,r,dd ns,dd ms,rfl,rfl,hne,by rw [upd_ne hne]; exact hpH,upd_same,by omega,fun t l3 ht m3 n3 z3=>?_⟩
    have g5:=g4.trans (.newO g4.le ht (SetB b t l3))
    have el:l3.length=((dd ns).filter fun k=>decide (k∈ms)).length:=by
      refine List.Perm.length_eq ?_
      rw [List.perm_ext_iff_of_nodup n3 ((dd_nd ns).sublist List.filter_sublist)]
      intro k
      rw [m3 k,List.mem_filter,dd_mem ms k,decide_eq_true_eq]
    refine ⟨t,l3,rfl,upd_same,?_⟩
    rw [el]
    exact q _ _ F3 g5 (.int _)
theorem meet_pos (ns ms:List Int):decide (((((dd ns).filter fun k=>decide (k∈ms)).length:Nat):Int) > 0)=ns.any fun k=>decide (k∈ms):=by
  rw [Bool.eq_iff_iff,decide_eq_true_eq,List.any_eq_true]
  constructor
  · intro h
    obtain ⟨k,hk⟩:=List.exists_mem_of_length_pos (l:=(dd ns).filter fun k=>decide (k∈ms)) (by omega)
    obtain ⟨h1,h2⟩:=List.mem_filter.mp hk
    exact ⟨k,(dd_mem ns k).mp h1,h2⟩
  · rintro ⟨k,h1,h2⟩
    have hk:k∈(dd ns).filter fun k=>decide (k∈ms):=List.mem_filter.mpr ⟨(dd_mem ns k).mpr h1,h2⟩
    have:=List.length_pos_of_mem hk
    omega
end
end PD
namespace L2
open PySem PySem.Spec PyProof.Rows
section
variable {X:Cx} {K:PySem.W.Frag}
theorem Vals.ofGet:∀ (xs:List V) (us:List Value),xs.length=us.length→(∀ (i:Nat) x u,xs[i]?=some x→us[i]?=some u→RelV x u)→Vals xs us
  | [],[],_,_=>.nil
  | [],_ :: _,h,_=>by cases h
  | _ :: _,[],h,_=>by cases h
  | x :: xs,u :: us,h,k=>.cons (k 0 x u rfl rfl) (Vals.ofGet xs us (Nat.succ.inj h) fun i y v h1 h2=>k (i + 1) y v h1 h2)
def rRngO:List V→Hp→VK→Prop:=fun xs H Q=>∃ n:Int,xs=[.int n]∧∀ l,H l=none→Q (.ref l) (upd H l (.rng 0 n))
theorem call_rngO:CallR X (.type "range") rRngO:=by
  intro pins s σ H xs us Q I r h
  obtain ⟨n,rfl,q⟩:=h
  obtain ⟨u,rfl,rx⟩:=vals1 r
  obtain ⟨t,rfl⟩:=rx
  exact call_range_1 ⟨.ref s.heap.objs.size,_,I.laid (t':=s.toks + 1 + 1) (fun b u e=>Heap.get?_push_of_some _ e) (Nat.le_refl _) (show ObjOk X.prog X.w _ _ _ (.rng 0 n) from ⟨_,_,_,Heap.get?_push_size _ rfl⟩),rfl,q _ (I.hok.fresh (Nat.le_refl _))⟩
def rListRng:List V→Hp→VK→Prop:=fun xs H Q=>∃ (p:Addr) (n:Nat),xs=[.ref p]∧H p=some (.rng 0 n)∧n≤1000000∧∀ l,H l=none→Q (.ref l) (upd H l (.lst ((List.range n).map fun i:Nat=>V.int (i:Int))))
theorem call_listRng (hc:X.calm=true):CallR X (.type "list") rListRng:=by
  intro pins s σ H xs us Q I r h
  obtain ⟨p,n,rfl,hp,hn,q⟩:=h
  obtain ⟨u,rfl,rx⟩:=vals1 r
  cases rx
  obtain ⟨t,u,v,ho⟩:∃ t u v,s.heap.get? p=some { cls:=.type "range", data:=.fields #[.int 0 t,.int n u,.int 1 v] }:=I.hok p _ hp
  have rs:Builtin.Range.rangeSize 0 n 1=(n:Int):=by
    unfold Builtin.Range.rangeSize
    simp
    omega
  refine call_list_range (n:=n) (I.ok.hd hc) ho ?_ ?_ (by omega) fun h' tk acc' c' hk hS hacc=>?_
  · exact small_one (by omega) (by omega) (by omega) (by omega)
  · exact rs
  · have hl:acc'.toList.length=n:=by rw [Array.length_toList]; exact hacc.1
    refine ⟨.ref s.heap.objs.size,_,I.laid (t':=tk) hk (Nat.le_refl _) (show ObjOk X.prog X.w _ h' _ (.lst ((List.range n).map fun i:Nat=>V.int (i:Int))) from ⟨by rw [List.length_map,List.length_range,sizeLine_eq]; omega,acc'.toList,c',Vals.ofGet _ _ (by rw [List.length_map,List.length_range,hl]) fun i x u h1 h2=>?_,hS⟩),rfl,q _ (I.hok.fresh (Nat.le_refl _))⟩
    have hi:i < n:=by
      have:=(List.getElem?_eq_some_iff.mp h2).1
      omega
    rw [List.getElem?_map,List.getElem?_range hi] at h1
    cases h1
    obtain ⟨t',rfl⟩:=hacc.2 i u (by rw [← Array.getElem?_toList]; exact h2)
    exact ⟨t',by rw [Int.mul_one,Int.zero_add]⟩
end
end L2
namespace PD
open PySem L2
section
variable {K:PySem.W.Frag} {S S':Sx} {κ κ':Bool} {Γ Γ' Γ'':Ctx} {P:Post}
theorem evo_listRng {ta:TE} {n:Nat} (h:EvE K S false ta Γ (.int (n:Int))) (hn:n≤1000000):EvO K S κ (tCB rListRng (tCons (tCB rRngO (tCons ta tNil)) tNil)) Γ ((List.range n).map fun i:Nat=>.int (i:Int)):=fun H0 F0 H F σ e Q q =>
  h H0 F0 H F σ e _ fun v H1 F1 g1 p1=>by
    cases rp_int p1
    refine ⟨n,rfl,fun p hp=>⟨p,n,rfl,upd_same,hn,fun l hl=>?_⟩⟩
    have g2:=g1.trans (.newO g1.le hp (.rng 0 n))
    have hr:RpAll K κ S H0 F1 ((List.range n).map fun i:Nat=>V.int (i:Int)) ((List.range n).map fun i:Nat=>.int (i:Int)):=by
      have:=rpAll_ints (K:=K) (κ:=κ) (S:=S) (H0:=H0) (F:=F1) ((List.range n).map fun i:Nat=>(i:Int))
      rw [List.map_map,List.map_map] at this
      exact this
    exact q l _ _ F1 (g2.trans (.newO g2.le hl _)) (g2.h.free hl) upd_same (g2.le.free hl) hr
end
end PD
namespace L2
open PySem PySem.Spec PyProof.Rows
section
variable {X:Cx} {K:PySem.W.Frag}
end
end L2
namespace PD
open PySem L2
section
variable {K:PySem.W.Frag} {S S':Sx} {κ κ':Bool} {Γ Γ' Γ'':Ctx} {P:Post}
end
end PD
namespace PD
open PySem L2
section
variable {K:PySem.W.Frag} {S S' S1 S2:Sx} {κ κ':Bool} {Γ Γ' Γ'':Ctx} {P:Post} {C:List PyData→Prop}
mutual
inductive Tn (C:List PyData→Prop):PyData→PyData→Prop
  | same {d:PyData}:Tn C d d
  | rev {ds:List PyData}:C ds→Tn C (.list ds) (.list ds.reverse)
  | lst {ds es:List PyData}:TnA C ds es→Tn C (.list ds) (.list es)
  | tup {ds es:List PyData}:TnA C ds es→Tn C (.tuple ds) (.tuple es)
inductive TnA (C:List PyData→Prop):List PyData→List PyData→Prop
  | nil:TnA C [] []
  | cons {d e:PyData} {ds es:List PyData}:Tn C d e→TnA C ds es→TnA C (d :: ds) (e :: es)
end
theorem rpAll_ints' {S:Sx} {H0 F:Hp}:∀ {ns:List Int} {ds:List PyData},RpAll K κ S H0 F (ns.map V.int) ds→ds=ns.map PyData.int
  | [],_,h=>by cases h; rfl
  | n :: r,_,h=>by
    cases h with
    | cons h1 h2=>cases h1; rw [rpAll_ints' h2]; rfl
section
variable {H1 H2 F:Hp} {b:Addr} {ns:List Int}
mutual
theorem rp_turn (hb:F b=some (.lst (ns.map V.int))) (hC:C (ns.map PyData.int)):∀ {v:V} {d:PyData},Rp K true S1 H1 F v d→∃ d',Tn C d d'∧Rp K true S1 H1 (upd F b (.lst (ns.map V.int).reverse)) v d'
  | _,_,.non=>⟨_,.same,.non⟩
  | _,_,.bl x=>⟨_,.same,.bl x⟩
  | _,_,.int x=>⟨_,.same,.int x⟩
  | _,_,.str x=>⟨_,.same,.str x⟩
  | _,_,@Rp.lst _ _ _ _ _ a xs ds h k=>by
    by_cases e:a=b
    · subst e
      have h1:=h.1
      rw [hb] at h1
      cases h1
      cases rpAll_ints' k
      exact ⟨_,.rev hC,.lst ⟨upd_same,h.2⟩ (RpAll.reverse (dpAll_immL (fun d hd=>by obtain ⟨i,_,rfl⟩:=List.mem_map.mp hd; rfl) (dpAll_ints ns)))⟩
    · obtain ⟨es,t,q⟩:=rpAll_turn hb hC k
      exact ⟨_,.lst t,.lst ⟨by rw [upd_ne e]; exact h.1,h.2⟩ q⟩
  | _,_,@Rp.tup _ _ _ _ _ a xs ds h k=>by
    obtain ⟨es,t,q⟩:=rpAll_turn hb hC k
    refine ⟨_,.tup t,.tup ?_ q⟩
    have ne:∀ {o:HO},F a=some o→isLst (some o)=false→upd F b (.lst (ns.map V.int).reverse) a=some o:=fun {o} z n=>by
      rw [upd_ne fun c=>by rw [c,hb] at z; cases z; cases n]
      exact z
    rcases h with (z | ⟨o,z⟩) | z
    · exact .inl (.inl (ne z rfl))
    · exact .inl (.inr ⟨o,ne z rfl⟩)
    · exact .inr z
theorem rpAll_turn (hb:F b=some (.lst (ns.map V.int))) (hC:C (ns.map PyData.int)):∀ {vs:List V} {ds:List PyData},RpAll K true S1 H1 F vs ds→∃ es,TnA C ds es∧RpAll K true S1 H1 (upd F b (.lst (ns.map V.int).reverse)) vs es
  | _,_,.nil=>⟨_,.nil,.nil⟩
  | _,_,.cons h k=>by
    obtain ⟨d,t,q⟩:=rp_turn hb hC h
    obtain ⟨es,t',q'⟩:=rpAll_turn hb hC k
    exact ⟨_,.cons t t',.cons q q'⟩
end
end
end
end PD
namespace L2
open PySem PySem.Spec PyProof.Rows PySem.W
section
variable {X:Cx} {k:Nat} {ps:List Str} {sp:Sp} {x:Str} {p cpos pos:Pos} {e:Expr} {es:List Expr} {ta:TA} {te:TE}
end
section
variable {X:Cx} {k:Nat} {y n:Str} {np epos hpos tpos:Pos} {e:Expr} {te:XK→TE} {C D:Addr} {i:Nat} {b0:Stmt} {suite:List Stmt} {th:TS}
end
end L2
namespace L2
open PySem PySem.Spec PyProof.Rows PySem.W
section
variable {X:Cx} {k k2:Nat} {ps:List Str} {sp sp2:Sp} {x:Str} {p cpos pos:Pos} {e:Expr} {es:List Expr} {ta:TA}
end
end L2
namespace L2
open PySem PySem.Spec PyProof.Rows PySem.W
section
variable {X:Cx} {K:PySem.W.Frag}
end
end L2
namespace PD
open PySem L2
section
variable {K:PySem.W.Frag} {S S':Sx} {κ κ':Bool} {Γ Γ' Γ'':Ctx} {P:Post} {E:XK} {C:Addr}
end
end PD
namespace L2
open PySem PySem.Spec PyProof.Rows PySem.W
section
variable {P:Program} {w:World} {K:PySem.W.Frag} {mg:Str→Option Value} {base:Heap} {x:Str} {ys:List Str} {va:Str→V} {qual:Str} {scope:Scope} {f:Addr} {cd:Value} {cl:List (Str×Addr)} {A:Around} {outer:List Env} {s:Shared} {H:Hp}
end
end L2
namespace L2
open PySem PySem.Spec PyProof.Rows PySem.W
section
variable {X:Cx} {pins:List (Addr×Obj)} {σ:St} {H:Hp} {s:Shared}
end
end L2
namespace L2
open PySem PySem.Spec PyProof.Rows PySem.W
section
variable {X:Cx} {k:Nat} {ps:List Str} {sp:Sp} {g:Str} {p cpos lpos:Pos} {e:Expr} {te:TE} {params:Arguments} {body:Expr} {lsc:Scope} {q:Str} {c P:Addr} {clos:List (Str×Addr)} {caps:List (Str×Nat)}
end
end L2
namespace L2
open PySem PySem.Spec PyProof.Rows PySem.W
section
variable {X:Cx} {k:Nat} {ps:List Str} {sp:Sp} {x:Str} {p pos:Pos} {e:Expr} {es:List Expr} {t:TA}
end
end L2
namespace PD
open PySem L2 PySem.W
section
variable {P:Program} {w:World} {K:PySem.W.Frag} {mg:Str→Option Value} {base:Heap} {S S':Sx} {κ κ':Bool} {Γ Γ' Γ'':Ctx}
end
end PD
namespace L2
open PySem PySem.Spec PyProof.Rows PySem.W
section
variable {P:Program} {w:World} {K:PySem.W.Frag} {mg:Str→Option Value} {base:Heap}
end
end L2
namespace Cm
open PySem L2
end Cm
namespace L2
open PySem
theorem tabs_no {K:PySem.W.Frag} {h:Heap} (e:(tabsOf K).isEmpty=true):∀ p∈tabsOf K,h.get? p.1=some (PySem.W.tabObj #[]):=fun p hp=>by
  rw [List.isEmpty_iff.mp e] at hp
  cases hp
end L2
namespace L2
open PySem
end L2
namespace PD
open PySem L2
end PD
namespace L2
open PySem PySem.Spec PyProof.Rows PySem.AutoSeq1
section
variable {X:Cx} {K:PySem.W.Frag}
end
end L2
namespace PD
open PySem L2
section
variable {K:PySem.W.Frag} {S S':Sx} {κ κ':Bool} {Γ Γ' Γ'':Ctx} {P:Post}
end
end PD
namespace L2
open PySem PySem.Spec PyProof.Rows
section
variable {X:Cx} {K:PySem.W.Frag}
end
end L2
namespace PD
open PySem L2
section
variable {K:PySem.W.Frag} {S S':Sx} {κ κ':Bool} {Γ Γ' Γ'':Ctx} {P:Post} {E:XK}
end
end PD
namespace PD
open PySem L2
section
variable {K:PySem.W.Frag} {S S':Sx} {κ κ':Bool} {Γ Γ' Γ'':Ctx} {P:Post} {E:XK}
def Rows (xs:List PyData):Prop:=∀ d∈xs,∃ ns:List Int,d=.list (ns.map .int)
theorem rows_drop {H0 F:Hp} {a:Addr} {us:List V} (ha:F a=some (.lst us)):∀ {vs:List V} {xs:List PyData},(∀ v∈vs,v∈us)→Rows xs→RpAll K true S H0 F vs xs→RpAll K true S H0 (drop (fun c=>c=a) F) vs xs
  | _,_,_,_,.nil=>.nil
  | v :: vs,d :: xs,hm,hr,.cons h k=>by
    refine .cons ?_ (rows_drop ha (fun v hv=>hm v (List.mem_cons_of_mem _ hv)) (fun d hd=>hr d (List.mem_cons_of_mem _ hd)) k)
    obtain ⟨ns,rfl⟩:=hr d List.mem_cons_self
    obtain ⟨b,ws,rfl,hl,hk⟩:=rp_lst h
    refine .lst ⟨drop_some.mpr ⟨hl.1,?_⟩,hl.2⟩ (imm_drop (fun d hd=>by obtain ⟨i,_,rfl⟩:=List.mem_map.mp hd; rfl) (rpAll_dp hk))
    rintro ⟨rfl,_⟩
    have e:=hl.1
    rw [ha] at e
    cases e
    have hb:=hm (.ref b) List.mem_cons_self
    cases dpAll_of_ints (rpAll_dp hk)
    obtain ⟨i,_,z⟩:=List.mem_map.mp hb
    cases z
theorem evog_rows {pre:List PyData→(PyData→Prop)→Prop} {t:TA} {ds:List PyData} {G:PyData→Prop} (h:EvA K S false t Γ ds) (hp:pre ds G) (hg:∀ d,G d→∃ xs,d=.list xs∧Rows xs):EvOG K S true (tCall (spW K true pre) [] E t) Γ (fun xs=>G (.list xs)):=fun H0 F0 H F σ e Q q =>
  h H0 F0 H F σ e _ fun vs H1 F1 g1 p1=>⟨F1,ds,_,g1.le,by rw [List.append_nil]; exact rpAll_dp p1,hp,fun d v H2 F2 hd g2 p2=>by
    obtain ⟨xs,rfl,him⟩:=hg d hd
    have p2:Rp K true S H0 F2 v (.list xs):=rp_map (κ:=true) (κ':=true) (S':=S) (H0':=H0) (fun a xs z=>⟨z.1,fun c=>by
      obtain ⟨u,hu⟩:=(e.mono g1).sd a c
      exact z.2 (by show H1 a≠none; rw [hu]; simp)⟩) (fun _ _ z=>z) p2
    obtain ⟨a,us,rfl,hl,hk⟩:=rp_lst p2
    have h1:H1 a=none:=Classical.byContradiction fun z=>by
      obtain ⟨_,_,z1,z2,_⟩:=rp_lst ‹Rp K true .fresh H1 F2 _ (.list xs)›
      cases z1
      exact z2.2 z
    have g:=g1.trans g2
    refine q xs a us H2 (drop (fun c=>c=a) F2) hd ⟨g.h,fun b o z=>drop_some.mpr ⟨g.f _ _ z,?_⟩,fun b o z=>g.le _ _ (drop_some.mp z).1,fun b o z n=>?_⟩ (g1.h.free h1) (g2.le _ _ hl.1) (drop_none hl.1 rfl) (rows_drop hl.1 (fun _ z=>z) him hk)
    · rintro ⟨rfl,_⟩
      have:=e.le _ _ z
      rw [g1.h.free h1] at this; cases this
    · cases q':drop (fun c=>c=a) F2 b with
      | none=>rfl
      | some o' =>
        have:=(drop_some.mp q').1
        rw [g.ap _ _ z n] at this; cases this⟩
end
end PD
namespace L2
open PySem PySem.Spec PyProof.Rows
section
variable {X:Cx} {K:PySem.W.Frag}
end
end L2
namespace PD
open PySem L2
section
variable {K:PySem.W.Frag} {S S':Sx} {κ κ':Bool} {Γ Γ' Γ'':Ctx} {P:Post}
end
end PD
namespace L2
open PySem PySem.Spec PyProof.Rows PySem.Calls
section
variable {κ:Type} [DecidableEq κ]
def valV (kvs:List (κ×V)) (k:κ):Option V:=(kvs.find? fun kv=>decide (kv.1=k)).map (·.2)
def putK (kvs:List (κ×V)) (k:κ) (v:V):List (κ×V) :=
  if (kvs.any fun kv=>decide (kv.1=k))=true then kvs.map (fun kv=>if kv.1=k then (kv.1,v) else kv) else kvs ++ [(k,v)]
theorem valV_pos {p:κ×V} {r:List (κ×V)} {k:κ} (e:p.1=k):valV (p :: r) k=some p.2:=by simp [valV,List.find?_cons,e]
theorem valV_neg {p:κ×V} {r:List (κ×V)} {k:κ} (e:¬ p.1=k):valV (p :: r) k=valV r k:=by simp [valV,List.find?_cons,e]
theorem valV_any (k:κ):∀ kvs:List (κ×V),(kvs.any fun kv=>decide (kv.1=k))=(valV kvs k).isSome
  | []=>rfl
  | p :: r=>by
    rw [List.any_cons]
    by_cases e:p.1=k
    · simp only [valV_pos e,decide_eq_true e,Bool.true_or,Option.isSome_some]
    · rw [valV_neg e,decide_eq_false e,Bool.false_or]; exact valV_any k r
theorem valV_map (k j:κ) (y:V):∀ kvs:List (κ×V),valV (kvs.map fun kv=>if kv.1=k then (kv.1,y) else kv) j=(valV kvs j).map fun x=>if j=k then y else x
  | []=>rfl
  | p :: r=>by
    have ih:=valV_map k j y r
    rw [List.map_cons]
    by_cases h:p.1=k
    · rw [if_pos h]
      by_cases e:p.1=j
      · rw [valV_pos (p:=(p.1,y)) e,valV_pos e,Option.map_some,if_pos (e.symm.trans h)]
      · rw [valV_neg (p:=(p.1,y)) e,valV_neg e,ih]
    · rw [if_neg h]
      by_cases e:p.1=j
      · rw [valV_pos (p:=p) e,valV_pos e,Option.map_some,if_neg (fun z=>h (e.trans z))]
      · rw [valV_neg (p:=p) e,valV_neg e,ih]
theorem valV_snoc (k j:κ) (y:V):∀ kvs:List (κ×V),valV kvs k=none→valV (kvs ++ [(k,y)]) j=if j=k then some y else valV kvs j
  | [],_=>by
    by_cases e:k=j
    · rw [if_pos e.symm]; exact valV_pos (p:=(k,y)) e
    · rw [if_neg (fun z=>e z.symm)]; exact valV_neg (p:=(k,y)) e
  | p :: r,hn=>by
    rw [List.cons_append]
    have hk:¬ p.1=k:=fun z=>by rw [valV_pos z] at hn; cases hn
    rw [valV_neg hk] at hn
    have ih:=valV_snoc k j y r hn
    by_cases e:p.1=j
    · rw [valV_pos e,valV_pos e,if_neg (fun z=>hk (e.trans z))]
    · rw [valV_neg e,valV_neg e,ih]
theorem valV_put (kvs:List (κ×V)) (k j:κ) (y:V):valV (putK kvs k y) j=if j=k then some y else valV kvs j:=by
  unfold putK
  by_cases a:(kvs.any fun kv=>decide (kv.1=k))=true
  · rw [if_pos a,valV_map]
    rw [valV_any] at a
    by_cases e:j=k
    · obtain ⟨x,hx⟩:=Option.isSome_iff_exists.mp a
      rw [if_pos e,e,hx,Option.map_some,if_pos rfl]
    · rw [if_neg e]
      cases valV kvs j with
      | none=>rfl
      | some x=>rw [Option.map_some,if_neg e]
  · rw [if_neg a]
    refine valV_snoc k j y kvs ?_
    rw [valV_any] at a
    cases q:valV kvs k with
    | none=>rfl
    | some x=>rw [q] at a; exact (a rfl).elim
theorem length_putK (kvs:List (κ×V)) (k:κ) (v:V):(putK kvs k v).length≤kvs.length + 1:=by
  unfold putK
  split
  · rw [List.length_map]; omega
  · rw [List.length_append,List.length_cons,List.length_nil]; omega
theorem RelO.isSome_eq {o:Option V} {u:Option Value} (r:RelO o u):o.isSome=u.isSome:=by
  cases o with
  | none=>cases u with
    | none=>rfl
    | some _=>exact (show False from r).elim
  | some _=>cases u with
    | none=>exact (show False from r).elim
    | some _=>rfl
theorem RelO.getD {o:Option V} {u:Option Value} {d:V} {d':Value} (r:RelO o u) (rd:RelV d d'):RelV (o.getD d) (u.getD d'):=by
  cases o with
  | none=>cases u with
    | none=>exact rd
    | some _=>exact (show False from r).elim
  | some _=>cases u with
    | none=>exact (show False from r).elim
    | some _=>exact r
theorem KV.val {kvs:List (κ×V)} {vs:List (κ×Value)} (r:KV kvs vs) (k:κ):RelO (valV kvs k) (valueAt vs k):=by
  unfold KV at r
  induction r with
  | nil=>exact True.intro
  | @cons p q ps qs h t ih =>
    obtain ⟨h1,h2⟩:=h
    by_cases e:p.1=k
    · have e':q.1=k:=h1.symm.trans e
      have b:valueAt (q :: qs) k=some q.2:=by simp [valueAt,List.find?_cons,e']
      rw [valV_pos e,b]; exact h2
    · have e':¬ q.1=k:=fun z=>e (h1.trans z)
      have b:valueAt (q :: qs) k=valueAt qs k:=by simp [valueAt,List.find?_cons,e']
      rw [valV_neg e,b]; exact ih
theorem KV.any {kvs:List (κ×V)} {vs:List (κ×Value)} (r:KV kvs vs) (k:κ):(kvs.any fun kv=>decide (kv.1=k))=vs.any fun kv=>decide (kv.1=k):=by
  unfold KV at r
  induction r with
  | nil=>rfl
  | cons h t ih=>rw [List.any_cons,List.any_cons,ih,h.1]
theorem KV.repl {kvs:List (κ×V)} {vs:List (κ×Value)} (r:KV kvs vs) (k:κ) {y:V} {u:Value} (ry:RelV y u) :
    KV (kvs.map fun kv=>if kv.1=k then (kv.1,y) else kv) (vs.map fun kv=>if kv.1=k then (kv.1,u) else kv):=by
  unfold KV at r ⊢
  induction r with
  | nil=>exact .nil
  | @cons p q ps qs h t ih =>
    rw [List.map_cons,List.map_cons]
    refine .cons ?_ ih
    obtain ⟨h1,h2⟩:=h
    by_cases e:p.1=k
    · rw [if_pos e,if_pos (h1.symm.trans e)]; exact ⟨h1,ry⟩
    · rw [if_neg e,if_neg (fun z=>e (h1.trans z))]; exact ⟨h1,h2⟩
theorem KV.put {kvs:List (κ×V)} {vs:List (κ×Value)} (r:KV kvs vs) (k:κ) {y:V} {u:Value} (ry:RelV y u):KV (putK kvs k y) (stored vs k u):=by
  unfold putK stored
  rw [r.any k]
  by_cases e:(vs.any fun kv=>decide (kv.1=k))=true
  · rw [if_pos e,if_pos e]; exact r.repl k ry
  · rw [if_neg e,if_neg e]; exact Paired.snoc r ⟨rfl,ry⟩
theorem KV.length {kvs:List (κ×V)} {vs:List (κ×Value)} (r:KV kvs vs):kvs.length=vs.length:=Paired.length r
end
theorem kV_is {P:Program} {w:World} {k:Key} {u:Value} (r:RelV (kV k) u):(mixKind P w).is k u=true:=by
  cases k with
  | inl i=>obtain ⟨t,e⟩:=(show ∃ t,u=Value.int i t from r); subst e; exact mixKind_int P w i t
  | inr x=>obtain ⟨t,e⟩:=(show ∃ t,u=Value.str x t from r); subst e; exact mixKind_str P w x t
theorem items_are {P:Program} {w:World}:∀ {ks:List Key} {us:List Value},Vals (ks.map kV) us→ItemsAre (mixKind P w) ks us
  | [],_,r=>by rw [List.map_nil] at r; cases r; exact .nil
  | k :: ks,_,r=>by
    rw [List.map_cons] at r
    cases r with
    | cons h t=>exact .cons (kV_is h) (items_are t)
abbrev KT (H:Hp):List (List Key×V)→List (List Key×Addr×Value)→Prop:=Paired fun p q=>p.1=q.1∧H q.2.1=some (.tup (p.1.map kV))∧RelV p.2 q.2.2
theorem KT.val {H:Hp} {kvs:List (List Key×V)} {xs:List (List Key×Addr×Value)} (r:KT H kvs xs) (k:List Key):RelO (valV kvs k) ((atKey xs k).map (·.2)):=by
  induction r with
  | nil=>exact True.intro
  | @cons p q ps qs h t ih =>
    obtain ⟨h1,_,h2⟩:=h
    by_cases e:p.1=k
    · have e':q.1=k:=h1.symm.trans e
      have b:atKey (q :: qs) k=some q.2:=by simp [atKey,List.find?_cons,e']
      rw [valV_pos e,b]; exact h2
    · have e':¬ q.1=k:=fun z=>e (h1.trans z)
      have b:atKey (q :: qs) k=atKey qs k:=by simp [atKey,List.find?_cons,e']
      rw [valV_neg e,b]; exact ih
theorem KT.repl {H:Hp} {kvs:List (List Key×V)} {xs:List (List Key×Addr×Value)} (r:KT H kvs xs) (k:List Key) {y:V} {u:Value} (ry:RelV y u) :
    KT H (kvs.map fun kv=>if kv.1=k then (kv.1,y) else kv) (xs.map (putAt k u)):=by
  induction r with
  | nil=>exact .nil
  | @cons p q ps qs h t ih =>
    rw [List.map_cons,List.map_cons]
    refine .cons ?_ ih
    obtain ⟨h1,h2,h3⟩:=h
    unfold putAt
    by_cases e:p.1=k
    · rw [if_pos e,if_pos (h1.symm.trans e)]; exact ⟨h1,h2,ry⟩
    · rw [if_neg e,if_neg (fun z=>e (h1.trans z))]; exact ⟨h1,h2,h3⟩
theorem KT.put {H:Hp} {kvs:List (List Key×V)} {xs:List (List Key×Addr×Value)} (r:KT H kvs xs) (k:List Key) {b:Addr} {y:V} {u:Value} (hb:H b=some (.tup (k.map kV))) (ry:RelV y u) :
    KT H (putK kvs k y) (storedH xs k b u):=by
  have e:(kvs.any fun kv=>decide (kv.1=k))=(atKey xs k).isSome:=by
    rw [valV_any,(r.val k).isSome_eq,Option.isSome_map]
  unfold putK storedH
  rw [e]
  by_cases q:(atKey xs k).isSome=true
  · rw [if_pos q,if_pos q]; exact r.repl k ry
  · rw [if_neg q,if_neg q]; exact Paired.snoc r ⟨rfl,hb,ry⟩
theorem KT.keeps {H H':Hp} {kvs:List (List Key×V)} {xs:List (List Key×Addr×Value)} (r:KT H kvs xs) (ht:∀ b ys,H b=some (.tup ys)→H' b=some (.tup ys)):KT H' kvs xs :=
  Paired.mapP r fun _ _ z=>⟨z.1,ht _ _ z.2.1,z.2.2⟩
section
variable {P:Program} {w:World} {H:Hp} {h:Heap} {a:Addr}
theorem rd_of {u:HO} (ok:HOk P w H h) (e:Rd H a u):ObjOk P w H h a u:=e.ok ok
theorem dk_rd {kvs:List (Key×V)} (ok:HOk P w H h) (e:Rd H a (.dK kvs)):kvs.length≤sizeLine∧(a == sysModules)=false∧∃ vs,KV kvs vs∧h.DictOf (mixKind P w) a vs :=
  show ObjOk P w H h a (.dK kvs) from rd_of ok e
theorem dk_of {kvs:List (Key×V)} (ok:HOk P w H h) (e:H a=some (.dK kvs)):kvs.length≤sizeLine∧(a == sysModules)=false∧∃ vs,KV kvs vs∧h.DictOf (mixKind P w) a vs:=dk_rd ok (.inl e)
theorem key_of {ks:List Key} (ok:HOk P w H h) (e:H a=some (.tup (ks.map kV))):(tupleKind (mixKind P w)).is h ks a:=by
  obtain ⟨_,its,r,o,h1,h2,n,h3⟩:=(show ObjOk P w H h a (.tup (ks.map kV)) from ok a _ e)
  exact ⟨o,its.toArray,n,h1,h2,h3,by simpa using items_are r⟩
theorem dt_rd {kvs:List (List Key×V)} (ok:HOk P w H h) (e:Rd H a (.dT kvs)):kvs.length≤sizeLine∧(a == sysModules)=false ∧
    ∃ xs,KT H kvs xs∧h.DictOfH (tupleKind (mixKind P w)) a xs:=by
  obtain ⟨z,y,xs,r,o,es,ep,h1,h2,h3,h4,h5⟩:=(show ObjOk P w H h a (.dT kvs) from rd_of ok e)
  refine ⟨z,y,xs,r,o,es,ep,h1,h2,h3,h4,fun x hx=>?_,h5⟩
  have all:∀ {l:List (List Key×V)} {m:List (List Key×Addr×Value)},KT H l m→∀ x∈m,(tupleKind (mixKind P w)).is h x.1 x.2.1:=by
    intro l m q
    induction q with
    | nil=>intro x hx; exact nomatch hx
    | @cons p q ps qs hq t ih =>
      intro x hx
      rcases List.mem_cons.mp hx with e | hx
      · subst e
        exact key_of ok (by rw [← hq.1]; exact hq.2.1)
      · exact ih x hx
  exact all r x hx
theorem dt_of {kvs:List (List Key×V)} (ok:HOk P w H h) (e:H a=some (.dT kvs)):kvs.length≤sizeLine∧(a == sysModules)=false ∧
    ∃ xs,KT H kvs xs∧h.DictOfH (tupleKind (mixKind P w)) a xs:=dt_rd ok (.inl e)
end
def DGet (H:Hp) (a:Addr) (y:V) (r:Option V):Prop :=
  (∃ kvs k,Rd H a (.dK kvs)∧y=kV k∧r=valV kvs k)∨∃ kvs k b,Rd H a (.dT kvs)∧y=.ref b∧H b=some (.tup (k.map kV))∧r=valV kvs k
def DPut (H:Hp) (a:Addr) (y v:V) (H':Hp):Prop :=
  (∃ kvs k,H a=some (.dK kvs)∧y=kV k∧kvs.length < sizeLine∧H'=upd H a (.dK (putK kvs k v))) ∨
  ∃ kvs k b,H a=some (.dT kvs)∧y=.ref b∧H b=some (.tup (k.map kV))∧kvs.length < sizeLine∧H'=upd H a (.dT (putK kvs k v))
theorem DGet.k {H:Hp} {a:Addr} {kvs:List (Key×V)} {k:Key} (e:H a=some (.dK kvs)):DGet H a (kV k) (valV kvs k):=.inl ⟨kvs,k,.inl e,rfl,rfl⟩
theorem DPut.k {H:Hp} {a:Addr} {kvs:List (Key×V)} {k:Key} {v:V} (e:H a=some (.dK kvs)) (hl:kvs.length < sizeLine):DPut H a (kV k) v (upd H a (.dK (putK kvs k v))):=.inl ⟨kvs,k,e,rfl,hl,rfl⟩
section
variable {X:Cx} {pins:List (Addr×Obj)} {σ:St} {H:Hp} {s:Shared} {a:Addr} {y v:V} {u r:Value} {o:Option V} {A:Around} {E:Value→Shared→Prop}
theorem Inv.big (I:Inv X pins σ H s):sysModules < s.heap.objs.size:=by
  have h:mainGlobals < s.heap.objs.size:=(I.mod.glob.keeps I.bk).lt
  exact Nat.lt_trans (by decide) h
theorem d_getItem {Q:Value→Shared→Prop} (hu:A.units + 1 < cLine) (I:Inv X pins σ H s) (g:DGet H a y (some v)) (ry:RelV y u) (h:∀ w' s',Inv X pins σ H s'→RelV v w'→Q w' s') :
    wpAny (model X.prog X.w) A (getItem (.ref a) u) Q E s:=by
  rcases g with ⟨kvs,k,e,ey,l⟩ | ⟨kvs,k,b,e,ey,eb,l⟩
  · subst ey
    obtain ⟨z,hd,vs,rel,dd⟩:=dk_rd I.hok e
    obtain ⟨w',hw,rw'⟩:=RelO.some_of (v:=v) (o:=valueAt vs k) (by rw [l]; exact rel.val k)
    exact wpAny_getItem_of (kV_is ry) dd.mapOf hw (h w' _ (I.tok _) rw')
  · subst ey
    cases (show u=Value.ref b from ry)
    obtain ⟨z,hd,xs,rel,dd⟩:=dt_rd I.hok e
    obtain ⟨w',hw,rw'⟩:=RelO.some_of (v:=v) (o:=(atKey xs k).map (·.2)) (by rw [l]; exact rel.val k)
    obtain ⟨p,hp,hp2⟩:=Option.map_eq_some_iff.mp hw
    refine wpAny_getItem_heap (tupleKind_room_in1 hu) (key_of I.hok eb) dd hp ?_
    rw [hp2]
    exact h w' _ (I.tok _) rw'
theorem d_notIn {Q:Value→Shared→Prop} (hu:A.units + 1 < cLine) (I:Inv X pins σ H s) (g:DGet H a y o) (ry:RelV y u) (h:∀ s',Inv X pins σ H s'→Q (.bool (!o.isSome)) s') :
    wpAny (model X.prog X.w) A (compareOp .NotIn u (.ref a)) Q E s:=by
  rcases g with ⟨kvs,k,e,ey,l⟩ | ⟨kvs,k,b,e,ey,eb,l⟩
  · subst ey
    obtain ⟨z,hd,vs,rel,dd⟩:=dk_rd I.hok e
    refine wpAny_notIn_of (kV_is ry) hd dd.mapOf ?_
    rw [← (rel.val k).isSome_eq,← l]
    exact h _ (I.tok _)
  · subst ey
    cases (show u=Value.ref b from ry)
    obtain ⟨z,hd,xs,rel,dd⟩:=dt_rd I.hok e
    refine wpAny_notIn_heap (tupleKind_room_in1 hu) (key_of I.hok eb) hd dd ?_
    have q:=(rel.val k).isSome_eq
    rw [Option.isSome_map] at q
    rw [← q,← l]
    exact h _ (I.tok _)
theorem d_write {h':Heap} {t':Nat} {ob:HO} (I:Inv X pins σ H s) (mu:Mut (H a)) (hs:Heap.SameBut a s.heap h') (he:∃ q,h'.get? a=some q) (new:ObjOk X.prog X.w (upd H a ob) h' a ob) :
    Inv X pins σ (upd H a ob) { s with heap:=h',toks:=t' } :=
  I.write (x:=a) (e:=a) mu (.inl rfl) (fun b q hb z=>(hs.2 b hb).trans z) he new
theorem dk_new {P:Program} {w:World} {H':Hp} {h':Heap} {kvs:List (Key×V)} {vs:List (Key×Value)} (z:kvs.length≤sizeLine) (hd:(a == sysModules)=false) (rel:KV kvs vs) (dd:h'.DictOf (mixKind P w) a vs) :
    ObjOk P w H' h' a (.dK kvs):=⟨z,hd,vs,rel,dd⟩
theorem d_setItem {H':Hp} {Q:Unit→Shared→Prop} (hu:A.units + 1 < cLine) (I:Inv X pins σ H s) (g:DPut H a y v H') (ry:RelV y u) (rv:RelV v r) (h:∀ s',Inv X pins σ H' s'→Q () s') :
    wpAny (model X.prog X.w) A (setItem (.ref a) u r) Q E s:=by
  rcases g with ⟨kvs,k,e,ey,l,eH⟩ | ⟨kvs,k,b,e,ey,eb,l,eH⟩
  · subst ey eH
    obtain ⟨z,hd,vs,rel,dd⟩:=dk_of I.hok e
    have hz:vs.length≤sizeLine:=by rw [← rel.length]; exact z
    have hl:(putK kvs k v).length≤sizeLine:=by have:=length_putK kvs k v; omega
    refine wpAny_setItem_pairs (hsz:=hz) (kV_is ry) dd fun h' dd' hs=>h _ ?_
    have he:∃ q,h'.get? a=some q:=let ⟨q,_,_,hq,_⟩:=dd'; ⟨q,hq⟩
    exact d_write I (by rw [e]; exact True.intro) hs he (dk_new hl hd (rel.put k rv) dd')
  · subst ey eH
    cases (show u=Value.ref b from ry)
    obtain ⟨z,hd,xs,rel,dd⟩:=dt_of I.hok e
    have hz:xs.length≤sizeLine:=by rw [← Paired.length rel]; exact z
    have hl:(putK kvs k v).length≤sizeLine:=by have:=length_putK kvs k v; omega
    refine wpAny_setItem_heap (hsz:=hz) (tupleKind_room_in1 hu) (key_of I.hok eb) dd fun h' dd' hs=>h _ ?_
    obtain ⟨q,es,ep,hq,h2,h3,h4,_,h5⟩:=dd'
    refine d_write I (by rw [e]; exact True.intro) hs ⟨q,hq⟩ ⟨hl,hd,_,(rel.put k eb rv).keeps fun c ys ec=>?_,q,es,ep,hq,h2,h3,h4,h5⟩
    rw [upd_ne (ne_of ec e (fun z=>nomatch z))]
    exact ec
end
section
variable {X:Cx} {pins:List (Addr×Obj)} {σ:St} {H:Hp} {s:Shared} {a:Addr} {kvs:List (Key×V)} {k:Key} {u:Value} {A:Around} {E:Value→Shared→Prop}
end
def NoSl (i:Expr):Prop:=∀ ov iv,subscripted i false ov iv=operate [ov,iv] (getItem ov iv)
theorem subD_of {prog:Program} {w:World} {A:Around} {E:Value→Shared→Prop} {s:Shared} {env:Env} {value slice:Expr} {pos:Pos} {T id:String} {Q:Value→Shared→Prop}
    (hl:typeLookup (.type T) "__getitem__" = pure (some (.builtin id))) (hs:NoSl slice)
    (h:wpAny (model prog w) A (eval value env) (fun o s₁=>wpAny (model prog w) A (eval slice env) (fun i s₂=>s₂.TypeIs o T∧wpAny (model prog w) A (getItem o i) Q E s₂) E s₁) E s) :
    wpAny (model prog w) A (eval (.Subscript value slice pos) env) Q E s:=by
  refine Subscript_ (wpAny_mono h (fun o s₁ h₁=>wpAny_mono h₁ (fun i s₂ h₂=>?_) fun _ _ x=>x) fun _ _ x=>x)
  obtain ⟨hT,h₂⟩:=h₂
  unfold subscriptTail
  refine wpAny_bind ?_
  rw [getitemInPython_of_ne hT.not_modules]
  refine wpAny_bind (wpAny_specialOf hT hl ?_)
  have fin:wpAny (model prog w) A (subscripted slice false o i) (fun r s₃=>wpAny (model prog w) A (letTemporaryGo value o r >>= fun _=>pure r) Q E s₃) E s₂:=by
    rw [hs o i]
    exact wpAny_operating (wpAny_mono h₂ (fun r s₃ h₃=>wpAny_bind (wpAny_letTemporaryGo (wpAny_pure h₃))) fun _ _ x=>x)
  first
    | exact wpAny_pure (wpAny_bind fin)
    | exact wpAny_bind (wpAny_pure (wpAny_bind fin))
    | exact wpAny_bind fin
theorem dict_typeIs {X:Cx} {pins:List (Addr×Obj)} {σ:St} {H:Hp} {s:Shared} {a:Addr} {y:V} {o:Option V} (I:Inv X pins σ H s) (g:DGet H a y o):s.TypeIs (.ref a) "dict" := by
  rcases g with ⟨kvs,k,e,_,_⟩ | ⟨kvs,k,b,e,_,_,_⟩
  · obtain ⟨_,_,vs,_,dd⟩:=dk_rd I.hok e
    exact dd.typeIs
  · obtain ⟨_,_,xs,_,dd⟩:=dt_rd I.hok e
    exact dd.typeIs
def tDGet (td ty:TE):TE:=fun σ H Q=>td σ H fun x H1=>ty σ H1 fun y H2=>∃ a v,x=.ref a∧DGet H2 a y (some v)∧Q v H2
def tDNotIn (ty td:TE):TE:=fun σ H Q=>ty σ H fun y H1=>td σ H1 fun x H2=>∃ a o,x=.ref a∧DGet H2 a y o∧Q (.bl (!o.isSome)) H2
def sDPut (td ty tv:TE):TS:=fun D σ H=>tv σ H fun v H1=>td σ H1 fun x H2=>ty σ H2 fun y H3=>∃ a H4,x=.ref a∧DPut H3 a y v H4∧D.nx σ H4
section
variable {X:Cx} {o i e value:Expr} {pos pos' tpos:Pos} {td ty tv:TE}
theorem pe_dget (hu:X.A.units + 1 < cLine) (ho:PE X o td) (hi:PE X i ty) (hs:NoSl i):PE X (.Subscript o i pos) (tDGet td ty):=by
  intro pins s σ H Q I h
  refine subD_of PySem.F.slot_dict_getitem.lookup hs (thn (ho pins s σ H _ I h) fun u s1 ⟨x,H1,I1,rx,q1⟩=>thn (hi pins s1 σ H1 _ I1 q1) fun iv s2 ⟨y,H2,I2,ry,a,v,ex,g,q2⟩=>?_)
  subst ex
  obtain rfl:u=Value.ref a:=rx
  exact ⟨dict_typeIs I2 g,d_getItem hu I2 g ry fun w' s3 I3 rw'=>⟨v,H2,I3,rw',q2⟩⟩
theorem pc_dnotin (hu:X.A.units + 1 < cLine) (hi:PE X i ty) (ho:PE X o td):PC X .NotIn i o (tDNotIn ty td):=by
  intro pins s σ H Q I h
  refine thn (hi pins s σ H _ I h) fun iv s1 ⟨y,H1,I1,ry,q1⟩=>thn (ho pins s1 σ H1 _ I1 q1) fun u s2 ⟨x,H2,I2,rx,a,ov,ex,g,q2⟩=>?_
  subst ex
  obtain rfl:u=Value.ref a:=rx
  exact d_notIn hu I2 g ry fun s3 I3=>⟨.bl (!ov.isSome),H2,I3,rfl,q2⟩
theorem ps_dput (hu:X.A.units + 1 < cLine) (ho:PE X o td) (hi:PE X i ty) (hv:PE X value tv) (hs:swapsWith value (some (.Subscript o i pos')) pos.line X.env=pure false) :
    PS X (.Assign [.Subscript o i pos'] value pos) (sDPut td ty tv):=by
  intro pins s σ H D I h
  refine wpAny_Assign_Subscript (thn (hv pins s σ H _ I h) fun r s1 ⟨v,H1,I1,rv,q1⟩=>thn (ho pins s1 σ H1 _ I1 q1) fun u s2 ⟨x,H2,I2,rx,q2⟩=>thn (hi pins s2 σ H2 _ I2 q2) fun iv s3 ⟨y,H3,I3,ry,a,H4,ex,g,q3⟩=>?_) hs
  subst ex
  obtain rfl:u=Value.ref a:=rx
  exact d_setItem hu I3 g ry rv fun s4 I4=>⟨σ,H4,I4,q3⟩
end
theorem dk_empty {P:Program} {w:World} {H:Hp} (h:Heap) (hb:sysModules < h.objs.size):ObjOk P w H (h.push { cls:=.type "dict", data:=.dict #[] }) h.objs.size (.dK []) :=
  ⟨Nat.zero_le _,beq_eq_false_iff_ne.mpr (Ne.symm (Nat.ne_of_lt hb)),[],.nil,Heap.DictOf.new h⟩
def tDNewK:TE:=fun _ H Q=>∀ p,H p=none→Q (.ref p) (upd H p (.dK []))
section
variable {X:Cx} {pos:Pos}
theorem pe_dnewK:PE X (.Dict [] [] pos) tDNewK:=fun pins s σ H Q I h =>
  wpAny_Dict_empty ⟨.ref s.heap.objs.size,_,I.laid (a:=s.heap.objs.size) (o:=.dK []) (t':=s.toks) (fun _ _ q=>Heap.get?_push_of_some _ q) (Nat.le_refl _) (dk_empty s.heap I.big),rfl,h _ (I.hok.fresh (Nat.le_refl _))⟩
end
structure M1 (X:Cx) (o:Expr) (m:Str) (apos:Pos) (e:Expr) (cpos:Pos):Prop where
  base:attributeBase o m X.env (eval o X.env)=eval o X.env
  few:((backTo cpos (starEach [e] X.env)).all (fun x=>!x.1) && (backToKw cpos (keywordEach [] X.env)).all (fun x=>x.1.isSome)
    && decide (([e]:List Expr).length + ([]:List Keyword).length + (if ([]:List Keyword).isEmpty then 0 else 1) < 30))=true
  line:(apos.endLine == cpos.line)=true
  trees:backTo cpos (starEach [e] X.env)=[(false,eval e X.env)]
def IsD (H:Hp) (a:Addr):Prop:=(∃ kvs,Rd H a (.dK kvs))∨∃ kvs,Rd H a (.dT kvs)
theorem isD_at {X:Cx} {pins:List (Addr×Obj)} {σ:St} {H:Hp} {s:Shared} {a:Addr} (I:Inv X pins σ H s) (d:IsD H a) :
    s.TypeIs (.ref a) "dict" ∧ (∀ b,Value.ref a=.ref b→∃ ob,s.heap.get? b=some ob∧ob.dict=none)∧(a == sysModules)=false:=by
  rcases d with ⟨kvs,e⟩ | ⟨kvs,e⟩
  · obtain ⟨_,hd,vs,_,dd⟩:=dk_rd I.hok e
    refine ⟨dd.typeIs,fun b q=>?_,hd⟩
    cases q
    obtain ⟨ob,_,_,h1,h2,_⟩:=dd
    exact ⟨ob,h1,h2.2.1⟩
  · obtain ⟨_,hd,xs,_,dd⟩:=dt_rd I.hok e
    refine ⟨dd.typeIs,fun b q=>?_,hd⟩
    cases q
    obtain ⟨ob,_,_,h1,h2,_⟩:=dd
    exact ⟨ob,h1,h2.2.1⟩
section
variable {X:Cx} {pins:List (Addr×Obj)} {σ:St} {H:Hp} {s:Shared} {a:Addr} {y d:V} {u r:Value} {o:Option V} {A:Around} {E:Value→Shared→Prop}
theorem d_get1 {Q:Value→Shared→Prop} (hu:A.units + 1 < cLine) (I:Inv X pins σ H s) (g:DGet H a y o) (ry:RelV y u) (h:∀ w' s',Inv X pins σ H s'→RelV (o.getD .non) w'→Q w' s') :
    wpAny (model X.prog X.w) A (call (.builtin "dict.get") [.ref a,u]) Q E s:=by
  rcases g with ⟨kvs,k,e,ey,l⟩ | ⟨kvs,k,b,e,ey,eb,l⟩
  · subst ey
    obtain ⟨z,hd,vs,rel,dd⟩:=dk_rd I.hok e
    refine call_meetsIn PySem.F.slot_dict_get dd.typeIs PySem.F.entry_dict_get (PySem.F.args_dict_get_2 _ _) (meets_dict_get (mixKind X.prog X.w) a (kV_is ry) hd) ⟨_,dd.mapOf,h _ _ (I.tok _) ?_⟩
    rw [l]
    exact (rel.val k).getD rfl
  · subst ey
    cases (show u=Value.ref b from ry)
    obtain ⟨z,hd,xs,rel,dd⟩:=dt_rd I.hok e
    refine call_meetsIn PySem.F.slot_dict_get dd.typeIs PySem.F.entry_dict_get (PySem.F.args_dict_get_2 _ _) (meetsH_dict_get (tupleKind (mixKind X.prog X.w)) a b hd) ⟨tupleKind_room_in1 hu,k,xs,key_of I.hok eb,dd,h _ _ (I.tok _) ?_⟩
    rw [l]
    exact (rel.val k).getD rfl
end
def tDGet1 (td ty:TE):TE:=fun σ H Q=>td σ H fun x H1=>∃ a,x=.ref a∧IsD H1 a∧ty σ H1 fun y H2=>∃ o,DGet H2 a y o∧Q (o.getD .non) H2
section
variable {X:Cx} {o e f:Expr} {apos cpos:Pos} {td ty tx:TE}
theorem pe_dget1 (hu:X.A.units + 1 < cLine) (ho:PE X o td) (he:PE X e ty) (m:M1 X o "get" apos e cpos):PE X (.Call (.Attribute o "get" apos) [e] [] cpos) (tDGet1 td ty):=by
  intro pins s σ H Q I h
  refine wpAny_Call_method m.base m.few m.line PySem.F.plainAttrs_dict PySem.F.slot_dict_get PySem.F.type_dict_get (thn (ho pins s σ H _ I h) fun u s1 ⟨x,H1,I1,rx,a,ex,d,q1⟩=>?_)
  subst ex
  obtain rfl:u=Value.ref a:=rx
  obtain ⟨t1,t2,_⟩:=isD_at I1 d
  refine ⟨t1,t2,?_⟩
  rw [m.trees]
  refine Calls.callWith_builtin rfl (Calls.evalArgs_plain (Calls.spliced_cons (thn (he pins s1 σ H1 _ I1 q1) fun iv s2 ⟨y,H2,I2,ry,ov,g,q2⟩=>Calls.spliced_nil ?_)))
  exact d_get1 hu I2 g ry fun w' s3 I3 rw'=>⟨_,H2,I3,rw',q2⟩
end
section
variable {X:Cx} {pins:List (Addr×Obj)} {σ:St} {H:Hp} {s:Shared} {a:Addr} {kvs:List (Key×V)} {A:Around} {E:Value→Shared→Prop}
end
section
variable {X:Cx} {pins:List (Addr×Obj)} {σ:St} {H:Hp} {s:Shared} {a:Addr} {y:V} {u:Value} {A:Around} {E:Value→Shared→Prop}
end
end L2
namespace PD
open PySem L2
section
variable {K:PySem.W.Frag} {S S':Sx} {κ κ':Bool} {Γ Γ' Γ'':Ctx} {P:Post} {E:XK}
abbrev DTab:=List (Key×V)
def dGet (m:DTab) (k:Int):Option V:=valV m (.inl k)
def dPut (m:DTab) (k:Int) (v:V):DTab:=putK m (.inl k) v
theorem dGet_nil (k:Int):dGet [] k=none:=rfl
theorem dGet_put (m:DTab) (k j:Int) (v:V):dGet (dPut m k v) j=if j=k then some v else dGet m j:=by
  unfold dGet dPut
  rw [valV_put]
  by_cases h:j=k
  · rw [if_pos h,if_pos (by rw [h])]
  · rw [if_neg h,if_neg (fun z=>h (Sum.inl.inj z))]
theorem dPut_len (m:DTab) (k:Int) (v:V):(dPut m k v).length≤m.length + 1:=length_putK m _ v
def toV:PyData→Option V
  | .int i=>some (.int i)
  | .bool b=>some (.bl b)
  | _=>none
theorem rp_toV {H0 F:Hp} {v w:V} {d:PyData} (p:Rp K κ S H0 F v d) (h:toV d=some w):v=w:=by
  cases d with
  | int i=>cases rp_int p; exact Option.some.inj h
  | bool b=>cases rp_bl p; exact Option.some.inj h
  | _=>cases h
theorem toV_rp {H0 F:Hp} {w:V} {d:PyData} (h:toV d=some w):Rp K κ S H0 F w d:=by
  cases d with
  | int i=>cases h; exact .int i
  | bool b=>cases h; exact .bl b
  | _=>cases h
theorem exd_new {i:Nat} {u:TS} (es:SetC Γ i (some (.od (.dK []))) Γ') (k:ExT K S S' u Γ' P):ExT K S S' (tSeq (tAsg tDNewK (gName i)) u) Γ P:=fun H0 F0 H F σ B e bb vv D I=>by
  refine fun p hp=>?_
  have g:Gr H F (upd H p (.dK [])) F:=.newO e.le hp _
  have e1:=(e.mono g).set (i:=i) (v:=.ref p) (x:=.od (.dK [])) ⟨p,rfl,⟨upd_same,e.le.free hp,e.gr.h.free hp,e.out hp⟩⟩ fun c oc j y w hj z hw o=>by
    cases (show V.ref p=.ref c from oc)
    exact e.newOwn g hp j y w z hw o
  rw [es.eq] at e1
  exact k H0 F0 _ F _ B e1 bb vv D I
theorem ev_dnotin {i:Nat} {m:DTab} {ta:TE} {k:Int} (h:GetC Γ i (.od (.dK m))) (ha:EvE K S false ta Γ (.int k)):EvE K S κ (tDNotIn ta (tVar i)) Γ (.bool (!(dGet m k).isSome)):=fun H0 F0 H F σ e Q q=>ha H0 F0 H F σ e _ fun v H1 F1 g1 p1=>by
  cases rp_int p1
  obtain ⟨v0,q1,a,rfl,w⟩:=(e.mono g1).has i _ h.eq
  exact ⟨_,q1,a,_,rfl,DGet.k (k:=.inl k) w.h,q _ H1 F1 g1 (.bl _)⟩
theorem exd_put {i:Nat} {m:DTab} {tk tv:TE} {k:Int} {w:V} {d:PyData} (h:GetC Γ i (.od (.dK m))) (hv:EvE K S false tv Γ d) (hk:EvE K S false tk Γ (.int k)) (hw:toV d=some w) (hz:m.length < sizeLine) (es:SetC Γ i (some (.od (.dK (dPut m k w)))) Γ') (kk:P.nx Γ'):ExS K S (sDPut (tVar i) tk tv) Γ P:=fun H0 F0 H F σ B e bb vv D I =>
  hv H0 F0 H F σ e _ fun v H1 F1 g1 p1=>by
    cases rp_toV p1 hw
    obtain ⟨v0,q1,a,rfl,o⟩:=(e.mono g1).has i _ h.eq
    refine ⟨_,q1,hk H0 F0 H1 F1 σ (e.mono g1) _ fun v2 H2 F2 g2 p2=>?_⟩
    cases rp_int p2
    have e2:=(e.mono g1).mono g2
    have o2:=o.mono g2
    refine ⟨a,_,rfl,DPut.k (k:=.inl k) o2.h hz,?_⟩
    have e3:=e2.putO (oo:=.dK (dPut m k w)) (y:=.od (.dK (dPut m k w))) h.eq q1 (show Owns H2 (.ref a) (.od (.dK m)) a from rfl) ⟨a,rfl,⟨upd_same,o2.f,o2.n,o2.s⟩⟩ fun _ z=>z
    rw [es.eq] at e3
    exact I.nx _ _ _ F2 kk ((bb.trans g1.f).trans g2.f) e3
abbrev TellsD (K:PySem.W.Frag) (m:DTab):Hp→Hp→Hp→Hp→V→Prop:=fun H0 F0 H F v=>Gr H0 F0 H F∧HasV K .fresh H0 H F v (.od (.dK m))
end
end PD
namespace L2
open PySem PySem.Spec PyProof.Rows PySem.W
end L2
namespace PD
open PySem L2
section
variable {K:PySem.W.Frag} {S S':Sx} {κ κ':Bool} {Γ Γ' Γ'':Ctx} {P:Post} {E:XK}
end
end PD
namespace PD
open PySem L2
section
variable {K:PySem.W.Frag} {S S':Sx} {κ κ':Bool} {Γ Γ' Γ'':Ctx} {P:Post} {E:XK}
abbrev TellsDW (K:PySem.W.Frag) (G:DTab→Prop):Hp→Hp→Hp→Hp→V→Prop:=fun H0 F0 H F v=>∃ m,G m∧TellsD K m H0 F0 H F v
theorem exm_retDW {i:Nat} {m:DTab} {G:DTab→Prop} (h:GetC Γ i (.od (.dK m))) (hg:G m):ExM K (tRet (tVar i)) Γ (TellsDW K G):=fun H0 F0 H F σ e D q=>by
  obtain ⟨v,q1,w⟩:=e.has i _ h.eq
  exact ⟨_,q1,q _ H F ⟨m,hg,e.gr,w⟩⟩
def spDW (K:PySem.W.Frag) (pre:List PyData→(DTab→Prop)→Prop):Sp:=fun vs H Q _=>∃ F ds G,Same F H∧DpAll K F vs ds∧pre ds G∧∀ v H' F',TellsDW K G H F H' F' v→Q v H'
theorem spDW_len {pre:List PyData→(DTab→Prop)→Prop} {n:Nat} (h:∀ ds G,pre ds G→ds.length=n) {vs:List V} {H:Hp} {Q:VK} (s:spDW K pre vs H Q E):vs.length=n:=by
  obtain ⟨F,ds,m,_,k,p,_⟩:=s
  rw [DpAll.length k]
  exact h ds m p
end
end PD
namespace PD
open PySem L2
section
variable {K:PySem.W.Frag} {S S':Sx} {κ κ':Bool} {Γ Γ' Γ'':Ctx} {P:Post} {E:XK}
def dkO (m:DTab):Addr→HO:=fun _=>.dK m
theorem exd_callF {pre:List PyData→(DTab→Prop)→Prop} {ta:TA} {ds:List PyData} {G:DTab→Prop} {i:Nat} {u:TS} {Γn:DTab→Ctx} (h:EvA K .fresh false ta Γ ds) (hp:pre ds G) (es:∀ m,SetC Γ i (some (.xn (dkO m))) (Γn m)) (k:∀ m,G m→ExT K .fresh S' u (Γn m) P) :
    ExT K .fresh S' (tSeq (tAsg (tCall (spDW K pre) [] E ta) (gName i)) u) Γ P:=fun H0 F0 H F σ B e bb vv D I =>
  h H0 F0 H F σ e _ fun vs H1 F1 g1 p1=>⟨F1,ds,G,g1.le,by rw [List.append_nil]; exact rpAll_dp p1,hp,fun v H2 F2 ⟨m,hg,g2,a,ev,w⟩=>by
    have e1:=e.mono g1
    have s2:Same F2 (upd F2 a (.dK m)):=Same.new w.f _
    have g3:Gr H1 F1 H2 (upd F2 a (.dK m)):=⟨g2.h,g2.f.trans s2,fun c o z=>by
      by_cases ec:c=a
      · subst ec; rw [upd_same] at z; rw [← z]; exact w.h
      · rw [upd_ne ec] at z; exact g2.le _ _ z,fun c o z y=>by
      rw [upd_ne (ne_of_none z w.n)]; exact g2.ap _ _ z y⟩
    have e2:=(e1.mono g3).set (i:=i) (v:=v) (x:=.xn (dkO m)) ⟨a,ev,upd_same⟩ fun _ z=>z.elim
    rw [(es m).eq] at e2
    exact k m hg H0 F0 H2 _ _ B e2 (bb.trans (g1.f.trans g3.f)) vv D I⟩
theorem ev_dnotinN {i:Nat} {m:DTab} {ta:TE} {k:Int} (h:GetC Γ i (.xn (dkO m))) (ha:EvE K S false ta Γ (.int k)):EvE K S κ (tDNotIn ta (tVar i)) Γ (.bool (!(dGet m k).isSome)):=fun H0 F0 H F σ e Q q=>ha H0 F0 H F σ e _ fun v H1 F1 g1 p1=>by
  cases rp_int p1
  obtain ⟨v0,q1,a,rfl,w⟩:=(e.mono g1).has i _ h.eq
  exact ⟨_,q1,a,_,rfl,DGet.k (k:=.inl k) ((e.mono g1).le _ _ w),q _ H1 F1 g1 (.bl _)⟩
theorem ev_dgetN {i:Nat} {m:DTab} {ta:TE} {k:Int} {w:V} {d:PyData} (h:GetC Γ i (.xn (dkO m))) (ha:EvE K S false ta Γ (.int k)) (hm:dGet m k=some w) (hw:toV d=some w):EvE K S κ (tDGet (tVar i) ta) Γ d:=fun H0 F0 H F σ e Q q=>by
  obtain ⟨v0,q1,a,rfl,o⟩:=e.has i _ h.eq
  refine ⟨_,q1,ha H0 F0 H F σ e _ fun v H1 F1 g1 p1=>?_⟩
  cases rp_int p1
  refine ⟨a,w,rfl,?_,q w H1 F1 g1 (toV_rp hw)⟩
  have:=DGet.k (k:=.inl k) (g1.h _ _ (e.le _ _ o))
  rwa [show valV m (.inl k)=some w from hm] at this
theorem ev_dget1N {i:Nat} {m:DTab} {ta:TE} {k:Int} {d:PyData} (h:GetC Γ i (.xn (dkO m))) (ha:EvE K S false ta Γ (.int k)) (hd:(dGet m k=none∧d=.none)∨∃ w,dGet m k=some w∧toV d=some w):EvE K S κ (tDGet1 (tVar i) ta) Γ d:=fun H0 F0 H F σ e Q q=>by
  obtain ⟨v0,q1,a,rfl,o⟩:=e.has i _ h.eq
  refine ⟨_,q1,a,rfl,.inl ⟨m,.inl (e.le _ _ o)⟩,ha H0 F0 H F σ e _ fun v H1 F1 g1 p1=>?_⟩
  cases rp_int p1
  refine ⟨_,DGet.k (k:=.inl k) (g1.h _ _ (e.le _ _ o)),?_⟩
  rcases hd with ⟨hm,rfl⟩ | ⟨w,hm,hw⟩
  · rw [show valV m (.inl k)=none from hm]
    exact q _ H1 F1 g1 .non
  · rw [show valV m (.inl k)=some w from hm]
    exact q _ H1 F1 g1 (toV_rp hw)
end
end PD
open PySem L2 PD
local macro_rules | `(tactic| walk_at "comp_ok")=>`(tactic| (refine CompOk.of (by with_unfolding_all rfl) (by decide +kernel) rfl (by decide +kernel) ?_ (by with_unfolding_all rfl) rfl (by with_unfolding_all rfl); (repeat (with_unfolding_all refine List.forall_mem_cons.mpr ⟨by with_unfolding_all rfl,?_⟩)); exact List.forall_mem_nil _))
local macro_rules | `(tactic| walk_at "comp_lam")=>`(tactic| exact CompOk.lam (by assumption) (by decide +kernel) rfl (by decide +kernel) (by decide +kernel) rfl (by with_unfolding_all rfl))
local macro_rules | `(tactic| walk_at "gc")=>`(tactic| ((repeat ((with_reducible apply GetC.succ))) ; (with_reducible exact GetC.zero)))
local macro_rules | `(tactic| walk_at "sc")=>`(tactic| ((repeat ((with_reducible apply SetC.succ))) ; (with_reducible exact SetC.zero)))
local macro_rules | `(tactic| walk_at "st")=>`(tactic| ((repeat (first | (with_reducible apply StartC.got) | ((with_reducible apply StartC.no)))) ; (with_reducible exact StartC.z)))
local macro_rules | `(tactic| walk_at "cc")=>`(tactic| ((repeat (first | (with_reducible apply CaptC.no) | ((with_reducible apply CaptC.got) ; focus walk_at "gc"))); (with_reducible exact CaptC.nil)))
local macro_rules | `(tactic| walk_at "mk")=>`(tactic| ((repeat (first | ((with_reducible apply MarkC.got); focus (first | exact MkD.fz | exact MkD.ow | exact MkD.im rfl | exact MkD.ox)) | (with_reducible apply MarkC.no))); (with_reducible exact MarkC.nil)))
local macro_rules | `(tactic| walk_at "sp")=>`(tactic| ((repeat (first | ((with_reducible apply SpC.got); focus (first | exact SpD.fz | exact SpD.ow | exact SpD.im rfl | exact SpD.ox | exact SpD.tn)) | (with_reducible apply SpC.no))); (with_reducible exact SpC.nil)))
local macro_rules | `(tactic| walk_at "sd")=>`(tactic| first | ((with_reducible apply asm) ; assumption) | decide | omega | skip)
local macro_rules | `(tactic| walk_at "ln")=>`(tactic| (simp only [List.length_cons,List.length_nil]; decide))
local macro_rules | `(tactic| walk_at "ev")=>`(tactic| first
  | (with_reducible exact ev_int)
  | (with_reducible exact ev_non)
  | (with_reducible exact ev_bl)
  | (with_reducible exact ev_str)
  | (with_reducible exact et_yes)
  | (with_reducible exact ea_nil)
  | (with_reducible exact ep_none)
  | ((with_reducible apply asm) ; (with_reducible assumption))
  | ((with_reducible apply evv) ; walk_at "gc"; decide)
  | ((with_reducible apply evi) ; walk_at "gc"; rfl)
  | ((with_reducible apply evtn) ; walk_at "gc"; done)
  | ((with_reducible apply evw) ; walk_at "gc"; decide)
  | ((with_reducible apply ev_add) <;> walk_at "ev")
  | ((with_reducible apply ev_sub) <;> walk_at "ev")
  | ((with_reducible apply ev_lt) <;> walk_at "ev")
  | ((with_reducible apply ev_le) <;> walk_at "ev")
  | ((with_reducible apply ev_gt) <;> walk_at "ev")
  | ((with_reducible apply ev_ge) <;> walk_at "ev")
  | ((with_reducible apply ev_mul) <;> walk_at "ev")
  | ((with_reducible apply ev_fdiv) <;> walk_at "ev")
  | ((with_reducible apply ev_fdivB) <;> walk_at "ev")
  | ((with_reducible apply ev_mod) <;> walk_at "ev")
  | ((with_reducible apply ev_pow) <;> walk_at "ev")
  | ((with_reducible apply ev_neg) <;> walk_at "ev")
  | ((with_reducible refine' ev_isN (EvE.toD (κ:=false) ?_)) <;> walk_at "ev")
  | ((with_reducible refine' ev_notN (EvE.toD (κ:=false) ?_)) <;> walk_at "ev")
  | ((with_reducible apply ev_ixL) <;> walk_at "ev")
  | ((with_reducible apply ev_ixT) <;> walk_at "ev")
  | ((with_reducible apply ev_eqI) <;> walk_at "ev" <;> done)
  | ((with_reducible apply ev_neI) <;> walk_at "ev" <;> done)
  | ((with_reducible apply ev_eqB) <;> walk_at "ev" <;> done)
  | ((with_reducible apply ev_neB) <;> walk_at "ev" <;> done)
  | ((with_reducible apply ev_eqS) <;> walk_at "ev" <;> done)
  | ((with_reducible apply ev_neS) <;> walk_at "ev" <;> done)
  | ((with_reducible apply ev_and) <;> (try (with_reducible intro _)) <;> walk_at "ev")
  | ((with_reducible apply ev_or) <;> (try (with_reducible intro _)) <;> walk_at "ev")
  | ((with_reducible apply ev_not) <;> walk_at "ev")
  | ((with_reducible apply et_test) <;> walk_at "ev")
  | ((with_reducible apply et_B) <;> walk_at "ev")
  | ((with_reducible apply et_and) <;> (try (with_reducible intro _)) <;> walk_at "ev")
  | ((with_reducible apply et_or) <;> (try (with_reducible intro _)) <;> walk_at "ev")
  | ((with_reducible apply et_not) <;> walk_at "ev")
  | ((with_reducible apply ea_cons) <;> walk_at "ev")
  | ((with_reducible apply ev_tup) <;> walk_at "ev")
  | ((with_reducible apply EvO.toE) ; ((with_reducible apply evo_lst)) <;> walk_at "ev")
  | ((with_reducible apply evo_lst) <;> walk_at "ev")
  | ((with_reducible apply ev_len) <;> walk_at "ev" <;> done)
  | ((with_reducible apply ev_lenT) <;> walk_at "ev")
  | ((with_reducible apply EvO.toE) ; ((with_reducible apply evo_list)) <;> walk_at "ev")
  | ((with_reducible apply evo_list) <;> walk_at "ev")
  | ((with_reducible apply ev_abs) <;> walk_at "ev")
  | ((with_reducible apply ep_some) <;> walk_at "ev")
  | ((with_reducible apply EvO.toE) ; ((with_reducible apply evo_slice)) <;> walk_at "ev")
  | ((with_reducible apply evo_slice) <;> walk_at "ev")
  | ((with_reducible apply EvO.toE) ; ((with_reducible apply evo_cat)) <;> walk_at "ev")
  | ((with_reducible apply evo_cat) <;> walk_at "ev")
  | ((with_reducible apply EvO.toE) ; ((with_reducible apply evo_rep)) <;> walk_at "ev")
  | ((with_reducible apply evo_rep) <;> walk_at "ev")
  | ((with_reducible apply EvO.toE) ; ((with_reducible apply evo_listRev)) <;> walk_at "ev")
  | ((with_reducible apply evo_listRev) <;> walk_at "ev")
  | ((with_reducible refine' ev_isi (EvE.toD (κ:=false) ?_) ?_) <;> walk_at "ev")
  | ((with_reducible apply ev_callF) <;> walk_at "ev")
  | ((with_reducible apply ev_callN) <;> walk_at "ev")
  | ((with_reducible apply evl_ints) ; walk_at "ev"; done)
  | ((with_reducible apply evl_opts) ; walk_at "ev"; done)
  | ((with_reducible apply EvE.toL) ; walk_at "ev"; done)
  | ((with_reducible apply EvO.toL) ; walk_at "ev"; done)
  | (with_reducible apply isE)
  | (with_reducible apply isL)
  | (with_reducible apply isT)
  | (with_reducible apply isA)
  | (with_reducible apply isO)
  | (with_reducible apply isD)
  | (with_reducible apply isI)
  | (with_reducible exact atI0)
  | (with_reducible exact atI1)
  | ((with_reducible apply asm) ; (with_reducible assumption))
  | ((with_reducible apply kit_of) ; with_unfolding_all rfl)
  | (simp only [List.length_cons,List.length_nil]; decide)
  | decide
  | omega
  | skip)
local macro_rules | `(tactic| walk_at "go")=>`(tactic| repeat (first
  | ((with_reducible apply exo (te:=tLst tNil) true) ; (focus (walk_at "ev"; done)); (focus walk_at "sc"))
  | ((with_reducible apply exs true) ; (focus (walk_at "ev"; done)); (focus walk_at "sc"))
  | ((with_reducible apply exs false) ; (focus (walk_at "ev"; done)); (focus walk_at "sc"))
  | ((with_reducible apply exa) ; (focus walk_at "gc"); (focus (walk_at "ev"; done)); (focus walk_at "sc"); (focus (walk_at "sd"; done)))
  | (with_reducible apply exn)))
local macro_rules | `(tactic| walk_at "run")=>`(tactic| (apply run_def; assumption; assumption; assumption; assumption; focus walk_at "st"))
local macro_rules | `(tactic| walk_at "ot")=>`(tactic| first | exact oneT_of (Nat.le_refl 1) | exact oneT_of (Nat.zero_le 1))
local macro_rules | `(tactic| walk_at "sv")=>`(tactic| ((repeat (first | (with_reducible apply StartV.got) | ((with_reducible apply StartV.no)))) ; (with_reducible exact StartV.z)))
local macro_rules | `(tactic| walk_at "runv")=>`(tactic| (apply run_defV; assumption; assumption; assumption; assumption; focus walk_at "sv"))
namespace K13
open PySem L2 PD Cm
def top (i:Nat):Stmt:=PySem.Challenge.pw_causebook_k13_way_down.main.body.getD i (.Pass ⟨0,0,0,0⟩)
structure Bs (mg:Str→Option Value):Prop where
  len:mg "len" = none
  set:mg "set" = none
  range:mg "range" = none
  list:mg "list" = none
  sorted:mg "sorted" = none
  isinstance:mg "isinstance" = none
  all:mg "all" = none
  int:mg "int" = none
  bool:mg "bool" = none
section
variable {P:Program} {w:World} {K:PySem.W.Frag} {mg:Str→Option Value} {base:Heap} {f:Addr} {fd:FuncData}
open Wd Sh Sx2
theorem line_big:200000 < sizeLine:=by decide
abbrev nl (ks:List Nat):PyData:=.list (ks.map fun k:Nat=>.int (k:Int))
theorem nl_imm (ks:List Nat):∀ d∈ks.map (fun k:Nat=>PyData.int (k:Int)),imm d=true:=fun d hd=>by
  obtain ⟨n,_,rfl⟩:=List.mem_map.mp hd
  rfl
abbrev nls (cs:List (List Nat)):PyData:=.list (cs.map nl)
def zl (ks:List Nat):List Int:=ks.map fun k:Nat=>(k:Int)
theorem nl_zl (ks:List Nat):nl ks=il (zl ks):=by
  unfold zl
  show PyData.list _=.list _
  rw [List.map_map]
  rfl
theorem zl_back (ks:List Nat):(srt (zl ks))=zl ((srt (zl ks)).map Int.toNat):=by
  unfold zl
  rw [List.map_map]
  refine ((List.map_congr_left fun x hx=>?_).trans (List.map_id _)).symm
  obtain ⟨k,_,rfl⟩:=List.mem_map.mp ((srt_perm _).mem_iff.mp hx)
  rfl
def srtN (cs:List Nat):List Nat:=(srt (zl cs)).map Int.toNat
theorem srtN_perm (cs:List Nat):(srtN cs).Perm cs:=by
  have pr:(zl (srtN cs)).Perm (zl cs):=by
    unfold srtN
    rw [← zl_back]
    exact srt_perm _
  have:=pr.map Int.toNat
  unfold zl at this
  rw [List.map_map,List.map_map] at this
  have e:(Int.toNat∘fun k:Nat=>(k:Int))=id:=by funext k; rfl
  rw [e,List.map_id,List.map_id] at this
  exact this
theorem srtN_rise {cs:List Nat} (h:cs.Nodup):(srtN cs).Pairwise (· < ·):=by
  have h1:(srtN cs).Nodup:=(srtN_perm cs).nodup_iff.mpr h
  have h2:(srtN cs).Pairwise (·≤·):=by
    have:=srt_sorted (zl cs)
    unfold srtN
    rw [List.pairwise_map]
    refine this.imp fun {a b} hab=>?_
    omega
  rw [List.nodup_iff_pairwise_ne] at h1
  exact (h1.and h2).imp fun {a b} z=>by omega
theorem cut_map {α:Type} (g:α→PyData) (xs:List α) (k:Nat):cutD (xs.map g) none (some (k:Int))=(xs.take k).map g:=by
  unfold cutD
  rw [HT.sIx_nat]
  show ((xs.map g).drop 0).take (min k (xs.map g).length - 0)=_
  rw [List.drop_zero,Nat.sub_zero,List.length_map,← List.map_take]
  congr 1
  rcases Nat.le_total k xs.length with h | h
  · rw [Nat.min_eq_left h]
  · rw [Nat.min_eq_right h,List.take_of_length_le (Nat.le_refl _),List.take_of_length_le h]
theorem getD_some {α:Type} {l:List α} {k:Nat} {d:α} (h:k < l.length):l[k]?=some (l.getD k d):=by
  rw [List.getD_eq_getElem?_getD,List.getElem?_eq_getElem h]
  rfl
def unN:PyData→List Nat
  | .list ds=>ds.map fun d=>match d with | .int i=>i.toNat | _=>0
  | _=>[]
theorem unN_nl (cs:List Nat):unN (nl cs)=cs:=by
  show (cs.map fun k:Nat=>PyData.int (k:Int)).map _=cs
  rw [List.map_map]
  exact List.map_id' _
theorem mem_zl {k:Nat} {r:List Nat}:decide ((k:Int)∈zl r)=decide (k∈r):=by
  unfold zl
  by_cases h:k∈r
  · rw [decide_eq_true h,decide_eq_true (List.mem_map.mpr ⟨k,h,rfl⟩)]
  · rw [decide_eq_false h,decide_eq_false fun z=>?_]
    obtain ⟨j,hj,e⟩:=List.mem_map.mp z
    have:j=k:=by omega
    exact h (this ▸ hj)
theorem nl_inj {x y:Nat} (h:PyData.int (x:Int)=.int (y:Int)):x=y:=Int.ofNat.inj (PyData.int.inj h)
def kD (ks:List Nat):List PyData:=ks.map fun k:Nat=>.int (k:Int)
theorem kD_len (ks:List Nat):(kD ks).length=ks.length:=List.length_map ..
theorem srt_zl (ks:List Nat):(srt (zl ks)).map PyData.int=kD (srtN ks):=by
  have:=zl_back ks
  have e:(srt (zl ks)).map PyData.int=(zl (srtN ks)).map PyData.int:=congrArg (List.map PyData.int) this
  rw [e]
  show (List.map _ (srtN ks)).map PyData.int=_
  rw [List.map_map]
  rfl
structure ShR (n:Nat) (cs:List (List Nat)):Prop where
  l:cs.length=n
  e:∀ r∈cs,(∀ x∈r,x < n)∧r.length≤5∧r.Pairwise (· < ·)
def effF (cs:List (List Nat)) (k:Nat):List Nat:=(List.range cs.length).filter fun o=>decide (k∈cs.getD o [])
def pre_effects (ds:List PyData) (d:PyData):Prop:=∃ (cs:List (List Nat)) (k:Nat),ds=[nls cs,.int k]∧cs.length≤1000∧d=nl (effF cs k)
theorem len_effects (ds:List PyData) (d:PyData) (h:pre_effects ds d):ds.length=2:=by obtain ⟨a,b,rfl,_⟩:=h; rfl
theorem sc_effects:FnScope ["causes", "k"] ["causes", "k"] (defScope (top 2)):=⟨rfl,rfl,rfl,by decide +kernel,rfl,by decide +kernel,by decide +kernel⟩
theorem ok_effects (F:Fun K "effects" "effects" (top 2) f fd) (B:Bs mg)  : FnOk P w K mg base CX0 1 f fd ["causes", "k"] (spD K true pre_effects):=by
  have sc:=sc_effects
  refine F.ok sc (fun vs H Q E h=>spD_len len_effects h) (fun cdv A outer s H vs Q E hr h=>?_)
  obtain ⟨Fh,ds,d,le,dp,p,q⟩:=h
  refine ⟨_,(pss_one (ps_ret (pe_comp rfl (N:=["other", "k", "causes"]) (js:=[none,some 1,some 0]) (by walk_at "comp_ok") (pi_range1 rfl B.range (pa_cons (pe_callB (call_len_seqK (K:=K) rfl) rfl B.len (by decide +kernel) (pa_cons (pv 0) pa_nil)) pa_nil)) (fun _ _ _ _=>(pg_name (i:=0) (show List.Nodup (["other", "k", "causes"]:List PySem.Str) by decide +kernel) rfl (Or.inl rfl))) (fun _ _ _ _=>(pif_one (pt_cmpR (op_in_seqK (K:=K) rfl) (pv 1) (pe_ix (ix_listK (K:=K) rfl) (pv 2) (pv 0) (fun _ _=>rfl)) (rfl)))) (fun _ _ _ _=>(pv 0))))),?_⟩
  have hN:(["causes", "k"]:List Str).length=2:=rfl
  obtain ⟨cs,k,rfl,hl,rfl⟩:=p
  have big:=line_big
  have el:(((cs.map nl).length:Nat):Int)=(cs.length:Int):=by rw [List.length_map]
  walk_at "run"
  refine ex_ret true (EvO.toE (evo_rngIf (is:=[0]) (n:=cs.length) (fun o=>.int (o:Int)) (fun o=>decide (k∈cs.getD o [])) (ea_cons (EvE.eq (ev_len (ds:=cs.map nl) (by walk_at "ev")) (congrArg PyData.int el)) ea_nil) (by omega) (by walk_at "cc") rfl (by decide) ?_)) rfl (.inl ⟨rfl,rfl⟩)
  intro o ho
  have a1:atI (cs.map nl) (o:Int)=some (nl (cs.getD o [])):=atI_map (getD_some ho)
  refine egn (by walk_at "sc") ⟨EvT.eq (et_test (ev_inI (neg:=false) (i:=(k:Int)) (ns:=zl (cs.getD o [])) (by walk_at "ev") (EvE.toL (EvE.eq (ev_ixL (κ:=false) (ds:=cs.map nl) (by walk_at "ev") (by walk_at "ev") a1) (nl_zl _))))) ?_,fun _=>by walk_at "ev"⟩
  show decide _=_
  exact mem_zl
theorem zl_len (r:List Nat):(zl r).length=r.length:=List.length_map ..
theorem zl_any (a b:List Nat):((zl a).any fun k=>decide (k∈zl b))=a.any fun k=>decide (k∈b):=by
  unfold zl
  rw [List.any_map]
  refine congrArg (fun f=>List.any a f) (funext fun k=>?_)
  exact mem_zl
def pre_meet (ds:List PyData) (d:PyData):Prop:=∃ a b:List Nat,ds=[nl a,nl b]∧a.length + b.length < 2000∧d=.bool (a.any fun k=>decide (k∈b))
theorem len_meet (ds:List PyData) (d:PyData) (h:pre_meet ds d):ds.length=2:=by obtain ⟨a,b,rfl,_⟩:=h; rfl
theorem sc_meet:FnScope ["some", "others"] ["some", "others"] (defScope (top 1)):=⟨rfl,rfl,rfl,by decide +kernel,rfl,by decide +kernel,by decide +kernel⟩
theorem ok_meet (F:Fun K "meet" "meet" (top 1) f fd) (B:Bs mg)  : FnOk P w K mg base CX0 1 f fd ["some", "others"] (spD K true pre_meet):=by
  have sc:=sc_meet
  refine F.ok sc (fun vs H Q E h=>spD_len len_meet h) (fun cdv A outer s H vs Q E hr h=>?_)
  obtain ⟨Fh,ds,d,le,dp,p,q⟩:=h
  refine ⟨_,(pss_one (ps_ret (pe_cmpR op_gt (pe_callB (call_lenB (b:=w.params.followText "set-order")) rfl B.len (by decide +kernel) (pa_cons (pe_op (op_andB rfl rfl) (pe_callTy (call_setB (K:=K) rfl rfl rfl) rfl B.set (by decide +kernel) (pa_cons (pv 0) pa_nil)) (pe_callTy (call_setB (K:=K) rfl rfl rfl) rfl B.set (by decide +kernel) (pa_cons (pv 1) pa_nil))) pa_nil)) pe_int (nomark _)))),?_⟩
  have hN:(["some", "others"]:List Str).length=2:=rfl
  obtain ⟨a,b,rfl,hl,rfl⟩:=p
  walk_at "run"
  refine ex_ret true (EvE.eq (ev_gt (ev_lenAnd (ns:=zl a) (ms:=zl b) (EvE.toL (EvE.eq (κ:=false) (by walk_at "ev") (nl_zl a))) (EvE.toL (EvE.eq (κ:=false) (by walk_at "ev") (nl_zl b))) (by rw [zl_len,zl_len]; exact hl)) (by walk_at "ev")) ?_) rfl (.inl ⟨rfl,rfl⟩)
  rw [meet_pos,zl_any]
def rmS (cs:List (List Nat)) (wi f r:List Nat):List Nat:=wi.filter fun k=>!decide (k∈f) && (effF cs k).any fun e=>decide (e∈r)
def rmF (cs:List (List Nat)) (sm wi:List Nat):Nat→List Nat×List Nat
  | 0=>(wi.filter fun k=>decide (k∈sm),[])
  | s + 1=>(rmS cs wi ((rmF cs sm wi s).2 ++ (rmF cs sm wi s).1) (rmF cs sm wi s).1,(rmF cs sm wi s).2 ++ (rmF cs sm wi s).1)
def rim (cs:List (List Nat)) (sm wi:List Nat) (s:Nat):List Nat:=(rmF cs sm wi s).1
def fnd (cs:List (List Nat)) (sm wi:List Nat) (s:Nat):List Nat:=(rmF cs sm wi s).2
theorem fnd_succ (cs:List (List Nat)) (sm wi:List Nat) (s:Nat):fnd cs sm wi (s + 1)=fnd cs sm wi s ++ rim cs sm wi s:=rfl
theorem rim_succ (cs:List (List Nat)) (sm wi:List Nat) (s:Nat):rim cs sm wi (s + 1)=rmS cs wi (fnd cs sm wi (s + 1)) (rim cs sm wi s):=rfl
theorem mem_rim {cs:List (List Nat)} {sm wi:List Nat} {s k:Nat}:k∈rim cs sm wi (s + 1)↔k∈wi∧k∉fnd cs sm wi (s + 1)∧∃ e∈effF cs k,e∈rim cs sm wi s:=by
  rw [rim_succ]
  unfold rmS
  rw [List.mem_filter,Bool.and_eq_true,List.any_eq_true]
  simp
theorem rim_in {cs:List (List Nat)} {sm wi:List Nat}:∀ {s k:Nat},k∈rim cs sm wi s→k∈wi
  | 0,_,h=>(List.mem_filter.mp h).1
  | _ + 1,_,h=>(mem_rim.mp h).1
theorem mem_fnd {cs:List (List Nat)} {sm wi:List Nat} {k:Nat}:∀ {s:Nat},k∈fnd cs sm wi s↔∃ t,t < s∧k∈rim cs sm wi t
  | 0=>⟨fun z=>(by cases z),fun ⟨t,z,_⟩=>absurd z (Nat.not_lt_zero t)⟩
  | s + 1=>by
    rw [fnd_succ,List.mem_append,mem_fnd]
    constructor
    · rintro (⟨t,h,z⟩ | z)
      · exact ⟨t,by omega,z⟩
      · exact ⟨s,by omega,z⟩
    · rintro ⟨t,h,z⟩
      by_cases e:t=s
      · exact .inr (e ▸ z)
      · exact .inl ⟨t,by omega,z⟩
theorem rim_out {cs:List (List Nat)} {sm wi:List Nat}:∀ {s k:Nat},k∈rim cs sm wi s→k∉fnd cs sm wi s
  | 0,_,_=>fun z=>(by cases z)
  | _ + 1,_,h=>(mem_rim.mp h).2.1
theorem rim_one {cs:List (List Nat)} {sm wi:List Nat} {s t k:Nat} (h1:k∈rim cs sm wi s) (h2:k∈rim cs sm wi t):s=t:=by
  rcases Nat.lt_trichotomy s t with c | c | c
  · exact absurd (mem_fnd.mpr ⟨s,c,h1⟩) (rim_out h2)
  · exact c
  · exact absurd (mem_fnd.mpr ⟨t,c,h2⟩) (rim_out h1)
theorem rim_nd {cs:List (List Nat)} {sm wi:List Nat} (nd:wi.Nodup):∀ s,(rim cs sm wi s).Nodup
  | 0=>nd.sublist List.filter_sublist
  | _ + 1=>nd.sublist List.filter_sublist
theorem fnd_nd {cs:List (List Nat)} {sm wi:List Nat} (nd:wi.Nodup):∀ s,(fnd cs sm wi s).Nodup
  | 0=>List.nodup_nil
  | s + 1=>by
    rw [fnd_succ,List.nodup_append]
    exact ⟨fnd_nd nd s,rim_nd nd s,fun a ha b hb e=>rim_out hb (e ▸ ha)⟩
theorem nd_sub:∀ (l sm:List Nat),l.Nodup→(∀ x∈l,x∈sm)→l.length≤sm.length
  | [],_,_,_=>Nat.zero_le _
  | x :: l,sm,nd,h=>by
    obtain ⟨n1,n2⟩:=List.nodup_cons.mp nd
    have hx:=h x List.mem_cons_self
    have ih:=nd_sub l (sm.erase x) n2 fun y hy=>(List.mem_erase_of_ne (fun e=>n1 (by rw [← e]; exact hy))).mpr (h y (List.mem_cons_of_mem _ hy))
    rw [List.length_erase_of_mem hx] at ih
    have:=List.length_pos_of_mem hx
    show l.length + 1≤_
    omega
theorem fnd_len {cs:List (List Nat)} {sm wi:List Nat} (nd:wi.Nodup) (s:Nat):(fnd cs sm wi s).length≤wi.length:=nd_sub _ _ (fnd_nd nd s) fun x hx=>by
  obtain ⟨t,_,z⟩:=mem_fnd.mp hx
  exact rim_in z
theorem rim_end {cs:List (List Nat)} {sm wi:List Nat} {s:Nat} (h:rim cs sm wi s=[]):∀ t,rim cs sm wi (s + t)=[]
  | 0=>h
  | t + 1=>by
    have ih:=rim_end h t
    refine List.eq_nil_iff_forall_not_mem.mpr fun k hk=>?_
    obtain ⟨_,_,e,_,he⟩:=mem_rim.mp hk
    have he:e∈rim cs sm wi (s + t):=he
    rw [ih] at he
    cases he
theorem rim_many {cs:List (List Nat)} {sm wi:List Nat} {k s:Nat} (h:k∈rim cs sm wi s):∀ t,t≤s→t≤(fnd cs sm wi t).length
  | 0,_=>Nat.zero_le _
  | t + 1,ht=>by
    have ih:=rim_many h t (by omega)
    have:rim cs sm wi t≠[]:=fun z=>by
      have:=rim_end z (s - t)
      rw [show t + (s - t)=s by omega] at this
      rw [this] at h
      cases h
    have:=List.length_pos_iff.mpr this
    rw [fnd_succ,List.length_append]
    omega
theorem rim_lt {cs:List (List Nat)} {sm wi:List Nat} (nd:wi.Nodup) {k s:Nat} (h:k∈rim cs sm wi s):s < wi.length:=by
  have h1:=rim_many h s (Nat.le_refl _)
  have h2:=fnd_len (cs:=cs) (sm:=sm) nd (s + 1)
  rw [fnd_succ,List.length_append] at h2
  have:=List.length_pos_of_mem h
  omega
structure DG (cs:List (List Nat)) (sm wi:List Nat) (m:DTab):Prop where
  i:∀ {k t:Nat},k∈rim cs sm wi t→dGet m (k:Int)=some (.int (t:Nat))
  o:∀ {k:Nat},(∀ t,k∉rim cs sm wi t)→dGet m (k:Int)=none
structure DS (cs:List (List Nat)) (sm wi:List Nat) (s:Nat) (m:DTab):Prop where
  i:∀ {k t:Nat},t < s→k∈rim cs sm wi t→dGet m (k:Int)=some (.int (t:Nat))
  o:∀ {k:Nat},k∉fnd cs sm wi s→dGet m (k:Int)=none
  l:m.length≤(fnd cs sm wi s).length
theorem DS.has {cs:List (List Nat)} {sm wi:List Nat} {s:Nat} {m:DTab} (h:DS cs sm wi s m) (k:Nat):(dGet m (k:Int)).isSome=decide (k∈fnd cs sm wi s):=by
  by_cases c:k∈fnd cs sm wi s
  · obtain ⟨t,ht,z⟩:=mem_fnd.mp c
    rw [h.i ht z,decide_eq_true c]
    rfl
  · rw [h.o c,decide_eq_false c]
    rfl
theorem DS.end {cs:List (List Nat)} {sm wi:List Nat} {s:Nat} {m:DTab} (h:DS cs sm wi s m) (e:rim cs sm wi s=[]):DG cs sm wi m:=by
  refine ⟨fun {k t} z=>?_,fun {k} z=>h.o fun y=>?_⟩
  · by_cases c:t < s
    · exact h.i c z
    · have:=rim_end e (t - s)
      rw [show s + (t - s)=t by omega] at this
      rw [this] at z
      cases z
  · obtain ⟨t,_,w⟩:=mem_fnd.mp y
    exact z t w
def pre_steps_down (ds:List PyData) (G:DTab→Prop):Prop:=∃ (cs:List (List Nat)) (sm wi:List Nat),ds=[nls cs,nl sm,nl wi]∧cs.length≤12∧wi.Nodup∧wi.length≤12∧G=DG cs sm wi
theorem len_steps_down (ds:List PyData) (G:DTab→Prop) (h:pre_steps_down ds G):ds.length=3:=by obtain ⟨a,b,c,rfl,_⟩:=h; rfl
theorem sc_steps_down:FnScope ["causes", "some", "within", "found", "rim", "steps", "k"] ["causes", "some", "within"] (defScope (top 3)):=⟨rfl,rfl,rfl,by decide +kernel,rfl,by decide +kernel,by decide +kernel⟩
theorem ok_steps_down (F:Fun K "steps_down" "steps_down" (top 3) f fd) (B:Bs mg) (c_meet:Callee P w K mg base CX0 "meet" ["some", "others"] 1 (spD K true pre_meet)) (c_effects:Callee P w K mg base CX0 "effects" ["causes", "k"] 1 (spD K true pre_effects)):FnOk P w K mg base CX0 2 f fd ["causes", "some", "within"] (spDW K pre_steps_down):=by
  have sc:=sc_steps_down
  refine F.ok sc (fun vs H Q E h=>spDW_len len_steps_down h) (fun cdv A outer s H vs Q E hr h=>?_)
  obtain ⟨Fh,ds,G,le,dp,p,q⟩:=h
  refine ⟨_,(pss_cons (ps_set (i:=3) sc.nd rfl (Or.inr rfl) pe_dnewK)
      (pss_cons (ps_set (i:=4) sc.nd rfl (Or.inr rfl) (pe_comp rfl (N:=["k", "some"]) (js:=[none,some 1]) (by walk_at "comp_ok") (pi_listK (K:=K) rfl (pv 2)) (fun _ _ _ _=>(pg_name (i:=0) (show List.Nodup (["k", "some"]:List PySem.Str) by decide +kernel) rfl (Or.inl rfl))) (fun _ _ _ _=>(pif_one (pt_cmpR (op_in_seqK (K:=K) rfl) (pv 0) (pv 1) (rfl)))) (fun _ _ _ _=>(pv 0))))
      (pss_cons (ps_set (i:=5) sc.nd rfl (Or.inl rfl) pe_int)
      (pss_cons (ps_while PassesOwn.never (pt_cmpR op_gt (pe_callB (call_len_seqK (K:=K) rfl) rfl B.len (by decide +kernel) (pa_cons (pv 4) pa_nil)) pe_int (nomark _)) (pss_cons (ps_for PassesOwn.never rfl (pi_listK (K:=K) rfl (pv 4)) (pg_name (i:=6) sc.nd rfl (Or.inl rfl)) (pss_one (ps_dput (hu_of hr) (pv 3) (pv 6) (pv 5) rfl)))
      (pss_cons (ps_set (i:=4) sc.nd rfl (Or.inr rfl) (pe_comp rfl (N:=["k", "found", "rim", "causes"]) (js:=[none,some 3,some 4,some 0]) (by walk_at "comp_ok") (pi_listK (K:=K) rfl (pv 2)) (fun _ _ _ _=>(pg_name (i:=0) (show List.Nodup (["k", "found", "rim", "causes"]:List PySem.Str) by decide +kernel) rfl (Or.inl rfl))) (fun _ _ _ _=>(pif_one (PW.pt (pw_and (pt_cmp (pc_dnotin (hu_of hr) (pv 0) (pv 1))) (pw_and1 (pt_val (pe_fn c_meet (hr.mono (by decide)) rfl pass0 (pa_cons (pe_fn c_effects (hr.mono (by decide)) rfl pass0 (pa_cons (pv 3) (pa_cons (pv 0) pa_nil))) (pa_cons (pv 2) pa_nil))))))))) (fun _ _ _ _=>(pv 0))))
      (pss_one (ps_set (i:=5) sc.nd rfl (Or.inl rfl) (pe_op op_add (pv 5) pe_int))))))
      (pss_one (ps_ret (pv 3))))))),?_⟩
  have hN:(["causes", "some", "within", "found", "rim", "steps", "k"]:List Str).length=7:=rfl
  obtain ⟨cs,sm,wi,rfl,cl,nd,wl,rfl⟩:=p
  have big:=line_big
  have el:∀ k,(effF cs k).length≤12:=fun k=>by
    have:=List.length_filter_le (fun o=>decide (k∈cs.getD o [])) (List.range cs.length)
    rw [List.length_range] at this
    unfold effF
    omega
  have rl:∀ s,(rim cs sm wi s).length≤12:=fun s=>Nat.le_trans (nd_sub _ wi (rim_nd nd s) fun x hx=>rim_in hx) wl
  refine run_m (G:=TellsDW K (DG cs sm wi)) le dp q hN (by walk_at "st") ?_
  refine exm_seq (·=[some (.fz false (nls cs)),some (.fz false (nl sm)),some (.fz false (nl wi)),some (.od (.dK [])),none,none,none]) ?_ ?_
  · exact exd_new (u:=tNext) (by walk_at "sc") (ex_next rfl)
  rintro Γ1 rfl
  refine exm_seq (·=[some (.fz false (nls cs)),some (.fz false (nl sm)),some (.fz false (nl wi)),some (.od (.dK [])),some (.fz true (nl (rim cs sm wi 0))),none,none]) (exs1 true (d:=nl (rim cs sm wi 0)) (EvO.toE (evo_eachIf (κ:=true) (is:=[0]) (xs:=wi) false (fun k:Nat=>.int (k:Int)) (fun k:Nat=>.int (k:Int)) (fun k=>decide (k∈sm)) (fun x _ y _ h=>by cases nl_inj h; exact ⟨rfl,rfl⟩) (ei_list (by walk_at "ev")) (by walk_at "cc") rfl (by decide) (by omega) ?_)) (by walk_at "sc") rfl) ?_
  · intro k hk
    exact egn (by walk_at "sc") ⟨EvT.eq (et_test (ev_inI (neg:=false) (i:=(k:Int)) (ns:=zl sm) (by walk_at "ev") (EvE.toL (EvE.eq (κ:=false) (by walk_at "ev") (nl_zl _))))) mem_zl,fun _=>by walk_at "ev"⟩
  rintro Γ1 rfl
  refine exm_seq (·=[some (.fz false (nls cs)),some (.fz false (nl sm)),some (.fz false (nl wi)),some (.od (.dK [])),some (.fz true (nl (rim cs sm wi 0))),some (.fz true (.int 0)),none]) (exs1 true (by walk_at "ev") (by walk_at "sc") rfl) ?_
  rintro Γ1 rfl
  refine exm_seq (fun Γ=>∃ m x y z,DG cs sm wi m∧Γ=[some (.fz false (nls cs)),some (.fz false (nl sm)),some (.fz false (nl wi)),some (.od (.dK m)),x,y,z]) (ex_while (fun q Γ=>∃ (s:Nat) (m:DTab) (x:Option DV),DS cs sm wi s m∧q=wi.length - (fnd cs sm wi s).length∧Γ=[some (.fz false (nls cs)),some (.fz false (nl sm)),some (.fz false (nl wi)),some (.od (.dK m)),some (.fz true (nl (rim cs sm wi s))),some (.fz true (.int (s:Nat))),x]) _ ⟨0,[],none,⟨fun z=>absurd z (Nat.not_lt_zero _),fun _=>dGet_nil _,Nat.le_refl _⟩,rfl,rfl⟩ ?_) ?_
  · rintro q Γ' ⟨s,m,x,dsm,rfl,rfl⟩
    have fl:=fnd_len (cs:=cs) (sm:=sm) nd s
    have fl1:=fnd_len (cs:=cs) (sm:=sm) nd (s + 1)
    have fe:(fnd cs sm wi (s + 1)).length=(fnd cs sm wi s).length + (rim cs sm wi s).length:=by rw [fnd_succ,List.length_append]
    have rls:=rl s
    have ml:=dsm.l
    refine ⟨decide (0 < ((rim cs sm wi s).length:Int)),EvT.eq (et_test (ev_gt (i:=((rim cs sm wi s).length:Int)) (j:=0) (EvE.eq (ev_len (ds:=(rim cs sm wi s).map fun k:Nat=>.int (k:Int)) (by walk_at "ev")) (by rw [List.length_map])) (by walk_at "ev"))) rfl,fun h=>?_,fun h=>?_⟩
    · have h':0 < ((rim cs sm wi s).length:Int):=by simpa using h
      refine exfor (ds:=(rim cs sm wi s).map fun k:Nat=>.int (k:Int)) true (fun i Γ=>∃ (m':DTab) (x:Option DV),(∀ k:Nat,dGet m' (k:Int)=if k∈(rim cs sm wi s).take i then some (.int (s:Nat)) else dGet m (k:Int))∧m'.length≤m.length + i∧Γ=[some (.fz false (nls cs)),some (.fz false (nl sm)),some (.fz false (nl wi)),some (.od (.dK m')),some (.fz true (nl (rim cs sm wi s))),some (.fz true (.int (s:Nat))),x]) (ei_list (by walk_at "ev")) ⟨m,_,fun k=>rfl,Nat.le_refl _,rfl⟩ ?_ ?_
      · rintro i d Γ' hd ⟨m',x,hm,hl,rfl⟩
        obtain ⟨k,hk,rfl⟩:=get_map hd
        have il:i < (rim cs sm wi s).length:=(List.getElem?_eq_some_iff.mp hk).1
        have pl:=dPut_len m' (k:Int) (.int (s:Nat))
        refine ⟨_,egn (by walk_at "sc") ?_⟩
        refine exd_put (d:=.int (s:Nat)) (w:=.int (s:Nat)) (k:=(k:Int)) (by walk_at "gc") (by walk_at "ev") (by walk_at "ev") rfl (by omega) (by walk_at "sc") ⟨_,_,fun j=>?_,by omega,rfl⟩
        rw [dGet_put,take_succ hk]
        by_cases c:j=k
        · subst c
          rw [if_pos rfl,if_pos (List.mem_append_right _ (List.mem_singleton.mpr rfl))]
        · rw [if_neg (by omega),hm j]
          have:j∈(rim cs sm wi s).take i ++ [k]↔j∈(rim cs sm wi s).take i:=by rw [List.mem_append,List.mem_singleton]; exact ⟨fun z=>z.elim id fun y=>absurd y c,.inl⟩
          by_cases d:j∈(rim cs sm wi s).take i
          · rw [if_pos d,if_pos (this.mpr d)]
          · rw [if_neg d,if_neg (fun z=>d (this.mp z))]
      rintro Γ' ⟨m',x,hm,hl,rfl⟩
      rw [List.length_map] at hl
      rw [List.length_map,List.take_length] at hm
      have ds':DS cs sm wi (s + 1) m':=⟨fun {k t} ht z=>by
        rw [hm k]
        by_cases c:t=s
        · subst c
          rw [if_pos z]
        · rw [if_neg fun y=>c (rim_one z y),dsm.i (by omega) z],fun {k} z=>by
        rw [fnd_succ] at z
        rw [hm k,if_neg fun y=>z (List.mem_append_right _ y),dsm.o fun y=>z (List.mem_append_left _ y)],by rw [fe]; omega⟩
      refine exs true (d:=nl (rim cs sm wi (s + 1))) (EvO.toE (evo_eachIf (κ:=true) (is:=[0]) (xs:=wi) false (fun k:Nat=>.int (k:Int)) (fun k:Nat=>.int (k:Int)) (fun k=>!decide (k∈fnd cs sm wi (s + 1)) && (effF cs k).any fun e=>decide (e∈rim cs sm wi s)) (fun x _ y _ h=>by cases nl_inj h; exact ⟨rfl,rfl⟩) (ei_list (by walk_at "ev")) (by walk_at "cc") rfl (by decide) (by omega) ?_)) (by walk_at "sc") ?_
      · intro k hk
        have elk:=el k
        exact egn (by walk_at "sc") ⟨et_and (EvT.eq (et_B (ev_dnotin (k:=(k:Int)) (by walk_at "gc") (by walk_at "ev"))) (by rw [ds'.has k])) fun _=>et_B (ev_callF (ea_cons (ev_callF (by walk_at "ev") ⟨cs,k,rfl,by omega,rfl⟩) (ea_cons (by walk_at "ev") ea_nil)) ⟨effF cs k,rim cs sm wi s,rfl,by omega,rfl⟩),fun _=>by walk_at "ev"⟩
      refine exs1 true (d:=.int ((s + 1:Nat):Int)) (EvE.eq (by walk_at "ev") (congrArg PyData.int (by omega))) (by walk_at "sc") ⟨_,?_,s + 1,m',_,ds',rfl,rfl⟩
      omega
    · have h':¬ 0 < ((rim cs sm wi s).length:Int):=by simpa using h
      exact ⟨m,_,_,_,dsm.end (List.length_eq_zero_iff.mp (by omega)),rfl⟩
  rintro Γ1 ⟨m,x,y,z,dg,rfl⟩
  exact exm_retDW (by walk_at "gc") dg
def nrF (cs:List (List Nat)) (sm wi:List Nat) (t k:Nat):Nat:=((effF cs k).filter fun e=>decide (e∈rim cs sm wi t)).getD 0 0
theorem nr_in {cs:List (List Nat)} {sm wi:List Nat} {t k:Nat} (h:k∈rim cs sm wi (t + 1)):((effF cs k).filter fun e=>decide (e∈rim cs sm wi t))[0]?=some (nrF cs sm wi t k)∧nrF cs sm wi t k∈rim cs sm wi t:=by
  obtain ⟨_,_,e,h1,h2⟩:=mem_rim.mp h
  have hm:e∈(effF cs k).filter fun e=>decide (e∈rim cs sm wi t):=List.mem_filter.mpr ⟨h1,decide_eq_true h2⟩
  have g:=getD_some (d:=0) (List.length_pos_of_mem hm)
  exact ⟨g,of_decide_eq_true (List.mem_filter.mp (List.mem_of_getElem? g)).2⟩
def pre_nearer (xs:List DV) (d:PyData):Prop:=∃ (cs:List (List Nat)) (sm wi:List Nat) (m:DTab) (t k:Nat),xs=[.fz false (nls cs),.xn (dkO m),.fz false (.int k)]∧cs.length≤12∧DG cs sm wi m∧k∈rim cs sm wi (t + 1)∧d=.int (nrF cs sm wi t k:Nat)
theorem len_nearer (xs:List DV) (d:PyData) (h:pre_nearer xs d):xs.length=3:=by obtain ⟨a,b,c,e,f,g,rfl,_⟩:=h; rfl
theorem sc_nearer:FnScope ["causes", "steps", "k"] ["causes", "steps", "k"] (defScope (top 4)):=⟨rfl,rfl,rfl,by decide +kernel,rfl,by decide +kernel,by decide +kernel⟩
theorem ok_nearer (F:Fun K "nearer" "nearer" (top 4) f fd) (B:Bs mg) (c_effects:Callee P w K mg base CX0 "effects" ["causes", "k"] 1 (spD K true pre_effects)):FnOk P w K mg base CX0 2 f fd ["causes", "steps", "k"] (spV K true pre_nearer):=by
  have sc:=sc_nearer
  refine F.ok sc (fun vs H Q E h=>spV_len len_nearer h) (fun cdv A outer s H vs Q E hr h=>?_)
  obtain ⟨Fh,xs,d,le,dp,p,q⟩:=h
  refine ⟨_,(pss_one (ps_ret (pe_ix (ix_listK (K:=K) rfl) (pe_comp rfl (N:=["other", "steps", "k"]) (js:=[none,some 1,some 2]) (by walk_at "comp_ok") (pi_listK (K:=K) rfl (pe_fn c_effects (hr.mono (by decide)) rfl pass0 (pa_cons (pv 0) (pa_cons (pv 2) pa_nil)))) (fun _ _ _ _=>(pg_name (i:=0) (show List.Nodup (["other", "steps", "k"]:List PySem.Str) by decide +kernel) rfl (Or.inl rfl))) (fun _ _ _ _=>(pif_one (pt_cmpR (op_eqDK (K:=K) rfl hr.units) (pe_dget1 (hu_of hr) (pv 1) (pv 0) ⟨rfl,rfl,rfl,rfl⟩) (pe_op op_sub (pe_dget (hu_of hr) (pv 1) (pv 2) (fun _ _=>rfl)) pe_int) (nomark _)))) (fun _ _ _ _=>(pv 0))) pe_int (fun _ _=>rfl)))),?_⟩
  have hN:(["causes", "steps", "k"]:List Str).length=3:=rfl
  obtain ⟨cs,sm,wi,m,t,k,rfl,cl,dg,hk,rfl⟩:=p
  have big:=line_big
  have el:(effF cs k).length≤12:=by
    have:=List.length_filter_le (fun o=>decide (k∈cs.getD o [])) (List.range cs.length)
    rw [List.length_range] at this
    unfold effF
    omega
  have nr:=(nr_in hk).1
  have a0:atI (((effF cs k).filter fun e=>decide (e∈rim cs sm wi t)).map fun k:Nat=>PyData.int (k:Int)) (0:Int)=some (.int (nrF cs sm wi t k:Nat)):=atI_map (i:=0) nr
  walk_at "runv"
  refine ex_ret true (ev_ixL (κ:=true) (EvO.toL (evo_eachIf (κ:=true) (is:=[0]) (xs:=effF cs k) false (fun k:Nat=>.int (k:Int)) (fun k:Nat=>.int (k:Int)) (fun e=>decide (e∈rim cs sm wi t)) (fun x _ y _ h=>by cases nl_inj h; exact ⟨rfl,rfl⟩) (ei_list (ev_callF (by walk_at "ev") ⟨cs,k,rfl,by omega,rfl⟩)) (by walk_at "cc") rfl (by decide) (by omega) ?_)) (by walk_at "ev") a0) rfl (.inl ⟨rfl,rfl⟩)
  intro e he
  have st:EvE K .fresh false (tOp (rI0 fun i j=>.int (i - j)) (tDGet (tVar 1) (tVar 2)) (tC (.int 1))) [some (.fz false (.int e)),some (.xn (dkO m)),some (.fz false (.int k))] (.int (t:Nat)):=EvE.eq (ev_sub (ev_dgetN (d:=.int ((t + 1:Nat):Int)) (by walk_at "gc") (by walk_at "ev") (dg.i hk) rfl) (by walk_at "ev")) (congrArg PyData.int (by omega))
  refine egn (by walk_at "sc") ⟨?_,fun _=>by walk_at "ev"⟩
  by_cases c:∃ s,e∈rim cs sm wi s
  · obtain ⟨s,hs⟩:=c
    refine EvT.eq (et_test (ev_eqD (neg:=false) (d:=.int (s:Nat)) (f:=.int (t:Nat)) (EvE.toD (κ:=false) (ev_dget1N (by walk_at "gc") (by walk_at "ev") (.inr ⟨_,dg.i hs,rfl⟩))) (EvE.toD (κ:=false) st) rfl rfl)) ?_
    show ((s:Int) == (t:Int))=_
    by_cases z:s=t
    · subst z
      rw [decide_eq_true hs]
      simp
    · rw [decide_eq_false fun y=>z (rim_one hs y)]
      exact beq_eq_false_iff_ne.mpr (by omega)
  · have c:∀ s,e∉rim cs sm wi s:=fun s z=>c ⟨s,z⟩
    refine EvT.eq (et_test (ev_eqD (neg:=false) (d:=.none) (f:=.int (t:Nat)) (EvE.toD (κ:=false) (ev_dget1N (by walk_at "gc") (by walk_at "ev") (.inl ⟨dg.o c,rfl⟩))) (EvE.toD (κ:=false) st) rfl rfl)) ?_
    rw [decide_eq_false (c t)]
    rfl
def wyF (cs:List (List Nat)) (sm wi:List Nat):Nat→Nat→List Nat
  | 0,k=>[k]
  | t + 1,k=>k :: wyF cs sm wi t (nrF cs sm wi t k)
theorem wy_len (cs:List (List Nat)) (sm wi:List Nat):∀ t k,(wyF cs sm wi t k).length=t + 1
  | 0,_=>rfl
  | t + 1,_=>congrArg (· + 1) (wy_len cs sm wi t _)
def WdD (cs:List (List Nat)) (sm:List Nat) (k:Nat) (d:PyData):Prop:=(∃ t,k∈rim cs sm (List.range cs.length) t∧d=nl (wyF cs sm (List.range cs.length) t k))∨((∀ t,k∉rim cs sm (List.range cs.length) t)∧d=.none)
def pre_way_down (ds:List PyData) (d:PyData):Prop:=∃ (cs:List (List Nat)) (k:Nat) (sm:List Nat),ds=[nls cs,.int k,nl sm]∧cs.length≤12∧WdD cs sm k d
theorem len_way_down (ds:List PyData) (d:PyData) (h:pre_way_down ds d):ds.length=3:=by obtain ⟨a,b,c,rfl,_⟩:=h; rfl
theorem sc_way_down:FnScope ["causes", "k", "some", "steps", "way"] ["causes", "k", "some"] (defScope (top 5)):=⟨rfl,rfl,rfl,by decide +kernel,rfl,by decide +kernel,by decide +kernel⟩
theorem ok_way_down (F:Fun K "way_down" "way_down" (top 5) f fd) (B:Bs mg) (c_steps_down:Callee P w K mg base CX0 "steps_down" ["causes", "some", "within"] 2 (spDW K pre_steps_down)) (c_nearer:Callee P w K mg base CX0 "nearer" ["causes", "steps", "k"] 2 (spV K true pre_nearer)):FnOk P w K mg base CX0 3 f fd ["causes", "k", "some"] (spD K true pre_way_down):=by
  have sc:=sc_way_down
  refine F.ok sc (fun vs H Q E h=>spD_len len_way_down h) (fun cdv A outer s H vs Q E hr h=>?_)
  obtain ⟨Fh,ds,d,le,dp,p,q⟩:=h
  refine ⟨_,(pss_cons (ps_set (i:=3) sc.nd rfl (Or.inl rfl) (pe_fn c_steps_down (hr.mono (by decide)) rfl pass0 (pa_cons (pv 0) (pa_cons (pv 2) (pa_cons (pe_callTy (call_listRng rfl) rfl B.list (by decide +kernel) (pa_cons (pe_callTy call_rngO rfl B.range (by decide +kernel) (pa_cons (pe_callB (call_len_seqK (K:=K) rfl) rfl B.len (by decide +kernel) (pa_cons (pv 0) pa_nil)) pa_nil)) pa_nil)) pa_nil)))))
      (pss_cons (ps_if (pt_cmp (pc_dnotin (hu_of hr) (pv 1) (pv 3))) (pss_one (ps_ret pe_non)) pss_nil)
      (pss_cons (ps_set (i:=4) sc.nd rfl (Or.inl rfl) (pe_lst (pa_cons (pv 1) pa_nil)))
      (pss_cons (ps_while PassesOwn.never (pt_cmpR op_gt (pe_dget (hu_of hr) (pv 3) (pe_ix (ix_listK (K:=K) rfl) (pv 4) (pe_un un_neg pe_int) (fun _ _=>rfl)) (fun _ _=>rfl)) pe_int (nomark _)) (pss_one (ps_expr (pe_bmK (K:=K) rfl PySem.F.plainAttrs_list PySem.F.slot_list_append PySem.F.type_list_append mt_append (pv 4) (pa_cons (pe_fn c_nearer (hr.mono (by decide)) rfl pass0 (pa_cons (pv 0) (pa_cons (pv 3) (pa_cons (pe_ix (ix_listK (K:=K) rfl) (pv 4) (pe_un un_neg pe_int) (fun _ _=>rfl)) pa_nil)))) pa_nil)))))
      (pss_one (ps_ret (pv 4))))))),?_⟩
  have hN:(["causes", "k", "some", "steps", "way"]:List Str).length=5:=rfl
  obtain ⟨cs,k,sm,rfl,cl,wd⟩:=p
  have big:=line_big
  have el:PyData.int (((cs.map nl).length:Nat):Int)=.int (cs.length:Int):=by rw [List.length_map]
  have nd:(List.range cs.length).Nodup:=List.nodup_range
  walk_at "run"
  refine exd_callF (ea_cons (by walk_at "ev") (ea_cons (by walk_at "ev") (ea_cons (EvO.toE (evo_listRng (EvE.eq (ev_len (ds:=cs.map nl) (by walk_at "ev")) el) (by omega))) ea_nil))) ⟨cs,sm,List.range cs.length,rfl,cl,nd,by rw [List.length_range]; exact cl,rfl⟩ (fun m=>by walk_at "sc") ?_
  intro m dg
  rcases wd with ⟨t,ht,rfl⟩ | ⟨ho,rfl⟩
  · have tl:=rim_lt nd ht
    rw [List.length_range] at tl
    generalize List.range cs.length=wi at dg ht
    refine exifF (b:=!(dGet m (k:Int)).isSome) (et_B (ev_dnotinN (by walk_at "gc") (by walk_at "ev"))) (by rw [dg.i ht]; rfl) ?_
    refine exo true (ds:=[k].map fun k:Nat=>.int (k:Int)) (evo_lst (ds:=[.int (k:Int)]) (ea_cons (by walk_at "ev") ea_nil) (by show 1≤sizeLine; omega)) (by walk_at "sc") ?_
    refine ex_seq (·=[some (.fz false (nls cs)),some (.fz false (.int k)),some (.fz false (nl sm)),some (.xn (dkO m)),some (.ow true ((wyF cs sm wi t k).map fun k:Nat=>.int (k:Int)))]) (ex_while (fun q Γ=>∃ (pr:List Nat) (j:Nat),j∈rim cs sm wi q∧pr ++ wyF cs sm wi q j=wyF cs sm wi t k∧Γ=[some (.fz false (nls cs)),some (.fz false (.int k)),some (.fz false (nl sm)),some (.xn (dkO m)),some (.ow true ((pr ++ [j]).map fun k:Nat=>.int (k:Int)))]) t ⟨[],k,ht,rfl,rfl⟩ ?_) ?_
    · rintro q Γ' ⟨pr,j,hj,he,rfl⟩
      have pl:pr.length + (q + 1)=t + 1:=by
        have:=congrArg List.length he
        rw [List.length_append,wy_len,wy_len] at this
        exact this
      have al:atI ((pr ++ [j]).map fun k:Nat=>PyData.int (k:Int)) (-1)=some (.int (j:Int)):=by
        rw [List.map_append]
        exact atI_last _ _
      refine ⟨decide ((0:Int) < (q:Int)),et_test (ev_gt (ev_dgetN (d:=.int (q:Nat)) (by walk_at "gc") (ev_ixL (κ:=false) (by walk_at "ev") (by walk_at "ev") al) (dg.i hj) rfl) (by walk_at "ev")),fun h=>?_,fun h=>?_⟩
      · obtain ⟨p,rfl⟩:∃ p,q=p + 1:=⟨q - 1,by have:=of_decide_eq_true h; omega⟩
        refine exa1 (d:=.int (nrF cs sm wi p j:Nat)) (by walk_at "gc") (ev_callV (evv_cons (by walk_at "ev") (evv_thg (by walk_at "gc") (evv_cons (ev_ixL (κ:=false) (by walk_at "ev") (by walk_at "ev") al) evv_nil))) ⟨cs,sm,wi,m,p,j,rfl,cl,dg,hj,rfl⟩) (by walk_at "sc") (by rw [List.length_map,List.length_append]; show _ + 1 < _; omega) ⟨p,Nat.lt_succ_self p,pr ++ [j],nrF cs sm wi p j,(nr_in hj).2,?_,by rw [List.map_append (l₁:=pr ++ [j])]; rfl⟩
        rw [List.append_assoc]
        exact he
      · obtain rfl:q=0:=by have:=of_decide_eq_false h; omega
        show _=_
        rw [show pr ++ [j]=wyF cs sm wi t k from he]
    rintro Γ' rfl
    exact exro (by walk_at "gc") rfl (.inl ⟨rfl,rfl⟩)
  · refine exif2 (b:=!(dGet m (k:Int)).isSome) (et_B (ev_dnotinN (by walk_at "gc") (by walk_at "ev"))) (fun _=>?_) (fun h=>?_)
    · exact exrs true (by walk_at "ev") rfl (.inl ⟨rfl,rfl⟩)
    · rw [dg.o ho] at h
      cases h
def pre_law_cell_at (ds:List PyData) (d:PyData):Prop:=∃ (ns:List Int) (k:Nat),ds=[il ns,.int k]∧d=.int (ns.getD k 0)
theorem len_law_cell_at (ds:List PyData) (d:PyData) (h:pre_law_cell_at ds d):ds.length=2:=by obtain ⟨a,b,rfl,_⟩:=h; rfl
theorem at_ints {ns:List Int} {k:Nat} (h:k < ns.length):atI (ns.map PyData.int) (k:Int)=some (.int (ns.getD k 0)):=by
  rw [List.getD_eq_getElem?_getD,List.getElem?_eq_getElem h]
  exact atI_map (List.getElem?_eq_getElem h)
theorem sc_law_cell_at:FnScope ["_law_script", "_law_k"] ["_law_script", "_law_k"] (defScope (top 7)):=⟨rfl,rfl,rfl,by decide +kernel,rfl,by decide +kernel,by decide +kernel⟩
theorem ok_law_cell_at (F:Fun K "_law_cell_at" "_law_cell_at" (top 7) f fd) (B:Bs mg)  : FnOk P w K mg base CX0 1 f fd ["_law_script", "_law_k"] (spD K true pre_law_cell_at):=by
  have sc:=sc_law_cell_at
  refine F.ok sc (fun vs H Q E h=>spD_len len_law_cell_at h) (fun cdv A outer s H vs Q E hr h=>?_)
  obtain ⟨Fh,ds,d,le,dp,p,q⟩:=h
  refine ⟨_,(pss_cons (ps_if (pt_cmpR op_lt (pv 1) (pe_callB (call_len_seqK (K:=K) rfl) rfl B.len (by decide +kernel) (pa_cons (pv 0) pa_nil)) (nomark _)) (pss_one (ps_ret (pe_ix (ix_listK (K:=K) rfl) (pv 0) (pv 1) (fun _ _=>rfl)))) pss_nil)
      (pss_one (ps_ret pe_int))),?_⟩
  have hN:(["_law_script", "_law_k"]:List Str).length=2:=rfl
  obtain ⟨ns,k,rfl,rfl⟩:=p
  walk_at "run"
  refine exif2 (b:=decide ((k:Int) < ns.length)) (EvT.eq (by walk_at "ev") (by rw [List.length_map])) (fun h=>?_) (fun h=>?_)
  · have h':(k:Int) < ns.length:=by simpa using h
    exact exrs true (ev_ixL (by walk_at "ev") (by walk_at "ev") (at_ints (by omega))) rfl (.inl ⟨rfl,rfl⟩)
  · have h':¬ (k:Int) < ns.length:=by simpa using h
    refine exn ?_
    refine ex_ret true (by walk_at "ev") ?_ (.inl ⟨rfl,rfl⟩)
    rw [List.getD_eq_getElem?_getD,List.getElem?_eq_none (by omega)]
    rfl
structure OrdN (n:Nat) (ord:List Nat):Prop where
  l:ord.length=n
  e:∀ x∈ord,x < n
  nd:ord.Nodup
theorem OrdN.at {n:Nat} {ord:List Nat} (h:OrdN n ord) {k:Nat} (hk:k < n):atI (ord.map fun k:Nat=>PyData.int (k:Int)) (k:Int)=some (.int (ord.getD k 0:Nat))∧ord.getD k 0 < n:=by
  have z:ord[k]?=some (ord.getD k 0):=getD_some (by rw [h.l]; exact hk)
  exact ⟨atI_map z,h.e _ (List.mem_of_getElem? z)⟩
theorem OrdN.ne {n:Nat} {ord:List Nat} (h:OrdN n ord) {i j:Nat} (hi:i < n) (hj:j < n) (hij:i≠j):ord.getD i 0≠ord.getD j 0:=by
  have z1:ord[i]?=some (ord.getD i 0):=getD_some (by rw [h.l]; exact hi)
  have z2:ord[j]?=some (ord.getD j 0):=getD_some (by rw [h.l]; exact hj)
  intro e
  rw [← e] at z2
  obtain ⟨a1,b1⟩:=List.getElem?_eq_some_iff.mp z1
  obtain ⟨a2,b2⟩:=List.getElem?_eq_some_iff.mp z2
  exact hij ((List.getElem_inj h.nd).mp (b1.trans b2.symm))
theorem OrdN.fresh {n:Nat} {ord:List Nat} (h:OrdN n ord) {j:Nat} (hj:j < n):ord.getD j 0∉ord.take j:=fun z=>by
  obtain ⟨m,hm,e⟩:=List.mem_iff_getElem.mp z
  rw [List.length_take] at hm
  rw [List.getElem_take] at e
  refine h.ne (i:=m) (by omega) hj (by omega) ?_
  rw [← e,List.getD_eq_getElem?_getD,List.getElem?_eq_getElem (by omega)]
  rfl
def addAt (kin:List (List Nat)) (o x:Nat):List (List Nat):=kin.set o (kin.getD o [] ++ [x])
theorem addAt_D (kin:List (List Nat)) {o x:Nat}:(kin.map kD).set o (kD (kin.getD o []) ++ [.int (x:Int)])=(addAt kin o x).map kD:=by
  unfold addAt
  rw [List.map_set]
  congr 1
  unfold kD
  rw [List.map_append]
  rfl
theorem addAt_ne (kin:List (List Nat)) {o x p:Nat} (h:p≠o):(addAt kin o x).getD p []=kin.getD p []:=by
  unfold addAt
  rw [List.getD_eq_getElem?_getD,List.getD_eq_getElem?_getD (i:=p),List.getElem?_set_ne (Ne.symm h)]
theorem addAt_eq (kin:List (List Nat)) {o x:Nat} (h:o < kin.length):(addAt kin o x).getD o []=kin.getD o [] ++ [x]:=by
  unfold addAt
  rw [List.getD_eq_getElem?_getD,List.getElem?_set_self h]
  rfl
structure CN (n:Nat) (css:List (List Nat)):Prop where
  l:css.length=n
  e:∀ r∈css,(∀ x∈r,x < n)∧r.length≤5∧r.Nodup
theorem CN.at {n:Nat} {css:List (List Nat)} (h:CN n css) {o:Nat} (ho:o < n):(css.map kD)[o]?=some (kD (css.getD o []))∧ixN (css.map kD).length (o:Int)=some o∧(css.getD o []).length≤5∧(css.getD o []).Nodup∧∀ x∈css.getD o [],x < n:=by
  have z:css[o]?=some (css.getD o []):=getD_some (by rw [h.l]; exact ho)
  have g:=h.e _ (List.mem_of_getElem? z)
  exact ⟨by rw [List.getElem?_map,z]; rfl,ixN_nat (by rw [List.length_map,h.l]; exact ho),g.2.1,g.2.2,g.1⟩
theorem CN.add {n:Nat} {css:List (List Nat)} (h:CN n css) {o x:Nat} (ho:o < n) (hx:x < n) (hl:(css.getD o []).length < 5) (hn:x∉css.getD o []):CN n (addAt css o x):=by
  have g:=h.at ho
  unfold addAt
  refine ⟨by rw [List.length_set]; exact h.l,fun r hr=>?_⟩
  rcases List.mem_or_eq_of_mem_set hr with hr | hr
  · exact h.e r hr
  · rw [hr]
    refine ⟨fun y hy=>?_,by rw [List.length_append]; exact hl,?_⟩
    · rcases List.mem_append.mp hy with hy | hy
      · exact g.2.2.2.2 y hy
      · rw [List.mem_singleton.mp hy]; exact hx
    · rw [List.nodup_append]
      refine ⟨g.2.2.2.1,by simp,fun a ha b hb=>?_⟩
      rw [List.mem_singleton.mp hb]
      rintro rfl
      exact hn ha
theorem CN.sort {n:Nat} {css:List (List Nat)} (h:CN n css):ShR n (css.map srtN):=by
  refine ⟨by rw [List.length_map]; exact h.l,fun r hr=>?_⟩
  obtain ⟨q,hq,rfl⟩:=List.mem_map.mp hr
  have:=h.e q hq
  exact ⟨fun x hx=>this.1 x ((srtN_perm q).mem_iff.mp hx),by rw [(srtN_perm q).length_eq]; exact this.2.1,srtN_rise this.2.2⟩
theorem CN.nil (n:Nat):CN n (List.replicate n []):=⟨List.length_replicate ..,fun r hr=>by
  have:r=[]:=List.eq_of_mem_replicate hr
  subst this
  exact ⟨(fun c hc=>by cases hc),Nat.zero_le _,List.nodup_nil⟩⟩
theorem rep_D (n:Nat):List.replicate n ([]:List PyData)=(List.replicate n ([]:List Nat)).map kD:=by
  rw [List.map_replicate]
  rfl
theorem getD_rep (n o:Nat):(List.replicate n ([]:List Nat)).getD o []=[]:=by
  rw [List.getD_eq_getElem?_getD,List.getElem?_replicate]
  split <;> rfl
def pre_law_shape (ds:List PyData) (G:PyData→Prop):Prop:=∃ (ns:List Int) (f n:Nat),ds=[il ns,.int f,.int n]∧n≤12∧G=fun d=>∃ cs,ShR n cs∧d=nls cs
theorem len_law_shape (ds:List PyData) (G:PyData→Prop) (h:pre_law_shape ds G):ds.length=3:=by obtain ⟨a,b,c,rfl,_⟩:=h; rfl
theorem sc_law_shape:FnScope ["_law_script", "_law_first", "_law_many", "_law_order", "_law_k", "_law_causes", "_law_at", "_law_number", "_law_dense", "_law_c"] ["_law_script", "_law_first", "_law_many"] (defScope (top 8)):=⟨rfl,rfl,rfl,by decide +kernel,rfl,by decide +kernel,by decide +kernel⟩
theorem ok_law_shape (F:Fun K "_law_shape" "_law_shape" (top 8) f fd) (B:Bs mg) (c_law_cell_at:Callee P w K mg base CX0 "_law_cell_at" ["_law_script", "_law_k"] 1 (spD K true pre_law_cell_at)):FnOk P w K mg base CX0 2 f fd ["_law_script", "_law_first", "_law_many"] (spW K true pre_law_shape):=by
  have sc:=sc_law_shape
  refine F.ok sc (fun vs H Q E h=>spW_len len_law_shape h) (fun cdv A outer s H vs Q E hr h=>?_)
  obtain ⟨Fh,ds,G,le,dp,p,q⟩:=h
  refine ⟨_,(pss_cons (ps_set (i:=3) sc.nd rfl (Or.inl rfl) (pe_lst pa_nil))
      (pss_cons (ps_for PassesOwn.never rfl (pi_range1 rfl B.range (pa_cons (pv 2) pa_nil)) (pg_name (i:=4) sc.nd rfl (Or.inl rfl)) (pss_one (ps_expr (pe_bmK (K:=K) rfl PySem.F.plainAttrs_list PySem.F.slot_list_insert PySem.F.type_list_insert mt_insert (pv 3) (pa_cons (pe_op op_mod (pe_fn c_law_cell_at (hr.mono (by decide)) rfl pass0 (pa_cons (pv 0) (pa_cons (pe_op op_add (pv 1) (pv 4)) pa_nil))) (pe_op op_add (pv 4) pe_int)) (pa_cons (pv 4) pa_nil))))))
      (pss_cons (ps_setComp (i:=5) rfl sc.nd rfl rfl (N:=["_law_k"]) (js:=[none]) (by walk_at "comp_ok") (pi_range1 rfl B.range (pa_cons (pv 2) pa_nil)) (fun _ _ _ _=>(pg_name (i:=0) (show List.Nodup (["_law_k"]:List PySem.Str) by decide +kernel) rfl (Or.inl rfl))) (fun _ _ _ _=>pif_nil) (fun _ _ _ _=>(pe_lst pa_nil)))
      (pss_cons (ps_for PassesOwn.never rfl (pi_range1 rfl B.range (pa_cons (pv 2) pa_nil)) (pg_name (i:=6) sc.nd rfl (Or.inl rfl)) (pss_cons (ps_set (i:=7) sc.nd rfl (Or.inl rfl) (pe_op op_mod (pe_op op_add (pe_op op_mulB (pe_fn c_law_cell_at (hr.mono (by decide)) rfl pass0 (pa_cons (pv 0) (pa_cons (pe_op op_add (pv 1) (pe_ix (ix_listK (K:=K) rfl) (pv 3) (pv 6) (fun _ _=>rfl))) pa_nil))) pe_int) (pe_op op_mulB pe_int (pe_op op_add (pv 6) pe_int))) pe_int))
      (pss_cons (ps_set (i:=8) sc.nd rfl (Or.inl rfl) (pe_op op_add pe_int (pe_op op_mod (pv 7) pe_int)))
      (pss_one (ps_for PassesOwn.never rfl (pi_listK (K:=K) rfl (pe_slice (sl_listK (K:=K) rfl) (pv 3) po_none (po_some (pv 6)))) (pg_name (i:=9) sc.nd rfl (Or.inl rfl)) (pss_cons (ps_set (i:=7) sc.nd rfl (Or.inl rfl) (pe_op op_mod (pe_op op_add (pe_op op_mulB (pv 7) pe_int) pe_int) pe_int))
      (pss_one (ps_if (PW.pt (pw_and (pt_cmpR op_lt (pe_op op_mod (pe_op op_fdiv (pv 7) pe_int) pe_int) (pv 8) (nomark _)) (pw_and1 (pt_cmpR op_lt (pe_callB (call_len_seqK (K:=K) rfl) rfl B.len (by decide +kernel) (pa_cons (pe_ix (ix_listK (K:=K) rfl) (pv 5) (pe_ix (ix_listK (K:=K) rfl) (pv 3) (pv 6) (fun _ _=>rfl)) (fun _ _=>rfl)) pa_nil)) pe_int (nomark _))))) (pss_one (ps_expr (pe_bmK (K:=K) rfl PySem.F.plainAttrs_list PySem.F.slot_list_append PySem.F.type_list_append mt_append (pe_ix (ix_listK (K:=K) rfl) (pv 5) (pe_ix (ix_listK (K:=K) rfl) (pv 3) (pv 6) (fun _ _=>rfl)) (fun _ _=>rfl)) (pa_cons (pv 9) pa_nil)))) pss_nil))))))))
      (pss_one (ps_ret (pe_comp rfl (N:=["_law_row"]) (js:=[none]) (by walk_at "comp_ok") (pi_listK (K:=K) rfl (pv 5)) (fun _ _ _ _=>(pg_name (i:=0) (show List.Nodup (["_law_row"]:List PySem.Str) by decide +kernel) rfl (Or.inl rfl))) (fun _ _ _ _=>pif_nil) (fun _ _ _ _=>(pe_callB (call_sortedK (K:=K) rfl) rfl B.sorted (by decide +kernel) (pa_cons (pv 0) pa_nil)))))))))),?_⟩
  have hN:(["_law_script", "_law_first", "_law_many", "_law_order", "_law_k", "_law_causes", "_law_at", "_law_number", "_law_dense", "_law_c"]:List Str).length=10:=rfl
  obtain ⟨ns,f,n,rfl,hn,rfl⟩:=p
  have big:=line_big
  refine run_defW le dp q hN (by walk_at "st") ?_
  refine exo true (evo_lst (ds:=[]) ea_nil (by decide)) (by walk_at "sc") ?_
  refine exfor (ds:=(List.range n).map fun i:Nat=>.int (i:Int)) true (fun i Γ=>∃ (ord:List Nat) (x:Option DV),OrdN i ord∧Γ=[some (.fz false (il ns)),some (.fz false (.int f)),some (.fz false (.int n)),some (.ow true (ord.map fun k:Nat=>.int (k:Int))),x,none,none,none,none,none]) (ei_rng1 (n:=(n:Int)) (by walk_at "ev") (by omega) (by omega)) ⟨[],none,⟨rfl,(fun x hx=>by cases hx),List.nodup_nil⟩,rfl⟩ ?_ ?_
  · rintro i d Γ' hd ⟨ord,x,ok,rfl⟩
    obtain ⟨hi,rfl⟩:=range_get hd
    have ol:=ok.l
    refine ⟨_,egn (by walk_at "sc") ?_⟩
    generalize hv:ns.getD (f + i) 0 % ((i:Int) + 1)=v
    have v0:0≤v:=by rw [← hv]; exact Int.emod_nonneg _ (by omega)
    have v1:v < (i:Int) + 1:=by rw [← hv]; exact Int.emod_lt_of_pos _ (by omega)
    refine exin (m:=v) (d:=.int i) (by walk_at "gc") (EvE.eq (ev_mod (j:=(i:Int) + 1) (ev_callF (by walk_at "ev") ⟨ns,f + i,by rw [Int.natCast_add],rfl⟩) (by walk_at "ev") (by omega)) (congrArg PyData.int hv)) (by walk_at "ev") v0 (by rw [List.length_map]; omega) (by rw [List.length_map]; omega) (by walk_at "sc") ?_
    have hni:i∉ord:=fun z=>by have:=ok.e i z; omega
    have pm:(ord.take v.toNat ++ i :: ord.drop v.toNat).Perm (i :: ord):=by
      refine List.perm_middle.trans ?_
      rw [List.take_append_drop]
    refine ⟨ord.take v.toNat ++ i :: ord.drop v.toNat,some (.fz true (.int i)),⟨by rw [pm.length_eq,List.length_cons,ol],fun y hy=>?_,pm.nodup_iff.mpr (List.nodup_cons.mpr ⟨hni,ok.nd⟩)⟩,?_⟩
    · rcases List.mem_cons.mp (pm.mem_iff.mp hy) with h | h
      · omega
      · have:=ok.e y h; omega
    · rw [List.map_append,List.map_cons,List.map_take,List.map_drop]
  rintro Γ' ⟨ord,x,ook,rfl⟩
  rw [range_len] at ook
  refine exfz 3 (by walk_at "gc") (by walk_at "sc") ?_
  rw [show PyData.list (ord.map fun k:Nat=>.int (k:Int))=nl ord from rfl]
  refine exo2 (ds:=(List.range n).map fun i:Nat=>.int (i:Int)) (κ':=true) (ei_rng1 (n:=(n:Int)) (by walk_at "ev") (by omega) (by omega)) (by rw [range_len]; omega) (by walk_at "sc") ?_
  rw [range_len,rep_D]
  refine exfor (ds:=(List.range n).map fun i:Nat=>.int (i:Int)) true (fun i Γ=>∃ (css:List (List Nat)) (x1 x2 x3 x4:Option DV),CN n css∧(∀ m,i≤m→m < n→css.getD (ord.getD m 0) []=[])∧Γ=[some (.fz false (il ns)),some (.fz false (.int f)),some (.fz false (.int n)),some (.fz true (nl ord)),x,some (.o2 none (css.map kD)),x1,x2,x3,x4]) (ei_rng1 (n:=(n:Int)) (by walk_at "ev") (by omega) (by omega)) ⟨_,none,none,none,none,.nil n,fun m _ _=>getD_rep n _,rfl⟩ ?_ ?_
  · rintro i d Γ' hd ⟨css,x1,x2,x3,x4,co,cz,rfl⟩
    obtain ⟨hi,rfl⟩:=range_get hd
    refine ⟨_,egn (by walk_at "sc") ?_⟩
    have O:=ook.at hi
    have oE:∀ {κ:Bool} {Γ0:PD.Ctx},GetC Γ0 3 (.fz true (nl ord))→GetC Γ0 6 (.fz true (.int i))→EvE K .fresh κ (tOp (rIxL K) (tVar 3) (tVar 6)) Γ0 (.int (ord.getD i 0:Nat)):=fun g1 g2=>EvE.imm (κ:=false) (ev_ixL (EvE.toL (evv g1 (by decide))) (evv g2 (by decide)) O.1) rfl
    have m2:IntMulOk (ns.getD (f + ord.getD i 0) 0) 48271:=small_mul (by decide) (by decide)
    have m3:IntMulOk 15485863 ((i:Int) + 1):=small_mul (by omega) (by omega)
    generalize hnum:(ns.getD (f + ord.getD i 0) 0 * 48271 + 15485863 * ((i:Int) + 1)) % 2147483647=num
    refine exs true (d:=.int num) (EvE.eq (ev_mod (ev_add (ev_mul (ev_callF (ea_cons (by walk_at "ev") (ea_cons (ev_add (by walk_at "ev") (oE (by walk_at "gc") (by walk_at "gc"))) ea_nil)) ⟨ns,f + ord.getD i 0,by rw [Int.natCast_add],rfl⟩) (by walk_at "ev") m2) (ev_mul (by walk_at "ev") (by walk_at "ev") m3)) (by walk_at "ev") (by decide)) (congrArg PyData.int hnum)) (by walk_at "sc") ?_
    generalize hden:1 + num % 4=den
    refine exs true (d:=.int den) (EvE.eq (by walk_at "ev") (congrArg PyData.int hden)) (by walk_at "sc") ?_
    have ecut:cutD (ord.map fun k:Nat=>PyData.int (k:Int)) none (some (i:Int))=(ord.take i).map fun k:Nat=>PyData.int (k:Int):=cut_map _ ord i
    clear hnum hden m2
    refine ex_for (ds:=(ord.take i).map fun k:Nat=>.int (k:Int)) true (fun j Γ=>∃ (css:List (List Nat)) (num:Int) (x4:Option DV),CN n css∧(∀ m,i < m→m < n→css.getD (ord.getD m 0) []=[])∧(∀ x∈css.getD (ord.getD i 0) [],x∈ord.take j)∧Γ=[some (.fz false (il ns)),some (.fz false (.int f)),some (.fz false (.int n)),some (.fz true (nl ord)),x,some (.o2 none (css.map kD)),some (.fz true (.int i)),some (.fz true (.int num)),some (.fz true (.int den)),x4]) (ei_list (EvO.toE (EvO.eq (evo_slice (EvE.toL (by walk_at "ev")) (by walk_at "ev") (by walk_at "ev")) ecut))) ⟨css,num,x4,co,fun m h1 h2=>cz m (by omega) h2,by rw [cz i (Nat.le_refl _) hi]; exact fun x h=>(nomatch h),rfl⟩ ?_ ?_
    · clear co cz css num x4
      rintro j d Γ' hd ⟨css,num,x4,co,cz,cs,rfl⟩
      obtain ⟨c,hc,rfl⟩:=get_map hd
      have hji:j < i:=by have:=(List.getElem?_eq_some_iff.mp hc).1; rw [List.length_take] at this; omega
      have ec:c=ord.getD j 0:=by
        rw [List.getElem?_take_of_lt hji] at hc
        rw [List.getD_eq_getElem?_getD,hc]
        rfl
      have hcn:c < n:=by rw [ec]; exact (ook.at (show j < n by omega)).2
      have C:=co.at O.2
      refine ⟨_,egn (by walk_at "sc") ?_⟩
      have m4:IntMulOk num 48271:=small_mul (by decide) (by decide)
      generalize hnum:(num * 48271 + 11) % 2147483647=num'
      refine exs true (d:=.int num') (EvE.eq (by walk_at "ev") (congrArg PyData.int hnum)) (by walk_at "sc") ?_
      have d64:CDiv num' 64:=⟨by decide,by decide⟩
      have ll:PyData.int (((kD (css.getD (ord.getD i 0) [])).length:Nat):Int)=.int ((css.getD (ord.getD i 0) []).length:Int):=by rw [kD_len]
      have fr:c∉css.getD (ord.getD i 0) []:=fun z=>ook.fresh (show j < n by omega) (ec ▸ cs c z)
      have st:ord.take (j + 1)=ord.take j ++ [c]:=by
        rw [List.getElem?_take_of_lt hji] at hc
        exact take_succ hc
      refine ex_if (b:=decide (num' / 64 % 5 < den) && decide (((css.getD (ord.getD i 0) []).length:Int) < 5)) (et_and (by walk_at "ev") fun _=>et_test (ev_lt (EvE.eq (ev_len (EvL.weak (evl_o2 (by walk_at "gc") (oE (by walk_at "gc") (by walk_at "gc")) C.2.1 C.1) fun h=>nomatch h)) ll) (by walk_at "ev"))) (fun h=>?_) (fun h=>?_)
      · have h':(css.getD (ord.getD i 0) []).length < 5:=by
          have:num' / 64 % 5 < den∧((css.getD (ord.getD i 0) []).length:Int) < 5:=by simpa using h
          omega
        refine ex_o2app (d:=.int c) (by walk_at "gc") (oE (by walk_at "gc") (by walk_at "gc")) C.2.1 C.1 (by walk_at "ev") (by rw [kD_len]; omega) (by walk_at "sc") ?_
        refine ⟨addAt css (ord.getD i 0) c,num',_,co.add O.2 hcn h' fr,fun m h1 h2=>?_,fun x hx=>?_,by rw [addAt_D]⟩
        · rw [addAt_ne _ (ook.ne h2 hi (by omega))]
          exact cz m h1 h2
        · rw [addAt_eq _ (by rw [co.l]; exact O.2)] at hx
          rw [st]
          rcases List.mem_append.mp hx with hx | hx
          · exact List.mem_append_left _ (cs x hx)
          · exact List.mem_append_right _ hx
      · exact ex_next ⟨css,num',_,co,cz,fun x hx=>by rw [st]; exact List.mem_append_left _ (cs x hx),rfl⟩
    · rintro Γ' ⟨css,num,x4,co,cz,cs,rfl⟩
      exact ⟨css,_,_,_,_,co,fun m h1 h2=>cz m (by omega) h2,rfl⟩
  · rintro Γ' ⟨css,x1,x2,x3,x4,co,cz,rfl⟩
    have e5:(css.map kD).map PyData.list=css.map nl:=by rw [List.map_map]; rfl
    refine exfz2 5 (by walk_at "gc") (by walk_at "sc") ?_
    rw [e5]
    refine ex_ret true (EvO.toE (evo_each (κ:=true) (is:=[0]) (xs:=css) true nl (fun r=>nl (srtN r)) (fun x _ y _ h=>by rw [show x=y from by rw [← unN_nl x,h,unN_nl]]) (ei_list (by walk_at "ev")) (by walk_at "cc") rfl (by decide) (by rw [co.l]; omega) ?_)) ⟨css.map srtN,co.sort,by rw [nls,List.map_map]; rfl⟩ (.inl ⟨rfl,rfl⟩)
    intro r hr
    have k5:=(co.e r hr).2.1
    exact egn (by walk_at "sc") (EvE.eq (EvO.toE (evo_sorted (ns:=zl r) (EvE.toL (EvE.eq (κ:=false) (by walk_at "ev") (nl_zl r))) (by unfold zl; rw [List.length_map]; omega))) (congrArg PyData.list (srt_zl _)))
def pre_law_numbers (ds:List PyData) (d:PyData):Prop:=∃ r:List Nat,ds=[nl r]∧r.length≤1000∧d=.bool true
theorem len_law_numbers (ds:List PyData) (d:PyData) (h:pre_law_numbers ds d):ds.length=1:=by obtain ⟨a,rfl,_⟩:=h; rfl
theorem sc_law_numbers:FnScope ["_law_found"] ["_law_found"] (defScope (top 10)):=⟨rfl,rfl,rfl,by decide +kernel,rfl,by decide +kernel,by decide +kernel⟩
theorem ok_law_numbers (F:Fun K "_law_numbers" "_law_numbers" (top 10) f fd) (B:Bs mg)  : FnOk P w K mg base CX0 1 f fd ["_law_found"] (spD K true pre_law_numbers):=by
  have sc:=sc_law_numbers
  refine F.ok sc (fun vs H Q E h=>spD_len len_law_numbers h) (fun cdv A outer s H vs Q E hr h=>?_)
  obtain ⟨Fh,ds,d,le,dp,p,q⟩:=h
  refine ⟨_,(pss_cons (ps_if (pt_not (pt_val (pe_callB (call_isiDK (K:=K) rfl) rfl B.isinstance (by decide +kernel) (pa_cons (pv 0) (pa_cons (pe_bltn (v:=.ty "list") rfl B.list (by decide +kernel) rfl) pa_nil))))) (pss_one (ps_ret pe_bl)) pss_nil)
      (pss_one (ps_ret (pe_callB (call_allK (K:=K) rfl rfl) rfl B.all (by decide +kernel) (pa_cons (pe_comp rfl (N:=["_law_k"]) (js:=[none]) (by walk_at "comp_ok") (pi_listK (K:=K) rfl (pv 0)) (fun _ _ _ _=>(pg_name (i:=0) (show List.Nodup (["_law_k"]:List PySem.Str) by decide +kernel) rfl (Or.inl rfl))) (fun _ _ _ _=>pif_nil) (fun _ _ _ _=>(pe_and (pe_callB (call_isiDK (K:=K) rfl) rfl B.isinstance (by decide +kernel) (pa_cons (pv 0) (pa_cons (pe_bltn (v:=.ty "int") rfl B.int (by decide +kernel) rfl) pa_nil))) (pe_one (pe_not (pe_callB (call_isiDK (K:=K) rfl) rfl B.isinstance (by decide +kernel) (pa_cons (pv 0) (pa_cons (pe_bltn (v:=.ty "bool") rfl B.bool (by decide +kernel) rfl) pa_nil)))))))) pa_nil))))),?_⟩
  have hN:(["_law_found"]:List Str).length=1:=rfl
  obtain ⟨r,rfl,hl,rfl⟩:=p
  have big:=line_big
  walk_at "run"
  refine exifF (b:=!true) (by walk_at "ev") rfl ?_
  refine ex_ret true (EvE.eq (ev_all (bs:=r.map fun _=>true) (EvO.toL (EvO.eq (evo_each (κ:=false) (is:=[0]) (xs:=r) false (fun k:Nat=>.int (k:Int)) (fun _=>.bool (true && !false)) (fun x _ y _ h=>rfl) (ei_list (by walk_at "ev")) (by walk_at "cc") rfl (by decide) (by omega) ?_) (by rw [List.map_map]; rfl)))) (by simp)) rfl (.inl ⟨rfl,rfl⟩)
  intro k hk
  exact egn (by walk_at "sc") (by walk_at "ev")
theorem pick_mod (u:Int) {n:Nat} (h:0 < n):∃ m:Nat,u % (n:Int)=(m:Int)∧m < n:=⟨(u % (n:Int)).toNat,by
  have h1:=Int.emod_nonneg u (show (n:Int)≠0 by omega)
  have h2:=Int.emod_lt_of_pos u (show (0:Int) < (n:Int) by omega)
  omega⟩
theorem ShR.at {n:Nat} {cs:List (List Nat)} (h:ShR n cs) {k:Nat} (hk:k < n):cs[k]?=some (cs.getD k [])∧(∀ x∈cs.getD k [],x < n)∧(cs.getD k []).length≤5∧(cs.getD k []).Pairwise (· < ·):=by
  have z:cs[k]?=some (cs.getD k []):=getD_some (by rw [h.l]; exact hk)
  exact ⟨z,h.e _ (List.mem_of_getElem? z)⟩
theorem shaped_nl (ks:List Nat):SeqAt.shaped (nl ks)=true:=shaped_of (lay_map (fun _=>rfl) ks) (by
  have:=depth_map (g:=fun k:Nat=>PyData.int (k:Int)) (n:=0) (fun _=>Nat.le_refl _) ks
  show PyData.depthAll _ + 1≤50
  omega)
theorem shaped_nls (cs:List (List Nat)):SeqAt.shaped (nls cs)=true:=shaped_of (lay_map (g:=nl) (fun k=>lay_map (g:=fun k:Nat=>PyData.int (k:Int)) (fun _=>rfl) k) cs) (by
  have:=depth_map (g:=nl) (n:=1) (fun k=>by
    have:=depth_map (g:=fun k:Nat=>PyData.int (k:Int)) (n:=0) (fun _=>Nat.le_refl _) k
    show PyData.depthAll _ + 1≤1
    omega) cs
  show PyData.depthAll _ + 1≤50
  omega)
theorem rows_nls (cs:List (List Nat)):Rows (cs.map nl):=fun d hd=>by
  obtain ⟨r,_,rfl⟩:=List.mem_map.mp hd
  exact ⟨zl r,nl_zl r⟩
theorem ShR.set {n:Nat} {cs:List (List Nat)} (h:ShR n cs) (k:Nat) {r:List Nat} (hr:∀ x∈r,x < n) (rl:r.length≤5) (rs:r.Pairwise (· < ·)):ShR n (cs.set k r):=⟨by rw [List.length_set]; exact h.l,fun q hq=>by
  rcases List.mem_or_eq_of_mem_set hq with hq | hq
  · exact h.e q hq
  · rw [hq]
    exact ⟨hr,rl,rs⟩⟩
def pre_law_long (ds:List PyData) (G:PyData→Prop):Prop:=∃ (ns:List Int) (n:Nat),ds=[il ns,.int n]∧n≤12∧G=fun d=>∃ cs,ShR n cs∧d=nls cs
theorem len_law_long (ds:List PyData) (G:PyData→Prop) (h:pre_law_long ds G):ds.length=2:=by obtain ⟨a,b,rfl,_⟩:=h; rfl
theorem sc_law_long:FnScope ["_law_script", "_law_many", "_law_causes", "_law_order", "_law_k", "_law_at", "_law_row", "_law_cell", "_law_far"] ["_law_script", "_law_many"] (defScope (top 9)):=⟨rfl,rfl,rfl,by decide +kernel,rfl,by decide +kernel,by decide +kernel⟩
theorem ok_law_long (F:Fun K "_law_long" "_law_long" (top 9) f fd) (B:Bs mg) (c_law_shape:Callee P w K mg base CX0 "_law_shape" ["_law_script", "_law_first", "_law_many"] 2 (spW K true pre_law_shape)) (c_law_cell_at:Callee P w K mg base CX0 "_law_cell_at" ["_law_script", "_law_k"] 1 (spD K true pre_law_cell_at)):FnOk P w K mg base CX0 3 f fd ["_law_script", "_law_many"] (spW K true pre_law_long):=by
  have sc:=sc_law_long
  refine F.ok sc (fun vs H Q E h=>spW_len len_law_long h) (fun cdv A outer s H vs Q E hr h=>?_)
  obtain ⟨Fh,ds,G,le,dp,p,q⟩:=h
  refine ⟨_,(pss_cons (ps_set (i:=2) sc.nd rfl (Or.inl rfl) (pe_fn c_law_shape (hr.mono (by decide)) rfl pass0 (pa_cons (pv 0) (pa_cons pe_int (pa_cons (pv 1) pa_nil)))))
      (pss_cons (ps_if (pt_cmpR op_ne (pe_op op_mod (pe_op op_fdiv (pe_op op_mod (pe_op op_mulB (pe_fn c_law_cell_at (hr.mono (by decide)) rfl pass0 (pa_cons (pv 0) (pa_cons pe_int pa_nil))) pe_int) pe_int) pe_int) pe_int) pe_int (nomark _)) (pss_one (ps_ret (pv 2))) pss_nil)
      (pss_cons (ps_set (i:=3) sc.nd rfl (Or.inl rfl) (pe_lst pa_nil))
      (pss_cons (ps_for PassesOwn.never rfl (pi_range1 rfl B.range (pa_cons (pv 1) pa_nil)) (pg_name (i:=4) sc.nd rfl (Or.inl rfl)) (pss_one (ps_expr (pe_bmK (K:=K) rfl PySem.F.plainAttrs_list PySem.F.slot_list_insert PySem.F.type_list_insert mt_insert (pv 3) (pa_cons (pe_op op_mod (pe_fn c_law_cell_at (hr.mono (by decide)) rfl pass0 (pa_cons (pv 0) (pa_cons (pe_op op_add pe_int (pv 4)) pa_nil))) (pe_op op_add (pv 4) pe_int)) (pa_cons (pv 4) pa_nil))))))
      (pss_cons (ps_for PassesOwn.never rfl (pi_range2 rfl B.range (pa_cons pe_int (pa_cons (pv 1) pa_nil))) (pg_name (i:=5) sc.nd rfl (Or.inl rfl)) (pss_cons (ps_set (i:=6) sc.nd rfl (Or.inl rfl) (pe_lst (pa_cons (pe_ix (ix_listK (K:=K) rfl) (pv 3) (pe_op op_sub (pv 5) pe_int) (fun _ _=>rfl)) pa_nil)))
      (pss_cons (ps_set (i:=7) sc.nd rfl (Or.inl rfl) (pe_op op_mod (pe_op op_mulB (pe_fn c_law_cell_at (hr.mono (by decide)) rfl pass0 (pa_cons (pv 0) (pa_cons (pe_op op_add pe_int (pv 5)) pa_nil))) pe_int) pe_int))
      (pss_cons (ps_set (i:=8) sc.nd rfl (Or.inl rfl) (pe_op op_sub (pe_op op_sub (pv 5) pe_int) (pe_op op_mod (pv 7) pe_int)))
      (pss_cons (ps_if (PW.pt (pw_and (pt_cmpR op_ge (pv 8) pe_int (nomark _)) (pw_and1 (pt_cmpR op_eq (pe_op op_mod (pe_op op_fdiv (pv 7) pe_int) pe_int) pe_int (nomark _))))) (pss_one (ps_expr (pe_bmK (K:=K) rfl PySem.F.plainAttrs_list PySem.F.slot_list_append PySem.F.type_list_append mt_append (pv 6) (pa_cons (pe_ix (ix_listK (K:=K) rfl) (pv 3) (pv 8) (fun _ _=>rfl)) pa_nil)))) pss_nil)
      (pss_one (ps_asg (pe_callB (call_sortedK (K:=K) rfl) rfl B.sorted (by decide +kernel) (pa_cons (pv 6) pa_nil)) (pg_sub (pv 2) (pe_ix (ix_listK (K:=K) rfl) (pv 3) (pv 5) (fun _ _=>rfl)) set_list))))))))
      (pss_one (ps_ret (pv 2)))))))),?_⟩
  have hN:(["_law_script", "_law_many", "_law_causes", "_law_order", "_law_k", "_law_at", "_law_row", "_law_cell", "_law_far"]:List Str).length=9:=rfl
  obtain ⟨ns,n,rfl,hn,rfl⟩:=p
  have big:=line_big
  refine run_defW le dp q hN (by walk_at "st") ?_
  refine exog true (evog_rows (by walk_at "ev") (show pre_law_shape [il ns,.int 2,.int n] _ from ⟨ns,2,n,rfl,hn,rfl⟩) (fun d ⟨cs,_,e⟩=>⟨cs.map nl,e,rows_nls cs⟩)) (fun d=>by walk_at "sc") ?_
  rintro d ⟨cs,ok,e⟩
  cases e
  have m1:IntMulOk (ns.getD 0 0) 69621:=small_mul (by decide) (by decide)
  refine exif2 (b:=!decide (ns.getD 0 0 * 69621 % 2147483647 / 12 % 3=1)) (et_test (ev_neI (ev_mod (ev_fdiv (ev_mod (ev_mul (ev_callF (by walk_at "ev") (show pre_law_cell_at [il ns,.int 0] _ from ⟨ns,0,rfl,rfl⟩)) (by walk_at "ev") m1) (by walk_at "ev") (by decide)) (by walk_at "ev") ⟨by decide,by decide⟩) (by walk_at "ev") (by decide)) (by walk_at "ev"))) (fun _=>?_) (fun _=>?_)
  · exact ex_seq (fun _=>False) (exro (κ:=true) (by walk_at "gc") ⟨cs,ok,rfl⟩ (.inl ⟨rfl,rfl⟩)) fun _ z=>z.elim
  refine exn ?_
  refine exo true (evo_lst (ds:=[]) ea_nil (by decide)) (by walk_at "sc") ?_
  refine exfor (ds:=(List.range n).map fun i:Nat=>.int (i:Int)) true (fun i Γ=>∃ (ord:List Nat) (x:Option DV),OrdN i ord∧Γ=[some (.fz false (il ns)),some (.fz false (.int n)),some (.ow true (cs.map nl)),some (.ow true (ord.map fun k:Nat=>.int (k:Int))),x,none,none,none,none]) (ei_rng1 (n:=(n:Int)) (by walk_at "ev") (by omega) (by omega)) ⟨[],none,⟨rfl,(fun x hx=>by cases hx),List.nodup_nil⟩,rfl⟩ ?_ ?_
  · rintro i d Γ' hd ⟨ord,x,ok,rfl⟩
    obtain ⟨hi,rfl⟩:=range_get hd
    have ol:=ok.l
    refine ⟨_,egn (by walk_at "sc") ?_⟩
    generalize hv:ns.getD (2 + i) 0 % ((i:Int) + 1)=v
    have v0:0≤v:=by rw [← hv]; exact Int.emod_nonneg _ (by omega)
    have v1:v < (i:Int) + 1:=by rw [← hv]; exact Int.emod_lt_of_pos _ (by omega)
    refine exin (m:=v) (d:=.int i) (by walk_at "gc") (EvE.eq (ev_mod (j:=(i:Int) + 1) (ev_callF (by walk_at "ev") (show pre_law_cell_at [il ns,.int (2 + (i:Int))] _ from ⟨ns,2 + i,by rw [Int.natCast_add]; rfl,rfl⟩)) (by walk_at "ev") (by omega)) (congrArg PyData.int hv)) (by walk_at "ev") v0 (by rw [List.length_map]; omega) (by rw [List.length_map]; omega) (by walk_at "sc") ?_
    have hni:i∉ord:=fun z=>by have:=ok.e i z; omega
    have pm:(ord.take v.toNat ++ i :: ord.drop v.toNat).Perm (i :: ord):=by
      refine List.perm_middle.trans ?_
      rw [List.take_append_drop]
    refine ⟨ord.take v.toNat ++ i :: ord.drop v.toNat,some (.fz true (.int i)),⟨by rw [pm.length_eq,List.length_cons,ol],fun y hy=>?_,pm.nodup_iff.mpr (List.nodup_cons.mpr ⟨hni,ok.nd⟩)⟩,?_⟩
    · rcases List.mem_cons.mp (pm.mem_iff.mp hy) with h | h
      · omega
      · have:=ok.e y h; omega
    · rw [List.map_append,List.map_cons,List.map_take,List.map_drop]
  rintro Γ' ⟨ord,x,ook,rfl⟩
  rw [range_len] at ook
  refine exfz 3 (by walk_at "gc") (by walk_at "sc") ?_
  rw [show PyData.list (ord.map fun k:Nat=>.int (k:Int))=nl ord from rfl]
  refine exfor (ds:=(List.range ((n:Int) - 1).toNat).map fun i:Nat=>.int (1 + (i:Int))) true (fun i Γ=>∃ (cs:List (List Nat)) (x1 x2 x3 x4 x5:Option DV),ShR n cs∧Γ=[some (.fz false (il ns)),some (.fz false (.int n)),some (.ow true (cs.map nl)),some (.fz true (nl ord)),x1,x2,x3,x4,x5]) (ei_rng2 (m:=1) (n:=(n:Int)) (by walk_at "ev") (by omega)) ⟨cs,_,_,_,_,_,ok,rfl⟩ ?_ ?_
  · clear ok cs
    rintro i d Γ' hd ⟨cs,x1,x2,x3,x4,x5,ok,rfl⟩
    obtain ⟨j,hj,rfl⟩:=get_map hd
    obtain ⟨hlt,e⟩:=List.getElem?_eq_some_iff.mp hj
    rw [List.getElem_range] at e
    rw [List.length_range] at hlt
    subst e
    refine ⟨_,egn (by walk_at "sc") ?_⟩
    have O1:=ook.at (k:=i) (by omega)
    have O2:=ook.at (k:=i + 1) (by omega)
    have e1:(1 + (i:Int)) - 1=(i:Int):=by omega
    have e2:1 + (i:Int)=((i + 1:Nat):Int):=by omega
    refine exo true (ds:=(zl [ord.getD i 0]).map .int) (evo_lst (ds:=[.int (ord.getD i 0:Nat)]) (ea_cons (EvE.imm (κ:=false) (ev_ixL (κ:=false) (by walk_at "ev") (EvE.eq (by walk_at "ev") (congrArg PyData.int e1)) O1.1) rfl) ea_nil) (by show 1≤_; omega)) (by walk_at "sc") ?_
    have m2:IntMulOk (ns.getD (2 + (i + 1)) 0) 69621:=small_mul (by decide) (by decide)
    generalize hce:ns.getD (2 + (i + 1)) 0 * 69621 % 2147483647=ce
    refine exs true (d:=.int ce) (EvE.eq (ev_mod (ev_mul (ev_callF (by walk_at "ev") (show pre_law_cell_at [il ns,.int (2 + (1 + (i:Int)))] _ from ⟨ns,2 + (i + 1),congrArg (fun z=>[il ns,PyData.int z]) (by omega),rfl⟩)) (by walk_at "ev") m2) (by walk_at "ev") (by decide)) (congrArg PyData.int hce)) (by walk_at "sc") ?_
    generalize hfa:1 + (i:Int) - 2 - ce % 9=fa
    have c9:=Int.emod_nonneg ce (show (9:Int)≠0 by decide)
    refine exs true (d:=.int fa) (EvE.eq (ev_sub (by walk_at "ev") (ev_mod (by walk_at "ev") (by walk_at "ev") (by decide))) (congrArg PyData.int hfa)) (by walk_at "sc") ?_
    refine exif (b:=decide (0≤fa) && decide (ce / 9 % 2=1)) (fun Γ=>∃ r:List Nat,r.Nodup∧(∀ x∈r,x < n)∧r.length≤2∧Γ=[some (.fz false (il ns)),some (.fz false (.int n)),some (.ow true (cs.map nl)),some (.fz true (nl ord)),x1,some (.fz true (.int (1 + (i:Int)))),some (.ow true ((zl r).map .int)),some (.fz true (.int ce)),some (.fz true (.int fa))]) (et_and (by walk_at "ev") fun _=>et_test (ev_eqI (ev_mod (ev_fdiv (by walk_at "ev") (by walk_at "ev") ⟨by decide,by decide⟩) (by walk_at "ev") (by decide)) (by walk_at "ev"))) (fun h=>?_) (fun h=>?_) ?_
    · have h1:=of_decide_eq_true ((Bool.and_eq_true _ _).mp h).1
      obtain ⟨f,rfl⟩:∃ f:Nat,fa=(f:Int):=⟨fa.toNat,by omega⟩
      have O3:=ook.at (k:=f) (by omega)
      refine exa1 (d:=.int (ord.getD f 0:Nat)) (by walk_at "gc") (EvE.imm (κ:=false) (ev_ixL (κ:=false) (by walk_at "ev") (by walk_at "ev") O3.1) rfl) (by walk_at "sc") (by rw [List.length_map]; show 1 < _; omega) ?_
      refine ⟨[ord.getD i 0,ord.getD f 0],?_,?_,Nat.le_refl _,rfl⟩
      · rw [List.nodup_cons]
        exact ⟨fun z=>ook.ne (i:=i) (j:=f) (by omega) (by omega) (by omega) (List.mem_singleton.mp z),by simp⟩
      · exact List.forall_mem_cons.mpr ⟨O1.2,List.forall_mem_cons.mpr ⟨O3.2,fun _ z=>nomatch z⟩⟩
    · exact ex_next ⟨[ord.getD i 0],by simp,List.forall_mem_cons.mpr ⟨O1.2,fun _ z=>nomatch z⟩,by show 1≤2; decide,rfl⟩
    rintro Γ' ⟨r,rn,rlt,rl,rfl⟩
    refine exi1 (d:=nl (srtN r)) (m:=(ord.getD (i + 1) 0:Nat)) (j:=ord.getD (i + 1) 0) (by walk_at "gc") (EvE.eq (EvO.toE (evo_sorted (ns:=zl r) (by walk_at "ev") (by rw [zl_len]; omega))) (congrArg PyData.list (srt_zl r))) (ev_ixL (κ:=false) (by walk_at "ev") (EvE.eq (by walk_at "ev") (congrArg PyData.int e2)) O2.1) (ixN_nat (by rw [List.length_map,ok.l]; exact O2.2)) (by walk_at "sc") ?_
    refine ⟨cs.set (ord.getD (i + 1) 0) (srtN r),_,_,_,_,_,ok.set _ (fun x hx=>rlt x ((srtN_perm r).mem_iff.mp hx)) (by rw [(srtN_perm r).length_eq]; omega) (srtN_rise rn),by rw [List.map_set]⟩
  · rintro Γ' ⟨cs,x1,x2,x3,x4,x5,ok,rfl⟩
    exact exro (κ:=true) (by walk_at "gc") ⟨cs,ok,rfl⟩ (.inl ⟨rfl,rfl⟩)
def oD:Option Nat→PyData
  | none=>.none
  | some t=>.int (t:Int)
theorem oD_eqv (o:Option Nat) (t:Nat):PyData.eqv (oD o) (.int (t:Int))=decide (o=some t):=by
  cases o with
  | none=>rfl
  | some s =>
    show ((s:Int) == (t:Int))=_
    by_cases h:s=t
    · subst h
      rw [decide_eq_true rfl]
      simp
    · rw [decide_eq_false fun z=>h (Option.some.inj z)]
      exact beq_eq_false_iff_ne.mpr (by omega)
def nrL (n:Nat) (g:Nat→Option Nat):List PyData:=(List.range n).map fun k=>oD (g k)
theorem nrL_len (n:Nat) (g:Nat→Option Nat):(nrL n g).length=n:=by unfold nrL; rw [List.length_map,List.length_range]
theorem nrL_at {n:Nat} (g:Nat→Option Nat) {k:Nat} (h:k < n):atI (nrL n g) (k:Int)=some (oD (g k)):=atI_map (g:=fun k=>oD (g k)) (by rw [List.getElem?_range h])
theorem nrL_set (n:Nat) (g:Nat→Option Nat) (c:Nat) (v:Option Nat):(nrL n g).set c (oD v)=nrL n fun k=>if k=c then v else g k:=by
  unfold nrL
  refine List.ext_getElem (by simp) fun i h1 h2=>?_
  rw [List.getElem_set,List.getElem_map,List.getElem_map,List.getElem_range]
  show _=oD (if i=c then v else g i)
  by_cases h:c=i
  · rw [if_pos h,if_pos h.symm]
  · rw [if_neg h,if_neg (Ne.symm h)]
theorem nrL_none {n:Nat} {cs:List (List Nat)} (h:cs.length=n):((cs.map nl).map fun _=>PyData.none)=nrL n fun _=>none:=by
  unfold nrL
  refine List.ext_getElem (by simp [h]) fun i h1 h2=>?_
  rw [List.getElem_map,List.getElem_map]
  rfl
theorem nrL_congr {n:Nat} {g g':Nat→Option Nat} (h:∀ k,k < n→g k=g' k):nrL n g=nrL n g':=List.map_congr_left fun k hk=>by rw [h k (List.mem_range.mp hk)]
section
variable {n:Nat} {cs:List (List Nat)} {sm:List Nat}
abbrev rmN (n:Nat) (cs:List (List Nat)) (sm:List Nat) (t:Nat):List Nat:=rim cs sm (List.range n) t
structure GX (n:Nat) (cs:List (List Nat)) (sm:List Nat) (t:Nat) (X:Nat→Prop) (g:Nat→Option Nat):Prop where
  i:∀ k s,s≤t→k∈rmN n cs sm s→g k=some s
  p:∀ k,(∀ s,s≤t→k∉rmN n cs sm s)→X k→g k=some (t + 1)
  o:∀ k,(∀ s,s≤t→k∉rmN n cs sm s)→¬ X k→g k=none
theorem GX.congr {t:Nat} {X Y:Nat→Prop} {g:Nat→Option Nat} (h:GX n cs sm t X g) (e:∀ k,Y k↔X k):GX n cs sm t Y g:=⟨h.i,fun k a b=>h.p k a ((e k).mp b),fun k a b=>h.o k a fun z=>b ((e k).mpr z)⟩
theorem GX.put {t c:Nat} {X:Nat→Prop} {g:Nat→Option Nat} (h:GX n cs sm t X g) (hc:g c=none):GX n cs sm t (fun k=>X k∨k=c) fun k=>if k=c then some (t + 1) else g k:=by
  refine ⟨fun k s hs hk=>?_,fun k hk hx=>?_,fun k hk hx=>?_⟩
  · by_cases e:k=c
    · subst e
      rw [h.i k s hs hk] at hc
      cases hc
    · rw [if_neg e,h.i k s hs hk]
  · by_cases e:k=c
    · rw [if_pos e]
    · rw [if_neg e,h.p k hk (hx.resolve_right e)]
  · rw [if_neg fun e=>hx (.inr e),h.o k hk fun z=>hx (.inl z)]
theorem GX.keep {t c:Nat} {X:Nat→Prop} {g:Nat→Option Nat} (h:GX n cs sm t X g) (hc:g c≠none):GX n cs sm t (fun k=>X k∨k=c) g:=by
  refine ⟨h.i,fun k hk hx=>?_,fun k hk hx=>h.o k hk fun z=>hx (.inl z)⟩
  rcases Classical.em (X k) with c1 | c1
  · exact h.p k hk c1
  · rcases hx with hx | rfl
    · exact absurd hx c1
    · exact absurd (h.o k hk c1) hc
theorem GX.at {t j:Nat} {X:Nat→Prop} {g:Nat→Option Nat} (h:GX n cs sm t X g):g j=some t↔j∈rmN n cs sm t:=by
  refine ⟨fun e=>?_,fun e=>h.i j t (Nat.le_refl _) e⟩
  rcases Classical.em (∃ s,s≤t∧j∈rmN n cs sm s) with ⟨s,hs,hj⟩ | c
  · rw [h.i j s hs hj] at e
    rw [← Option.some.inj e]
    exact hj
  · have c:∀ s,s≤t→j∉rmN n cs sm s:=fun s hs z=>c ⟨s,hs,z⟩
    rcases Classical.em (X j) with c1 | c1
    · rw [h.p j c c1] at e
      have:=Option.some.inj e
      omega
    · rw [h.o j c c1] at e
      cases e
theorem mem_eff {cs:List (List Nat)} {k e:Nat}:e∈effF cs k↔e < cs.length∧k∈cs.getD e []:=by
  unfold effF
  rw [List.mem_filter,List.mem_range,decide_eq_true_eq]
theorem GX.next {t:Nat} {g:Nat→Option Nat} (sh:ShR n cs) (h:GX n cs sm t (fun k=>∃ e,e < n∧e∈rmN n cs sm t∧k∈cs.getD e []) g):GX n cs sm (t + 1) (fun _=>False) g:=by
  refine ⟨fun k s hs hk=>?_,fun k _ z=>z.elim,fun k hk _=>?_⟩
  · by_cases c:s≤t
    · exact h.i k s c hk
    · obtain rfl:s=t + 1:=by omega
      obtain ⟨_,h2,e,h3,h4⟩:=mem_rim.mp hk
      obtain ⟨h5,h6⟩:=mem_eff.mp h3
      exact h.p k (fun s hs z=>h2 (mem_fnd.mpr ⟨s,by omega,z⟩)) ⟨e,by rw [← sh.l]; exact h5,h4,h6⟩
  · refine h.o k (fun s hs=>hk s (by omega)) ?_
    rintro ⟨e,h1,h2,h3⟩
    refine hk (t + 1) (Nat.le_refl _) (mem_rim.mpr ⟨List.mem_range.mpr ((sh.at h1).2.1 k h3),fun z=>?_,e,mem_eff.mpr ⟨by rw [sh.l]; exact h1,h3⟩,h2⟩)
    obtain ⟨s,hs,z⟩:=mem_fnd.mp z
    exact hk s (by omega) z
end
def lvO (n:Nat) (cs:List (List Nat)) (sm:List Nat) (k:Nat):Option Nat:=(List.range n).find? fun t=>decide (k∈rmN n cs sm t)
theorem lv_some {n:Nat} {cs:List (List Nat)} {sm:List Nat} {k t:Nat} (h:k∈rmN n cs sm t):lvO n cs sm k=some t:=by
  have tl:=rim_lt List.nodup_range h
  rw [List.length_range] at tl
  unfold lvO
  cases e:(List.range n).find? fun t=>decide (k∈rmN n cs sm t) with
  | none=>exact absurd (decide_eq_true h) (List.find?_eq_none.mp e t (List.mem_range.mpr tl))
  | some s=>rw [rim_one (of_decide_eq_true (List.find?_some (p:=fun t=>decide (k∈rmN n cs sm t)) e)) h]
theorem lv_none {n:Nat} {cs:List (List Nat)} {sm:List Nat} {k:Nat} (h:∀ t,k∉rmN n cs sm t):lvO n cs sm k=none:=List.find?_eq_none.mpr fun t _ z=>h t (of_decide_eq_true z)
theorem GX.end {n:Nat} {cs:List (List Nat)} {sm:List Nat} {g:Nat→Option Nat} (h:GX n cs sm n (fun _=>False) g):nrL n g=nrL n (lvO n cs sm):=nrL_congr fun k hk=>by
  rcases Classical.em (∃ s,k∈rmN n cs sm s) with ⟨s,hs⟩ | c
  · have tl:=rim_lt List.nodup_range hs
    rw [List.length_range] at tl
    rw [h.i k s (by omega) hs,lv_some hs]
  · have c:∀ s,k∉rmN n cs sm s:=fun s z=>c ⟨s,z⟩
    rw [h.o k (fun s _=>c s) fun z=>z,lv_none c]
def pre_law_steps (ds:List PyData) (d:PyData):Prop:=∃ (n:Nat) (cs:List (List Nat)) (sm:List Nat),ds=[nls cs,nl sm]∧ShR n cs∧n≤12∧(∀ x∈sm,x < n)∧d=.list (nrL n (lvO n cs sm))
theorem len_law_steps (ds:List PyData) (d:PyData) (h:pre_law_steps ds d):ds.length=2:=by obtain ⟨a,b,c,rfl,_⟩:=h; rfl
theorem sc_law_steps:FnScope ["_law_causes", "_law_some", "_law_near", "_law_k", "_law_turn", "_law_c"] ["_law_causes", "_law_some"] (defScope (top 11)):=⟨rfl,rfl,rfl,by decide +kernel,rfl,by decide +kernel,by decide +kernel⟩
theorem ok_law_steps (F:Fun K "_law_steps" "_law_steps" (top 11) f fd) (B:Bs mg)  : FnOk P w K mg base CX0 1 f fd ["_law_causes", "_law_some"] (spD K true pre_law_steps):=by
  have sc:=sc_law_steps
  refine F.ok sc (fun vs H Q E h=>spD_len len_law_steps h) (fun cdv A outer s H vs Q E hr h=>?_)
  obtain ⟨Fh,ds,d,le,dp,p,q⟩:=h
  refine ⟨_,(pss_cons (ps_setComp (i:=2) rfl sc.nd rfl rfl (N:=["_law_k"]) (js:=[none]) (by walk_at "comp_ok") (pi_listK (K:=K) rfl (pv 0)) (fun _ _ _ _=>(pg_name (i:=0) (show List.Nodup (["_law_k"]:List PySem.Str) by decide +kernel) rfl (Or.inl rfl))) (fun _ _ _ _=>pif_nil) (fun _ _ _ _=>pe_non))
      (pss_cons (ps_for PassesOwn.never rfl (pi_listK (K:=K) rfl (pv 1)) (pg_name (i:=3) sc.nd rfl (Or.inl rfl)) (pss_one (ps_asg pe_int (pg_sub (pv 2) (pv 3) set_list))))
      (pss_cons (ps_for PassesOwn.never rfl (pi_range1 rfl B.range (pa_cons (pe_callB (call_len_seqK (K:=K) rfl) rfl B.len (by decide +kernel) (pa_cons (pv 0) pa_nil)) pa_nil)) (pg_name (i:=4) sc.nd rfl (Or.inl rfl)) (pss_one (ps_for PassesOwn.never rfl (pi_range1 rfl B.range (pa_cons (pe_callB (call_len_seqK (K:=K) rfl) rfl B.len (by decide +kernel) (pa_cons (pv 0) pa_nil)) pa_nil)) (pg_name (i:=3) sc.nd rfl (Or.inl rfl)) (pss_one (ps_if (pt_cmpR (op_eqDK (K:=K) rfl hr.units) (pe_ix (ix_listK (K:=K) rfl) (pv 2) (pv 3) (fun _ _=>rfl)) (pv 4) (nomark _)) (pss_one (ps_for PassesOwn.never rfl (pi_listK (K:=K) rfl (pe_ix (ix_listK (K:=K) rfl) (pv 0) (pv 3) (fun _ _=>rfl))) (pg_name (i:=5) sc.nd rfl (Or.inl rfl)) (pss_one (ps_if (pt_cmpR op_isN (pe_ix (ix_listK (K:=K) rfl) (pv 2) (pv 5) (fun _ _=>rfl)) pe_non (nomark _)) (pss_one (ps_asg (pe_op op_add (pv 4) pe_int) (pg_sub (pv 2) (pv 5) set_list))) pss_nil)))) pss_nil)))))
      (pss_one (ps_ret (pv 2)))))),?_⟩
  have hN:(["_law_causes", "_law_some", "_law_near", "_law_k", "_law_turn", "_law_c"]:List Str).length=6:=rfl
  obtain ⟨n,cs,sm,rfl,sh,hn,lt,rfl⟩:=p
  have big:=line_big
  have cl:=sh.l
  have el:PyData.int (((cs.map nl).length:Nat):Int)=.int (n:Int):=by rw [List.length_map,cl]
  walk_at "run"
  refine exo true (ds:=nrL n fun _=>none) (EvO.eq (evo_map (is:=[0]) false (fun _=>.none) (ei_list (by walk_at "ev")) (by walk_at "cc") rfl (by decide) (by rw [List.length_map]; omega) ?_) (nrL_none cl)) (by walk_at "sc") ?_
  · intro d _
    exact egn (by walk_at "sc") (by walk_at "ev")
  refine exfor (ds:=sm.map fun k:Nat=>.int (k:Int)) false (fun i Γ=>∃ x,Γ=[some (.fz false (nls cs)),some (.fz false (nl sm)),some (.ow true (nrL n fun k=>if k∈sm.take i then some 0 else none)),x,none,none]) (ei_list (by walk_at "ev")) ⟨none,rfl⟩ ?_ ?_
  · rintro i d Γ' hd ⟨x,rfl⟩
    obtain ⟨k,hk,rfl⟩:=get_map hd
    have kn:=lt k (List.mem_of_getElem? hk)
    refine ⟨_,egn (by walk_at "sc") ?_⟩
    refine exi1 (d:=oD (some 0)) (m:=(k:Int)) (j:=k) (by walk_at "gc") (show EvE K .fresh true (tC (.int 0)) _ (PyData.int 0) by walk_at "ev") (by walk_at "ev") (ixN_nat (by rw [nrL_len]; exact kn)) (by walk_at "sc") ?_
    show ∃ x,_
    rw [nrL_set,take_succ hk]
    refine ⟨some (.fz false (.int k)),?_⟩
    refine congrArg (fun z=>[some (DV.fz false (nls cs)),some (.fz false (nl sm)),some (.ow true (nrL n z)),some (.fz false (.int k)),none,none]) (funext fun j=>?_)
    by_cases e:j=k
    · rw [if_pos e,if_pos (List.mem_append_right _ (List.mem_singleton.mpr e))]
    · rw [if_neg e]
      by_cases d:j∈sm.take i
      · rw [if_pos d,if_pos (List.mem_append_left _ d)]
      · rw [if_neg d,if_neg fun z=>(List.mem_append.mp z).elim d fun z=>e (List.mem_singleton.mp z)]
  rintro Γ' ⟨x,rfl⟩
  rw [List.length_map,List.take_length]
  have g0:GX n cs sm 0 (fun _=>False) fun k=>if k∈sm then some 0 else none:=by
    refine ⟨fun k s hs hk=>?_,fun k _ z=>z.elim,fun k hk _=>?_⟩
    · obtain rfl:s=0:=by omega
      rw [if_pos (of_decide_eq_true (List.mem_filter.mp hk).2)]
    · exact if_neg fun z=>hk 0 (Nat.le_refl _) (List.mem_filter.mpr ⟨List.mem_range.mpr (lt k z),decide_eq_true z⟩)
  refine exfor (ds:=(List.range n).map fun i:Nat=>.int (i:Int)) true (fun t Γ=>∃ (g:Nat→Option Nat) (x y z:Option DV),GX n cs sm t (fun _=>False) g∧Γ=[some (.fz false (nls cs)),some (.fz false (nl sm)),some (.ow true (nrL n g)),x,y,z]) (ei_rng1 (n:=(n:Int)) (ea_cons (EvE.eq (ev_len (ds:=cs.map nl) (by walk_at "ev")) el) ea_nil) (by omega) (by omega)) ⟨_,_,_,_,g0,rfl⟩ ?_ ?_
  · clear g0
    rintro t d Γ' hd ⟨g,x,y,z,gx,rfl⟩
    obtain ⟨ht,rfl⟩:=range_get hd
    refine ⟨_,egn (by walk_at "sc") ?_⟩
    refine ex_for (ds:=(List.range n).map fun i:Nat=>.int (i:Int)) true (fun j Γ=>∃ (g:Nat→Option Nat) (x z:Option DV),GX n cs sm t (fun k=>∃ e,e < j∧e∈rmN n cs sm t∧k∈cs.getD e []) g∧Γ=[some (.fz false (nls cs)),some (.fz false (nl sm)),some (.ow true (nrL n g)),x,some (.fz true (.int t)),z]) (ei_rng1 (n:=(n:Int)) (ea_cons (EvE.eq (ev_len (ds:=cs.map nl) (by walk_at "ev")) el) ea_nil) (by omega) (by omega)) ⟨g,_,_,gx.congr fun k=>⟨fun ⟨e,z,_⟩=>absurd z (Nat.not_lt_zero e),fun z=>z.elim⟩,rfl⟩ ?_ ?_
    · clear gx
      rintro j d Γ' hd ⟨g,x,z,gx,rfl⟩
      obtain ⟨hj,rfl⟩:=range_get hd
      have A:=sh.at hj
      have aj:atI (cs.map nl) (j:Int)=some (nl (cs.getD j [])):=atI_map A.1
      refine ⟨_,egn (by walk_at "sc") ?_⟩
      refine ex_if (b:=decide (g j=some t)) (EvT.eq (et_test (ev_eqD (neg:=false) (d:=oD (g j)) (f:=.int t) (EvE.toD (κ:=false) (ev_ixL (κ:=false) (by walk_at "ev") (by walk_at "ev") (nrL_at g hj))) (EvE.toD (κ:=false) (by walk_at "ev")) (by cases g j <;> rfl) rfl)) (oD_eqv _ _)) (fun c=>?_) (fun c=>?_)
      · have c:=gx.at.mp (of_decide_eq_true c)
        refine ex_for (ds:=(cs.getD j []).map fun i:Nat=>.int (i:Int)) false (fun i Γ=>∃ (g:Nat→Option Nat) (z:Option DV),GX n cs sm t (fun k=>(∃ e,e < j∧e∈rmN n cs sm t∧k∈cs.getD e [])∨k∈(cs.getD j []).take i) g∧Γ=[some (.fz false (nls cs)),some (.fz false (nl sm)),some (.ow true (nrL n g)),some (.fz true (.int j)),some (.fz true (.int t)),z]) (ei_list (ev_ixL (κ:=false) (by walk_at "ev") (by walk_at "ev") aj)) ⟨g,_,gx.congr fun k=>⟨fun z=>z.elim id fun z=>(by cases z),.inl⟩,rfl⟩ ?_ ?_
        · clear gx
          rintro i d Γ' hd ⟨g,z,gx,rfl⟩
          obtain ⟨k,hk,rfl⟩:=get_map hd
          have kn:=A.2.1 k (List.mem_of_getElem? hk)
          have ex:∀ k',((∃ e,e < j∧e∈rmN n cs sm t∧k'∈cs.getD e [])∨k'∈(cs.getD j []).take (i + 1))↔(((∃ e,e < j∧e∈rmN n cs sm t∧k'∈cs.getD e [])∨k'∈(cs.getD j []).take i)∨k'=k):=fun k'=>by
            rw [take_succ hk,List.mem_append,List.mem_singleton,or_assoc]
          refine ⟨_,egn (by walk_at "sc") ?_⟩
          refine ex_if (b:=isNone (oD (g k))) (et_test (ev_isN (EvE.toD (κ:=false) (ev_ixL (κ:=false) (by walk_at "ev") (by walk_at "ev") (nrL_at g kn))))) (fun c=>?_) (fun c=>?_)
          · have c:g k=none:=by
              cases e:g k with
              | none=>rfl
              | some s=>rw [e] at c; cases c
            refine exi1 (d:=oD (some (t + 1))) (m:=(k:Int)) (j:=k) (by walk_at "gc") (EvE.eq (by walk_at "ev") (congrArg PyData.int (show (t:Int) + 1=((t + 1:Nat):Int) by omega))) (by walk_at "ev") (ixN_nat (by rw [nrL_len]; exact kn)) (by walk_at "sc") ?_
            show ∃ g z,_
            rw [nrL_set]
            exact ⟨_,_,(gx.put c).congr ex,rfl⟩
          · exact ex_next ⟨g,_,(gx.keep fun z=>by rw [z] at c; cases c).congr ex,rfl⟩
        · rintro Γ' ⟨g,z,gx,rfl⟩
          rw [List.length_map,List.take_length] at gx
          refine ⟨g,_,_,gx.congr fun k=>⟨fun ⟨e,h1,h2,h3⟩=>?_,fun z=>?_⟩,rfl⟩
          · by_cases y:e=j
            · exact .inr (y ▸ h3)
            · exact .inl ⟨e,by omega,h2,h3⟩
          · rcases z with ⟨e,h1,h2,h3⟩ | z
            · exact ⟨e,by omega,h2,h3⟩
            · exact ⟨j,by omega,c,z⟩
      · have c:¬ j∈rmN n cs sm t:=fun z=>of_decide_eq_false c (gx.at.mpr z)
        refine ex_next ⟨g,_,_,gx.congr fun k=>⟨fun ⟨e,h1,h2,h3⟩=>⟨e,?_,h2,h3⟩,fun ⟨e,h1,h2,h3⟩=>⟨e,by omega,h2,h3⟩⟩,rfl⟩
        have:e≠j:=fun y=>c (y ▸ h2)
        omega
    · rintro Γ' ⟨g,x,z,gx,rfl⟩
      rw [range_len] at gx
      exact ⟨g,_,_,_,gx.next sh,rfl⟩
  · rintro Γ' ⟨g,x,y,z,gx,rfl⟩
    rw [range_len] at gx
    rw [← gx.end]
    exact exro (κ:=true) (by walk_at "gc") rfl (.inl ⟨rfl,rfl⟩)
theorem wy_at (cs:List (List Nat)) (sm wi:List Nat):∀ (t k:Nat),k∈rim cs sm wi t→∀ i,i < t→(wyF cs sm wi t k).getD i 0∈rim cs sm wi (t - i)∧(wyF cs sm wi t k).getD (i + 1) 0=nrF cs sm wi (t - (i + 1)) ((wyF cs sm wi t k).getD i 0)
  | 0,_,_,i,hi=>absurd hi (Nat.not_lt_zero i)
  | t + 1,k,hk,0,_=>by
    refine ⟨hk,?_⟩
    show (wyF cs sm wi t (nrF cs sm wi t k)).getD 0 0=nrF cs sm wi (t + 1 - 1) k
    cases t <;> rfl
  | t + 1,k,hk,i + 1,hi=>by
    have ih:=wy_at cs sm wi t (nrF cs sm wi t k) (nr_in hk).2 i (by omega)
    rw [show t + 1 - (i + 1)=t - i by omega,show t + 1 - (i + 1 + 1)=t - (i + 1) by omega]
    exact ih
theorem wy_zero (cs:List (List Nat)) (sm wi:List Nat) (t k:Nat):(wyF cs sm wi t k).getD 0 0=k:=by cases t <;> rfl
theorem next_eq {n:Nat} {cs:List (List Nat)} {sm:List Nat} (cl:cs.length=n) (t x:Nat):((List.range n).filter fun e=>decide (x∈cs.getD e []) && decide (lvO n cs sm e=some t))=(effF cs x).filter fun e=>decide (e∈rmN n cs sm t):=by
  unfold effF
  rw [List.filter_filter,cl]
  refine List.filter_congr fun e _=>?_
  rw [Bool.and_comm]
  congr 1
  refine decide_eq_decide.mpr ⟨fun h=>?_,lv_some⟩
  exact of_decide_eq_true (List.find?_some (p:=fun t=>decide (e∈rmN n cs sm t)) h)
theorem eqv_nil (l:List Nat):PyData.eqv (nl l) (.list [])=decide (l=[]):=by cases l <;> rfl
def pre_law_good (ds:List PyData) (d:PyData):Prop:=∃ (n:Nat) (cs:List (List Nat)) (sm:List Nat) (k:Nat) (fd:PyData),ds=[nls cs,.int k,.list (nrL n (lvO n cs sm)),fd]∧ShR n cs∧n≤12∧k < n∧WdD cs sm k fd∧d=.bool true
theorem len_law_good (ds:List PyData) (d:PyData) (h:pre_law_good ds d):ds.length=4:=by obtain ⟨a,b,c,e,f,rfl,_⟩:=h; rfl
theorem sc_law_good:FnScope ["_law_causes", "_law_k", "_law_near", "_law_found", "_law_at", "_law_steps_here", "_law_next_ones"] ["_law_causes", "_law_k", "_law_near", "_law_found"] (defScope (top 12)):=⟨rfl,rfl,rfl,by decide +kernel,rfl,by decide +kernel,by decide +kernel⟩
theorem ok_law_good (F:Fun K "_law_good" "_law_good" (top 12) f fd) (B:Bs mg) (c_law_numbers:Callee P w K mg base CX0 "_law_numbers" ["_law_found"] 1 (spD K true pre_law_numbers)):FnOk P w K mg base CX0 2 f fd ["_law_causes", "_law_k", "_law_near", "_law_found"] (spD K true pre_law_good):=by
  have sc:=sc_law_good
  refine F.ok sc (fun vs H Q E h=>spD_len len_law_good h) (fun cdv A outer s H vs Q E hr h=>?_)
  obtain ⟨Fh,ds,d,le,dp,p,q⟩:=h
  refine ⟨_,(pss_cons (ps_if (pt_cmpR op_isN (pe_ix (ix_listK (K:=K) rfl) (pv 2) (pv 1) (fun _ _=>rfl)) pe_non (nomark _)) (pss_one (ps_ret (pe_cmpR op_isN (pv 3) pe_non (nomark _)))) pss_nil)
      (pss_cons (ps_if (PW.pt (pw_or (pt_not (pt_val (pe_fn c_law_numbers (hr.mono (by decide)) rfl pass0 (pa_cons (pv 3) pa_nil)))) (pw_or (pt_cmpR op_ne (pe_callB (call_len_seqK (K:=K) rfl) rfl B.len (by decide +kernel) (pa_cons (pv 3) pa_nil)) (pe_op op_add (pe_ix (ix_listK (K:=K) rfl) (pv 2) (pv 1) (fun _ _=>rfl)) pe_int) (nomark _)) (pw_or1 (pt_cmpR op_ne (pe_ix (ix_listK (K:=K) rfl) (pv 3) pe_int (fun _ _=>rfl)) (pv 1) (nomark _)))))) (pss_one (ps_ret pe_bl)) pss_nil)
      (pss_cons (ps_for PassesOwn.never rfl (pi_range2 rfl B.range (pa_cons pe_int (pa_cons (pe_callB (call_len_seqK (K:=K) rfl) rfl B.len (by decide +kernel) (pa_cons (pv 3) pa_nil)) pa_nil))) (pg_name (i:=4) sc.nd rfl (Or.inr rfl)) (pss_cons (ps_set (i:=5) sc.nd rfl (Or.inr rfl) (pe_op op_sub (pe_op op_sub (pe_callB (call_len_seqK (K:=K) rfl) rfl B.len (by decide +kernel) (pa_cons (pv 3) pa_nil)) pe_int) (pv 4)))
      (pss_cons (ps_setComp (i:=6) rfl sc.nd rfl rfl (N:=["_law_e", "_law_steps_here", "_law_found", "_law_causes", "_law_near", "_law_at"]) (js:=[none,some 5,some 3,some 0,some 2,some 4]) (by walk_at "comp_ok") (pi_range1 rfl B.range (pa_cons (pe_callB (call_len_seqK (K:=K) rfl) rfl B.len (by decide +kernel) (pa_cons (pv 0) pa_nil)) pa_nil)) (fun _ _ _ _=>(pg_name (i:=0) (show List.Nodup (["_law_e", "_law_steps_here", "_law_found", "_law_causes", "_law_near", "_law_at"]:List PySem.Str) by decide +kernel) rfl (Or.inl rfl))) (fun _ _ _ _=>(pif_one (PW.pt (pw_and (pt_cmpR (op_in_seqK (K:=K) rfl) (pe_ix (ix_listK (K:=K) rfl) (pv 2) (pe_op op_sub (pv 5) pe_int) (fun _ _=>rfl)) (pe_ix (ix_listK (K:=K) rfl) (pv 3) (pv 0) (fun _ _=>rfl)) (rfl)) (pw_and1 (pt_cmpR (op_eqDK (K:=K) rfl hr.units) (pe_ix (ix_listK (K:=K) rfl) (pv 4) (pv 0) (fun _ _=>rfl)) (pv 1) (nomark _))))))) (fun _ _ _ _=>(pv 0)))
      (pss_one (ps_if (PW.pt (pw_or (pt_cmpR (op_eqDK (K:=K) rfl hr.units) (pv 6) (pe_lst pa_nil) (nomark _)) (pw_or1 (pt_cmpR op_ne (pe_ix (ix_listK (K:=K) rfl) (pv 3) (pv 4) (fun _ _=>rfl)) (pe_ix (ix_listK (K:=K) rfl) (pv 6) pe_int (fun _ _=>rfl)) (nomark _))))) (pss_one (ps_ret pe_bl)) pss_nil)))))
      (pss_one (ps_ret pe_bl))))),?_⟩
  have hN:(["_law_causes", "_law_k", "_law_near", "_law_found", "_law_at", "_law_steps_here", "_law_next_ones"]:List Str).length=7:=rfl
  obtain ⟨n,cs,sm,k,fd,rfl,sh,n12,kn,wd,rfl⟩:=p
  have big:=line_big
  have cl:=sh.l
  unfold WdD at wd
  rw [cl] at wd
  have ak:=nrL_at (lvO n cs sm) kn
  have el:PyData.int (((cs.map nl).length:Nat):Int)=.int (n:Int):=by rw [List.length_map,cl]
  walk_at "run"
  rcases wd with ⟨t,ht,rfl⟩ | ⟨ho,rfl⟩
  · rw [lv_some ht] at ak
    have tl:=rim_lt List.nodup_range ht
    rw [List.length_range] at tl
    have wl:=wy_len cs sm (List.range n) t k
    have wa:=wy_at cs sm (List.range n) t k ht
    have w0:=wy_zero cs sm (List.range n) t k
    generalize hw:wyF cs sm (List.range n) t k=w at wl wa w0
    have ew:PyData.int (((w.map fun k:Nat=>PyData.int (k:Int)).length:Nat):Int)=.int (w.length:Int):=by rw [List.length_map]
    have a0:atI (w.map fun k:Nat=>PyData.int (k:Int)) (0:Int)=some (.int (w.getD 0 0:Nat)):=atI_map (i:=0) (getD_some (by omega))
    refine exifF (b:=isNone (oD (some t))) (et_test (ev_isN (EvE.toD (κ:=false) (ev_ixL (κ:=false) (by walk_at "ev") (by walk_at "ev") ak)))) rfl ?_
    refine exifF (b:=!true || (!decide ((w.length:Int)=(t:Int) + 1) || !decide (((w.getD 0 0:Nat):Int)=(k:Int)))) (et_or (et_not (et_B (ev_callF (by walk_at "ev") ⟨w,rfl,by omega,rfl⟩))) fun _=>et_or (et_test (ev_neI (EvE.eq (ev_len (ds:=w.map fun k:Nat=>PyData.int (k:Int)) (by walk_at "ev")) ew) (ev_add (ev_ixL (κ:=false) (by walk_at "ev") (by walk_at "ev") ak) (by walk_at "ev")))) fun _=>et_test (ev_neI (ev_ixL (κ:=false) (by walk_at "ev") (by walk_at "ev") a0) (by walk_at "ev"))) (by rw [w0,decide_eq_true (show (w.length:Int)=(t:Int) + 1 by omega),decide_eq_true rfl]; rfl) ?_
    refine exfor (ds:=(List.range ((w.length:Int) - 1).toNat).map fun i:Nat=>.int (1 + (i:Int))) true (fun i Γ=>∃ x y z,Γ=[some (.fz false (nls cs)),some (.fz false (.int k)),some (.fz false (.list (nrL n (lvO n cs sm)))),some (.fz false (nl w)),x,y,z]) (ei_rng2 (m:=1) (n:=(w.length:Int)) (ea_cons (by walk_at "ev") (ea_cons (EvE.eq (ev_len (ds:=w.map fun k:Nat=>PyData.int (k:Int)) (by walk_at "ev")) ew) ea_nil)) (by omega)) ⟨_,_,_,rfl⟩ ?_ ?_
    · rintro i d Γ' hd ⟨x,y,z,rfl⟩
      obtain ⟨j,hj,rfl⟩:=get_map hd
      obtain ⟨hlt,e⟩:=List.getElem?_eq_some_iff.mp hj
      rw [List.getElem_range] at e
      rw [List.length_range] at hlt
      subst e
      refine ⟨_,egn (by walk_at "sc") ?_⟩
      have W:=wa i (by omega)
      have e1:(1 + (i:Int)) - 1=(i:Int):=by omega
      have e2:1 + (i:Int)=((i + 1:Nat):Int):=by omega
      have e3:(w.length:Int) - 1 - (1 + (i:Int))=((t - (i + 1):Nat):Int):=by omega
      have a1:atI (w.map fun k:Nat=>PyData.int (k:Int)) (i:Int)=some (.int (w.getD i 0:Nat)):=atI_map (getD_some (by omega))
      have a2:atI (w.map fun k:Nat=>PyData.int (k:Int)) ((i + 1:Nat):Int)=some (.int (w.getD (i + 1) 0:Nat)):=atI_map (getD_some (by omega))
      have hk1:w.getD i 0∈rim cs sm (List.range n) (t - (i + 1) + 1):=by rw [show t - (i + 1) + 1=t - i by omega]; exact W.1
      have N:=(nr_in hk1).1
      refine exs true (d:=.int ((t - (i + 1):Nat):Int)) (EvE.eq (ev_sub (ev_sub (EvE.eq (ev_len (ds:=w.map fun k:Nat=>PyData.int (k:Int)) (by walk_at "ev")) ew) (by walk_at "ev")) (by walk_at "ev")) (congrArg PyData.int e3)) (by walk_at "sc") ?_
      refine exs true (d:=nl ((effF cs (w.getD i 0)).filter fun e=>decide (e∈rmN n cs sm (t - (i + 1))))) (EvO.toE (EvO.eq (evo_rngIf (κ:=true) (is:=[0]) (n:=n) (fun e=>.int (e:Int)) (fun e=>decide (w.getD i 0∈cs.getD e []) && decide (lvO n cs sm e=some (t - (i + 1)))) (ea_cons (EvE.eq (ev_len (ds:=cs.map nl) (by walk_at "ev")) el) ea_nil) (by omega) (by walk_at "cc") rfl (by decide) ?_) (by rw [next_eq cl]))) (by walk_at "sc") ?_
      · intro e he
        have ae:atI (cs.map nl) (e:Int)=some (nl (cs.getD e [])):=atI_map (getD_some (by rw [cl]; exact he))
        have ne:=nrL_at (lvO n cs sm) he
        exact egn (by walk_at "sc") ⟨et_and (EvT.eq (et_test (ev_inI (neg:=false) (i:=(w.getD i 0:Nat)) (ns:=zl (cs.getD e [])) (ev_ixL (κ:=false) (by walk_at "ev") (EvE.eq (by walk_at "ev") (congrArg PyData.int e1)) a1) (EvE.toL (EvE.eq (κ:=false) (ev_ixL (κ:=false) (by walk_at "ev") (by walk_at "ev") ae) (nl_zl _))))) mem_zl) fun _=>EvT.eq (et_test (ev_eqD (neg:=false) (d:=oD (lvO n cs sm e)) (f:=.int ((t - (i + 1):Nat):Int)) (EvE.toD (κ:=false) (ev_ixL (κ:=false) (by walk_at "ev") (by walk_at "ev") ne)) (EvE.toD (κ:=false) (by walk_at "ev")) (by cases lvO n cs sm e <;> rfl) rfl)) (oD_eqv _ _),fun _=>by walk_at "ev"⟩
      generalize ((effF cs (w.getD i 0)).filter fun e=>decide (e∈rmN n cs sm (t - (i + 1))))=nx at N
      have n0:atI (nx.map fun k:Nat=>PyData.int (k:Int)) (0:Int)=some (.int (nrF cs sm (List.range n) (t - (i + 1)) (w.getD i 0):Nat)):=atI_map (i:=0) N
      have nn:nx≠[]:=fun z=>by rw [z] at N; cases N
      refine ex_if (b:=decide (nx=[]) || !decide (((w.getD (i + 1) 0:Nat):Int)=((nrF cs sm (List.range n) (t - (i + 1)) (w.getD i 0):Nat):Int))) (et_or (EvT.eq (et_test (ev_eqD (neg:=false) (EvE.toD (κ:=true) (by walk_at "ev")) (EvE.toD (κ:=true) (EvO.toE (evo_lst (ds:=[]) ea_nil (by decide)))) (shaped_nl _) rfl)) (eqv_nil _)) fun _=>et_test (ev_neI (ev_ixL (κ:=false) (by walk_at "ev") (EvE.eq (by walk_at "ev") (congrArg PyData.int e2)) a2) (ev_ixL (κ:=false) (by walk_at "ev") (by walk_at "ev") n0))) (fun h=>?_) (fun h=>ex_next ⟨_,_,_,rfl⟩)
      rw [decide_eq_false nn,W.2,decide_eq_true rfl] at h
      cases h
    · rintro Γ' ⟨x,y,z,rfl⟩
      exact ex_ret true (by walk_at "ev") rfl (.inl ⟨rfl,rfl⟩)
  · rw [lv_none ho] at ak
    refine exif2 (b:=isNone (oD none)) (et_test (ev_isN (EvE.toD (κ:=false) (ev_ixL (κ:=false) (by walk_at "ev") (by walk_at "ev") ak)))) (fun _=>?_) (fun h=>by cases h)
    exact exrs true (ev_isN (d:=.none) (EvE.toD (κ:=false) (by walk_at "ev"))) rfl (.inl ⟨rfl,rfl⟩)
theorem wd_ex (cs:List (List Nat)) (sm:List Nat) (k:Nat):∃ d,WdD cs sm k d:=by
  rcases Classical.em (∃ t,k∈rim cs sm (List.range cs.length) t) with ⟨t,ht⟩ | c
  · exact ⟨_,.inl ⟨t,ht,rfl⟩⟩
  · exact ⟨_,.inr ⟨fun t z=>c ⟨t,z⟩,rfl⟩⟩
theorem sc_law:FnScope ["_law_script", "_law_many", "_law_causes", "_law_cell", "_law_k", "_law_some", "_law_j", "_law_other", "_law_handed", "_law_asked", "_law_found", "_law_due", "_law_more"] ["_law_script"] (defScope (top 13)):=⟨rfl,rfl,rfl,by decide +kernel,rfl,by decide +kernel,by decide +kernel⟩
theorem ok_law (F:Fun K "law" "law" (top 13) f fd) (B:Bs mg) (c_law_cell_at:Callee P w K mg base CX0 "_law_cell_at" ["_law_script", "_law_k"] 1 (spD K true pre_law_cell_at)) (c_law_long:Callee P w K mg base CX0 "_law_long" ["_law_script", "_law_many"] 3 (spW K true pre_law_long)) (c_way_down:Callee P w K mg base CX0 "way_down" ["causes", "k", "some"] 3 (spD K true pre_way_down)) (c_law_good:Callee P w K mg base CX0 "_law_good" ["_law_causes", "_law_k", "_law_near", "_law_found"] 2 (spD K true pre_law_good)) (c_law_steps:Callee P w K mg base CX0 "_law_steps" ["_law_causes", "_law_some"] 1 (spD K true pre_law_steps)):FnOk P w K mg base CX0 4 f fd ["_law_script"] (spLaw K):=by
  have sc:=sc_law
  refine F.ok sc (fun vs H Q E h=>?_) (fun cdv A outer s H vs Q E hr h=>?_)
  · obtain ⟨a,ns,rfl,_⟩:=h
    rfl
  obtain ⟨a,ns,rfl,hS,h63,k⟩:=h
  have le:Same H H:=Same.refl H
  have dp:DpAll K H [V.ref a] [PyData.list (ns.map .int)]:=.cons (.lst hS (dpAll_ints ns)) .nil
  have q:∀ v H' F',Gr H H H' F'→Rp K false .fresh H F' v (.bool true)→Q v H':=fun v H' F' _ z=>by cases z; exact k H'
  refine ⟨_,(pss_cons (ps_set (i:=1) sc.nd rfl (Or.inl rfl) (pe_op op_add pe_int (pe_op op_mod (pe_fn c_law_cell_at (hr.mono (by decide)) rfl pass0 (pa_cons (pv 0) (pa_cons pe_int pa_nil))) pe_int)))
      (pss_cons (ps_set (i:=2) sc.nd rfl (Or.inl rfl) (pe_fn c_law_long (hr.mono (by decide)) rfl pass0 (pa_cons (pv 0) (pa_cons (pv 1) pa_nil))))
      (pss_cons (ps_set (i:=3) sc.nd rfl (Or.inl rfl) (pe_op op_mod (pe_op op_mulB (pe_fn c_law_cell_at (hr.mono (by decide)) rfl pass0 (pa_cons (pv 0) (pa_cons pe_int pa_nil))) pe_int) pe_int))
      (pss_cons (ps_set (i:=4) sc.nd rfl (Or.inl rfl) (pe_op op_mod (pv 3) (pv 1)))
      (pss_cons (ps_set (i:=5) sc.nd rfl (Or.inl rfl) (pe_lst pa_nil))
      (pss_cons (ps_for PassesOwn.never rfl (pi_range1 rfl B.range (pa_cons (pe_op op_mod (pe_op op_fdiv (pv 3) pe_int) pe_int) pa_nil)) (pg_name (i:=6) sc.nd rfl (Or.inl rfl)) (pss_cons (ps_set (i:=7) sc.nd rfl (Or.inr rfl) (pe_op op_mod (pe_fn c_law_cell_at (hr.mono (by decide)) rfl pass0 (pa_cons (pv 0) (pa_cons (pe_op op_add (pe_op op_add (pv 1) pe_int) (pv 6)) pa_nil))) (pv 1)))
      (pss_one (ps_if (PW.pt (pw_and (pt_cmpR (op_notIn_seqK (K:=K) rfl) (pv 7) (pv 5) (rfl)) (pw_and1 (PW.pt (pw_or (pt_cmpR op_ne (pv 7) (pv 4) (nomark _)) (pw_or1 (pt_cmpR op_eq (pe_op op_mod (pe_op op_fdiv (pv 3) pe_int) pe_int) pe_int (nomark _)))))))) (pss_one (ps_expr (pe_bmK (K:=K) rfl PySem.F.plainAttrs_list PySem.F.slot_list_append PySem.F.type_list_append mt_append (pv 5) (pa_cons (pv 7) pa_nil)))) pss_nil))))
      (pss_cons (ps_setComp (i:=8) rfl sc.nd rfl rfl (N:=["_law_row"]) (js:=[none]) (by walk_at "comp_ok") (pi_listK (K:=K) rfl (pv 2)) (fun _ _ _ _=>(pg_name (i:=0) (show List.Nodup (["_law_row"]:List PySem.Str) by decide +kernel) rfl (Or.inl rfl))) (fun _ _ _ _=>pif_nil) (fun _ _ _ _=>(pe_callTy (call_list_ofK (K:=K) rfl) rfl B.list (by decide +kernel) (pa_cons (pv 0) pa_nil))))
      (pss_cons (ps_set (i:=9) sc.nd rfl (Or.inl rfl) (pe_callTy (call_list_ofK (K:=K) rfl) rfl B.list (by decide +kernel) (pa_cons (pv 5) pa_nil)))
      (pss_cons (ps_set (i:=10) sc.nd rfl (Or.inl rfl) (pe_fn c_way_down (hr.mono (by decide)) rfl pass0 (pa_cons (pv 8) (pa_cons (pv 4) (pa_cons (pv 9) pa_nil)))))
      (pss_cons (ps_if (PW.pt (pw_or (pt_not (pt_val (pe_fn c_law_good (hr.mono (by decide)) rfl pass0 (pa_cons (pv 2) (pa_cons (pv 4) (pa_cons (pe_fn c_law_steps (hr.mono (by decide)) rfl pass0 (pa_cons (pv 2) (pa_cons (pv 5) pa_nil))) (pa_cons (pv 10) pa_nil))))))) (pw_or (pt_cmpR (op_neSK (K:=K) rfl hr.units) (pv 8) (pv 2) (nomark _)) (pw_or1 (pt_cmpR (op_neSK (K:=K) rfl hr.units) (pv 9) (pv 5) (nomark _)))))) (pss_one (ps_ret pe_bl)) pss_nil)
      (pss_cons (ps_if (pt_cmpR op_notN (pv 10) pe_non (nomark _)) (pss_cons (ps_set (i:=11) sc.nd rfl (Or.inl rfl) (pe_callTy (call_list_ofK (K:=K) rfl) rfl B.list (by decide +kernel) (pa_cons (pv 10) pa_nil)))
      (pss_cons (ps_expr (pe_bmK (K:=K) rfl PySem.F.plainAttrs_list PySem.F.slot_list_append PySem.F.type_list_append mt_append (pv 10) (pa_cons (pv 4) pa_nil)))
      (pss_one (ps_ret (pe_cmpR (op_eqSK (K:=K) rfl hr.units) (pe_fn c_way_down (hr.mono (by decide)) rfl pass0 (pa_cons (pv 8) (pa_cons (pv 4) (pa_cons (pv 9) pa_nil)))) (pv 11) (nomark _)))))) pss_nil)
      (pss_cons (ps_if (pt_cmpR op_gt (pv 1) pe_int (nomark _)) (pss_cons (ps_set (i:=7) sc.nd rfl (Or.inr rfl) (pe_op op_mod (pe_op op_add (pe_op op_add (pv 4) pe_int) (pe_op op_mod (pe_op op_fdiv (pv 3) pe_int) (pe_op op_sub (pv 1) pe_int))) (pv 1)))
      (pss_cons (ps_set (i:=12) sc.nd rfl (Or.inl rfl) (pe_op (op_catSK (K:=K) rfl) (pe_comp rfl (N:=["_law_j", "_law_other"]) (js:=[none,some 7]) (by walk_at "comp_ok") (pi_listK (K:=K) rfl (pv 5)) (fun _ _ _ _=>(pg_name (i:=0) (show List.Nodup (["_law_j", "_law_other"]:List PySem.Str) by decide +kernel) rfl (Or.inl rfl))) (fun _ _ _ _=>(pif_one (pt_cmpR op_ne (pv 0) (pv 1) (nomark _)))) (fun _ _ _ _=>(pv 0))) (pe_lst (pa_cons (pv 7) pa_nil))))
      (pss_one (ps_ret (pe_fn c_law_good (hr.mono (by decide)) rfl pass0 (pa_cons (pv 2) (pa_cons (pv 4) (pa_cons (pe_fn c_law_steps (hr.mono (by decide)) rfl pass0 (pa_cons (pv 2) (pa_cons (pv 12) pa_nil))) (pa_cons (pe_fn c_way_down (hr.mono (by decide)) rfl pass0 (pa_cons (pv 8) (pa_cons (pv 4) (pa_cons (pv 12) pa_nil)))) pa_nil))))))))) pss_nil)
      (pss_one (ps_ret (pe_cmpR (op_eqSK (K:=K) rfl hr.units) (pe_fn c_way_down (hr.mono (by decide)) rfl pass0 (pa_cons (pv 8) (pa_cons (pv 4) (pa_cons (pe_lst (pa_cons (pv 4) pa_nil)) pa_nil)))) (pe_lst (pa_cons (pv 4) pa_nil)) (nomark _)))))))))))))))),?_⟩
  have hN:(["_law_script", "_law_many", "_law_causes", "_law_cell", "_law_k", "_law_some", "_law_j", "_law_other", "_law_handed", "_law_asked", "_law_found", "_law_due", "_law_more"]:List Str).length=13:=rfl
  have big:=line_big
  walk_at "run"
  have f0:=Int.emod_nonneg (ns.getD 0 0) (show (12:Int)≠0 by decide)
  have f1:=Int.emod_lt_of_pos (ns.getD 0 0) (show (0:Int) < 12 by decide)
  obtain ⟨n,hn⟩:∃ n:Nat,1 + ns.getD 0 0 % 12=(n:Int):=⟨(1 + ns.getD 0 0 % 12).toNat,by omega⟩
  have n1:1≤n:=by omega
  have n12:n≤12:=by omega
  refine exs true (d:=.int n) (EvE.eq (ev_add (by walk_at "ev") (ev_mod (ev_callF (by walk_at "ev") (show pre_law_cell_at [il ns,.int 0] _ from ⟨ns,0,rfl,rfl⟩)) (by walk_at "ev") (by decide))) (congrArg PyData.int hn)) (by walk_at "sc") ?_
  refine exg true (evg_call (by walk_at "ev") ⟨ns,n,rfl,n12,rfl⟩) (fun d=>by walk_at "sc") ?_
  rintro d ⟨cs,sh,rfl⟩
  have cl:=sh.l
  have m1:IntMulOk (ns.getD 1 0) 48271:=small_mul (by decide) (by decide)
  generalize hce:ns.getD 1 0 * 48271 % 2147483647=ce
  refine exs true (d:=.int ce) (EvE.eq (ev_mod (ev_mul (ev_callF (by walk_at "ev") (show pre_law_cell_at [il ns,.int 1] _ from ⟨ns,1,rfl,rfl⟩)) (by walk_at "ev") m1) (by walk_at "ev") (by decide)) (congrArg PyData.int hce)) (by walk_at "sc") ?_
  obtain ⟨k,hk,kn⟩:=pick_mod ce (show 0 < n by omega)
  refine exs true (d:=.int k) (EvE.eq (ev_mod (j:=(n:Int)) (by walk_at "ev") (by walk_at "ev") (by omega)) (congrArg PyData.int hk)) (by walk_at "sc") ?_
  refine exo true (ds:=(zl []).map .int) (evo_lst (ds:=[]) ea_nil (by decide)) (by walk_at "sc") ?_
  obtain ⟨b,hb,b6⟩:=pick_mod (ce / 12) (show 0 < 6 by decide)
  have hb:ce / 12 % 6=(b:Int):=hb
  refine exfor (ds:=(List.range b).map fun i:Nat=>.int (i:Int)) true (fun i Γ=>∃ (sm:List Nat) (x y:Option DV),(∀ z∈sm,z < n)∧sm.length≤i∧Γ=[some (.fz false (il ns)),some (.fz true (.int n)),some (.fz true (nls cs)),some (.fz true (.int ce)),some (.fz true (.int k)),some (.ow true ((zl sm).map .int)),x,y,none,none,none,none,none]) (ei_rng1 (n:=(b:Int)) (ea_cons (EvE.eq (ev_mod (ev_fdiv (by walk_at "ev") (by walk_at "ev") ⟨by decide,by decide⟩) (by walk_at "ev") (by decide)) (congrArg PyData.int hb)) ea_nil) (by omega) (by omega)) ⟨[],none,none,fun _ z=>(by cases z),Nat.le_refl _,rfl⟩ ?_ ?_
  · rintro i d Γ' hd ⟨sm,x,y,lt,sl,rfl⟩
    obtain ⟨hi,rfl⟩:=range_get hd
    refine ⟨_,egn (by walk_at "sc") ?_⟩
    obtain ⟨o,ho,on⟩:=pick_mod (ns.getD (n + 2 + i) 0) (show 0 < n by omega)
    refine exs true (d:=.int o) (EvE.eq (ev_mod (j:=(n:Int)) (ev_callF (by walk_at "ev") (show pre_law_cell_at [il ns,.int ((n:Int) + 2 + (i:Int))] _ from ⟨ns,n + 2 + i,congrArg (fun z=>[il ns,PyData.int z]) (by omega),rfl⟩)) (by walk_at "ev") (by omega)) (congrArg PyData.int ho)) (by walk_at "sc") ?_
    refine ex_if (b:=(!decide ((o:Int)∈zl sm)) && ((!decide ((o:Int)=k)) || decide (ce / 72 % 4=1))) (et_and (et_test (ev_inI (neg:=true) (i:=(o:Int)) (ns:=zl sm) (by walk_at "ev") (by walk_at "ev"))) fun _=>et_or (by walk_at "ev") fun _=>et_test (ev_eqI (ev_mod (ev_fdiv (by walk_at "ev") (by walk_at "ev") ⟨by decide,by decide⟩) (by walk_at "ev") (by decide)) (by walk_at "ev"))) (fun h=>?_) (fun h=>?_)
    · refine exa1 (d:=.int (o:Int)) (by walk_at "gc") (by walk_at "ev") (by walk_at "sc") (by rw [List.length_map,zl_len]; omega) ?_
      refine ⟨sm ++ [o],_,_,fun z hz=>?_,by rw [List.length_append]; show _ + 1≤_; omega,by unfold zl; rw [List.map_append,List.map_append]; rfl⟩
      rcases List.mem_append.mp hz with hz | hz
      · exact lt z hz
      · rw [List.mem_singleton.mp hz]; exact on
    · exact ex_next ⟨sm,_,_,lt,by omega,rfl⟩
  rintro Γ' ⟨sm,x,y,lt,sl,rfl⟩
  rw [range_len] at sl
  refine exfz 5 (by walk_at "gc") (by walk_at "sc") ?_
  rw [show PyData.list ((zl sm).map .int)=nl sm from (nl_zl sm).symm]
  refine exs true (d:=nls cs) (EvO.toE (EvO.eq (evo_map (is:=[0]) false (fun d=>d) (ei_list (by walk_at "ev")) (by walk_at "cc") rfl (by decide) ?_ ?_) (by rw [List.map_id']))) (by walk_at "sc") ?_
  · rw [List.length_map]
    omega
  · intro d hd
    obtain ⟨v,_,rfl⟩:=List.mem_map.mp hd
    exact egn (by walk_at "sc") (EvO.toE (evo_list (EvL.imm (κ:=false) (EvE.toL (by walk_at "ev")) (nl_imm v))))
  refine exs true (d:=nl sm) (EvO.toE (evo_list (EvL.imm (κ:=false) (EvE.toL (by walk_at "ev")) (nl_imm sm)))) (by walk_at "sc") ?_
  have ps:∀ sm:List Nat,(∀ x∈sm,x < n)→pre_law_steps [nls cs,nl sm] (.list (nrL n (lvO n cs sm))):=fun sm lt=>⟨n,cs,sm,rfl,sh,n12,lt,rfl⟩
  have pw:∀ (sm:List Nat) (d:PyData),WdD cs sm k d→pre_way_down [nls cs,.int k,nl sm] d:=fun sm d w=>⟨cs,k,sm,rfl,by omega,w⟩
  have pg:∀ (sm:List Nat) (d:PyData),WdD cs sm k d→pre_law_good [nls cs,.int k,.list (nrL n (lvO n cs sm)),d] (.bool true):=fun sm d w=>⟨n,cs,sm,k,d,rfl,sh,n12,kn,w,rfl⟩
  obtain ⟨d,wd⟩:=wd_ex cs sm k
  rcases wd with ⟨t,ht,rfl⟩ | ⟨ho,rfl⟩
  · have wd:WdD cs sm k (nl (wyF cs sm (List.range cs.length) t k)):=.inl ⟨t,ht,rfl⟩
    have tl:=rim_lt List.nodup_range ht
    rw [List.length_range,cl] at tl
    have wl:=wy_len cs sm (List.range cs.length) t k
    generalize wyF cs sm (List.range cs.length) t k=w at wd wl
    refine exo true (ds:=w.map fun k:Nat=>.int (k:Int)) (evo_call (by walk_at "ev") (pw sm _ wd) (nl_imm _)) (by walk_at "sc") ?_
    refine exifF (b:=!true || (false || false)) (et_thaw 10 (by walk_at "gc") (by walk_at "sc") (et_or (et_not (et_B (ev_callF (ea_cons (by walk_at "ev") (ea_cons (by walk_at "ev") (ea_cons (ev_callF (by walk_at "ev") (ps sm lt)) (ea_cons (by walk_at "ev") ea_nil)))) (pg sm _ wd)))) fun _=>et_or (et_test (ev_neSm (EvE.toD (κ:=true) (by walk_at "ev")) (EvE.toD (κ:=true) (by walk_at "ev")) (shaped_nls cs))) fun _=>et_test (ev_neSm (EvE.toD (κ:=true) (by walk_at "ev")) (EvE.toD (κ:=true) (by walk_at "ev")) (shaped_nl sm)))) rfl ?_
    refine exif (b:=!isNone (nl w)) (fun _=>False) (et_thaw 10 (by walk_at "gc") (by walk_at "sc") (et_test (ev_notN (EvE.toD (κ:=true) (by walk_at "ev"))))) (fun _=>?_) (fun h=>by cases h) fun _ z=>z.elim
    refine exs true (d:=nl w) (EvO.toE (evo_list (EvL.imm (κ:=true) (by walk_at "ev") (nl_imm w)))) (by walk_at "sc") ?_
    refine exa (d:=.int (k:Int)) (by walk_at "gc") (by walk_at "ev") (by walk_at "sc") (by rw [List.length_map]; omega) ?_
    exact ex_ret false (ev_eqSm (d:=nl w) (EvE.toD (κ:=true) (ev_callF (by walk_at "ev") (pw sm _ wd))) (EvE.toD (κ:=true) (by walk_at "ev")) (shaped_nl w)) rfl (.inr rfl)
  · have wd:WdD cs sm k .none:=.inr ⟨ho,rfl⟩
    refine exs true (d:=.none) (ev_callF (by walk_at "ev") (pw sm _ wd)) (by walk_at "sc") ?_
    refine exifF (b:=!true || (false || false)) (et_or (et_not (et_B (ev_callF (ea_cons (by walk_at "ev") (ea_cons (by walk_at "ev") (ea_cons (ev_callF (by walk_at "ev") (ps sm lt)) (ea_cons (by walk_at "ev") ea_nil)))) (pg sm _ wd)))) fun _=>et_or (et_test (ev_neSm (EvE.toD (κ:=true) (by walk_at "ev")) (EvE.toD (κ:=true) (by walk_at "ev")) (shaped_nls cs))) fun _=>et_test (ev_neSm (EvE.toD (κ:=true) (by walk_at "ev")) (EvE.toD (κ:=true) (by walk_at "ev")) (shaped_nl sm))) rfl ?_
    refine exifF (b:=!isNone .none) (et_test (ev_notN (EvE.toD (κ:=true) (by walk_at "ev")))) rfl ?_
    refine exif (b:=decide ((1:Int) < (n:Int))) (·=[some (.fz false (il ns)),some (.fz true (.int n)),some (.fz true (nls cs)),some (.fz true (.int ce)),some (.fz true (.int k)),some (.fz true (nl sm)),x,y,some (.fz true (nls cs)),some (.fz true (nl sm)),some (.fz true .none),none,none]) (by walk_at "ev") (fun h=>?_) (fun _=>ex_next rfl) ?_
    · have h:1 < n:=by have:=of_decide_eq_true h; omega
      obtain ⟨o,ho',on⟩:=pick_mod ((k:Int) + 1 + ce / 288 % ((n:Int) - 1)) (show 0 < n by omega)
      refine exs true (d:=.int o) (EvE.eq (ev_mod (j:=(n:Int)) (ev_add (by walk_at "ev") (ev_mod (j:=(n:Int) - 1) (ev_fdiv (by walk_at "ev") (by walk_at "ev") ⟨by decide,by decide⟩) (by walk_at "ev") (by omega))) (by walk_at "ev") (by omega)) (congrArg PyData.int ho')) (by walk_at "sc") ?_
      have fl:=List.length_filter_le (fun j:Nat=>!decide ((j:Int)=(o:Int))) sm
      refine exs true (d:=nl ((sm.filter fun j:Nat=>!decide ((j:Int)=(o:Int))) ++ [o])) (EvO.toE (EvO.eq (evo_cat (xs:=(sm.filter fun j:Nat=>!decide ((j:Int)=(o:Int))).map fun k:Nat=>.int (k:Int)) (ys:=[o].map fun k:Nat=>.int (k:Int)) (EvO.toL (evo_eachIf (κ:=true) (is:=[0]) (xs:=sm) false (fun k:Nat=>.int (k:Int)) (fun k:Nat=>.int (k:Int)) (fun j=>!decide ((j:Int)=(o:Int))) (fun x _ y _ h=>by cases nl_inj h; exact ⟨rfl,rfl⟩) (ei_list (by walk_at "ev")) (by walk_at "cc") rfl (by decide) (by omega) ?_)) (EvO.toL (evo_lst (ds:=[.int (o:Int)]) (ea_cons (by walk_at "ev") ea_nil) (by show 1≤_; omega))) (by rw [List.length_map]; show _ + 1≤_; omega)) (by rw [List.map_append]))) (by walk_at "sc") ?_
      · intro j hj
        exact egn (by walk_at "sc") ⟨et_test (ev_neI (by walk_at "ev") (by walk_at "ev")),fun _=>by walk_at "ev"⟩
      have lt2:∀ x∈(sm.filter fun j:Nat=>!decide ((j:Int)=(o:Int))) ++ [o],x < n:=fun z hz=>by
        rcases List.mem_append.mp hz with hz | hz
        · exact lt z (List.mem_filter.mp hz).1
        · rw [List.mem_singleton.mp hz]; exact on
      generalize (sm.filter fun j:Nat=>!decide ((j:Int)=(o:Int))) ++ [o]=more at lt2
      obtain ⟨d2,wd2⟩:=wd_ex cs more k
      exact ex_ret false (ev_callF (ea_cons (by walk_at "ev") (ea_cons (by walk_at "ev") (ea_cons (ev_callF (by walk_at "ev") (ps more lt2)) (ea_cons (ev_callF (by walk_at "ev") (pw more _ wd2)) ea_nil)))) (pg more _ wd2)) rfl (.inr rfl)
    · rintro Γ' rfl
      have wd3:WdD cs [k] k (nl [k]):=.inl ⟨0,List.mem_filter.mpr ⟨List.mem_range.mpr (by rw [cl]; exact kn),decide_eq_true (List.mem_singleton.mpr rfl)⟩,rfl⟩
      exact ex_ret false (ev_eqSm (d:=nl [k]) (EvE.toD (κ:=true) (ev_callF (ea_cons (by walk_at "ev") (ea_cons (by walk_at "ev") (ea_cons (EvO.toE (evo_lst (ds:=[.int (k:Int)]) (ea_cons (by walk_at "ev") ea_nil) (by show 1≤_; omega))) ea_nil))) (pw [k] _ wd3))) (EvE.toD (κ:=true) (EvO.toE (evo_lst (ds:=[.int (k:Int)]) (ea_cons (by walk_at "ev") ea_nil) (by show 1≤_; omega)))) (shaped_nl [k])) rfl (.inr rfl)
end
theorem all_ok {l:PySem.W.OpenLaw} {w:World} {K:PySem.W.Frag} {h:Heap} {mg:Str→Option Value} {fa:Addr} (X:K.In h) (G:h.Ns mainGlobals mg) (hfa:mg "law" = some (.ref fa))
    (d1:∃ f fd,At K "meet" (top 1) f fd) (d2:∃ f fd,At K "effects" (top 2) f fd) (d3:∃ f fd,At K "steps_down" (top 3) f fd) (d4:∃ f fd,At K "nearer" (top 4) f fd) (d5:∃ f fd,At K "way_down" (top 5) f fd) (d7:∃ f fd,At K "_law_cell_at" (top 7) f fd) (d8:∃ f fd,At K "_law_shape" (top 8) f fd) (d9:∃ f fd,At K "_law_long" (top 9) f fd) (d10:∃ f fd,At K "_law_numbers" (top 10) f fd) (d11:∃ f fd,At K "_law_steps" (top 11) f fd) (d12:∃ f fd,At K "_law_good" (top 12) f fd)
    {f0:Addr} {oc:Value} {od an:Option Addr} {osl:Array (Option Value)} {kV doc pm cdv ct:Value} (a0:PySem.W.nsIn K mainGlobals "law" = some (some (.ref f0)))
    (l0:K.lookup f0=some ⟨oc,od,.func (PySem.W.fnOf "law" "law" (defArgs (top 13)) (defBody (top 13)) (defScope (top 13)) .none kV doc pm an cdv ct),osl⟩) (c0:PySem.W.codeIn K cdv "law" = true) (k0:PySem.W.keepIn K (.ref f0)=true)
    (z1:PySem.W.nsIn K mainGlobals "len" = some none) (z2:PySem.W.nsIn K mainGlobals "set" = some none) (z3:PySem.W.nsIn K mainGlobals "range" = some none) (z4:PySem.W.nsIn K mainGlobals "list" = some none) (z5:PySem.W.nsIn K mainGlobals "sorted" = some none) (z6:PySem.W.nsIn K mainGlobals "isinstance" = some none) (z7:PySem.W.nsIn K mainGlobals "all" = some none) (z8:PySem.W.nsIn K mainGlobals "int" = some none) (z9:PySem.W.nsIn K mainGlobals "bool" = some none) :
    ∃ fd:FuncData,(∀ (s:Shared) (v:Value),BindsTo s fd ⟨[v],[]⟩ [("_law_script", v)])∧∀ base:Heap,K.In base→base.Ns mainGlobals mg→FnOk l.prog w K mg base CX0 4 fa fd ["_law_script"] (spLaw K):=by
  have e:=hfa.symm.trans (PySem.W.mg_of X G a0)
  cases e
  have nn:∀ {x:Str},PySem.W.nsIn K mainGlobals x=some none→mg x=none:=fun z=>PySem.W.mg_none_of X G z
  have B:Bs mg:=⟨nn z1,nn z2,nn z3,nn z4,nn z5,nn z6,nn z7,nn z8,nn z9⟩
  refine ⟨PySem.W.fnOf "law" "law" (defArgs (top 13)) (defBody (top 13)) (defScope (top 13)) .none kV doc pm an cdv ct,fun s v=>.of_eq rfl,fun base _ _=>?_⟩
  have mm:∀ {x:Str} {f:Addr},PySem.W.nsIn K mainGlobals x=some (some (.ref f))→mg x=some (.ref f):=fun z=>PySem.W.mg_of X G z
  obtain ⟨f1,g1,a1,F1⟩:=d1
  have b1:=F1.binds (ps:=["some", "others"]) fun _ _ _ _ _ _ us hl=>match us,hl with | [_,_],_=>rfl
  have C_meet:=callee (P:=l.prog) (w:=w) (base:=base) F1 (mm a1) b1 (ok_meet F1 B)
  obtain ⟨f2,g2,a2,F2⟩:=d2
  have b2:=F2.binds (ps:=["causes", "k"]) fun _ _ _ _ _ _ us hl=>match us,hl with | [_,_],_=>rfl
  have C_effects:=callee (P:=l.prog) (w:=w) (base:=base) F2 (mm a2) b2 (ok_effects F2 B)
  obtain ⟨f3,g3,a3,F3⟩:=d3
  have b3:=F3.binds (ps:=["causes", "some", "within"]) fun _ _ _ _ _ _ us hl=>match us,hl with | [_,_,_],_=>rfl
  have C_steps_down:=callee (P:=l.prog) (w:=w) (base:=base) F3 (mm a3) b3 (ok_steps_down F3 B C_meet C_effects)
  obtain ⟨f4,g4,a4,F4⟩:=d4
  have b4:=F4.binds (ps:=["causes", "steps", "k"]) fun _ _ _ _ _ _ us hl=>match us,hl with | [_,_,_],_=>rfl
  have C_nearer:=callee (P:=l.prog) (w:=w) (base:=base) F4 (mm a4) b4 (ok_nearer F4 B C_effects)
  obtain ⟨f5,g5,a5,F5⟩:=d5
  have b5:=F5.binds (ps:=["causes", "k", "some"]) fun _ _ _ _ _ _ us hl=>match us,hl with | [_,_,_],_=>rfl
  have C_way_down:=callee (P:=l.prog) (w:=w) (base:=base) F5 (mm a5) b5 (ok_way_down F5 B C_steps_down C_nearer)
  obtain ⟨f7,g7,a7,F7⟩:=d7
  have b7:=F7.binds (ps:=["_law_script", "_law_k"]) fun _ _ _ _ _ _ us hl=>match us,hl with | [_,_],_=>rfl
  have C__law_cell_at:=callee (P:=l.prog) (w:=w) (base:=base) F7 (mm a7) b7 (ok_law_cell_at F7 B)
  obtain ⟨f8,g8,a8,F8⟩:=d8
  have b8:=F8.binds (ps:=["_law_script", "_law_first", "_law_many"]) fun _ _ _ _ _ _ us hl=>match us,hl with | [_,_,_],_=>rfl
  have C__law_shape:=callee (P:=l.prog) (w:=w) (base:=base) F8 (mm a8) b8 (ok_law_shape F8 B C__law_cell_at)
  obtain ⟨f9,g9,a9,F9⟩:=d9
  have b9:=F9.binds (ps:=["_law_script", "_law_many"]) fun _ _ _ _ _ _ us hl=>match us,hl with | [_,_],_=>rfl
  have C__law_long:=callee (P:=l.prog) (w:=w) (base:=base) F9 (mm a9) b9 (ok_law_long F9 B C__law_shape C__law_cell_at)
  obtain ⟨f10,g10,a10,F10⟩:=d10
  have b10:=F10.binds (ps:=["_law_found"]) fun _ _ _ _ _ _ us hl=>match us,hl with | [_],_=>rfl
  have C__law_numbers:=callee (P:=l.prog) (w:=w) (base:=base) F10 (mm a10) b10 (ok_law_numbers F10 B)
  obtain ⟨f11,g11,a11,F11⟩:=d11
  have b11:=F11.binds (ps:=["_law_causes", "_law_some"]) fun _ _ _ _ _ _ us hl=>match us,hl with | [_,_],_=>rfl
  have C__law_steps:=callee (P:=l.prog) (w:=w) (base:=base) F11 (mm a11) b11 (ok_law_steps F11 B)
  obtain ⟨f12,g12,a12,F12⟩:=d12
  have b12:=F12.binds (ps:=["_law_causes", "_law_k", "_law_near", "_law_found"]) fun _ _ _ _ _ _ us hl=>match us,hl with | [_,_,_,_],_=>rfl
  have C__law_good:=callee (P:=l.prog) (w:=w) (base:=base) F12 (mm a12) b12 (ok_law_good F12 B C__law_numbers)
  exact ok_law (fun_mk l0 c0 k0) B C__law_cell_at C__law_long C_way_down C__law_good C__law_steps
theorem walk {l:PySem.W.OpenLaw} {q:Program} {loose:List Str} {XP:(Str→Option Value)→Heap→Prop} {YP:World→Heap→Prop} {d:DefRec} {K:Params→PySem.W.Frag} (hn:l.most=some 63) (hdf:d.params.defaults=[])
    (hY:∀ (w:World) (h:Heap),YP w h→(K w.params).In h) (hT:∀ (w:World) (h:Heap),YP w h→(∀ p∈tabsOf (K w.params),h.get? p.1=some (PySem.W.tabObj #[]))∧tabsUq (K w.params)=true)
    (F:∀ (w:World) (mg:Str→Option Value) (fa:Addr) (h:Heap),(K w.params).In h→h.Ns mainGlobals mg→mg d.name=some (.ref fa) →
      ∃ fd:FuncData,(∀ (s:Shared) (u:Value),BindsTo s fd ⟨[u],[]⟩ [("_law_script", u)])∧∀ base:Heap,(K w.params).In base→base.Ns mainGlobals mg→FnOk l.prog w (K w.params) mg base CX0 4 fa fd ["_law_script"] (spLaw (K w.params))) :
    PySem.W.WalkO q loose XP YP l.row.toRowW d [] (fun f vs=>PySem.call f vs) :=
  L2.walk_of (n:=63) (k:=4) (x := "_law_script") (CX:=fun _=>CX0) (sp:=fun w=>spLaw (K w.params)) hn (by decide) hdf ⟨rfl,by decide,by decide⟩ hY hT F (fun _ _ a ns hl hS=>⟨a,ns,rfl,hS,hl,fun _=>rfl⟩) fun _ _ _ _ _ z=>z
end K13
open PySem PySem.W PyProof.Rows
set_option maxRecDepth 100000 in
set_option maxHeartbeats 0 in
theorem PySem.Challenge.cw_causebook_k13_way_down_holds : PySem.Challenge.rw_causebook_k13_way_down.Holds := by
  w_on; o_law; k_head; (case hw=>w_witness2)
  k_fill
  refine K13.walk (l:=PySem.Challenge.rw_causebook_k13_way_down) rfl rfl (fun w h Y=>PySem.W.kIn_of Y) (fun w h Y=>⟨tabs_no (by kernel_rfl),by kernel_rfl⟩) ?F
  case F =>
    intro w mg fa h KX G hmg
    refine' K13.all_ok KX G hmg ?d1 ?d2 ?d3 ?d4 ?d5 ?d7 ?d8 ?d9 ?d10 ?d11 ?d12 ?a0 ?l0 ?c0 ?k0 ?z1 ?z2 ?z3 ?z4 ?z5 ?z6 ?z7 ?z8 ?z9
    (case d1=>(refine' Cm.top_mk ?a ?l ?c ?k; (case a=>k_is); (case l=>k_is); (case c=>k_is); (case k=>k_is)))
    (case d2=>(refine' Cm.top_mk ?a ?l ?c ?k; (case a=>k_is); (case l=>k_is); (case c=>k_is); (case k=>k_is)))
    (case d3=>(refine' Cm.top_mk ?a ?l ?c ?k; (case a=>k_is); (case l=>k_is); (case c=>k_is); (case k=>k_is)))
    (case d4=>(refine' Cm.top_mk ?a ?l ?c ?k; (case a=>k_is); (case l=>k_is); (case c=>k_is); (case k=>k_is)))
    (case d5=>(refine' Cm.top_mk ?a ?l ?c ?k; (case a=>k_is); (case l=>k_is); (case c=>k_is); (case k=>k_is)))
    (case d7=>(refine' Cm.top_mk ?a ?l ?c ?k; (case a=>k_is); (case l=>k_is); (case c=>k_is); (case k=>k_is)))
    (case d8=>(refine' Cm.top_mk ?a ?l ?c ?k; (case a=>k_is); (case l=>k_is); (case c=>k_is); (case k=>k_is)))
    (case d9=>(refine' Cm.top_mk ?a ?l ?c ?k; (case a=>k_is); (case l=>k_is); (case c=>k_is); (case k=>k_is)))
    (case d10=>(refine' Cm.top_mk ?a ?l ?c ?k; (case a=>k_is); (case l=>k_is); (case c=>k_is); (case k=>k_is)))
    (case d11=>(refine' Cm.top_mk ?a ?l ?c ?k; (case a=>k_is); (case l=>k_is); (case c=>k_is); (case k=>k_is)))
    (case d12=>(refine' Cm.top_mk ?a ?l ?c ?k; (case a=>k_is); (case l=>k_is); (case c=>k_is); (case k=>k_is)))
    (case a0=>k_is); (case l0=>k_is); (case c0=>k_is); (case k0=>k_is)
    (case z1=>k_is); (case z2=>k_is); (case z3=>k_is); (case z4=>k_is); (case z5=>k_is); (case z6=>k_is); (case z7=>k_is); (case z8=>k_is); (case z9=>k_is)
#print axioms PySem.Challenge.cw_causebook_k13_way_down_holds
