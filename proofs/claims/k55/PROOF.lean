import PyProof.Rows.All
import Wide.All
import OpenK.AllK
import Wide.FinOn
import Lean
import PyProof.EqAt
import PyProof.EqKinds
import PyProof.TupleCall
import PySem.Challenge.RW_causebook_k55_why_not
set_option Elab.async false
set_option linter.all false
set_option maxRecDepth 100000
set_option genSizeOf false
local macro_rules | `(tactic| omega) => `(tactic| first | lia | omega (config := {}))
abbrev aA:=PySem.W.Frag
abbrev aB:=@List.length_map
abbrev aD:=@List.mem_singleton
abbrev aM:=@List.getD_eq_getElem?_getD
abbrev aP:=@List.getElem?_eq_some_iff
abbrev aG:=@List.length_append
abbrev aO:=@List.mem_append_right
abbrev aC:=@Nat.le_refl
abbrev aR:=@PySem.Heap.get?_push_of_some
abbrev aK:=@List.mem_cons_self
abbrev aS:=@List.mem_of_getElem?
abbrev aJ:=@List.mem_filter
abbrev aE:=@PySem.Heap.lt_size
abbrev aF:=@List.mem_map
abbrev aN:=@List.map_append
abbrev bD:=@List.getElem?_eq_getElem
abbrev aQ:=@List.mem_append
abbrev bA:=@List.mem_cons_of_mem
abbrev aU:=@List.getElem?_map
abbrev aY:=@Bool.false_ne_true
abbrev aV:=@List.length_range
abbrev bH:=@List.getElem?_set_self
abbrev aL:=@Nat.ne_of_lt
abbrev bK:=@PySem.F.plainAttrs_list
abbrev bE:=@PySem.Heap.get?_push_size
abbrev aT:=@List.mem_cons
abbrev bF:=@Nat.lt_of_lt_of_le
abbrev bJ:=@List.forall_mem_cons
abbrev bM:=@List.getElem?_set_ne
abbrev aZ:=@List.mem_range
abbrev bP:=@List.length_filter_le
abbrev bR:=@List.mem_append_left
abbrev bG:=@List.append_nil
abbrev bB:=@List.map_cons
abbrev bI:=@Option.some.inj
abbrev bX:=@PySem.F.type_list_append
abbrev bY:=@PySem.F.slot_list_append
abbrev aW:=@Nat.zero_le
abbrev bC:=@List.map_map
abbrev bQ:=@List.any_eq_true
abbrev bS:=@List.length_cons
abbrev bZ:=@Bool.and_eq_true_iff
abbrev bT:=@List.size_toArray
abbrev bU:=@List.nodup_append
abbrev bN:=@Nat.lt_irrefl
abbrev cB:=@List.getElem?_eq_none
abbrev bV:=@List.nodup_cons
abbrev bO:=@Nat.le_trans
abbrev cM:=@List.take_of_length_le
abbrev cW:=@Option.isSome_iff_exists
abbrev bW:=@Nat.not_lt_zero
abbrev cG:=@List.length_pos_iff
abbrev cA:=@List.length_drop
abbrev cC:=@List.all_eq_true
abbrev cN:=@List.getElem?_range
abbrev cO:=@Array.length_toList
abbrev cQ:=@List.filter_append
abbrev cH:=@Nat.lt_succ_self
abbrev cI:=@List.mem_reverse
abbrev cJ:=@List.length_take
abbrev dA:=@PySem.F.plain_min_loop
abbrev dB:=@List.length_pos_of_mem
abbrev cR:=@List.append_assoc
abbrev cS:=@Bool.eq_false_iff
abbrev cE:=@List.nodup_nil
abbrev dC:=@List.eq_nil_or_concat
abbrev dD:=@List.concat_eq_append
abbrev cT:=@List.take_length
abbrev cU:=@List.lookup_cons
abbrev dH:=@List.length_eq_zero_iff
abbrev cF:=@List.any_cons
abbrev cX:=@Nat.lt_succ_of_lt
abbrev dI:=@PySem.F.slot_dict_get
abbrev dE:=@List.pairwise_cons
abbrev dJ:=@Array.getElem?_toList
abbrev dR:=@List.getLastD_eq_getLast?
abbrev dL:=@List.mem_iff_getElem
abbrev dM:=@List.dropLast_concat
abbrev cY:=@List.filter_nil
abbrev dN:=@List.filter_sublist
abbrev dS:=@List.filter_cons_of_pos
abbrev dU:=@List.filter_cons_of_neg
abbrev dO:=@List.mem_filterMap
abbrev cV:=@Nat.ne_of_gt
abbrev cK:=@Nat.le_succ
abbrev dF:=@List.range_succ
abbrev dV:=@List.mem_iff_getElem?
abbrev dW:=@PySem.Heap.get?_update_other
abbrev eI:=@List.drop_eq_getElem_cons
abbrev dX:=@List.map_congr_left
abbrev cZ:=@List.any_map
abbrev eJ:=@List.getElem?_replicate
abbrev dG:=@PySem.Heap.size_push
abbrev dP:=@Bool.eq_iff_iff
abbrev eK:=@PySem.F.entry_dict_get
abbrev eL:=@Nat.lt_of_succ_lt_succ
abbrev dY:=@List.pairwise_map
abbrev dQ:=@List.take_zero
abbrev dZ:=@List.nodup_range
abbrev eA:=@List.mem_flatMap
abbrev eB:=@List.getElem_mem
abbrev eC:=@List.getElem_inj
abbrev eD:=@List.filter_cons
abbrev eE:=@Bool.and_eq_true
abbrev eM:=@List.length_dropLast
abbrev eO:=@List.getElem?_mapIdx
abbrev eP:=@List.map_eq_nil_iff
abbrev eT:=@Array.getD_eq_getD_getElem?
abbrev eQ:=@List.length_mapIdx
abbrev eU:=@List.length_erase_of_mem
abbrev eV:=@List.getElem?_take_of_lt
abbrev eR:=@List.flatMap_cons
abbrev eW:=@PySem.F.plainAttrs_dict
abbrev eX:=@Option.bind_eq_some_iff
abbrev eF:=@List.sum_cons
abbrev eG:=@List.all_cons
abbrev eY:=@PySem.F.entry_min_loop
abbrev eZ:=@Option.map_eq_some_iff
abbrev fA:=@List.pairwise_lt_range
abbrev fB:=@PySem.F.type_list_pop
abbrev fC:=@PySem.F.slot_list_pop
abbrev eS:=@Option.map_some
abbrev eH:=@Nat.le_of_lt
abbrev fD:=@List.take_append_drop
abbrev aX (l:List PySem.Str):Prop:=l.Nodup
namespace L2
open PySem PySem.Spec PyProof.Rows
abbrev Key:=Sum Int Str
def YL:Key->Value->Bool
 | .inl k,v=>Value.isInt k v
 | .inr x,v=>Value.isStrOf x v
def keyH (w:World):Key->Int
 | .inl k=>hashInt k
 | .inr x=>hashStr w x
theorem yz:∀ {k:Key} {v:Value},YL k v=true->(∃ i t,k=Sum.inl i/\v=Value.int i t)\/(∃ x t,k=Sum.inr x/\v=Value.str x t)
 | .inl i,v,h=>by
  obtain ⟨t,e⟩:=Value.isInt_shape (k:=i) (v:=v) h
  exact .inl ⟨i,t,rfl,e⟩
 | .inr x,v,h=>by
  obtain ⟨t,e⟩:=Value.isStrOf_shape (x:=x) (v:=v) h
  exact .inr ⟨x,t,rfl,e⟩
theorem TY (i:Int) (t:Tok):YL (.inl i) (.int i t)=true:=by simp [YL,Value.isInt]
theorem TX (x:Str) (t:Tok):YL (.inr x) (.str x t)=true:=by simp [YL,Value.isStrOf]
theorem zdU (a b:Int):decide ((Sum.inl a:Key)=Sum.inl b)=(a == b):=by
 by_cases e:a=b
 ·subst e;simp
 ·have h:¬ (Sum.inl a:Key)=Sum.inl b:=fun q=>e (Sum.inl.inj q)
  rw [decide_eq_false h]
  exact (beq_eq_false_iff_ne.mpr e).symm
theorem zdR (a b:Str):decide ((Sum.inr a:Key)=Sum.inr b)=decide (a=b):=by
 by_cases e:a=b
 ·subst e;simp
 ·have h:¬ (Sum.inr a:Key)=Sum.inr b:=fun q=>e (Sum.inr.inj q)
  rw [decide_eq_false h,decide_eq_false e]
theorem zdT (a:Int) (b:Str):decide ((Sum.inl a:Key)=Sum.inr b)=false:=decide_eq_false (fun q=>nomatch q)
theorem zdS (a:Str) (b:Int):decide ((Sum.inr a:Key)=Sum.inl b)=false:=decide_eq_false (fun q=>nomatch q)
def yi (prog:Program) (w:World):PySem.KeyKind prog w Key where
 is:=YL
 hash:=keyH w
 inj:=fun v a b ha hb=>by
  rcases yz ha with ⟨i,t,rfl,rfl⟩ | ⟨x,t,rfl,rfl⟩
  ·rcases yz hb with ⟨j,u,rfl,e⟩ | ⟨y,u,rfl,e⟩
   ·injection e with e1 _;rw [e1]
   ·exact nomatch e
  ·rcases yz hb with ⟨j,u,rfl,e⟩ | ⟨y,u,rfl,e⟩
   ·exact nomatch e
   ·injection e with e1 _;rw [e1]
 byValue:=fun k v h=>by
  rcases yz h with ⟨i,t,rfl,rfl⟩ | ⟨x,t,rfl,rfl⟩ <;> rfl
 pyHash:=fun hv h=>by
  rcases yz hv with ⟨i,t,rfl,rfl⟩ | ⟨x,t,rfl,rfl⟩
  ·exact wpAny_pyHash_int h
  ·exact wpAny_pyHash_str h
 eqBool:=fun hu hv h=>by
  rcases yz hu with ⟨i,t,rfl,rfl⟩ | ⟨x,t,rfl,rfl⟩
  ·rcases yz hv with ⟨j,u,rfl,rfl⟩ | ⟨y,u,rfl,rfl⟩
   ·rw [zdU] at h;exact wpAny_eqBool_int h
   ·rw [zdT] at h;exact SeqAt.EqAt.int_str i t y u _ _ _ _ h
  ·rcases yz hv with ⟨j,u,rfl,rfl⟩ | ⟨y,u,rfl,rfl⟩
   ·rw [zdS] at h;exact SeqAt.EqAt.str_int x t j u _ _ _ _ h
   ·rw [zdR] at h;exact wpAny_eqBool_str h
 «strs»:=fun k x t v h=>by
  rcases yz h with ⟨i,u,rfl,e⟩ | ⟨y,u,rfl,e⟩
  ·exact nomatch e
  ·injection e with e1 _
   subst e1
   cases v <;> rfl
theorem WZ (prog:Program) (w:World) (i:Int) (t:Tok):(yi prog w).is (.inl i) (.int i t)=true:=TY i t
theorem WY (prog:Program) (w:World) (x:Str) (t:Tok):(yi prog w).is (.inr x) (.str x t)=true:=TX x t
inductive V where
 | non | bl (b:Bool) | int (i:Int) | str (x:Str) | byt (b:Array UInt8) | flt (b:UInt64) | ref (a:Addr) | ty (n:String)
 deriving DecidableEq
def RelV:V->Value->Prop
 | .non,u=>u=Value.none
 | .bl b,u=>u=Value.bool b
 | .int i,u=>∃ t,u=Value.int i t
 | .str x,u=>∃ t,u=Value.str x t
 | .byt b,u=>∃ t,u=Value.bytes b t
 | .flt b,u=>∃ t,u=Value.float b t
 | .ref a,u=>u=Value.ref a
 | .ty n,u=>u=Value.type n
abbrev Vals:List V->List Value->Prop:=Paired RelV
theorem Vals.length (r:Vals xs us):xs.length=us.length:=Paired.length r
theorem Vals.get:∀ {xs:List V} {us:List Value} {i:Nat} {x:V},Vals xs us->xs[i]?=some x->∃ u,us[i]?=some u/\RelV x u
 | _,_,_,_,.nil,e=>by simp at e
 | _,_,0,_,.cons r _,e=>by simp at e;subst e;exact ⟨_,rfl,r⟩
 | _,_,i + 1,x,.cons _ t,e=>by
  obtain ⟨u,a,b⟩:=Vals.get (i:=i) (x:=x) t (by simpa using e)
  exact ⟨u,by simpa using a,b⟩
theorem Vals.append:∀ {xs ys:List V} {us ws:List Value},Vals xs us->Vals ys ws->Vals (xs ++ ys) (us ++ ws)
 | _,_,_,_,.nil,s=>s
 | _,_,_,_,.cons r t,s=>.cons r (Vals.append t s)
theorem Vals.take:∀ {xs:List V} {us:List Value} (n:Nat),Vals xs us->Vals (xs.take n) (us.take n)
 | _,_,0,_=>.nil
 | _,_,_ + 1,.nil=>.nil
 | _,_,n + 1,.cons r t=>.cons r (Vals.take n t)
theorem Vals.drop:∀ {xs:List V} {us:List Value} (n:Nat),Vals xs us->Vals (xs.drop n) (us.drop n)
 | _,_,0,r=>r
 | _,_,_ + 1,.nil=>.nil
 | _,_,n + 1,.cons _ t=>Vals.drop n t
def RelO:Option V->Option Value->Prop
 | some v,some u=>RelV v u
 | none,none=>True
 | _,_=>False
def KV {U:Type}:List (U×V)->List (U×Value)->Prop:=Paired fun (p:U×V) (q:U×Value)=>p.1=q.1/\RelV p.2 q.2
def kV:Key->V
 | .inl i=>.int i
 | .inr x=>.str x
inductive HO where
 | lst (xs:List V)
 | tup (xs:List V)
 | dK (kvs:List (Key×V)) | dT (kvs:List (List Key×V))
 | set (S:Int->Bool) (n:Nat)
 | ins (C dx:Addr) (fs:List (Str×V))
 | own (x:Addr)
 | xd (fs:List (Str×V))
 | met (f x:Addr)
 | rng (lo hi:Int)
 | frz (o:Obj) (u:HO)
 | tbl (ps:Array Value)
 | ext (φ:Heap->Prop)
abbrev Hp:=Addr->Option HO
def upd (H:Hp) (a:Addr) (o:HO):Hp:=fun b=>if b=a then some o else H b
theorem zi:upd H a o a=some o:=by unfold upd;rw [if_pos rfl]
theorem zp (h:b≠a):upd H a o b=H b:=by unfold upd;rw [if_neg h]
theorem YI {H:Hp} {a b:Addr} {o u:HO} (h:H a=some o) (h':H b=some u) (d:o≠u):a≠b:=by
 intro e;subst e;rw [h] at h';exact d (bI h')
theorem zB {H:Hp} {a b:Addr} {o:HO} (h:H a=some o) (h':H b=none):a≠b:=by
 intro e;subst e;rw [h] at h';cases h'
def Zb (H:Hp) (b:Addr) (ys:List V):Prop:=H b=some (.tup ys)\/∃ o:Obj,(∀ v,o.data≠.cell v)/\H b=some (.frz o (.tup ys))
def tagQ (ps:Array Value):Str:=match (ps[0]?:Option Value) with | some (.str q _)=>q | _ => ""
section
variable (P:Program) (w:World)
def yj (H:Hp) (h:Heap) (a:Addr):HO->Prop
 | .lst xs=>xs.length<=sizeLine/\∃ (its:List Value) (n:Nat),Vals xs its/\h.get? a=some { cls:=.type "list", data:=.seq its.toArray n }
 | .tup xs=>xs.length<=sizeLine/\∃ its:List Value,Vals xs its/\IsTup h a its.toArray
 | .dK kvs=>kvs.length<=sizeLine/\(a == sysModules)=false/\∃ vs,KV kvs vs/\h.DictOf (yi P w) a vs
 | .dT kvs=>kvs.length<=sizeLine/\(a == sysModules)=false/\∃ xs:List (List Key×Addr×Value),
   Paired (fun (p:List Key×V) (q:List Key×Addr×Value)=>p.1=q.1/\Zb H q.2.1 (p.1.map kV)/\RelV p.2 q.2.2) kvs xs /\
   ∃ o es ep,h.get? a=some o/\o.ExactDict/\o.data=.dict es ep/\es.toList=xs.map (entryOfKey (tupleKind (yi P w)))/\(xs.map (·.1)).Nodup
 | .set S n=>h.SetOf (intKind P w) a S n
 | .ins C dx fs=>H dx=some (.own a)/\fs.length<=1000/\dx≠a/\h.get? a=some (PySem.W.instObj C dx) /\
   ∃ mA,h.Ns1 dx mA/\(∀ f,RelO (fs.lookup f) (mA f))/\PySem.Within mA (fs.map (·.1))
 | .own _=>∃ o,h.get? a=some o
 | .xd fs=>∃ mA,h.Ns1 a mA/\∀ f,RelO (fs.lookup f) (mA f)
 | .rng lo hi=>∃ t u v,h.get? a=some { cls:=.type "range", data:=.fields #[.int lo t,.int hi u,.int 1 v] }
 | .frz o u=>h.get? a=some o/\yj H h a u
 | .tbl ps=>∃ vs:Array Value,h.get? a=some (PySem.W.tabObj vs)/\TriplesOk vs.toList/\∀ p v,codeAmong p vs.toList=some v->∃ b o fs t,v=.ref b/\H b=some (.frz o (.ext fun _=>True))/\o.data=.fields fs/\fs[1]?=some (.str (tagQ ps) t)
 | .met f x=>h.get? a=some (PySem.W.methodObj (.ref f) (.ref x))
 | .ext φ=>φ h/\(∃ o,h.get? a=some o)/\∀ h1 h2:Heap,φ h1->(∀ o,h1.get? a=some o->h2.get? a=some o)->φ h2
def HOk (H:Hp) (h:Heap):Prop:=∀ a o,H a=some o->yj P w H h a o
end
section
variable {P:Program} {w:World} {H H':Hp} {h h':Heap} {a:Addr} {o:HO}
theorem yj.lt (x:yj P w H h a o):a < h.objs.size:=by
 cases o with
 | lst xs=>obtain ⟨_,_,_,_,e⟩:=x;exact aE e
 | tup xs=>obtain ⟨_,_,_,p⟩:=x;exact p.lt
 | dK kvs=>obtain ⟨_,_,_,_,o,_,_,e,_⟩:=x;exact aE e
 | dT kvs=>obtain ⟨_,_,_,_,o,_,_,e,_⟩:=x;exact aE e
 | set S n=>obtain ⟨o,_,_,_,e,_⟩:=x;exact aE e
 | ins C dx fs=>obtain ⟨_,_,_,e,_⟩:=x;exact aE e
 | own y=>obtain ⟨_,e⟩:=x;exact aE e
 | xd fs=>obtain ⟨_,⟨_,_,_,e,_⟩,_⟩:=x;exact aE e
 | rng lo hi=>obtain ⟨_,_,_,e⟩:=x;exact aE e
 | frz ob u=>obtain ⟨e,_⟩:=x;exact aE e
 | tbl ps=>obtain ⟨_,e,_⟩:=x;exact aE e
 | met f y=>exact aE (show h.get? a=some _ from x)
 | ext φ=>obtain ⟨_,⟨_,e⟩,_⟩:=x;exact aE e
theorem Paired.mapP:∀ {c:List α} {d:List β},Paired F c d->(∀ a b,F a b->G a b)->Paired G c d
 | _,_,.nil,_=>.nil
 | _,_,.cons r t,f=>.cons (f _ _ r) (Paired.mapP t f)
theorem yj.stay (x:yj P w H h a o) (k:∀ b u,(b=a\/H b=some (.own a))->h.get? b=some u->h'.get? b=some u)
  (B:∀ b,H b=some (.own a)->H' b=some (.own a)) (D:∀ b xs,H b=some (.tup xs)->H' b=some (.tup xs))
  (s:∀ b o u,H b=some (.frz o u)->(∀ v,o.data≠.cell v)->H' b=some (.frz o u):=by first | exact fun _ _ _ q _=>q | (intro b o u z _;rw [zp (zB z (by assumption))];exact z) | (intro b o u z _;rw [zp (fun e=>by subst e;simp_all [Mut])];exact z)):yj P w H' h' a o:=by
 induction o with
 | lst xs=>obtain ⟨z,j,n,r,e⟩:=x;exact ⟨z,j,n,r,k _ _ (.inl rfl) e⟩
 | tup xs=>obtain ⟨z,j,r,ob,e,c⟩:=x;exact ⟨z,j,r,ob,k _ _ (.inl rfl) e,c⟩
 | dK kvs=>obtain ⟨z,y,vs,r,ob,g,i,e,c⟩:=x;exact ⟨z,y,vs,r,ob,g,i,k _ _ (.inl rfl) e,c⟩
 | dT kvs =>
  obtain ⟨z,y,xs,r,ob,g,i,e,c⟩:=x
  exact ⟨z,y,xs,Paired.mapP r fun p q z=>⟨z.1,z.2.1.imp (D _ _) fun ⟨o,n,y⟩=>⟨o,n,s _ _ _ y n⟩,z.2.2⟩,ob,g,i,k _ _ (.inl rfl) e,c⟩
 | set S n=>obtain ⟨ob,g,i,t,e,c⟩:=x;exact ⟨ob,g,i,t,k _ _ (.inl rfl) e,c⟩
 | ins C dx fs =>
  obtain ⟨d,z,ne,e,l,⟨od,g,i,m,c⟩,r⟩:=x
  exact ⟨B _ d,z,ne,k _ _ (.inl rfl) e,l,⟨od,g,i,k _ _ (.inr d) m,c⟩,r⟩
 | own y=>obtain ⟨ob,e⟩:=x;exact ⟨ob,k _ _ (.inl rfl) e⟩
 | xd fs=>obtain ⟨l,⟨od,g,i,e,c⟩,r⟩:=x;exact ⟨l,⟨od,g,i,k _ _ (.inl rfl) e,c⟩,r⟩
 | rng lo hi=>obtain ⟨t,u,v,e⟩:=x;exact ⟨t,u,v,k _ _ (.inl rfl) e⟩
 | frz ob u E=>obtain ⟨e,q⟩:=x;exact ⟨k _ _ (.inl rfl) e,E q⟩
 | tbl ps=>obtain ⟨vs,e,t,z⟩:=x;exact ⟨vs,k _ _ (.inl rfl) e,t,fun p v y=>let ⟨b,o,fs,t,F,m,A⟩:=z p v y;⟨b,o,fs,t,F,s _ _ _ m (fun v y=>by rw [A.1] at y;cases y),A⟩⟩
 | met f y =>
  have e:h.get? a=some (PySem.W.methodObj (.ref f) (.ref y)):=x
  show h'.get? a=some (PySem.W.methodObj (.ref f) (.ref y))
  exact k a _ (.inl rfl) e
 | ext φ=>obtain ⟨p,⟨o,e⟩,st⟩:=x;exact ⟨st _ _ p fun o q=>k _ _ (.inl rfl) q,⟨o,k _ _ (.inl rfl) e⟩,st⟩
theorem HOk.lt (x:HOk P w H h) (e:H a=some o):a < h.objs.size:=(x a o e).lt
theorem HOk.fresh (x:HOk P w H h) (e:h.objs.size<=a):H a=none:=by
 cases q:H a with
 | none=>rfl
 | some u=>exact absurd (bF (x.lt q) e) (bN _)
theorem HOk.kept (x:HOk P w H h) (k:∀ b u,h.get? b=some u->h'.get? b=some u):HOk P w H h':=fun a o e =>
 (x a o e).stay (fun b u _ q=>k b u q) (fun _ q=>q) fun _ _ q=>q
theorem HOk.laid (x:HOk P w H h) (k:∀ b u,h.get? b=some u->h'.get? b=some u) (g:h.objs.size<=a) (new:yj P w (upd H a o) h' a o):HOk P w (upd H a o) h':=fun b u e=>by
 have d:=x.fresh g
 by_cases f:b=a
 ·subst f;rw [zi] at e;cases e;exact new
 ·rw [zp f] at e
  exact (x b u e).stay (fun c v _ q=>k c v q) (fun c q=>by rw [zp (zB q d)];exact q) fun c xs q=>by rw [zp (zB q d)];exact q
end
def Rd (H:Hp) (a:Addr) (u:HO):Prop:=H a=some u\/∃ o,H a=some (.frz o u)
theorem Rd.ok (r:Rd H a u) (x:HOk P w H h):yj P w H h a u:=by
 rcases r with r | ⟨o,r⟩
 ·exact x a u r
 ·obtain ⟨_,q⟩:=x a _ r
  exact q
def Mut:Option HO->Prop
 | some (.lst _)=>True
 | some (.dK _)=>True
 | some (.dT _)=>True
 | some (.set _ _)=>True
 | some (.ins _ _ _)=>True
 | some (.ext _)=>True
 | _=>False
section
variable {P:Program} {w:World} {H:Hp} {h h':Heap} {x e:Addr} {o':HO}
theorem HOk.write (ok:HOk P w H h) (g:Mut (H x)) (m:e=x\/H e=some (.own x)) (k:∀ b u,b≠e->h.get? b=some u->h'.get? b=some u) (l:∃ u,h'.get? e=some u)
  (new:yj P w (upd H x o') h' x o'):HOk P w (upd H x o') h':=fun b u q=>by
 have d:∀ c y,H c=some (.own y)->c≠x:=fun c y r z=>by subst z;rw [r] at g;exact g
 have f:∀ c xs,H c=some (.tup xs)->c≠x:=fun c xs r z=>by subst z;rw [r] at g;exact g
 by_cases i:b=x
 ·subst i;rw [zi] at q;cases q;exact new
 ·rw [zp i] at q
  by_cases a:b=e
  ·have n:H b=some (.own x):=by
    rcases m with z | z
    ·exact absurd (a.trans z) i
    ·rw [a];exact z
   rw [q] at n;cases n
   obtain ⟨v,o⟩:=l
   exact ⟨v,by rw [a];exact o⟩
  ·refine (ok b u q).stay (fun c v j r=>k c v ?_ r) (fun c r=>by rw [zp (d c b r)];exact r) fun c xs r=>by rw [zp (f c xs r)];exact r
   rcases j with rfl | j
   ·exact a
   ·rintro rfl
    rcases m with z | z
    ·exact d c b j z
    ·rw [j] at z;cases z;exact i rfl
end
structure Un (fs ex:List Addr) (H H':Hp) (h h':Heap):Prop where
 keep:∀ b o,h.get? b=some o->H b=none->b∉fs->b∉ex->h'.get? b=some o
 slot:∀ b o,h.get? b=some o->H b=none->b∈fs->b∉ex->∃ sl,h'.get? b=some { o with slots:=sl }
 free:∀ b o,h.get? b=some o->H b=none->b∉ex->H' b=none
 there:∀ b o,h.get? b=some o->b∉ex->∃ o',h'.get? b=some o'
 tups:∀ b xs,H b=some (.tup xs)->H' b=some (.tup xs)
 frzs:∀ b o u,H b=some (.frz o u)->H' b=some (.frz o u)
 tbls:∀ b ps,H b=some (.tbl ps)->∃ more,H' b=some (.tbl (ps ++ more))
section
variable {fs fs' ex ex':List Addr} {H H1 H2:Hp} {h h1 h2 h':Heap} {a x e:Addr} {o:HO}
theorem Un.any (u:Un fs ex H H1 h h1) (q:h.get? b=some ob) (n:H b=none) (a:b∉ex):∃ sl,h1.get? b=some { ob with slots:=sl }:=by
 by_cases c:b∈fs
 ·exact u.slot b ob q n c a
 ·exact ⟨ob.slots,u.keep b ob q n c a⟩
theorem Un.kept (k:∀ b u,h.get? b=some u->h'.get? b=some u):Un fs ex H H h h' :=
 ⟨fun b ob q _ _ _=>k b ob q,fun b ob q _ _ _=>⟨ob.slots,k b ob q⟩,fun _ _ _ n _=>n,fun b ob q _=>⟨ob,k b ob q⟩,fun _ _ q=>q,fun _ _ _ q=>q,fun _ ps q=>⟨#[],by rw [q];simp⟩⟩
theorem Un.refl:Un fs ex H H h h:=Un.kept fun _ _ q=>q
theorem Un.laid (k:∀ b u,h.get? b=some u->h'.get? b=some u) (d:h.objs.size<=a) (c:H a=none):Un fs ex H (upd H a o) h h' where
 keep:=fun b u q _ _ _=>k b u q
 slot:=fun b u q _ _ _=>⟨u.slots,k b u q⟩
 free:=fun b u q n _=>by rw [zp (aL (bF (aE q) d))];exact n
 there:=fun b u q _=>⟨u,k b u q⟩
 tups:=fun b xs q=>by rw [zp (zB q c)];exact q
 frzs:=fun b u xs q=>by rw [zp (zB q c)];exact q
 tbls:=fun b ps q=>⟨#[],by rw [zp (zB q c),q];simp⟩
theorem Un.write (c:Mut (H x)) (j:e=x\/H e=some (.own x)) (k:∀ b u,b≠e->h.get? b=some u->h'.get? b=some u) (d:∃ u,h'.get? e=some u):Un fs ex H (upd H x o) h h':=by
 have g:∀ b,H b=none->b≠x:=fun b n z=>by subst z;rw [n] at c;exact c
 have i:∀ b,H b=none->b≠e:=fun b n z=>by
  subst z
  rcases j with r | r
  ·exact g b n r
  ·rw [n] at r;cases r
 have f:∀ b u,H b=some u->¬ Mut (some u)->b≠x:=fun b u q l z=>by subst z;rw [q] at c;exact l c
 refine ⟨fun b u q n _ _=>k b u (i b n) q,fun b u q n _ _=>⟨u.slots,k b u (i b n) q⟩,fun b u q n _=>by rw [zp (g b n)];exact n,fun b u q _=>?_,
  fun b xs q=>by rw [zp (f b _ q fun z=>z)];exact q,fun b u xs q=>by rw [zp (f b _ q fun z=>z)];exact q,fun b ps q=>⟨#[],by rw [zp (f b _ q fun z=>z),q];simp⟩⟩
 by_cases a:b=e
 ·subst a;exact d
 ·exact ⟨u,k b u a q⟩
end
def trk (h:Heap) (H:Hp):List Addr:=(List.range h.objs.size).filter fun a=>(H a).isSome
def hidT (h:Heap) (H:Hp):Heap:=PySem.W.hideAll h (trk h H)
theorem T0 (h:Heap) (H:Hp):(hidT h H).objs.size=h.objs.size:=PySem.W.hideAll_size _ _
theorem zax (e:h.get? b=some o) (n:H b=none):(hidT h H).get? b=some o :=
 PySem.W.hideAll_get _ e fun a=>by
  have q:(H b).isSome=true:=(aJ.mp a).2
  rw [n] at q;simp at q
theorem zbW (e:(hidT h H).get? b=some o):h.get? b=some o/\H b=none:=by
 have a:h.get? b=some o:=PySem.W.of_hideAll (trk h H) e
 refine ⟨a,?_⟩
 cases q:H b with
 | none=>rfl
 | some x =>
  have c:b∈trk h H:=List.mem_filter.mpr ⟨List.mem_range.mpr (Heap.lt_size a),by simp [q]⟩
  have z:(hidT h H).get? b=none:=PySem.W.hideAll_none (trk h H) c
  rw [z] at e;cases e
def zav:List Str:=["above", "beneath", "above_in", "clumps", "reach", "least_parting", "least_set", "why_not"]
def Qn (o:Obj):Option (Addr×Str):=match o.cls,o.data with
 | .type "code", .fields vs=>(match (vs[1]?:Option Value),(vs[11]?:Option Value) with
  | some (.str q _),some (.ref P)=>if zav.contains q then some (P,q ++ ".<locals>.<lambda>") else none
  | _,_=>none)
 | _,_=>none
def yg (K:aA):List (Addr×Str):=K.filterMap fun p=>(K.lookup p.1).bind Qn
def Xg (K:aA):Bool:=(yg K).all fun p=>(K.lookup p.1).isNone && (yg K).all fun q=>decide (p.1=q.1->p.2=q.2)
def TbOk (K:aA) (H:Hp):Prop:=∀ p∈yg K,∃ t more,H p.1=some (.tbl (#[.str p.2 t] ++ more))
theorem TbOk.un {K:aA} {fs ex:List Addr} {H H':Hp} {h h':Heap} (t:TbOk K H) (u:Un fs ex H H' h h'):TbOk K H':=fun p a=>by
 obtain ⟨k,m,e⟩:=t p a
 obtain ⟨b,c⟩:=u.tbls _ _ e
 exact ⟨k,m ++ b,by rw [c,Array.append_assoc]⟩
structure Mod (K:aA) (mg:Str->Option Value) (base:Heap):Prop where
 kin:K.In base
 glob:base.Ns mainGlobals mg
 blt:∃ mb,base.Ns builtinsNs mb/\∀ x:Str,x ≠ "__name__" -> mb x=bootBuiltins x
 nolimit:base.NoLimit
 bm:∃ bm ob,mg "__builtins__" = some (.ref bm)/\bm≠builtinsNs/\base.get? bm=some ob/\ob.cls=.type "module" /\ ob.dict=some builtinsNs/\ob.data=.plain
structure Cx where
 prog:Program
 w:World
 K:aA
 mg:Str->Option Value
 base:Heap
 A:Around
 N:List Str
 s₀:Shared
 H₀:Hp
 env:Env
 outer:List Env
 stack:List Env
 ex:List Addr
 fn:Str->Bool
 calm:Bool
 pn:List (Addr×Obj)
 xe:Value->Shared->Prop
def frs (l:List Env):List Addr:=l.filterMap (·.frame)
abbrev Cx.fs (X:Cx):List Addr:=frs X.outer
def Vis (sc:Scope) (x:Str):Prop:=sc.names.lookup x=some .local\/sc.names.lookup x=some .cell\/sc.names.lookup x=some .free
def Loc (sc:Scope) (x:Str):Prop:=sc.names.lookup x=some .local\/sc.names.lookup x=some .cell
def Look (env:Env) (h:Heap) (m:Str->Option Value) (x:Str) (u:Value):Prop :=
 (env.kindOf x=some .local/\m x=some u)\/((env.kindOf x=some .cell\/env.kindOf x=some .free)/\∃ c,env.cells.lookup x=some c/\h.IsCell c (some u))
structure Cx.Ok (X:Cx):Prop where
 mod:Mod X.K X.mg X.base
 kind:X.env.scope.kind=.function
 glob:X.env.globals=mainGlobals
 blt:X.env.builtins=builtinsNs
 above:X.s₀.heap.objs.size<=X.env.locals
 inj:∀ x y c,X.env.cells.lookup x=some c->X.env.cells.lookup y=some c->x=y
 has:∀ x,(X.env.kindOf x=some .cell\/X.env.kindOf x=some .free)->∃ c,X.env.cells.lookup x=some c
 cab:∀ x c,X.fn x=true->X.env.cells.lookup x=some c->X.s₀.heap.objs.size<=c
 hd:X.calm=true->X.A.handled=none
 frames:X.A.frames=some X.stack
 stk:X.stack=X.outer\/(X.stack=X.env :: X.outer/\X.env.frame=some X.env.locals)
 exf:∀ b∈X.ex,b≠X.env.locals/\∀ x c,X.env.cells.lookup x=some c->c≠b
 bs:∀ b o,X.base.get? b=some o->X.s₀.heap.get? b=some o/\X.H₀ b=none
 bsz:X.base.objs.size<=X.s₀.heap.objs.size
 noex:∀ b o,X.base.get? b=some o->b∉X.ex
 exfs:∀ b∈X.ex,b∉X.fs
 funs:X.s₀.heap.FunFrames X.base X.outer
 frf:∀ b∈X.fs,X.H₀ b=none
 tb:TbOk X.K X.H₀
structure Inv (X:Cx) (pins:List (Addr×Obj)) (O:List (Option V)) (H:Hp) (s:Shared):Prop where
 ok:X.Ok
 os:s.os=X.s₀.os
 bare:AllBare s.gens
 base:Un X.fs X.ex X.H₀ H X.s₀.heap s.heap
 loc:∃ m,s.heap.Ns X.env.locals m/\∀ (i:Nat) (x:Str) (v:V),X.N[i]?=some x->O[i]?=some (some v)->Vis X.env.scope x->∃ u,RelV v u/\Look X.env s.heap m x u
 cell:∀ x c,X.env.cells.lookup x=some c->∃ v,s.heap.IsCell c v
 free:H X.env.locals=none
 freeC:∀ x c,X.env.cells.lookup x=some c->H c=none\/X.fn x=false/\∃ o u,H c=some (.frz o u)
 pin:∀ p∈X.pn ++ pins,s.heap.get? p.1=some p.2/\H p.1=none/\p.1≠X.env.locals/\p.1∉X.fs/\∀ v,p.2.data≠.cell v
 hok:HOk X.prog X.w H s.heap
 len:O.length=X.N.length
section
variable {X:Cx} {pins:List (Addr×Obj)} {O:List (Option V)} {H H':Hp} {s:Shared} {h':Heap}
theorem Cx.Ok.nofr (ok:X.Ok) (e:X.base.get? b=some o):b∉X.fs:=fun a=>by
 have:=(ok.funs.mem a).1
 rw [e] at this;cases this
theorem Inv.bs (I:Inv X pins O H s):∀ b o,X.base.get? b=some o->s.heap.get? b=some o/\H b=none:=fun b o e =>
 ⟨I.base.keep b o (I.ok.bs b o e).1 (I.ok.bs b o e).2 (I.ok.nofr e) (I.ok.noex b o e),I.base.free b o (I.ok.bs b o e).1 (I.ok.bs b o e).2 (I.ok.noex b o e)⟩
theorem Inv.bk (I:Inv X pins O H s):∀ b o,X.base.get? b=some o->s.heap.get? b=some o:=fun b o e=>(I.bs b o e).1
theorem Inv.mod (I:Inv X pins O H s):Mod X.K X.mg X.base:=I.ok.mod
theorem Inv.kIn (I:Inv X pins O H s):X.K.In s.heap:=I.ok.mod.kin.keeps I.bk
theorem Inv.lt (I:Inv X pins O H s):X.env.locals < s.heap.objs.size:=let ⟨_,a,_⟩:=I.loc;a.lt
theorem Inv.sz (I:Inv X pins O H s):X.s₀.heap.objs.size<=s.heap.objs.size:=bO I.ok.above (eH I.lt)
theorem Inv.nofs (I:Inv X pins O H s) (h:s.heap.objs.size<=a):a∉X.fs:=fun b=>by
 obtain ⟨_,o,c,_⟩:=I.ok.funs.mem b
 exact absurd (bF (aE c) (bO I.sz h)) (bN _)
theorem Inv.cne (I:Inv X pins O H s):∀ x c,X.env.cells.lookup x=some c->c≠X.env.locals:=fun x c e z=>by
 obtain ⟨v,o,d,hd⟩:=I.cell x c e
 obtain ⟨m,⟨o',f,g,a,b,_⟩,_⟩:=I.loc
 rw [z,a] at d;cases d;rw [b] at hd;cases hd
theorem Inv.funs (I:Inv X pins O H s):s.heap.FunFrames X.base X.outer:=by
 have all:∀ (l:List Env),(∀ b∈frs l,b∈X.fs)->X.s₀.heap.FunFrames X.base l->s.heap.FunFrames X.base l:=by
  intro l
  induction l with
  | nil=>intro _ _;trivial
  | cons env r g =>
   intro f h
   obtain ⟨i,⟨L,o,a,j,k,hd⟩,m⟩:=h
   have c:L∈X.fs:=f L (by unfold frs;rw [List.filterMap_cons,a];exact List.mem_cons_self)
   obtain ⟨sl,e⟩:=I.base.slot L o k (I.ok.frf L c) c fun z=>I.ok.exfs L z c
   exact ⟨i,⟨L,_,a,j,e,hd⟩,g (fun b d=>f b (by unfold frs;rw [List.filterMap_cons,a];exact List.mem_cons_of_mem _ d)) m⟩
 exact all X.outer (fun _ d=>d) I.ok.funs
theorem Inv.stack (I:Inv X pins O H s):s.heap.FunFrames X.base X.stack:=by
 rcases I.ok.stk with e | ⟨e,a⟩
 ·rw [e];exact I.funs
 ·rw [e]
  obtain ⟨m,b,_⟩:=I.loc
  refine .cons (by rw [I.ok.kind];decide) a b ?_ I.funs
  exact Heap.get?_none_of_le (bO I.ok.bsz I.ok.above)
theorem Inv.stkSub (I:Inv X pins O H s):∀ b∈frs X.stack,b∈X.env.locals :: X.fs:=fun b a=>by
 rcases I.ok.stk with e | ⟨e,c⟩
 ·rw [e] at a;exact bA _ a
 ·rw [e] at a
  unfold frs at a
  rw [List.filterMap_cons,c] at a
  exact a
theorem Inv.stkFree (I:Inv X pins O H s):∀ b∈frs X.stack,H b=none:=fun b a=>by
 rcases aT.mp (I.stkSub b a) with e | a
 ·rw [e];exact I.free
 ·obtain ⟨_,o,c,_⟩:=I.ok.funs.mem a
  exact I.base.free b o c (I.ok.frf b a) fun z=>I.ok.exfs b z a
theorem Inv.step {g':Array GenState} {t':Nat} {d':Drawn} {ch:List Addr} (I:Inv X pins O H s)
  (f:∀ b∈ch,(b∈X.ex\/X.s₀.heap.objs.size<=b)/\b≠X.env.locals/\(∀ x c,X.env.cells.lookup x=some c->c≠b)/\∀ p∈X.pn ++ pins,p.1≠b)
  (keep:∀ b o,b≠X.env.locals->b∉X.fs->b∉ch->s.heap.get? b=some o->H b=none->h'.get? b=some o)
  (slot:∀ b o,b≠X.env.locals->b∈X.fs->b∉ch->s.heap.get? b=some o->H b=none->∃ sl,h'.get? b=some { o with slots:=sl }) (free:∀ b o,b∉ch->s.heap.get? b=some o->H b=none->H' b=none)
  (there:∀ b o,b∉ch->s.heap.get? b=some o->∃ o',h'.get? b=some o')
  (tups:∀ b xs,H b=some (.tup xs)->H' b=some (.tup xs)) (frzs:∀ b o u,H b=some (.frz o u)->H' b=some (.frz o u)) (tbls:∀ b ps,H b=some (.tbl ps)->∃ more,H' b=some (.tbl (ps ++ more)))
  (ns:∀ m,s.heap.Ns X.env.locals m->h'.Ns X.env.locals m) (hok:HOk X.prog X.w H' h') (N:AllBare g') :
  Inv X pins O H' { s with heap:=h',gens:=g',drawn:=d',toks:=t' }:=by
 have C:∀ b o,X.s₀.heap.get? b=some o->b≠X.env.locals:=fun b o e=>aL (bF (aE e) I.ok.above)
 have j:∀ b o,X.s₀.heap.get? b=some o->b∉X.ex->b∉ch:=fun b o e a y=>by
  rcases (f b y).1 with z | z
  ·exact a z
  ·exact absurd (bF (aE e) z) (bN _)
 have g:∀ x c,X.env.cells.lookup x=some c->∀ v,s.heap.IsCell c v->h'.IsCell c v:=fun x c e v ⟨o,A,hd⟩=>by
  have h:c∉ch:=fun z=>(f c z).2.2.1 x c e rfl
  rcases I.freeC x c e with B | ⟨_,E,F,B⟩
  ·by_cases J:c∈X.fs
   ·obtain ⟨sl,q⟩:=slot c o (I.cne x c e) J h A B
    exact ⟨_,q,hd⟩
   ·exact ⟨o,keep c o (I.cne x c e) J h A B,hd⟩
  ·have K:=(I.hok c _ B).1
   rw [A] at K
   cases K
   exact ⟨o,(hok c _ (frzs c _ _ B)).1,hd⟩
 refine ⟨I.ok,I.os,N,⟨fun b o e n y a=>?_,fun b o e n y a=>?_,fun b o e n a=>?_,fun b o e a=>?_,fun b xs e=>tups b xs (I.base.tups b xs e),fun b o xs e=>frzs b o xs (I.base.frzs b o xs e),fun b ps e=>?_⟩,?_,fun x c e=>?_,?_,fun x c e=>?_,fun p L=>?_,hok,I.len⟩
 ·exact keep b o (C b o e) y (j b o e a) (I.base.keep b o e n y a) (I.base.free b o e n a)
 ·obtain ⟨sl,t⟩:=I.base.slot b o e n y a
  obtain ⟨G,D⟩:=slot b _ (C b o e) y (j b o e a) t (I.base.free b o e n a)
  exact ⟨G,D⟩
 ·obtain ⟨o',t⟩:=I.base.there b o e a
  exact free b o' (j b o e a) t (I.base.free b o e n a)
 ·obtain ⟨o',t⟩:=I.base.there b o e a
  exact there b o' (j b o e a) t
 ·obtain ⟨fF,t⟩:=I.base.tbls b ps e
  obtain ⟨P,D⟩:=tbls b _ t
  exact ⟨fF ++ P,by rw [D,Array.append_assoc]⟩
 ·obtain ⟨m,B,Q⟩:=I.loc
  refine ⟨m,ns m B,fun i x v t D R=>?_⟩
  obtain ⟨u,r,l⟩:=Q i x v t D R
  refine ⟨u,r,?_⟩
  rcases l with l | ⟨k,c,e,z⟩
  ·exact .inl l
  ·exact .inr ⟨k,c,e,g x c e _ z⟩
 ·obtain ⟨v,z⟩:=I.cell x c e
  exact ⟨v,g x c e v z⟩
 ·obtain ⟨m,⟨o,_,_,A,_⟩,_⟩:=I.loc
  exact free _ o (fun z=>(f _ z).2.1 rfl) A I.free
 ·obtain ⟨v,o,A,hd⟩:=I.cell x c e
  exact (I.freeC x c e).elim (fun n=>.inl (free c o (fun z=>(f c z).2.2.1 x c e rfl) A n)) fun ⟨S,E,F,T⟩=>.inr ⟨S,E,F,frzs c E F T⟩
 ·obtain ⟨e,n,ne,M,d⟩:=I.pin p L
  have h:p.1∉ch:=fun z=>(f p.1 z).2.2.2 p L rfl
  exact ⟨keep p.1 p.2 ne M h e n,free p.1 p.2 h e n,ne,M,d⟩
theorem Inv.un {t':Nat} (I:Inv X pins O H s) (u:Un X.fs [] H H' s.heap h') (hok:HOk X.prog X.w H' h'):Inv X pins O H' { s with heap:=h',toks:=t' }:=by
 obtain ⟨m,⟨o,k,l,g,r⟩,_⟩:=id I.loc
 obtain ⟨sl,h⟩:=u.any g I.free (by simp)
 exact I.step (g':=s.gens) (d':=s.drawn) (ch:=[]) (fun _ z=>nomatch z) (fun b o _ c _ e n=>u.keep b o e n c (by simp)) (fun b o _ c _ e n=>u.slot b o e n c (by simp)) (fun b o _ e n=>u.free b o e n (by simp)) (fun b o _ e=>u.there b o e (by simp)) u.tups u.frzs u.tbls (fun p i=>by
  obtain ⟨o',d,f,a,j⟩:=i
  rw [g] at a;cases a
  exact ⟨_,d,f,h,j⟩) hok I.bare
theorem Inv.call {g':Array GenState} {t':Nat} {d':Drawn} {ch:List Addr} (I:Inv X pins O H s) (u:Un (frs X.stack) ch H H' s.heap h') (hok:HOk X.prog X.w H' h') (k:AllBare g')
  (d:∀ b∈ch,(b∈X.ex\/X.s₀.heap.objs.size<=b)/\b≠X.env.locals/\(∀ x c,X.env.cells.lookup x=some c->c≠b)/\∀ p∈X.pn ++ pins,p.1≠b) :
  Inv X pins O H' { s with heap:=h',gens:=g',drawn:=d',toks:=t' }:=by
 obtain ⟨m,⟨o,v,y,j,r⟩,_⟩:=id I.loc
 obtain ⟨sl,g⟩:=u.any j I.free fun z=>(d _ z).2.1 rfl
 exact I.step (ch:=ch) d (fun b o g l a e n=>u.keep b o e n (fun z=>(aT.mp (I.stkSub b z)).elim g l) a) (fun b o _ _ a e n=>u.any e n a) (fun b o a e n=>u.free b o e n a) (fun b o a e=>u.there b o e a) u.tups u.frzs u.tbls (fun A q=>by
  obtain ⟨o',h,i,f,t⟩:=q
  rw [j] at f;cases f
  exact ⟨_,h,i,g,t⟩) hok k
theorem Inv.turned {t':Nat} {it:Addr} (I:Inv X pins O H s) (k:∀ b o,b≠it->s.heap.get? b=some o->h'.get? b=some o) (g:H it=none) (f:it≠X.env.locals)
  (h:it∈X.ex\/X.s₀.heap.objs.size<=it) (i:∀ x c,X.env.cells.lookup x=some c->c≠it) (j:∀ p∈X.pn ++ pins,p.1≠it):Inv X pins O H { s with heap:=h',toks:=t' }:=by
 have d:∀ b u,H b=some u->b≠it:=fun b u e z=>by rw [z,g] at e;cases e
 refine I.step (g':=s.gens) (d':=s.drawn) (ch:=[it]) (fun b l=>?_) (fun b o _ _ a e _=>k b o (fun z=>a (by simp [z])) e) (fun b o _ _ a e _=>⟨o.slots,k b o (fun z=>a (by simp [z])) e⟩) (fun _ _ _ _ n=>n)
  (fun b o a e=>⟨o,k b o (fun z=>a (by simp [z])) e⟩) (fun _ _ e=>e) (fun _ _ _ e=>e) (fun b ps e=>⟨#[],by rw [e];simp⟩) (fun m t=>?_) (fun b u e=>?_) I.bare
 ·have e:b=it:=by simpa using l
  subst e
  exact ⟨h,f,i,j⟩
 ·obtain ⟨o,w,y,A,r⟩:=t
  exact ⟨o,w,y,k _ o (Ne.symm f) A,r⟩
 ·refine (I.hok b u e).stay (fun c v a q=>k c v ?_ q) (fun _ q=>q) fun _ _ q=>q
  rcases a with z | z
  ·rw [z];exact d b u e
  ·exact d c _ z
theorem Inv.tok (I:Inv X pins O H s) (t:Nat):Inv X pins O H { s with toks:=t }:=I.un (h':=s.heap) (t':=t) Un.refl I.hok
theorem Inv.kept {t':Nat} (I:Inv X pins O H s) (k:∀ b u,s.heap.get? b=some u->h'.get? b=some u):Inv X pins O H { s with heap:=h',toks:=t' }:=I.un (Un.kept k) (I.hok.kept k)
theorem Inv.laid {t':Nat} (I:Inv X pins O H s) (k:∀ b u,s.heap.get? b=some u->h'.get? b=some u) (c:s.heap.objs.size<=a) (new:yj X.prog X.w (upd H a o) h' a o) :
  Inv X pins O (upd H a o) { s with heap:=h',toks:=t' }:=I.un (Un.laid k c (I.hok.fresh c)) (I.hok.laid k c new)
theorem Inv.write {t':Nat} (I:Inv X pins O H s) (c:Mut (H x)) (d:e=x\/H e=some (.own x)) (k:∀ b u,b≠e->s.heap.get? b=some u->h'.get? b=some u) (a:∃ u,h'.get? e=some u)
  (new:yj X.prog X.w (upd H x o) h' x o):Inv X pins O (upd H x o) { s with heap:=h',toks:=t' }:=I.un (Un.write c d k a) (I.hok.write c d k a new)
theorem Inv.weak (I:Inv X pins O H s) (b:O'.length=O.length) (w:∀ (i:Nat) v,O'[i]?=some (some v)->O[i]?=some (some v)):Inv X pins O' H s :=
 ⟨I.ok,I.os,I.bare,I.base,let ⟨m,c,a⟩:=I.loc;⟨m,c,fun i x v d e f=>a i x v d (w i v e) f⟩,I.cell,I.free,I.freeC,I.pin,I.hok,b.trans I.len⟩
theorem Inv.pins_of (I:Inv X pins O H s) (h:∀ p∈pins',s.heap.get? p.1=some p.2/\H p.1=none/\p.1≠X.env.locals/\p.1∉X.fs/\∀ v,p.2.data≠.cell v):Inv X pins' O H s :=
 ⟨I.ok,I.os,I.bare,I.base,I.loc,I.cell,I.free,I.freeC,fun p a=>(aQ.mp a).elim (fun z=>I.pin p (bR _ z)) (h p),I.hok,I.len⟩
theorem WX {N:List Str} (c:N.Nodup) {i j:Nat} {x:Str} (a:N[i]?=some x) (b:N[j]?=some x):i=j:=by
 obtain ⟨f,d⟩:=aP.mp a
 obtain ⟨g,e⟩:=aP.mp b
 exact (eC c).mp (d.trans e.symm)
theorem Yy {M:Model} {A:Around} {E:Value->Shared->Prop} {i:Nat} {x:Str} {v:V} {u:Value} {Q:Unit->Shared->Prop} (I:Inv X pins O H s) (hN:X.N.Nodup) (hi:X.N[i]?=some x) (B:Loc X.env.scope x) (r:RelV v u)
  (h:∀ fE,Inv X pins (O.set i (some v)) H fE->(∃ a,Heap.SameBut a s.heap fE.heap/\(a=X.env.locals\/X.env.cells.lookup x=some a))->Q () fE) (hf:X.fn x=true\/X.env.scope.names.lookup x=some .local:=by first | exact .inl rfl | exact .inr rfl | assumption):wpAny M A (storeName X.env x u) Q E s:=by
 obtain ⟨m,Z,hl⟩:=id I.loc
 have fF:(X.env.scope.kind == .class || (X.env.scope.kind == .module && X.env.locals != X.env.globals))=false:=by rw [I.ok.kind];rfl
 have G:i < O.length:=by rw [I.len];exact (aP.mp hi).1
 have cne:=I.cne
 have g:∀ {a:Addr} {h':Heap},(∃ o,s.heap.get? a=some o/\H a=none)->Heap.SameBut a s.heap h'->HOk X.prog X.w H h':=fun {a h'} ha f b ob e=>by
  obtain ⟨_,_,C⟩:=ha
  refine (I.hok b ob e).stay (fun c fG t q=>(f.2 c ?_).trans q) (fun _ q=>q) fun _ _ q=>q
  rintro rfl
  rcases t with rfl | t
  ·rw [C] at e;cases e
  ·rw [C] at t;cases t
 rcases B with J | J
 ·refine wpAny_storeName_local J Z (fun h' a0 f=>?_) fF
  obtain ⟨oL,_,_,a1,_⟩:=id Z
  refine h _ ⟨I.ok,I.os,I.bare,⟨fun b o e n K B=>?_,fun b o e n K B=>?_,I.base.free,fun b o e B=>?_,I.base.tups,I.base.frzs,I.base.tbls⟩,⟨_,a0,fun j y v' l D e3=>?_⟩,fun y c e=>?_,I.free,I.freeC,fun p hp=>?_,g ⟨oL,a1,I.free⟩ f,by simpa using I.len⟩ ⟨_,f,.inl rfl⟩
  ·exact (f.2 b (aL (bF (aE e) I.ok.above))).trans (I.base.keep b o e n K B)
  ·obtain ⟨sl,l⟩:=I.base.slot b o e n K B
   exact ⟨sl,(f.2 b (aL (bF (aE e) I.ok.above))).trans l⟩
  ·obtain ⟨o',l⟩:=I.base.there b o e B
   exact ⟨o',(f.2 b (aL (bF (aE e) I.ok.above))).trans l⟩
  ·by_cases L:j=i
   ·subst L
    rw [hi] at l;cases l
    rw [bH G] at D
    cases D
    exact ⟨u,r,.inl ⟨J,by simp⟩⟩
   ·rw [bM (Ne.symm L)] at D
    obtain ⟨u',r',q⟩:=hl j y v' l D e3
    refine ⟨u',r',?_⟩
    rcases q with ⟨k,e⟩ | ⟨k,c,e,z⟩
    ·refine .inl ⟨k,?_⟩
     have:y≠x:=fun e=>L (WX hN l (e ▸ hi))
     simp [this,e]
    ·exact .inr ⟨k,c,e,z.sameBut f (cne y c e)⟩
  ·obtain ⟨fG,z⟩:=I.cell y c e
   exact ⟨fG,z.sameBut f (cne y c e)⟩
  ·obtain ⟨e,n,ne,nf,d⟩:=I.pin p hp
   exact ⟨(f.2 p.1 ne).trans e,n,ne,nf,d⟩
 ·have F:X.fn x=true:=by
   rcases hf with z | z
   ·exact z
   ·rw [z] at J;cases J
  obtain ⟨c,t⟩:=I.ok.has x (.inl J)
  obtain ⟨fG,z⟩:=I.cell x c t
  refine wpAny_storeName_cell I.ok.kind J t z (fun h' P f=>?_)
  obtain ⟨oc,R,S⟩:=id z
  refine h { s with heap:=h' } ⟨I.ok,I.os,I.bare,⟨fun b o e n K B=>?_,fun b o e n K B=>?_,I.base.free,fun b o e B=>?_,I.base.tups,I.base.frzs,I.base.tbls⟩,⟨m,Z.sameBut f (Ne.symm (cne x c t)),fun j y v' l D e3=>?_⟩,fun y W e=>?_,I.free,I.freeC,fun p hp=>?_,g ⟨oc,R,(I.freeC x c t).elim (fun n=>n) fun z=>by rw [F] at z;cases z.1⟩ f,by simpa using I.len⟩ ⟨c,f,.inr t⟩
  ·exact (f.2 b (aL (bF (aE e) (I.ok.cab x c F t)))).trans (I.base.keep b o e n K B)
  ·obtain ⟨sl,l⟩:=I.base.slot b o e n K B
   exact ⟨sl,(f.2 b (aL (bF (aE e) (I.ok.cab x c F t)))).trans l⟩
  ·obtain ⟨o',l⟩:=I.base.there b o e B
   exact ⟨o',(f.2 b (aL (bF (aE e) (I.ok.cab x c F t)))).trans l⟩
  ·by_cases L:j=i
   ·subst L
    rw [hi] at l;cases l
    rw [bH G] at D
    cases D
    exact ⟨u,r,.inr ⟨.inl J,c,t,P⟩⟩
   ·rw [bM (Ne.symm L)] at D
    obtain ⟨u',r',q⟩:=hl j y v' l D e3
    refine ⟨u',r',?_⟩
    rcases q with q | ⟨k,W,e,z'⟩
    ·exact .inl q
    ·refine .inr ⟨k,W,e,z'.sameBut f ?_⟩
     rintro rfl
     exact L (WX hN l (I.ok.inj _ _ _ e t ▸ hi))
  ·by_cases T:W=c
   ·subst T;exact ⟨_,P⟩
   ·obtain ⟨w2,z2⟩:=I.cell y W e
    exact ⟨w2,z2.sameBut f T⟩
  ·obtain ⟨e,n,ne,nf,d⟩:=I.pin p hp
   refine ⟨(f.2 p.1 ?_).trans e,n,ne,nf,d⟩
   intro q
   rw [q,R] at e
   have q':oc=p.2:=bI e
   exact d fG (by rw [<- q'];exact S)
theorem Wr (I:Inv X pins O H s) (b:X.N.Nodup) (hi:X.N[i]?=some x) (c:Loc X.env.scope x) (r:RelV v u)
  (h:∀ a,Inv X pins (O.set i (some v)) H a->Q () a) (d:X.fn x=true\/X.env.scope.names.lookup x=some .local:=by first | exact .inl rfl | exact .inr rfl | assumption):wpAny M A (storeName X.env x u) Q E s :=
 Yy I b hi c r (fun a e _=>h a e) d
theorem Inv.call' (I:Inv X pins O H s) (d:s'.os=s.os) (u:Un (frs X.stack) ch H H' s.heap s'.heap) (hok:HOk X.prog X.w H' s'.heap) (f:AllBare s'.gens)
  (a:∀ b∈ch,(b∈X.ex\/X.s₀.heap.objs.size<=b)/\b≠X.env.locals/\(∀ x c,X.env.cells.lookup x=some c->c≠b)/\∀ p∈X.pn ++ pins,p.1≠b):Inv X pins O H' s':=by
 obtain ⟨h',g',d',t',o'⟩:=s'
 have e:o'=s.os:=d
 subst e
 exact I.call (g':=g') (t':=t') (d':=d') u hok f a
end
abbrev XK:=Value->Option Addr->Hp->Prop
abbrev St:=List (Option V)
abbrev VK:=V->Hp->Prop
abbrev TE:=St->Hp->VK->Prop
abbrev TT:=St->Hp->(Bool->Hp->Prop)->Prop
abbrev TA:=St->Hp->(List V->Hp->Prop)->Prop
structure Ends where
 nx:St->Hp->Prop
 rt:VK
 bk:St->Hp->Prop:=fun _ _=>False
 ct:St->Hp->Prop:=fun _ _=>False
abbrev TS:=Ends->St->Hp->Prop
def EP (X:Cx) (pins:List (Addr×Obj)) (O:St) (Q:VK) (u:Value) (s':Shared):Prop:=∃ v H',Inv X pins O H' s'/\RelV v u/\Q v H'
def TP (X:Cx) (pins:List (Addr×Obj)) (O:St) (Q:Bool->Hp->Prop) (b:Bool) (s':Shared):Prop:=∃ H',Inv X pins O H' s'/\Q b H'
def AP (X:Cx) (pins:List (Addr×Obj)) (O:St) (Q:List V->Hp->Prop) (us:List Value) (s':Shared):Prop:=∃ vs H',Inv X pins O H' s'/\Vals vs us/\Q vs H'
def SP (X:Cx) (pins:List (Addr×Obj)) (D:Ends) (f:Flow) (s':Shared):Prop :=
 match f with
 | .next=>∃ O' H',Inv X pins O' H' s'/\D.nx O' H'
 | .brk=>∃ O' H',Inv X pins O' H' s'/\D.bk O' H'
 | .cont=>∃ O' H',Inv X pins O' H' s'/\D.ct O' H'
 | .ret u=>∃ v O' H',Inv X pins O' H' s'/\RelV v u/\D.rt v H'
def PE (X:Cx) (e:Expr) (t:TE):Prop :=
 ∀ (pins:List (Addr×Obj)) (s:Shared) (O:St) (H:Hp) (Q:VK),Inv X pins O H s->t O H Q->wpAny (model X.prog X.w) X.A (eval e X.env) (EP X pins O Q) X.xe s
def PT (X:Cx) (e:Expr) (t:TT):Prop :=
 ∀ (pins:List (Addr×Obj)) (s:Shared) (O:St) (H:Hp) (Q:Bool->Hp->Prop),Inv X pins O H s->t O H Q->wpAny (model X.prog X.w) X.A (isTrue e X.env (eval e X.env)) (TP X pins O Q) X.xe s
def PW (X:Cx) (e:Expr) (t:TT):Prop :=
 ∀ (whole:Sem Value) (pins:List (Addr×Obj)) (s:Shared) (O:St) (H:Hp) (Q:Bool->Hp->Prop),Inv X pins O H s->t O H Q->wpAny (model X.prog X.w) X.A (isTrue e X.env whole) (TP X pins O Q) X.xe s
theorem PW.pt (h:PW X e t):PT X e t:=h _
def PA (X:Cx) (es:List Expr) (t:TA):Prop :=
 ∀ (pos:Pos) (pins:List (Addr×Obj)) (s:Shared) (O:St) (H:Hp) (Q:List V->Hp->Prop),Inv X pins O H s->t O H Q->wpAny (model X.prog X.w) X.A (spliced (backTo pos (starEach es X.env))) (AP X pins O Q) X.xe s
def PS (X:Cx) (st:Stmt) (t:TS):Prop :=
 ∀ (pins:List (Addr×Obj)) (s:Shared) (O:St) (H:Hp) (D:Ends),Inv X pins O H s->t D O H->wpAny (model X.prog X.w) X.A (exec st X.env) (SP X pins D) X.xe s
def PSs (X:Cx) (st:List Stmt) (t:TS):Prop :=
 ∀ (pins:List (Addr×Obj)) (s:Shared) (O:St) (H:Hp) (D:Ends),Inv X pins O H s->t D O H->wpAny (model X.prog X.w) X.A (execs st X.env) (SP X pins D) X.xe s
theorem thn (h:wpAny M A t Q E s) (b:∀ a s,Q a s->Q' a s):wpAny M A t Q' E s:=wpAny_mono h b fun _ _ x=>x
section
variable {X:Cx}
def tVar (i:Nat):TE:=fun O H Q=>∃ v,O[i]?=some (some v)/\Q v H
def tC (v:V):TE:=fun _ H Q=>Q v H
theorem QZ (j:X.N[i]?=some x) (k:Vis X.env.scope x) (hd:(x == ("__debug__" : Str))=false:=by decide) (f:(x == ("__classdict__" : Str))=false:=by decide):PE X (.Name x pos) (tVar i):=by
 intro pins s O H Q I h
 obtain ⟨v,e,h⟩:=h
 obtain ⟨m,n,o⟩:=I.loc
 obtain ⟨u,r,l⟩:=o i x v j e k
 have b:EP X pins O Q u s:=⟨v,H,I,r,h⟩
 rcases l with ⟨d,p⟩ | ⟨d,c,g,a⟩
 ·exact wpAny_Name (wpAny_loadName_local I.ok.kind d n p b) hd
 ·rcases d with d | d
  ·exact wpAny_Name (wpAny_loadName_cell I.ok.kind d g a b) hd
  ·exact wpAny_Name (wpAny_loadName_free I.ok.kind d g a b f) hd
theorem zh {i j pos}:PE X (.Constant (.int i) j pos) (tC (.int i)):=fun _ _ _ H _ I h=>wpAny_Constant_int ⟨.int i,H,I.tok _,⟨_,rfl⟩,h⟩
theorem vf {b j pos}:PE X (.Constant (.bool b) j pos) (tC (.bl b)):=fun _ _ _ H _ I h=>Constant_bool ⟨.bl b,H,I,rfl,h⟩
theorem wV {j pos}:PE X (.Constant .none j pos) (tC .non):=fun _ _ _ H _ I h=>Constant_none ⟨.non,H,I,rfl,h⟩
theorem XD {x j pos}:PE X (.Constant (.str x) j pos) (tC (.str x)):=fun _ _ _ H _ I h=>Calls.Constant_str ⟨.str x,H,I.tok _,⟨_,rfl⟩,h⟩
def Gl (X:Cx) (x:Str):Prop:=X.env.kindOf x=some .globalImplicit
theorem XZ (I:Inv X pins O H s) (a:Gl X x) (b:X.mg x=some u) (h:Q u s)
  (hd:(x == ("__debug__" : Str))=false:=by decide):wpAny (model X.prog X.w) X.A (eval (.Name x pos) X.env) Q E s :=
 Calls.Name_function_global I.ok.kind a (Calls.loadGlobal_global (by rw [I.ok.glob];exact I.mod.glob.keeps I.bk) b h) hd
theorem uk (I:Inv X pins O H s) (a:Gl X x) (b:X.mg x=none) (c:bootBuiltins x=some u) (h:Q u s)
  (d:x ≠ "__name__" := by decide) (hd:(x == ("__debug__" : Str))=false:=by decide):wpAny (model X.prog X.w) X.A (eval (.Name x pos) X.env) Q E s:=by
 obtain ⟨mb,e,f⟩:=I.mod.blt
 exact Calls.Name_function_global I.ok.kind a (Calls.loadGlobal_builtin (by rw [I.ok.glob];exact I.mod.glob.keeps I.bk) b (by rw [I.ok.blt];exact e.keeps I.bk) ((f x d).trans c) h) hd
theorem uL (a:Gl X x) (b:X.mg x=some u) (r:RelV v u) (hd:(x == ("__debug__" : Str))=false:=by decide):PE X (.Name x pos) (tC v) :=
 fun _ _ _ H _ I h=>XZ I a b ⟨v,H,I,r,h⟩ hd
theorem uM (a:Gl X x) (b:X.mg x=none) (c:bootBuiltins x=some u) (r:RelV v u) (d:x ≠ "__name__" := by decide) (hd:(x == ("__debug__" : Str))=false:=by decide):PE X (.Name x pos) (tC v) :=
 fun _ _ _ H _ I h=>uk I a b c ⟨v,H,I,r,h⟩ d hd
variable {a b:Expr} {ta tb:TE} {pos:Pos}
def PC (X:Cx) (op:CmpOp) (a b:Expr) (t:TE):Prop :=
 ∀ (pins:List (Addr×Obj)) (s:Shared) (O:St) (H:Hp) (Q:VK),Inv X pins O H s->t O H Q ->
  wpAny (model X.prog X.w) X.A (eval a X.env) (fun v s₁=>wpAny (model X.prog X.w) X.A (eval b X.env) (fun u s₂=>wpAny (model X.prog X.w) X.A (compareOp op v u) (EP X pins O Q) X.xe s₂) X.xe s₁) X.xe s
def tB (t:TE):TT:=fun O H Q=>t O H fun x H1=>∃ c,x=.bl c/\Q c H1
theorem VL (h:PC X op a b t) (e:behindInMarks op b=false:=by first | exact nobehind _ (by decide) (by decide) | rfl):PT X (.Compare a [op] [b] pos) (tB t):=by
 intro pins s O H Q I f
 refine wpAny_isTrue_Compare1 (thn (h pins s O H _ I f) fun v s1 e=>thn e fun u s2 g=>thn g fun c m ⟨x,i,j,k,l⟩=>?_) e
 obtain ⟨d,rfl,q⟩:=l
 cases k
 exact wpAny_truthy_bool ⟨i,j,q⟩
theorem yC (h:PE X e t) (b:∀ a,isTrue e X.env a=(do let v <- a;standAt e.pos;holding [v] (truthy v)):=by intro _;rfl):PT X e (tB t):=by
 intro pins s O H Q I c
 refine isTrue_plain (thn (h pins s O H _ I c) fun v s1 ⟨x,f,g,i,j⟩=>?_) (b _)
 obtain ⟨d,rfl,q⟩:=j
 cases i
 exact wpAny_truthy_bool ⟨f,g,q⟩
variable {tA tB':TT} {rest:List Expr}
def tAnd (t u:TT):TT:=fun O H Q=>t O H fun c H1=>if c=true then u O H1 Q else Q false H1
def tOr (t u:TT):TT:=fun O H Q=>t O H fun c H1=>if c=true then Q true H1 else u O H1 Q
def tNot (t:TT):TT:=fun O H Q=>t O H fun c H1=>Q (!c) H1
theorem xy (b:PT X a tA):PW X (.BoolOp .And [a] pos) tA:=by
 intro wh pins s O H Q I h
 refine isTrue_and (thn (b pins s O H Q I h) fun c s1 e=>?_)
 cases c with
 | true=>exact isTrue_and_nil e
 | false=>exact e
theorem wP (b:PT X a tA):PW X (.BoolOp .Or [a] pos) tA:=by
 intro wh pins s O H Q I h
 refine isTrue_or (thn (b pins s O H Q I h) fun c s1 e=>?_)
 cases c with
 | false=>exact isTrue_or_nil e
 | true=>exact e
theorem xE (g:PT X a tA) (i:PW X (.BoolOp .And (b :: rest) pos) tB'):PW X (.BoolOp .And (a :: b :: rest) pos) (tAnd tA tB'):=by
 intro wh pins s O H Q I h
 refine isTrue_and (thn (g pins s O H _ I h) fun c s1 ⟨d,e,f⟩=>?_)
 cases c with
 | true=>exact i wh pins s1 O d Q e f
 | false=>exact ⟨d,e,f⟩
theorem xi (g:PT X a tA) (i:PW X (.BoolOp .Or (b :: rest) pos) tB'):PW X (.BoolOp .Or (a :: b :: rest) pos) (tOr tA tB'):=by
 intro wh pins s O H Q I h
 refine isTrue_or (thn (g pins s O H _ I h) fun c s1 ⟨d,e,f⟩=>?_)
 cases c with
 | true=>exact ⟨d,e,f⟩
 | false=>exact i wh pins s1 O d Q e f
theorem wQ (b:PT X a tA):PT X (.UnaryOp .Not a pos) (tNot tA):=by
 intro pins s O H Q I h
 exact isTrue_not (b pins s O H (fun c d=>Q (!c) d) I h)
def zcR (ta tb:TE):TE:=fun O H Q=>ta O H fun x H1=>∃ c,x=.bl c/\if c=true then tb O H1 Q else Q (.bl false) H1
def tOrV (ta tb:TE):TE:=fun O H Q=>ta O H fun x H1=>∃ c,x=.bl c/\if c=true then Q (.bl true) H1 else tb O H1 Q
def zcQ (ta:TE):TE:=fun O H Q=>ta O H fun x H1=>∃ c,x=.bl c/\Q (.bl (!c)) H1
theorem XE {op} (h:PE X a t):PE X (.BoolOp op [a] pos) t:=fun pins s O H Q I b=>BoolOp_one (h pins s O H Q I b)
theorem VM (g:PE X a ta) (i:PE X (.BoolOp .And (b :: rest) pos) tb):PE X (.BoolOp .And (a :: b :: rest) pos) (zcR ta tb):=by
 intro pins s O H Q I h
 refine BoolOp_and (thn (g pins s O H _ I h) fun v s1 ⟨x,e,f,j,d⟩=>?_)
 obtain ⟨c,rfl,d⟩:=d
 cases j
 refine wpAny_truthy_bool ?_
 cases c with
 | true=>exact i pins s1 O e Q f d
 | false=>exact ⟨.bl false,e,f,rfl,d⟩
theorem zex (g:PE X a ta) (i:PE X (.BoolOp .Or (b :: rest) pos) tb):PE X (.BoolOp .Or (a :: b :: rest) pos) (tOrV ta tb):=by
 intro pins s O H Q I h
 refine BoolOp_or (thn (g pins s O H _ I h) fun v s1 ⟨x,e,f,j,d⟩=>?_)
 obtain ⟨c,rfl,d⟩:=d
 cases j
 refine wpAny_truthy_bool ?_
 cases c with
 | false=>exact i pins s1 O e Q f d
 | true=>exact ⟨.bl true,e,f,rfl,d⟩
theorem ZG (d:PE X a ta):PE X (.UnaryOp .Not a pos) (zcQ ta):=by
 intro pins s O H Q I h
 refine UnaryOp_ (thn (d pins s O H _ I h) fun v s1 ⟨x,e,f,g,b⟩=>?_)
 obtain ⟨c,rfl,b⟩:=b
 cases g
 exact not_of (wpAny_truthy_bool ⟨.bl (!c),e,f,rfl,b⟩)
def tIf (t:TT) (ta tb:TE):TE:=fun O H Q=>t O H fun c H1=>if c=true then ta O H1 Q else tb O H1 Q
theorem ZH (i:PT X c tA) (j:PE X a ta) (k:PE X b tb):PE X (.IfExp c a b pos) (tIf tA ta tb):=by
 intro pins s O H Q I h
 refine wpAny_IfExp (thn (i pins s O H _ I h) fun d s1 ⟨e,f,g⟩=>?_)
 cases d with
 | true=>exact j pins s1 O e Q f g
 | false=>exact k pins s1 O e Q f g
end
def SqL (K:aA) (H:Hp) (a:Addr) (xs:List V):Prop :=
 Rd H a (.lst xs) \/
  ∃ (o:Obj) (its:Array Value) (n:Nat),K.lookup a=some o/\o.cls=.type "list" /\ o.dict=none/\o.data=.seq its n/\its.size<=sizeLine/\Vals xs its.toList
def SqT (K:aA) (H:Hp) (a:Addr) (xs:List V):Prop :=
 Rd H a (.tup xs) \/
  ∃ (o:Obj) (its:Array Value) (n:Nat),K.lookup a=some o/\o.cls=.type "tuple" /\ o.data=.seq its n/\its.size<=sizeLine/\Vals xs its.toList
def absV:Value->Option V
 | .none=>some .non
 | .bool b=>some (.bl b)
 | .int i _=>some (.int i)
 | .str x _=>some (.str x)
 | .bytes b _=>some (.byt b)
 | .float b _=>some (.flt b)
 | .ref a=>some (.ref a)
 | .type n=>some (.ty n)
 | _=>none
theorem RelV.abs (r:RelV x u):absV u=some x:=by
 cases x with
 | non=>cases r;rfl
 | bl _=>cases r;rfl
 | int _=>obtain ⟨t,rfl⟩:=r;rfl
 | str _=>obtain ⟨t,rfl⟩:=r;rfl
 | byt _=>obtain ⟨t,rfl⟩:=r;rfl
 | flt _=>obtain ⟨t,rfl⟩:=r;rfl
 | ref _=>cases r;rfl
 | ty _=>cases r;rfl
theorem RelV.inj (r:RelV x u) (q:RelV y u):x=y:=bI (r.abs.symm.trans q.abs)
theorem Vals.inj:∀ {xs ys:List V} {us:List Value},Vals xs us->Vals ys us->xs=ys
 | _,_,_,.nil,.nil=>rfl
 | _,_,_,.cons r t,.cons r' t'=>by rw [r.inj r',Vals.inj t t']
section
variable {X:Cx} {pins:List (Addr×Obj)} {O:St} {H:Hp} {s:Shared} {a:Addr} {xs ys:List V}
theorem SqL.of {K:aA} (h:H a=some (.lst xs)):SqL K H a xs:=.inl (.inl h)
theorem SqT.of {K:aA} (h:H a=some (.tup xs)):SqT K H a xs:=.inl (.inl h)
theorem Inv.list (I:Inv X pins O H s) (h:SqL X.K H a xs):∃ b:List Value,Vals xs b/\PlainL s.heap a b.toArray/\xs.length<=sizeLine:=by
 rcases h with h | ⟨o,b,n,c,d,hd,f,g,r⟩
 ·obtain ⟨z,b,n,r,e⟩:=h.ok I.hok
  exact ⟨b,r,⟨_,n,e,rfl,rfl,rfl⟩,z⟩
 ·refine ⟨b.toList,r,⟨o,n,I.kIn a o c,d,hd,by simpa using f⟩,?_⟩
  have e:=r.length
  simp only [Array.length_toList] at e
  omega
theorem Inv.tuple (I:Inv X pins O H s) (h:SqT X.K H a xs):∃ b:List Value,Vals xs b/\IsTup s.heap a b.toArray/\xs.length<=sizeLine:=by
 rcases h with h | ⟨o,b,n,c,d,f,g,r⟩
 ·obtain ⟨z,b,r,p⟩:=h.ok I.hok
  exact ⟨b,r,p,z⟩
 ·refine ⟨b.toList,r,⟨o,I.kIn a o c,d,n,by simpa using f⟩,?_⟩
  have e:=r.length
  simp only [Array.length_toList] at e
  omega
theorem Inv.list_inj (I:Inv X pins O H s) (h:SqL X.K H a xs) (h':SqL X.K H a ys):xs=ys:=by
 obtain ⟨c,r,⟨o,n,e,_,_,d⟩,_⟩:=I.list h
 obtain ⟨b,i,⟨o',j,f,_,_,g⟩,_⟩:=I.list h'
 rw [e] at f;cases f
 rw [d] at g
 injection g with d1 _
 have:c=b:=by simpa using congrArg Array.toList d1
 subst this
 exact r.inj i
end
abbrev Cx.wish (X:Cx) (E:Value->Shared->Prop):Cx:={ X with xe:=E }
abbrev Cx.nox (X:Cx):Cx:=X.wish fun _ _=>False
theorem Cx.Ok.wish {X:Cx} (ok:X.Ok) (E:Value->Shared->Prop):(X.wish E).Ok :=
 ⟨ok.mod,ok.kind,ok.glob,ok.blt,ok.above,ok.inj,ok.has,ok.cab,ok.hd,ok.frames,ok.stk,ok.exf,ok.bs,ok.bsz,ok.noex,ok.exfs,ok.funs,ok.frf,ok.tb⟩
theorem Cx.Ok.unwish {X:Cx} {E:Value->Shared->Prop} (ok:(X.wish E).Ok):X.Ok :=
 ⟨ok.mod,ok.kind,ok.glob,ok.blt,ok.above,ok.inj,ok.has,ok.cab,ok.hd,ok.frames,ok.stk,ok.exf,ok.bs,ok.bsz,ok.noex,ok.exfs,ok.funs,ok.frf,ok.tb⟩
section
variable {X:Cx} {pins:List (Addr×Obj)} {O:St} {H:Hp} {s:Shared} {E:Value->Shared->Prop}
theorem Inv.wish (I:Inv X pins O H s) (E:Value->Shared->Prop):Inv (X.wish E) pins O H s:=⟨I.ok.wish E,I.os,I.bare,I.base,I.loc,I.cell,I.free,I.freeC,I.pin,I.hok,I.len⟩
theorem Inv.unwish (I:Inv (X.wish E) pins O H s):Inv X pins O H s:=⟨I.ok.unwish,I.os,I.bare,I.base,I.loc,I.cell,I.free,I.freeC,I.pin,I.hok,I.len⟩
theorem SP.unwish (h:SP (X.wish E) pins D f s'):SP X pins D f s':=by
 cases f with
 | next=>obtain ⟨O',H',I,q⟩:=h;exact ⟨O',H',I.unwish,q⟩
 | brk=>obtain ⟨O',H',I,q⟩:=h;exact ⟨O',H',I.unwish,q⟩
 | cont=>obtain ⟨O',H',I,q⟩:=h;exact ⟨O',H',I.unwish,q⟩
 | ret u=>obtain ⟨v,O',H',I,r,q⟩:=h;exact ⟨v,O',H',I.unwish,r,q⟩
theorem PSs.nox {st:List Stmt} {t:TS} (h:PSs X.nox st t):PSs X st t:=fun pins s O H D I a =>
 wpAny_mono (h pins s O H D (I.wish _) a) (fun _ _ q=>q.unwish) fun _ _ z=>False.elim z
end
section
variable {X:Cx} {st:Stmt} {rest:List Stmt} {t u:TS} {e:Expr} {te:TE} {pos:Pos}
def Wo:TS:=fun D O H=>D.nx O H
def tSeq (t u:TS):TS:=fun D O H=>t { D with nx:=u D } O H
theorem zL:PSs X [] Wo:=fun _ _ O H _ I h=>wpAny_execs_nil ⟨O,H,I,h⟩
theorem ze (a:PS X st t) (b:PSs X rest u):PSs X (st :: rest) (tSeq t u):=by
 intro pins s O H D I h
 refine wpAny_execs_cons (thn (a pins s O H { D with nx:=u D } I h) fun f s1 q=>?_)
 cases f with
 | next =>
  obtain ⟨O',H',c,q⟩:=q
  exact b pins s1 O' H' D c q
 | ret v=>exact q
 | brk=>exact q
 | cont=>exact q
theorem zf (a:PS X st t):PSs X [st] t:=by
 intro pins s O H D I h
 refine wpAny_execs_cons (thn (a pins s O H D I h) fun f s1 q=>?_)
 cases f with
 | next=>exact wpAny_execs_nil q
 | ret v=>exact q
 | brk=>exact q
 | cont=>exact q
theorem Inv.quiet (I:Inv X pins O H s):interactive X.env=false:=by simp [interactive,I.ok.kind]
def v5 (te:TE):TS:=fun D O H=>te O H fun _ H1=>D.nx O H1
theorem yB (a:PE X e te) (b:swapsWith e none pos.line X.env=pure false:=by rfl):PS X (.Expr e pos) (v5 te):=by
 intro pins s O H D I h
 exact wpAny_Expr_any (thn (a pins s O H _ I h) fun v s1 ⟨x,c,d,g,f⟩=>⟨O,c,d,f⟩) I.quiet b
def tRet (te:TE):TS:=fun D O H=>te O H D.rt
theorem zy (a:PE X e te):PS X (.Return (some e) pos) (tRet te):=by
 intro pins s O H D I h
 exact wpAny_Return_some (thn (a pins s O H _ I h) fun v s1 ⟨x,b,c,d,f⟩=>⟨x,O,b,c,d,f⟩)
def tIfS (c:TT) (t u:TS):TS:=fun D O H=>c O H fun b H1=>if b=true then t D O H1 else u D O H1
theorem ye (i:PT X c tc) (j:PSs X a t) (k:PSs X b u):PS X (.If c a b pos) (tIfS tc t u):=by
 intro pins s O H D I h
 refine wpAny_If (thn (i pins s O H _ I h) fun d s1 ⟨e,f,g⟩=>?_)
 cases d with
 | true=>exact j pins s1 O e D f g
 | false=>exact k pins s1 O e D f g
end
abbrev TG:=V->St->Hp->(St->Hp->Prop)->Prop
abbrev TGs:=List V->St->Hp->(St->Hp->Prop)->Prop
def PG (X:Cx) (target:Expr) (t:TG):Prop :=
 ∀ (pins:List (Addr×Obj)) (s:Shared) (O:St) (H:Hp) (v:V) (u:Value) (Q:St->Hp->Prop),Inv X pins O H s->RelV v u->t v O H Q ->
  wpAny (model X.prog X.w) X.A (assign target X.env u) (fun _ s'=>∃ O' H',Inv X pins O' H' s'/\Q O' H') X.xe s
def PGs (X:Cx) (ts:List Expr) (t:TGs):Prop :=
 ∀ (pins:List (Addr×Obj)) (s:Shared) (O:St) (H:Hp) (vs:List V) (us:List Value) (Q:St->Hp->Prop),Inv X pins O H s->Vals vs us->t vs O H Q ->
  wpAny (model X.prog X.w) X.A (assignInOrder ((assignEach ts X.env).map (·.2)) us) (fun _ s'=>∃ O' H',Inv X pins O' H' s'/\Q O' H') X.xe s
section
variable {X:Cx} {pos:Pos}
def yn (i:Nat):TG:=fun v O H Q=>Q (O.set i (some v)) H
theorem zbL (a:X.N.Nodup) (hi:X.N[i]?=some x) (b:Loc X.env.scope x) (c:X.fn x=true\/X.env.scope.names.lookup x=some .local:=by first | exact .inl rfl | exact .inr rfl | assumption):PG X (.Name x pos) (yn i):=by
 intro pins s O H v u Q I r h
 exact wpAny_assign_Name (Wr I a hi b r (fun e d=>⟨_,H,d,h⟩) c)
def gNil:TGs:=fun vs O H Q=>vs=[]/\Q O H
def uT (t:TG) (u:TGs):TGs:=fun vs O H Q=>∃ v r,vs=v :: r/\t v O H fun O' H'=>u r O' H' Q
theorem XB:PGs X [] gNil:=by
 intro pins s O H vs us Q I r h
 obtain ⟨e,h⟩:=h
 subst e
 cases r
 exact assignInOrder_nil ⟨O,H,I,h⟩
theorem yQ (b:PG X e t) (c:PGs X es u)
  (d:(assignEach (e :: es) X.env).map (·.2)=assign e X.env :: (assignEach es X.env).map (·.2):=by rfl):PGs X (e :: es) (uT t u):=by
 intro pins s O H vs us Q I r h
 obtain ⟨v,l,f,h⟩:=h
 subst f
 cases r with
 | cons r g =>
  rw [d]
  refine assignInOrder_cons (thn (b pins s O H _ _ _ I r h) fun _ s1 ⟨a,i,j,k⟩=>?_)
  exact c pins s1 a i _ _ Q j g k
def gTup (K:aA) (n:Nat) (t:TGs):TG:=fun v O H Q=>∃ a xs,v=.ref a/\SqT K H a xs/\xs.length=n/\t xs O H Q
theorem zdx (g:X.calm=true) (h:PGs X es t)
  (i:(assignEach es X.env).length=n:=by rfl) (c:(assignEach es X.env).findIdx? (·.1)=none:=by rfl):PG X (.Tuple es k pos) (gTup X.K n t):=by
 intro pins s O H v u Q I r d
 obtain ⟨a,xs,j,l,m,d⟩:=d
 subst j
 cases r
 obtain ⟨p,f,q,y⟩:=I.tuple l
 refine assign_Tuple_tuple (I.ok.hd g) q (by simp [i,<- m,f.length]) c fun h' w=>?_
 have x:Inv X pins O H { s with heap:=h' }:=I.kept (t':=s.toks) fun b o e=>w b o (aL (aE e)) e
 exact h pins _ O H xs _ Q x (by simpa using f) d
def tAsg (te:TE) (g:TG):TS:=fun D O H=>te O H fun x H1=>g x O H1 D.nx
theorem QT (a:PE X e te) (b:PG X tg g) (c:swapsWithSole [tg] e pos.line X.env=pure false:=by rfl) (d:swappedStores [tg] e X.env=pure none:=by rfl)
  (f:(assignEach [tg] X.env).map (·.2)=[assign tg X.env]:=by rfl):PS X (.Assign [tg] e pos) (tAsg te g):=by
 intro pins s O H D I h
 refine wpAny_Assign_stores (thn (a pins s O H _ I h) fun v s1 ⟨x,i,j,k,l⟩=>?_) c d
 rw [f]
 exact thn (b pins s1 O i x v _ j k l) fun _ s2 q=>q
theorem zdu (a:X.N.Nodup) (hi:X.N[i]?=some x) (b:Loc X.env.scope x) (c:PE X e te) (d:swapsWith e (some (.Name x pos')) pos.line X.env=pure false:=by rfl) (f:X.fn x=true\/X.env.scope.names.lookup x=some .local:=by first | exact .inl rfl | exact .inr rfl | assumption) :
  PS X (.Assign [.Name x pos'] e pos) (tAsg te (yn i)):=by
 intro pins s O H D I h
 refine wpAny_Assign_Name (thn (c pins s O H _ I h) fun v s1 ⟨y,g,j,k,l⟩=>?_) d
 exact Wr j a hi b k (fun s2 m=>⟨_,g,m,l⟩) f
def Qo (c:TT) (tb:TS):TS:=fun D O H=>∃ W:Nat->St->Hp->Prop,(∃ m,W m O H)/\∀ m O H,W m O H ->
 c O H fun b H1=>if b=true then ∃ N:St->Hp->Prop,(∀ O' H',N O' H'->∃ m',m' < m/\W m' O' H')/\tb { D with nx:=N,ct:=N,bk:=D.nx } O H1 else D.nx O H1
theorem vt (p:PassesOwn (model X.prog X.w) X.A X.env X.xe) (x:PT X c tc) (y:PSs X body tb):PS X (.While c body [] pos) (Qo tc tb):=by
 intro pins s O H D I h
 obtain ⟨W,⟨z,B⟩,turn⟩:=h
 refine wpAny_While (codeAny_whileLoop (fun n C=>∃ O' H',Inv X pins O' H' C/\W n O' H') ?_ z ⟨O,H,I,B⟩)
 rintro n s1 ⟨d,q,E,F⟩
 refine wpAny_passesOwn p (thn (x pins s1 d q _ E (turn n d q F)) fun b s2 ⟨r,t,g⟩=>?_)
 cases b with
 | true =>
  obtain ⟨N,u,g⟩:=g
  rw [if_pos rfl]
  refine wpAny_passesOwn p (thn (y pins s2 d r _ t g) fun f G i=>?_)
  cases f with
  | next =>
   obtain ⟨a,e,j,k⟩:=i
   obtain ⟨l,m,o⟩:=u a e k
   exact ⟨l,m,a,e,j,o⟩
  | cont =>
   obtain ⟨a,e,j,k⟩:=i
   obtain ⟨l,m,o⟩:=u a e k
   exact ⟨l,m,a,e,j,o⟩
  | brk=>exact i
  | ret v=>exact i
 | false =>
  rw [if_neg aY]
  exact wpAny_execs_nil ⟨d,r,t,g⟩
end
structure It where
 go:Nat->Hp->Prop
 yld:Nat->Hp->V->Hp->Prop
 stop:Nat->Hp->Prop
def FpOk (X:Cx) (pins:List (Addr×Obj)) (H:Hp) (b:Addr):Prop :=
 H b=none/\b≠X.env.locals/\b∉X.fs/\(b∈X.ex\/X.s₀.heap.objs.size<=b)/\(∀ x c,X.env.cells.lookup x=some c->c≠b)/\∀ p∈X.pn ++ pins,p.1≠b
theorem Inv.fpOk (I:Inv X pins O H s) (a:s.heap.objs.size<=b) (d:H' b=none):FpOk X pins H' b:=by
 refine ⟨d,cV (bF I.lt a),I.nofs a,.inr (bO I.sz a),fun x c e z=>?_,fun p f z=>?_⟩
 ·obtain ⟨v,q⟩:=I.cell x c e
  exact absurd (bF q.lt (by rw [z];exact a)) (bN _)
 ·exact absurd (bF (aE (I.pin p f).1) (by rw [z];exact a)) (bN _)
structure Turn (P:Program) (w:World) (K:aA) (tg:Expr) (J:It) (fp:List Addr) (it:Addr) (tn:Nat->Heap->Prop):Prop where
 mem:it∈fp
 obj:∀ i h,tn i h->∀ b∈fp,∃ o,h.get? b=some o/\∀ v,o.data≠.cell v
 keep:∀ i h h',tn i h->(∀ b∈fp,∀ o,h.get? b=some o->h'.get? b=some o)->tn i h'
 item:∀ (X:Cx),X.prog=P->X.w=w->X.K=K->X.calm=true->∀ (i:Nat) (pins:List (Addr×Obj)) (s:Shared) (O:St) (H:Hp) (E:Value->Shared->Prop),Inv X pins O H s->(∀ b∈fp,FpOk X pins H b)->tn i s.heap->J.go i H ->
  wpAny (model P w) X.A (pyNext (.ref it)) (fun r s1=>∃ u,r=some u /\
   wpAny (model P w) X.A (letOwnedTupleGo tg (.ref it) u) (fun _ s2=>∃ x H',Inv X pins O H' s2/\RelV x u/\J.yld i H x H'/\tn (i + 1) s2.heap/\∀ b∈fp,H' b=none) E s1) E s
 done:∀ (X:Cx),X.prog=P->X.w=w->X.K=K->X.calm=true->∀ (i:Nat) (pins:List (Addr×Obj)) (s:Shared) (O:St) (H:Hp) (E:Value->Shared->Prop),Inv X pins O H s->(∀ b∈fp,FpOk X pins H b)->tn i s.heap->J.stop i H ->
  wpAny (model P w) X.A (pyNext (.ref it)) (fun r s1=>r=none/\Inv X pins O H s1) E s
 self:∀ (A:Around) (i:Nat) (s:Shared) (Q:Value->Shared->Prop) (E:Value->Shared->Prop),tn i s.heap->Q (.ref it) s->wpAny (model P w) A (pyIter (.ref it)) Q E s
abbrev TI:=St->Hp->(It->Hp->Prop)->Prop
def PIE (X:Cx) (pins:List (Addr×Obj)) (O:St) (tg:Expr) (R:It->Hp->Prop) (itv:Value) (s2:Shared):Prop :=
 ∃ (it:Addr) (fp:List Addr) (tn:Nat->Heap->Prop) (J:It) (H':Hp),itv=.ref it/\Inv X pins O H' s2/\Turn X.prog X.w X.K tg J fp it tn/\tn 0 s2.heap/\(∀ b∈fp,FpOk X pins H' b)/\R J H'
def PI (X:Cx) (tg iter:Expr) (wi:TI):Prop :=
 ∀ (pins:List (Addr×Obj)) (s:Shared) (O:St) (H:Hp) (R:It->Hp->Prop),Inv X pins O H s->wi O H R ->
  wpAny (model X.prog X.w) X.A (eval iter X.env) (fun v s1=>wpAny (model X.prog X.w) X.A (pyIter v) (PIE X pins O tg R) X.xe s1) X.xe s
theorem zc3 (b:s.heap.get? it=some o) (c:o.cls=.type n) (hd:o.data=.fields vs)
  (d:["enumerate", "zip", "dict_itemiterator", "dict_reverseitemiterator", "odict_iterator", "itertools.zip_longest", "itertools.pairwise"].contains n=false) (a:Q () s):wpAny M A (letOwnedTupleGo tg (.ref it) u) Q E s:=by
 unfold letOwnedTupleGo
 cases tg <;> first
  | exact wpAny_pure a
  | (cases u <;> first
    | exact wpAny_pure a
    | (refine wpAny_bind (wpAny_load b ?_)
       rw [c,hd]
       show wpAny M A (if (["enumerate", "zip", "dict_itemiterator", "dict_reverseitemiterator", "odict_iterator", "itertools.zip_longest", "itertools.pairwise"].contains n && vs[0]? == some (rawInt _))=true then _ else _) Q E s
       rw [if_neg (by intro h;rw [d,Bool.false_and] at h;cases h)]
       exact wpAny_pure a))
def Itl (K:aA) (a:Addr):It :=
 ⟨fun i H=>∃ xs x,SqL K H a xs/\xs[i]?=some x,fun i H x H'=>H'=H/\∀ xs,SqL K H a xs->xs[i]?=some x,fun i H=>∃ xs,SqL K H a xs/\xs.length<=i⟩
def Itr (lo:Int) (n:Nat):It:=⟨fun i _=>i < n,fun i H x H'=>H'=H/\x=.int (lo + i),fun i _=>n<=i⟩
theorem Tj {P:Program} {w:World} {K:aA} {tg:Expr} (a it:Addr):Turn P w K tg (Itl K a) [it] it (fun i h=>h.IsListIter it a i) where
 mem:=by simp
 obj:=fun i h st b f=>by
  have e:b=it:=by simpa using f
  subst e
  obtain ⟨o,e,c,d⟩:=st
  exact ⟨o,e,fun v z=>by rw [d] at z;cases z⟩
 keep:=fun i h h' st k=>st.at fun o e=>k it (by simp) o e
 item:=by
  intro X m n q J i pins s O H E I j st r
  subst m n q
  obtain ⟨xs,x,l,t⟩:=r
  obtain ⟨y,A,p,L⟩:=I.list l
  obtain ⟨u,M,N⟩:=A.get t
  obtain ⟨B,C,fF,D,F,G⟩:=j it (by simp)
  refine wpAny_pyNext_list_item st p.isList (x:=u) (by simpa using M) fun h' g Q=>?_
  have R:Inv X pins O H { s with heap:=h' }:=I.turned (t':=s.toks) (fun b o f e=>(Q.2 b f).trans e) B C D F G
  obtain ⟨o,e,c,d⟩:=id g
  exact ⟨u,rfl,zc3 (s:={ s with heap:=h' }) e c d (by decide) ⟨x,H,R,N,⟨rfl,fun ys S=>by rw [I.list_inj S l];exact t⟩,g,fun b f=>(j b f).1⟩⟩
 done:=by
  intro X m n q J i pins s O H E I j st r
  subst m n q
  obtain ⟨xs,l,t⟩:=r
  obtain ⟨y,A,p,L⟩:=I.list l
  obtain ⟨B,C,fF,D,F,G⟩:=j it (by simp)
  have fG:=A.length
  exact wpAny_pyNext_list_end (I.ok.hd J) st p.isList (by simp;omega) fun h' T=>⟨rfl,I.turned (t':=s.toks) (fun b o f e=>T b o f e) B C D F G⟩
 self:=fun _ _ _ _ _ st h=>wpAny_pyIter_listiter st h
theorem Vr {P:Program} {w:World} {K:aA} {tg:Expr} (it:Addr) (lo:Int) (n:Nat):Turn P w K tg (Itr lo n) [it] it (fun i h=>IsRangeIter h it (lo + (i:Nat) * 1) ((n:Int) - (i:Nat)) 1) where
 mem:=by simp
 obj:=fun i h st b a=>by
  have e:b=it:=by simpa using a
  subst e
  exact ⟨_,st,fun v z=>by
   have A:Data.fields _=Data.cell v:=z
   cases A⟩
 keep:=fun i h h' st k=>k it (by simp) _ st
 item:=by
  intro X f g j l i pins s O H E I d st m
  subst f g j
  obtain ⟨p,q,B,r,u,x⟩:=d it (by simp)
  have W:=Walks.range (prog:=X.prog) (w:=X.w) (I.ok.hd l) it lo 1 n
  refine W.item i s _ _ m st fun v h' y C c D=>?_
  obtain ⟨t,rfl⟩:=C
  have F:Inv X pins O H { s with heap:=h',toks:=y }:=I.turned (fun b o a e=>D b o (by simpa using a) e) p q r u x
  refine ⟨_,rfl,zc3 (s:={ s with heap:=h',toks:=y }) (n := "range_iterator") c rfl rfl (by decide) ⟨.int (lo + i),H,F,⟨t,?_⟩,⟨rfl,rfl⟩,c,fun b a=>(d b a).1⟩⟩
  rw [Int.mul_one]
 done:=by
  intro X f g j l i pins s O H E I d st m
  subst f g j
  obtain ⟨p,q,B,r,u,x⟩:=d it (by simp)
  exact wpAny_pyNext_range_end (I.ok.hd l) st (by have:n<=i:=m;omega) fun h' G=>⟨rfl,I.turned (t':=s.toks) (fun b o a e=>G b o a e) p q r u x⟩
 self:=fun _ _ _ _ _ st h=>wpAny_pyIter_rangeiter st h
section
variable {X:Cx} {tg:Expr}
def UX (K:aA) (tl:TE):TI:=fun O H R=>tl O H fun x H1=>∃ a,x=.ref a/\(∃ xs,SqL K H1 a xs)/\R (Itl K a) H1
theorem zbK {l:Expr} {d:TE} (f:PE X l d):PI X tg l (UX X.K d):=by
 intro pins s O H R I h
 refine thn (f pins s O H _ I h) fun v s1 ⟨x,g,c,i,j⟩=>?_
 obtain ⟨a,e,⟨xs,k⟩,q⟩:=j
 subst e
 cases i
 obtain ⟨m,r,p,t⟩:=c.list k
 refine wpAny_pyIter_list p.isList ?_
 refine ⟨s1.heap.objs.size,[s1.heap.objs.size],_,_,g,rfl,c.kept (t':=s1.toks) fun b o e=>aR _ e,Tj a _,⟨_,bE _ rfl,rfl,rfl⟩,fun b n=>?_,q⟩
 have e:b=s1.heap.objs.size:=by simpa using n
 subst e
 exact c.fpOk (aC _) (c.hok.fresh (aC _))
theorem WJ {lo hi:Int} {t u v:Tok} {tk:Nat} (I:Inv X pins O H s) (c:-(2 ^ 62)<=lo) (d:lo < 2 ^ 62) (f:-(2 ^ 62)<=hi) (g:hi < 2 ^ 62)
  (q:R (Itr lo (hi - lo).toNat) H):wpAny (model X.prog X.w) X.A (pyIter (.ref s.heap.objs.size)) (PIE X pins O tg R) E { s with heap:=s.heap.push { cls:=.type "range", data:=.fields #[.int lo t,.int hi u,.int 1 v] },toks:=tk }:=by
 refine wpAny_pyIter_range (IsRange.new ..) (small_one c d f g) ?_
 have a:Inv X pins O H { s with heap:=s.heap.push { cls:=.type "range", data:=.fields #[.int lo t,.int hi u,.int 1 v] },toks:=tk }:=I.kept fun b o e=>aR _ e
 refine ⟨(s.heap.push { cls:=.type "range", data:=.fields #[.int lo t,.int hi u,.int 1 v] }).objs.size,[(s.heap.push { cls:=.type "range", data:=.fields #[.int lo t,.int hi u,.int 1 v] }).objs.size],_,_,H,rfl,
  a.kept (t':=tk) fun b o e=>aR _ e,Vr _ lo (hi - lo).toNat,?_,fun b h=>?_,q⟩
 ·have i:lo + ((0:Nat):Int) * 1=lo:=by simp
  have j:(((hi - lo).toNat:Nat):Int) - ((0:Nat):Int)=Builtin.Range.rangeSize lo hi 1:=by rw [rangeSize_one];split <;> omega
  show IsRangeIter _ _ (lo + ((0:Nat):Int) * 1) ((((hi - lo).toNat:Nat):Int) - ((0:Nat):Int)) 1
  rw [i,j]
  exact bE _ rfl
 ·have e:b=(s.heap.push { cls:=.type "range", data:=.fields #[.int lo t,.int hi u,.int 1 v] }).objs.size:=by simpa using h
  subst e
  exact a.fpOk (aC _) (a.hok.fresh (aC _))
def UW (ta:TA):TI:=fun O H R=>ta O H fun vs H1=>∃ j:Int,vs=[.int j]/\-(2 ^ 62)<=j/\j < 2 ^ 62/\R (Itr 0 j.toNat) H1
def zc1 (ta:TA):TI:=fun O H R=>ta O H fun vs H1=>∃ i j:Int,vs=[.int i,.int j]/\(-(2 ^ 62)<=i/\i < 2 ^ 62/\-(2 ^ 62)<=j/\j < 2 ^ 62)/\R (Itr i (j - i).toNat) H1
theorem yw {a:Expr} {c:TA} {p pos:Pos} (d:Gl X "range") (f:X.mg "range" = none) (g:PA X [a] c) (i:starEach [a] X.env=[(false,eval a X.env)]:=by rfl):PI X tg (.Call (.Name "range" p) [a] [] pos) (UW c):=by
 intro pins s O H R I h
 refine Call_ (uk I d f boot_range (PyProof.Rows.callWith_type1 (thn (g pos pins s O H _ I h) fun us s1 ⟨vs,o,k,l,b⟩=>?_) i rfl))
 obtain ⟨j,e,b,m,q⟩:=b
 subst e
 cases l with
 | cons r n =>
  cases n
  obtain ⟨t,rfl⟩:=r
  exact call_range_1 (WJ k (by omega) (by omega) b m (by simpa using q))
theorem tI (g:Gl X "range") (k:X.mg "range" = none) (l:PA X [a,b] ta) (m:starEach [a,b] X.env=[(false,eval a X.env),(false,eval b X.env)]:=by rfl) (c:starEach [b] X.env=[(false,eval b X.env)]:=by rfl) :
  PI X tg (.Call (.Name "range" p) [a,b] [] pos) (zc1 ta):=by
 intro pins s O H R I h
 refine Call_ (uk I g k boot_range (PyProof.Rows.callWith_type1 (thn (l pos pins s O H _ I h) fun us s1 ⟨vs,y,n,o,d⟩=>?_) (by rw [m,c]) (by rw [c];rfl)))
 obtain ⟨i,j,e,⟨d,u,v,w⟩,q⟩:=d
 subst e
 cases o with
 | cons r f =>
  cases f with
  | cons x f =>
   cases f
   obtain ⟨t,rfl⟩:=r
   obtain ⟨z,rfl⟩:=x
   exact call_range_2 (WJ n d u v w q)
def tFor (wi:TI) (g:TG) (tb:TS):TS:=fun D O H=>wi O H fun J H1=>∃ W:Nat->Nat->St->Hp->Prop,(∃ m,W 0 m O H1)/\∀ i m O H,W i m O H ->
 (J.stop i H/\D.nx O H)\/(J.go i H/\∃ N:St->Hp->Prop,(∀ O' H',N O' H'->∃ m',m' < m/\W (i + 1) m' O' H')/\∀ x H',J.yld i H x H'->g x O H' fun O2 H2=>tb { D with nx:=N,ct:=N,bk:=D.nx } O2 H2)
def tH (fp:List Addr) (h:Heap):List (Addr×Obj):=fp.filterMap fun b=>(h.get? b).map fun o=>(b,o)
theorem xr (a:b∈fp) (e:h.get? b=some o):(b,o)∈tH fp h:=dO.mpr ⟨b,a,by rw [e];rfl⟩
theorem TF (a:p∈tH fp h):p.1∈fp/\h.get? p.1=some p.2:=by
 obtain ⟨b,c,e⟩:=dO.mp a
 cases q:h.get? b with
 | none=>rw [q] at e;cases e
 | some o =>
  rw [q] at e
  have d:(b,o)=p:=bI e
  subst d
  exact ⟨c,q⟩
theorem Inv.pinned (I:Inv X pins O H s) (f:∀ b∈fp,FpOk X pins H b) (g:∀ b∈fp,∃ o,s.heap.get? b=some o/\∀ v,o.data≠.cell v):Inv X (pins ++ tH fp s.heap) O H s :=
 I.pins_of fun p h=>(aQ.mp h).elim (fun z=>I.pin p (aO _ z)) fun z=>by
  obtain ⟨a,e⟩:=TF z
  obtain ⟨i,j,k,_⟩:=f p.1 a
  obtain ⟨o,c,d⟩:=g p.1 a
  rw [e] at c;cases c
  exact ⟨e,i,j,k,d⟩
theorem Inv.unpinned (I:Inv X (pins ++ pl) O H s):Inv X pins O H s:=I.pins_of fun p a=>I.pin p (aO _ (bR _ a))
theorem yF (z:PassesOwn (model X.prog X.w) X.A X.env X.xe) (Q:X.calm=true) (hi:PI X tg iter wi) (hg:PG X tg g) (c:PSs X body tb)
  (hs:∀ x,foldedSetIterable iter X.env x=pure x:=by intro _;rfl):PS X (.For tg iter body [] pos) (tFor wi g tb):=by
 intro pins s O H D I h
 refine wpAny_For (thn (hi pins s O H _ I h) fun v s1 h1=>thn h1 fun a0 s2 h2=>?_) hs
 obtain ⟨it,fp,tn,J,H2,e,I2,T,G,R,W,⟨m0,w0⟩,turn⟩:=h2
 subst e
 have j:∀ {H':Hp},(∀ b∈fp,H' b=none)->∀ b∈fp,FpOk X pins H' b:=fun hn b c=>⟨hn b c,(R b c).2⟩
 refine codeAny_forLoop_any (fun n S=>∃ i O' H',Inv X pins O' H' S/\tn i S.heap/\(∀ b∈fp,H' b=none)/\W i n O' H') ?_ m0 ⟨0,O,H2,I2,G,fun b c=>(R b c).1,w0⟩
 rintro n fG ⟨i,k,F,V,B,C,w3⟩
 rcases turn i n k F w3 with ⟨stop,qn⟩ | ⟨go,N,hN,step⟩
 ·refine wpAny_passesOwn z (thn (T.done X rfl rfl rfl Q i pins fG k F X.xe V (j C) B stop) fun r s4 ⟨K,I4⟩=>?_)
  subst K
  exact wpAny_execs_nil ⟨k,F,I4,qn⟩
 ·refine wpAny_passesOwn z (thn (T.item X rfl rfl rfl Q i pins fG k F X.xe V (j C) B go) fun r s4 ⟨u,K,h4⟩=>?_)
  subst K
  refine wpAny_passesOwn z (thn h4 fun _ fE ⟨x,Z,I5,r5,y5,y,L⟩=>?_)
  have M:=I5.pinned (j L) (T.obj _ _ y)
  refine wpAny_passesOwn z (thn (hg _ fE k Z x u _ M r5 (step x Z y5)) fun _ s6 ⟨fF,H6,I6,q6⟩=>?_)
  refine wpAny_passesOwn z (thn (c _ s6 fF H6 _ I6 q6) fun f P t=>?_)
  have l:∀ {a:St} {p:Hp},Inv X (pins ++ tH fp fE.heap) a p P->N a p->∃ m,m < n/\∃ i O' H',Inv X pins O' H' P/\tn i P.heap/\(∀ b∈fp,H' b=none)/\W i m O' H':=fun {a p} q E=>by
   obtain ⟨m',hm,w7⟩:=hN a p E
   refine ⟨m',hm,i + 1,a,p,q.unpinned,T.keep _ _ _ y fun b c o e=>(q.pin (b,o) (aO _ (aO _ (xr c e)))).1,fun b c=>?_,w7⟩
   obtain ⟨o,e,d⟩:=T.obj _ _ y b c
   exact (q.pin (b,o) (aO _ (aO _ (xr c e)))).2.1
  cases f with
  | next=>obtain ⟨a,p,q,E⟩:=t;exact l q E
  | cont=>obtain ⟨a,p,q,E⟩:=t;exact l q E
  | brk=>obtain ⟨a,p,q,t⟩:=t;exact ⟨a,p,q.unpinned,t⟩
  | ret v=>obtain ⟨x7,a,p,q,r7,t⟩:=t;exact ⟨x7,a,p,q.unpinned,r7,t⟩
end
abbrev R2:=V->V->Hp->VK->Prop
def OpR (X:Cx) (f:Value->Value->Sem Value) (r:R2):Prop :=
 ∀ (pins:List (Addr×Obj)) (s:Shared) (O:St) (H:Hp) (x y:V) (v u:Value) (Q:VK),Inv X pins O H s->RelV x v->RelV y u->r x y H Q ->
  wpAny (model X.prog X.w) X.A (f v u) (EP X pins O Q) X.xe s
def UnR (X:Cx) (f:Value->Sem Value) (r:V->Hp->VK->Prop):Prop :=
 ∀ (pins:List (Addr×Obj)) (s:Shared) (O:St) (H:Hp) (x:V) (v:Value) (Q:VK),Inv X pins O H s->RelV x v->r x H Q ->
  wpAny (model X.prog X.w) X.A (f v) (EP X pins O Q) X.xe s
def yq (X:Cx) (f:Value) (r:List V->Hp->VK->Prop):Prop :=
 ∀ (pins:List (Addr×Obj)) (s:Shared) (O:St) (H:Hp) (xs:List V) (us:List Value) (Q:VK),Inv X pins O H s->Vals xs us->r xs H Q ->
  wpAny (model X.prog X.w) X.A (call f us) (EP X pins O Q) X.xe s
def tOp (r:R2) (ta tb:TE):TE:=fun O H Q=>ta O H fun x H1=>tb O H1 fun y H2=>r x y H2 Q
def tUn (r:V->Hp->VK->Prop) (ta:TE):TE:=fun O H Q=>ta O H fun x H1=>r x H1 Q
def rI (C:Int->Int->Prop) (g:Int->Int->V):R2:=fun x y H Q=>∃ i j,x=.int i/\y=.int j/\C i j/\Q (g i j) H
def rI0 (g:Int->Int->V):R2:=fun x y H Q=>∃ i j,x=.int i/\y=.int j/\Q (g i j) H
def rU (g:Int->V):V->Hp->VK->Prop:=fun x H Q=>∃ i,x=.int i/\Q (g i) H
section
variable {X:Cx} {a b c:Expr} {ta tb tc:TE} {pos:Pos}
theorem binT (i:PE X a ta) (j:PE X b tb) {pins:List (Addr×Obj)} {s:Shared} {O:St} {H:Hp} {R:V->V->Hp->Prop} (I:Inv X pins O H s)
  (h:ta O H fun x g=>tb O g fun y c=>R x y c) {Q:Value->Shared->Prop} {f:Value->Value->Sem Value}
  (k:∀ v u s2 x y c,Inv X pins O c s2->RelV x v->RelV y u->R x y c->wpAny (model X.prog X.w) X.A (f v u) Q X.xe s2) :
  wpAny (model X.prog X.w) X.A (eval a X.env) (fun v d=>wpAny (model X.prog X.w) X.A (eval b X.env) (fun u e=>wpAny (model X.prog X.w) X.A (f v u) Q X.xe e) X.xe d) X.xe s:=by
 refine thn (i pins s O H _ I h) fun v s1 ⟨x,g,l,m,n⟩=>?_
 refine thn (j pins s1 O g _ l n) fun u s2 ⟨y,c,o,p,q⟩=>?_
 exact k v u s2 x y c o m p q
theorem zJ {op:Operator} {r:R2} (c:OpR X (binaryOp op) r) (d:PE X a ta) (e:PE X b tb):PE X (.BinOp a op b pos) (tOp r ta tb):=by
 intro pins s O H Q I h
 exact wpAny_BinOp (binT d e I h fun v u s2 x y f g i j q=>c pins s2 O f x y v u Q g i j q)
theorem ub (b:UnR X (unaryOp op) r) (c:PE X a ta):PE X (.UnaryOp op a pos) (tUn r ta):=by
 intro pins s O H Q I h
 exact UnaryOp_ (thn (c pins s O H _ I h) fun v s1 ⟨x,d,e,f,g⟩=>b pins s1 O d x v Q e f g)
theorem opI {f:Value->Value->Sem Value} {C:Int->Int->Prop} {g:Int->Int->Int}
  (a:∀ (i j:Int) (t u:Tok) (s:Shared) (Q:Value->Shared->Prop) (E:Value->Shared->Prop),C i j->Q (.int (g i j) s.toks) { s with toks:=s.toks + 1 }->wpAny (model X.prog X.w) X.A (f (.int i t) (.int j u)) Q E s) :
  OpR X f (rI C fun i j=>.int (g i j)):=by
 intro pins s O H x y v u Q I b c h
 obtain ⟨i,j,rfl,rfl,d,q⟩:=h
 obtain ⟨t,rfl⟩:=b
 obtain ⟨e,rfl⟩:=c
 exact a i j t e s _ _ d ⟨.int (g i j),H,I.tok _,⟨_,rfl⟩,q⟩
theorem opI0 {f:Value->Value->Sem Value} {g:Int->Int->Int}
  (a:∀ (i j:Int) (t u:Tok) (s:Shared) (Q:Value->Shared->Prop) (E:Value->Shared->Prop),Q (.int (g i j) s.toks) { s with toks:=s.toks + 1 }->wpAny (model X.prog X.w) X.A (f (.int i t) (.int j u)) Q E s) :
  OpR X f (rI0 fun i j=>.int (g i j)):=by
 intro pins s O H x y v u Q I b c h
 obtain ⟨i,j,rfl,rfl,q⟩:=h
 obtain ⟨t,rfl⟩:=b
 obtain ⟨d,rfl⟩:=c
 exact a i j t d s _ _ ⟨.int (g i j),H,I.tok _,⟨_,rfl⟩,q⟩
theorem opB0 {f:Value->Value->Sem Value} {g:Int->Int->Bool}
  (a:∀ (i j:Int) (t u:Tok) (s:Shared) (Q:Value->Shared->Prop) (E:Value->Shared->Prop),Q (.bool (g i j)) s->wpAny (model X.prog X.w) X.A (f (.int i t) (.int j u)) Q E s) :
  OpR X f (rI0 fun i j=>.bl (g i j)):=by
 intro pins s O H x y v u Q I b c h
 obtain ⟨i,j,rfl,rfl,q⟩:=h
 obtain ⟨t,rfl⟩:=b
 obtain ⟨d,rfl⟩:=c
 exact a i j t d s _ _ ⟨.bl (g i j),H,I,rfl,q⟩
def CDiv (i j:Int):Prop:=0 < j/\j < 1073741824
theorem yD:OpR X (binaryOp .Add) (rI0 fun i j=>.int (i + j)):=opI0 fun _ _ _ _ _ _ _ q=>add_int q
theorem vC:OpR X (binaryOp .Sub) (rI0 fun i j=>.int (i - j)):=opI0 fun _ _ _ _ _ _ _ q=>sub_int q
theorem uO:OpR X (binaryOp .FloorDiv) (rI CDiv fun i j=>.int (i / j)):=opI fun i j _ _ _ _ _ a q=>by
 have b:(0:Int) < j:=a.1
 have c:j < 1073741824:=a.2
 exact floordiv_int (by omega) (by rw [Int.fdiv_eq_ediv_of_nonneg i (by omega)];exact q) (.inl (PyProof.noPylong_small (by omega)))
theorem y8:OpR X (binaryOp .Mod) (rI (fun _ j=>0 < j) fun i j=>.int (i % j)):=opI fun i j _ _ _ _ _ a q=>by
 have b:(0:Int) < j:=a
 exact mod_int' (by omega) (by rw [Int.fmod_eq_emod_of_nonneg i (by omega)];exact q)
theorem unI {f:Value->Sem Value} {g:Int->Int}
  (a:∀ (i:Int) (t:Tok) (s:Shared) (Q:Value->Shared->Prop) (E:Value->Shared->Prop),Q (.int (g i) s.toks) { s with toks:=s.toks + 1 }->wpAny (model X.prog X.w) X.A (f (.int i t)) Q E s) :
  UnR X f (rU fun i=>.int (g i)):=by
 intro pins s O H x v Q I b h
 obtain ⟨i,rfl,q⟩:=h
 obtain ⟨t,rfl⟩:=b
 exact a i t s _ _ ⟨.int (g i),H,I.tok _,⟨_,rfl⟩,q⟩
theorem wq:UnR X (unaryOp .USub) (rU fun i=>.int (-i)):=unI fun _ _ _ _ _ q=>neg_int q
end
def scal:V->V->Bool
 | .non,.non=>true | .non,.int _=>true | .int _,.non=>true | .non,.bl _=>true | .bl _,.non=>true | .non,.str _=>true | .str _,.non=>true
 | .int _,.int _=>true | .bl _,.bl _=>true | .str _,.str _=>true | .byt _,.byt _=>true
 | .int _,.str _=>true | .str _,.int _=>true | .bl _,.str _=>true | .str _,.bl _=>true
 | _,_=>false
def rEq:R2:=fun x y H Q=>scal x y=true/\Q (.bl (decide (x=y))) H
def rNe:R2:=fun x y H Q=>scal x y=true/\Q (.bl (!decide (x=y))) H
theorem u7:decide (V.int i=V.int j)=(i == j):=by
 rw [dP]
 simp
theorem zaX:decide (V.bl i=V.bl j)=(i == j):=by
 rw [dP]
 simp
theorem u6:decide (V.str i=V.str j)=(i == j):=by
 rw [dP]
 simp
theorem fG4:decide (V.byt i=V.byt j)=(i.toList == j.toList):=by
 rw [dP]
 cases i
 cases j
 simp
section
variable {X:Cx} {a b c:Expr} {ta tb tc:TE} {pos:Pos}
theorem zS (I:Inv X pins O H s) (q:Q (.bl k) H) (e:k=k'):EP X pins O Q (.bool k') s:=by
 subst e
 exact ⟨.bl k,H,I,rfl,q⟩
theorem uP:OpR X (compareOp .Eq) rEq:=by
 intro pins s O H x y v u Q I d a h
 obtain ⟨c,q⟩:=h
 cases x with
 | non =>
  cases d
  cases y with
  | non=>cases a;exact PySem.EqNone.eq_none_none (zS I q (by simp))
  | bl j=>cases a;exact PySem.EqNone.eq_none_bool (zS I q (by simp))
  | int j=>obtain ⟨b,rfl⟩:=a;exact PySem.EqNone.eq_none_int (zS I q (by simp))
  | str j=>obtain ⟨b,rfl⟩:=a;exact PySem.EqNone.eq_none_str (zS I q (by simp))
  | _=>exact absurd (show false=true from c) aY
 | bl i =>
  cases d
  cases y with
  | non=>cases a;exact PySem.EqNone.eq_bool_none (zS I q (by simp))
  | bl j=>cases a;exact eq_bool (zS I q zaX)
  | str j=>obtain ⟨b,rfl⟩:=a;exact PySem.EqMixed.eq_bool_str (zS I q (by simp))
  | _=>exact absurd (show false=true from c) aY
 | int i =>
  obtain ⟨t,rfl⟩:=d
  cases y with
  | non=>cases a;exact PySem.EqNone.eq_int_none (zS I q (by simp))
  | int j=>obtain ⟨b,rfl⟩:=a;exact eq_int (zS I q u7)
  | str j=>obtain ⟨b,rfl⟩:=a;exact PySem.EqMixed.eq_int_str (zS I q (by simp))
  | _=>exact absurd (show false=true from c) aY
 | str i =>
  obtain ⟨t,rfl⟩:=d
  cases y with
  | non=>cases a;exact PySem.EqNone.eq_str_none (zS I q (by simp))
  | bl j=>cases a;exact PySem.EqMixed.eq_str_bool (zS I q (by simp))
  | int j=>obtain ⟨b,rfl⟩:=a;exact PySem.EqMixed.eq_str_int (zS I q (by simp))
  | str j=>obtain ⟨b,rfl⟩:=a;exact eq_str (zS I q u6)
  | _=>exact absurd (show false=true from c) aY
 | byt i =>
  obtain ⟨t,rfl⟩:=d
  cases y with
  | byt j=>obtain ⟨b,rfl⟩:=a;exact PySem.W.eq_bytes (zS I q fG4)
  | _=>exact absurd (show false=true from c) aY
 | _=>cases y <;> exact absurd (show false=true from c) aY
theorem vg:OpR X (compareOp .NotEq) rNe:=by
 intro pins s O H x y v u Q I d a h
 obtain ⟨c,q⟩:=h
 cases x with
 | non =>
  cases d
  cases y with
  | non=>cases a;exact PySem.EqNone.ne_none_none (zS I q (by simp))
  | bl j=>cases a;exact PySem.EqNone.ne_none_bool (zS I q (by simp))
  | int j=>obtain ⟨b,rfl⟩:=a;exact PySem.EqNone.ne_none_int (zS I q (by simp))
  | str j=>obtain ⟨b,rfl⟩:=a;exact PySem.EqNone.ne_none_str (zS I q (by simp))
  | _=>exact absurd (show false=true from c) aY
 | bl i =>
  cases d
  cases y with
  | non=>cases a;exact PySem.EqNone.ne_bool_none (zS I q (by simp))
  | bl j=>cases a;exact ne_bool (zS I q (congrArg not zaX))
  | str j=>obtain ⟨b,rfl⟩:=a;exact PySem.EqMixed.ne_bool_str (zS I q (by simp))
  | _=>exact absurd (show false=true from c) aY
 | int i =>
  obtain ⟨t,rfl⟩:=d
  cases y with
  | non=>cases a;exact PySem.EqNone.ne_int_none (zS I q (by simp))
  | int j=>obtain ⟨b,rfl⟩:=a;exact ne_int (zS I q (congrArg not u7))
  | str j=>obtain ⟨b,rfl⟩:=a;exact PySem.EqMixed.ne_int_str (zS I q (by simp))
  | _=>exact absurd (show false=true from c) aY
 | str i =>
  obtain ⟨t,rfl⟩:=d
  cases y with
  | non=>cases a;exact PySem.EqNone.ne_str_none (zS I q (by simp))
  | bl j=>cases a;exact PySem.EqMixed.ne_str_bool (zS I q (by simp))
  | int j=>obtain ⟨b,rfl⟩:=a;exact PySem.EqMixed.ne_str_int (zS I q (by simp))
  | str j=>obtain ⟨b,rfl⟩:=a;exact ne_str (zS I q (congrArg not u6))
  | _=>exact absurd (show false=true from c) aY
 | byt i =>
  obtain ⟨t,rfl⟩:=d
  cases y with
  | byt j=>obtain ⟨b,rfl⟩:=a;exact PySem.W.ne_bytes (zS I q (congrArg not fG4))
  | _=>exact absurd (show false=true from c) aY
 | _=>cases y <;> exact absurd (show false=true from c) aY
theorem YH:OpR X (compareOp .Lt) (rI0 fun i j=>.bl (decide (i < j))):=opB0 fun _ _ _ _ _ _ _ q=>lt_int q
theorem ZK:OpR X (compareOp .Gt) (rI0 fun i j=>.bl (decide (j < i))):=opB0 fun _ _ _ _ _ _ _ q=>gt_int q
theorem zeB:OpR X (compareOp .GtE) (rI0 fun i j=>.bl (decide (j<=i))):=opB0 fun _ _ _ _ _ _ _ q=>ge_int q
theorem VN:OpR X (compareOp .Is) (fun x y H Q=>y=.non/\Q (.bl (decide (x=.non))) H):=by
 intro pins s O H x y v u Q I a b h
 obtain ⟨rfl,q⟩:=h
 cases b
 refine is_none_gen (zS I q ?_)
 cases x <;> first
  | (cases a;rfl)
  | (obtain ⟨t,rfl⟩:=a;rfl)
theorem zbN:OpR X (compareOp .IsNot) (fun x y H Q=>y=.non/\Q (.bl (!decide (x=.non))) H):=by
 intro pins s O H x y v u Q I a b h
 obtain ⟨rfl,q⟩:=h
 cases b
 refine isnot_none_gen (zS I q ?_)
 cases x <;> first
  | (cases a;rfl)
  | (obtain ⟨t,rfl⟩:=a;rfl)
theorem zF (b:Expr) (h:op≠.In:=by decide) (a:op≠.NotIn:=by decide):behindInMarks op b=false:=by
 have c:(op == CmpOp.In)=false:=by cases op <;> first | rfl | exact absurd rfl h
 have d:(op == CmpOp.NotIn)=false:=by cases op <;> first | rfl | exact absurd rfl a
 cases b <;> simp [behindInMarks,c,d]
theorem yy (c:OpR X (compareOp op) r) (d:PE X a ta) (e:PE X b tb) (f:behindInMarks op b=false):PE X (.Compare a [op] [b] pos) (tOp r ta tb):=by
 intro pins s O H Q I h
 exact wpAny_Compare1 (binT d e I h fun v u s2 x y g i j k q=>c pins s2 O g x y v u Q i j k q) f
def Qp (t:TE):TT:=fun O H Q=>t O H fun x H'=>∃ k,x=.bl k/\Q k H'
theorem zr (d:OpR X (compareOp op) r) (f:PE X a ta) (g:PE X b tb) (i:behindInMarks op b=false):PT X (.Compare a [op] [b] pos) (Qp (tOp r ta tb)):=by
 intro pins s O H Q I h
 refine wpAny_isTrue_Compare1 (thn (f pins s O H _ I h) fun v s1 ⟨x,j,l,m,n⟩=>thn (g pins s1 O j _ l n) fun u s2 ⟨y,o,p,q,t⟩ =>
  thn (d pins s2 O o x y v u _ p m q t) fun c D ⟨z,w,A,B,k,e,C⟩=>?_) i
 subst e
 cases B
 exact wpAny_truthy_bool ⟨w,A,C⟩
theorem V7:(sizeLine:Nat) < 2 ^ 63:=by rw [sizeLine_eq];decide
theorem xh (r:Vals [x] us):∃ u,us=[u]/\RelV x u:=by
 cases r with
 | cons a b=>cases b;exact ⟨_,rfl,a⟩
theorem zes (r:Vals [x,y] us):∃ u a,us=[u,a]/\RelV x u/\RelV y a:=by
 cases r with
 | cons b c =>
  cases c with
  | cons d e=>cases e;exact ⟨_,_,rfl,b,d⟩
theorem fE1:yq X (.type "int") (fun xs H Q=>(∃ i,xs=[.int i]/\Q (.int i) H)\/∃ k,xs=[.bl k]/\Q (.int (if k then 1 else 0)) H):=by
 intro pins s O H xs us Q I r h
 rcases h with ⟨i,rfl,q⟩ | ⟨k,rfl,q⟩
 ·obtain ⟨u,rfl,t,rfl⟩:=xh r
  exact call_int_int ⟨.int i,H,I,⟨_,rfl⟩,q⟩
 ·obtain ⟨u,rfl,a⟩:=xh r
  cases a
  exact call_int_bool ⟨.int (if k then 1 else 0),H,I.tok _,⟨_,rfl⟩,q⟩
end
section
variable {prog:Program} {w:World} {A:Around} {E:Value->Shared->Prop} {s:Shared} {K:aA} {x dx C f:Addr} {mA:Str->Option Value} {name:Str} {v:Value}
end
theorem RelO.some_of (r:RelO (some v) o):∃ u,o=some u/\RelV v u:=by
 cases o with
 | none=>exact (show False from r).elim
 | some u=>exact ⟨u,rfl,r⟩
section
variable {P:Program} {w:World} {H H':Hp} {h h':Heap} {a C dx:Addr} {fs fs':List (Str×V)}
end
section
variable {X:Cx} {pins:List (Addr×Obj)} {O:St} {H:Hp} {s:Shared} {a C dx:Addr} {fs:List (Str×V)} {f:Str} {v:V} {A:Around} {E:Value->Shared->Prop}
end
section
variable {X:Cx} {o e value:Expr} {f:Str} {pos pos' tpos:Pos} {ta tv:TE}
end
section
variable {X:Cx} {pins:List (Addr×Obj)} {O:St} {H:Hp} {s:Shared} {A:Around} {E:Value->Shared->Prop} {Q:Value->Shared->Prop} {c:Value} {b:Bool}
end
structure Room (k:Nat) (A:Around):Prop where
 hd:A.handled=none
 dp:A.depth + 3 * k + 5 < recursionLimit
 un:A.units + 16 * k + 200 < cLine
theorem Room.mono (r:Room k A) (h:j<=k):Room j A:=⟨r.hd,by have:=r.dp;omega,by have:=r.un;omega⟩
theorem Room.deeper (r:Room (k + 1) A) (env:Env):Room k (A.deeper env) :=
 ⟨r.hd,by have:=r.dp;show A.depth + 1 + 3 * k + 5 < _;omega,by have:=r.un;show A.units + 3 + 16 * k + 200 < _;omega⟩
theorem Room.in1 (r:Room (k + 1) A):Room k A.in1 :=
 ⟨r.hd,by have:=r.dp;show A.depth + 3 * k + 5 < _;omega,by have:=r.un;show A.units + 1 + 16 * k + 200 < _;omega⟩
theorem Room.depth (r:Room k A):A.depth < recursionLimit:=by have:=r.dp;omega
theorem Room.units (r:Room k A):A.units + 64 < cLine:=by have:=r.un;omega
def tNil:TA:=fun _ H Q=>Q [] H
def zR (ta:TE) (tr:TA):TA:=fun O H Q=>ta O H fun x H1=>tr O H1 fun xs H2=>Q (x :: xs) H2
section
variable {X:Cx} {e:Expr} {es:List Expr} {te:TE} {t:TA} {pos:Pos}
theorem zd:PA X [] tNil:=fun _ _ _ _ H Q I h=>Calls.spliced_nil ⟨[],H,I,.nil,h⟩
theorem zb (a:PE X e te) (b:PA X es t) (c:starEach (e :: es) X.env=(false,eval e X.env) :: starEach es X.env:=by rfl):PA X (e :: es) (zR te t):=by
 intro pos pins s O H Q I h
 rw [c]
 show wpAny _ _ (spliced ((false,eval e X.env) :: backTo pos (starEach es X.env))) _ _ s
 refine Calls.spliced_cons (thn (a pins s O H _ I h) fun u s1 ⟨x,d,f,g,i⟩=>?_)
 exact thn (b pos pins s1 O d _ f i) fun us s2 ⟨xs,j,k,l,m⟩=>⟨x :: xs,j,k,.cons g l,m⟩
def tTup (t:TA):TE:=fun O H Q=>t O H fun xs H1=>xs.length<=sizeLine/\∀ p,H1 p=none->Q (.ref p) (upd H1 p (.tup xs))
def tLst (t:TA):TE:=fun O H Q=>t O H fun xs H1=>xs.length<=sizeLine/\∀ p,H1 p=none->Q (.ref p) (upd H1 p (.lst xs))
theorem xG {x1} (h:PA X es t):PE X (.Tuple es x1 pos) (tTup t):=by
 intro pins s O H Q I d
 refine wpAny_Tuple_spliced (thn (h pos pins s O H _ I d) fun us s1 ⟨xs,a,c,r,z,q⟩=>⟨by rw [<- r.length];exact z,?_⟩)
 have f:a s1.heap.objs.size=none:=c.hok.fresh (aC _)
 refine ⟨.ref s1.heap.objs.size,upd a s1.heap.objs.size (.tup xs),c.laid (t':=s1.toks) (fun b u e=>aR _ e) (aC _) ?_,rfl,q _ f⟩
 exact ⟨z,us,r,⟨_,bE _ rfl,rfl,_,rfl⟩⟩
theorem zU (h:PA X es t):PE X (.List es pos) (tLst t):=by
 intro pins s O H Q I d
 refine wpAny_List_spliced (thn (h pos pins s O H _ I d) fun us s1 ⟨xs,a,c,r,z,q⟩=>⟨by rw [<- r.length];exact z,?_⟩)
 have f:a s1.heap.objs.size=none:=c.hok.fresh (aC _)
 refine ⟨.ref s1.heap.objs.size,upd a s1.heap.objs.size (.lst xs),c.laid (t':=s1.toks) (fun b u e=>aR _ e) (aC _) ?_,rfl,q _ f⟩
 exact ⟨z,us,0,r,bE _ rfl⟩
end
abbrev Sp:=List V->Hp->VK->XK->Prop
abbrev CXT:=List Env->Hp->Shared->XK->Value->Shared->Prop
structure Env0 (P:Program) (w:World) (K:aA) (mg:Str->Option Value) (base:Heap) (A:Around) (outer:List Env) (s:Shared) (H:Hp):Prop where
 frames:A.frames=some outer
 mod:Mod K mg base
 bs:∀ b o,base.get? b=some o->s.heap.get? b=some o/\H b=none
 bsz:base.objs.size<=s.heap.objs.size
 funs:s.heap.FunFrames base outer
 frf:∀ b∈frs outer,H b=none
 hok:HOk P w H s.heap
 bare:AllBare s.gens
 tb:TbOk K H
def CE (outer:List Env) (P:Program) (w:World) (H:Hp) (s:Shared) (Q:VK) (u:Value) (s':Shared):Prop :=
 ∃ v H',s'.os=s.os/\AllBare s'.gens/\Un (frs outer) [] H H' s.heap s'.heap/\HOk P w H' s'.heap/\RelV v u/\Q v H'
def CR (CX:CXT) (outer:List Env) (P:Program) (w:World) (H:Hp) (s:Shared) (Q:VK) (E:XK) (r:Result) (s':Shared):Prop :=
 match r with
 | .ok (.ret u)=>CE outer P w H s Q u s'
 | .ok _=>False
 | .error e=>CX outer H s E e s'
structure FnOk (P:Program) (w:World) (K:aA) (mg:Str->Option Value) (base:Heap) (CX:CXT) (k:Nat) (f:Addr) (fd:FuncData) (ps:List Str) (sp:Sp):Prop where
 len:∀ vs H Q E,sp vs H Q E->vs.length=ps.length
 run:∀ (A:Around) (outer:List Env) (s:Shared) (H:Hp) (args:Args) (us:List Value) (vs:List V) (Q:VK) (E:XK),Room k A->Env0 P w K mg base A outer s H->BindsTo s fd args (ps.zip us)->Vals vs us->sp vs H Q E ->
  codeAny (model P w) A (.call (.ref f) args) (CR CX outer P w H s Q E) s
theorem Env0.in1 {P:Program} {w:World} {K:aA} {mg:Str->Option Value} {base:Heap} {A:Around} {outer:List Env} {s:Shared} {H:Hp} (e:Env0 P w K mg base A outer s H) :
  Env0 P w K mg base A.in1 outer s H:=⟨e.frames,e.mod,e.bs,e.bsz,e.funs,e.frf,e.hok,e.bare,e.tb⟩
section
variable {X:Cx} {pins:List (Addr×Obj)} {O:St} {H:Hp} {s s':Shared}
theorem Inv.env0 (I:Inv X pins O H s):Env0 X.prog X.w X.K X.mg X.base X.A X.stack s H :=
 ⟨I.ok.frames,I.ok.mod,I.bs,bO I.ok.bsz I.sz,I.stack,I.stkFree,I.hok,I.bare,I.ok.tb.un I.base⟩
theorem Inv.after (I:Inv X pins O H s) (h:CE X.stack X.prog X.w H s Q u s'):EP X pins O Q u s':=by
 obtain ⟨v,H',os,bare,un,hok,r,q⟩:=h
 obtain ⟨c,g,d,t,a⟩:=s'
 obtain rfl:a=s.os:=os
 exact ⟨v,H',I.call (h':=c) (g':=g) (d':=d) (t':=t) (ch:=[]) un hok bare (fun b z=>absurd z (by simp)),r,q⟩
end
def v6 (sp:Sp) (dvs:List V) (E:XK) (t:TA):TE:=fun O H Q=>t O H fun vs H1=>sp (vs ++ dvs) H1 Q E
def xg (K:aA) (fd:FuncData) (ps:List Str) (ds:List Value):Prop :=
 ∀ (s:Shared) (us:List Value),K.In s.heap->(us ++ ds).length=ps.length->BindsTo s fd ⟨us,[]⟩ (ps.zip (us ++ ds))
theorem xg.all {K:aA} {fd:FuncData} {ps:List Str} (h:∀ us:List Value,us.length=ps.length->bindArgs fd ⟨us,[]⟩=pure (ps.zip us)):xg K fd ps []:=fun s us _ a=>by
 rw [bG] at a ⊢
 exact .of_eq (h us a)
def Wi (CX:CXT) (X:Cx) (E:XK):Prop:=∀ (pins:List (Addr×Obj)) (O:St) (H:Hp) (s:Shared) (e:Value) (s':Shared),Inv X pins O H s->CX X.stack H s E e s'->X.xe e s'
section
variable {X:Cx} {CX:CXT} {k:Nat} {f C:Addr} {fd:FuncData} {ps:List Str} {sp:Sp} {dvs:List V} {ds:List Value} {E:XK} {x m:Str} {p pos apos:Pos} {e o:Expr} {es:List Expr} {ta:TE} {t:TA}
theorem QC (F:FnOk X.prog X.w X.K X.mg X.base CX k f fd ps sp) (c:Room k X.A) (d:xg X.K fd ps ds) (hd:Vals dvs ds) (g:Wi CX X E)
  (I:Inv X pins O H s) (r:Vals vs us) (h:sp (vs ++ dvs) H Q E):wpAny (model X.prog X.w) X.A (call (.ref f) us) (EP X pins O Q) X.xe s:=by
 have b:Vals (vs ++ dvs) (us ++ ds):=r.append hd
 have i:(us ++ ds).length=ps.length:=by rw [<- b.length];exact F.len _ _ _ _ h
 refine wpAny_call (codeAny_mono (F.run X.A X.stack s H ⟨us,[]⟩ (us ++ ds) (vs ++ dvs) Q E c I.env0 (d s us I.kIn i) b h) fun r j a=>?_)
 cases r with
 | error e=>exact g pins O H s e j I a
 | ok fl =>
  cases fl with
  | ret u=>exact I.after a
  | next=>exact False.elim a
  | brk=>exact False.elim a
  | cont=>exact False.elim a
theorem zbM (F:FnOk X.prog X.w X.K X.mg X.base CX k f fd ps sp) (d:Room k X.A) (g:Gl X x) (i:X.mg x=some (.ref f)) (j:PySem.W.keepIn X.K (.ref f)=true) (l:xg X.K fd ps ds) (hd:Vals dvs ds) (m:Wi CX X E)
  (n:PA X (e :: es) t) (a:(x == ("__debug__" : Str))=false:=by decide) (o:starEach (e :: es) X.env=(false,eval e X.env) :: starEach es X.env:=by rfl) (b:(backTo pos (starEach es X.env)).any (·.1)=false:=by rfl) :
  PE X (.Call (.Name x p) (e :: es) [] pos) (v6 sp dvs E t):=by
 intro pins s O H Q I h
 refine wpAny_Call_Name_kw (XZ I g i ?_ a)
 refine PySem.W.callWith_K (h₀:=X.base) I.ok.mod.kin j (thn (n pos pins s O H _ I h) fun us s1 ⟨vs,u,c,r,q⟩=>⟨c.kIn,?_⟩) o b
 exact QC F d l hd m c r q
end
section
variable {X:Cx} {CX:CXT} {k:Nat} {f C:Addr} {fd:FuncData} {ps ks:List Str} {sp:Sp} {E:XK} {x m:Str} {p pos apos kpos:Pos} {e o:Expr} {es:List Expr} {kws:List Keyword} {te ta:TE} {t tk:TA} {nm:Option Str}
variable {g:List Value->List Value->List Value} {gV:List V->List V->List V}
end
structure zA (N P:List Str) (sc:Scope):Prop where
 kind:sc.kind=.function:=by rfl
 co:sc.isCoroutine=false:=by rfl
 gen:sc.isGenerator=false:=by rfl
 nd:N.Nodup:=by decide +kernel
 pre:N.take P.length=P:=by rfl
 par:∀ x∈P,sc.names.lookup x=some .local\/sc.names.lookup x=some .cell:=by decide +kernel
 nofree:∀ y∈sc.names,y.2≠.free:=by decide +kernel
theorem zA.n (_:zA N P sc) (k:Nat) (h:N.length=k:=by rfl):N.length=k:=h
theorem fE3 {kindOf:Str->Option NameKind} {x:Str}:∀ {binds:List (Str×Value)} {m:Str->Option Value},(∀ v,(x,v)∉binds)->bindL kindOf binds m x=m x
 | [],_,_=>rfl
 | (n,v) :: r,m,h=>by
  unfold bindL
  rw [fE3 fun w a=>h w (bA _ a)]
  split
  ·have:x≠n:=by rintro rfl;exact h v aK
   simp [this]
  ·rfl
theorem fE5 {kindOf:Str->Option NameKind} {x:Str}:∀ {binds:List (Str×Value)} {m:Str->Option Value},(∀ v,(x,v)∉binds)->bindC kindOf binds m x=m x
 | [],_,_=>rfl
 | (n,v) :: r,m,h=>by
  unfold bindC
  rw [fE5 fun w a=>h w (bA _ a)]
  split
  ·rfl
  ·have:x≠n:=by rintro rfl;exact h v aK
   simp [this]
theorem fE4 {kindOf:Str->Option NameKind} {x:Str} {v:Value}:∀ {P:List Str} {vs:List Value} {i:Nat} {m:Str->Option Value},P.Nodup->P[i]?=some x->vs[i]?=some v->kindOf x=some .local ->
  bindL kindOf (P.zip vs) m x=some v
 | [],_,_,_,_,h,_,_=>by simp at h
 | _ :: _,[],_,_,_,_,h,_=>by simp at h
 | p :: P,w :: vs,0,m,nd,h1,h2,hk=>by
  simp at h1 h2;subst h1;subst h2
  show bindL kindOf ((p,w) :: P.zip vs) m p=_
  unfold bindL
  rw [fE3 fun v a=>(bV.mp nd).1 (List.of_mem_zip a).1,if_pos hk]
  simp
 | p :: P,w :: vs,i + 1,m,nd,h1,h2,hk=>by
  show bindL kindOf ((p,w) :: P.zip vs) m x=_
  unfold bindL
  exact fE4 (i:=i) (List.nodup_cons.mp nd).2 (by simpa using h1) (by simpa using h2) hk
theorem fE6 {kindOf:Str->Option NameKind} {x:Str} {v:Value}:∀ {P:List Str} {vs:List Value} {i:Nat} {m:Str->Option Value},P.Nodup->P[i]?=some x->vs[i]?=some v->kindOf x≠some .local ->
  bindC kindOf (P.zip vs) m x=some v
 | [],_,_,_,_,h,_,_=>by simp at h
 | _ :: _,[],_,_,_,_,h,_=>by simp at h
 | p :: P,w :: vs,0,m,nd,h1,h2,hk=>by
  simp at h1 h2;subst h1;subst h2
  show bindC kindOf ((p,w) :: P.zip vs) m p=_
  unfold bindC
  rw [fE5 fun v a=>(bV.mp nd).1 (List.of_mem_zip a).1,if_neg hk]
  simp
 | p :: P,w :: vs,i + 1,m,nd,h1,h2,hk=>by
  show bindC kindOf ((p,w) :: P.zip vs) m x=_
  unfold bindC
  exact fE6 (i:=i) (List.nodup_cons.mp nd).2 (by simpa using h1) (by simpa using h2) hk
def start (N:List Str) (vs:List V):St:=vs.map some ++ List.replicate (N.length - vs.length) none
def cxOf (CX:CXT) (P:Program) (w:World) (K:aA) (mg:Str->Option Value) (base:Heap) (N:List Str) (qual:Str) (scope:Scope) (f:Addr) (cd:Value) (A:Around) (outer:List Env) (s:Shared) (H:Hp) (E:XK):Cx where
 prog:=P
 w:=w
 K:=K
 mg:=mg
 base:=base
 A:=A.deeper (envOfC qual scope s.heap.objs.size f cd)
 N:=N
 s₀:=s
 H₀:=H
 env:=envOfC qual scope s.heap.objs.size f cd
 outer:=outer
 stack:=envOfC qual scope s.heap.objs.size f cd :: outer
 ex:=[]
 calm:=true
 fn:=fun _=>true
 pn:=[]
 xe:=fun e s'=>wpAny (model P w) (A.deeper (envOfC qual scope s.heap.objs.size f cd)) (leaving (envOfC qual scope s.heap.objs.size f cd) e) (fun _ s''=>CX outer H s E e s'') (fun e' s''=>CX outer H s E e' s'') s'
theorem Vi {sc:Scope} {n:Nat} {x:Str} (h:sc.names.lookup x=some .cell):∃ c,(cellsFrom n sc.names []).lookup x=some c:=by
 have q:=PySem.W.cellsFrom_some sc.names n [] (.inl h)
 exact cW.mp q
theorem TZ {CX:CXT} {P:Program} {w:World} {K:aA} {mg:Str->Option Value} {base:Heap} {N ps:List Str} {qual:Str} {scope:Scope} {f:Addr} {t:Value} {A:Around} {outer:List Env} {s s1:Shared} {H:Hp} {E:XK} {us:List Value} {vs:List V}
  (S:zA N ps scope) (hd:A.handled=none) (g:Env0 P w K mg base A outer s H) (J:vs.length=ps.length) (r:Vals vs us)
  (x:InCallC s s.heap.objs.size (bindL (envOfC qual scope s.heap.objs.size f t).kindOf (ps.zip us) fun _=>none) (cellsFrom (s.heap.objs.size + 1) scope.names []) (bindC (envOfC qual scope s.heap.objs.size f t).kindOf (ps.zip us) fun _=>none) s1) :
  Inv (cxOf CX P w K mg base N qual scope f t A outer s H E) [] (start N vs) H s1:=by
 have F:ps.length<=N.length:=by have:=congrArg List.length S.pre;rw [cJ] at this;omega
 obtain ⟨B,L,rfl,C⟩:=x.done
 have j:∀ b:Addr,b∉(cxOf CX P w K mg base N qual scope f t A outer s H E).ex:=fun b z=>absurd (show b∈([]:List Addr) from z) (by simp)
 refine ⟨⟨g.mod,S.kind,rfl,rfl,aC _,fun y z c B d=>?_,fun y l=>?_,fun y c _ h=>?_,fun _=>hd,Around.frames_deeper g.frames,.inr ⟨rfl,rfl⟩,fun b z=>absurd z (j b),g.bs,g.bsz,fun b _ _=>j b,fun b z=>absurd z (j b),g.funs,g.frf,g.tb⟩,
  rfl,g.bare,Un.kept C,⟨_,x.toInCall.ns,fun i y v B d M=>?_⟩,fun y c h=>⟨_,x.cell y c h⟩,g.hok.fresh (Nat.le_refl _),fun y c h=>?_,fun p m=>absurd (show p∈([]:List (Addr×Obj)) from m) (by simp),g.hok.kept C,?_⟩
 ·exact name_of_addr x.apart (PySem.mem_of_lookup B) (PySem.mem_of_lookup d)
 ·have l:scope.names.lookup y=some .cell\/scope.names.lookup y=some .free:=l
  rcases l with l | l
  ·exact Vi l
  ·exact absurd rfl (S.nofree _ (PySem.mem_of_lookup l))
 ·exact eH (x.above y c (PySem.mem_of_lookup h))
 ·have hi:i < vs.length:=by
   unfold start at d
   by_cases hi:i < vs.length
   ·exact hi
   ·rw [List.getElem?_append_right (by simpa using hi)] at d
    rw [eJ] at d
    split at d <;> cases d
  have G:vs[i]?=some v:=by
   unfold start at d
   rw [List.getElem?_append_left (by simpa using hi),List.getElem?_map] at d
   cases e:vs[i]? with
   | none=>rw [e] at d;cases d
   | some a=>rw [e] at d;cases d;rfl
  obtain ⟨u,D,I⟩:=r.get G
  have m:ps[i]?=some y:=by
   rw [<- S.pre,eV (by omega)];exact B
  have o:ps.Nodup:=by rw [<- S.pre];exact S.nd.sublist (List.take_sublist _ _)
  refine ⟨u,I,?_⟩
  rcases S.par y (aS m) with k | k
  ·exact .inl ⟨k,fE4 o m D k⟩
  ·obtain ⟨c,e⟩:=Vi (n:=s.heap.objs.size + 1) k
   refine .inr ⟨.inl k,c,e,?_⟩
   have q:=x.cell y c e
   rw [fE6 o m D (by show scope.names.lookup y≠_;rw [k];decide)] at q
   exact q
 ·exact .inl (g.hok.fresh (eH (x.above y c (PySem.mem_of_lookup h))))
 ·unfold start
  show _=N.length
  rw [aG,aB,List.length_replicate]
  omega
theorem zc5 {CX:CXT} {P:Program} {w:World} {K:aA} {mg:Str->Option Value} {base:Heap} {k:Nat} {f:Addr} {d qual:Str} {a:Arguments} {c:List Stmt} {scope:Scope} {F kV doc pm cdv ct oc:Value} {an od:Option Addr}
  {osl:Array (Option Value)} {N ps:List Str} {sp:Sp} (L:K.lookup f=some ⟨oc,od,.func (PySem.W.fnOf d qual a c scope F kV doc pm an cdv ct),osl⟩) (p:PySem.W.codeIn K cdv qual=true) (S:zA N ps scope)
  (len:∀ vs H Q E,sp vs H Q E->vs.length=ps.length)
  (g:∀ (A:Around) (outer:List Env) (s:Shared) (H:Hp) (vs:List V) (Q:VK) (E:XK),Room k (A.deeper (envOfC qual scope s.heap.objs.size f cdv))->sp vs H Q E ->
   ∃ t,PSs (cxOf CX P w K mg base N qual scope f cdv A outer s H E) c t/\t { nx:=fun _ H'=>Q .non H',rt:=Q } (start N vs) H) :
  FnOk P w K mg base CX (k + 1) f (PySem.W.fnOf d qual a c scope F kV doc pm an cdv ct) ps sp:=by
 refine ⟨len,fun A outer s H args us vs Q E z j M r l=>?_⟩
 have fF:=len _ _ _ _ l
 have G:K.In s.heap:=j.mod.kin.keeps fun b o e=>(j.bs b o e).1
 have B:s.heap.NoLimit:=j.mod.nolimit.keeps fun b o e=>(j.bs b o e).1
 have h:∀ y∈ps.zip us,scope.names.lookup y.1=some .local\/(scope.names.lookup y.1=some .cell/\((cellsFrom (s.heap.objs.size + 1) scope.names []).lookup y.1).isSome=true):=fun ⟨n,v⟩ R=>by
  rcases S.par n (List.of_mem_zip R).1 with q | q
  ·exact .inl q
  ·exact .inr ⟨q,PySem.W.cellsFrom_some _ _ _ (.inl q)⟩
 refine codeAny_call_function z.depth (G _ _ L) rfl S.co S.gen rfl (PySem.W.codeRec_of G p) (M _ _ _ _ ?_)
 refine wpAny_newFunctionEnv_cells S.kind h fun env T s1 x=>?_
 subst T
 refine ⟨B.keeps x.toInCall.keep,codeAny_func ?_⟩
 obtain ⟨t,fG,X⟩:=g A outer s H vs Q E (z.deeper _) l
 have I:Inv (cxOf CX P w K mg base N qual scope f cdv A outer s H E) [] (start N vs) H s1:=TZ S z.hd j fF r x
 refine wpAny_mono (fG [] s1 (start N vs) H _ I X) (fun fl C i=>?_) fun e C i=>i
 have m:∀ {O':St} {H':Hp} {v:V} {u:Value},Inv (cxOf CX P w K mg base N qual scope f cdv A outer s H E) [] O' H' C->RelV v u->Q v H'->CE outer P w H s Q u C :=
  fun {O' H' v u} J D q=>⟨v,H',J.os,J.bare,J.base,J.hok,D,q⟩
 cases fl with
 | ret u =>
  obtain ⟨v,O',H',J,D,q⟩:=i
  exact m J D q
 | next =>
  obtain ⟨O',H',J,q⟩:=i
  exact m (v:=V.non) (u:=Value.none) J rfl q
 | brk =>
  obtain ⟨_,_,_,q⟩:=i
  exact False.elim q
 | cont =>
  obtain ⟨_,_,_,q⟩:=i
  exact False.elim q
section
variable {X:Cx} {x:Str} {p pos:Pos} {e:Expr} {es:List Expr} {t:TA} {id T:String} {r:List V->Hp->VK->Prop}
def tCB (r:List V->Hp->VK->Prop) (t:TA):TE:=fun O H Q=>t O H fun vs H1=>r vs H1 Q
theorem Q8 (c:yq X (.builtin id) r) (d:Gl X x) (f:X.mg x=none) (g:bootBuiltins x=some (.builtin id)) (i:PA X (e :: es) t) (j:x ≠ "__name__" := by decide) (a:(x == ("__debug__" : Str))=false:=by decide)
  (k:starEach (e :: es) X.env=(false,eval e X.env) :: starEach es X.env:=by rfl) (b:(backTo pos (starEach es X.env)).any (·.1)=false:=by rfl):PE X (.Call (.Name x p) (e :: es) [] pos) (tCB r t):=by
 intro pins s O H Q I h
 refine wpAny_Call_Name_kw (uk I d f g ?_ j a)
 exact PyProof.Rows.callWith_builtin1 (thn (i pos pins s O H _ I h) fun us s1 ⟨vs,l,m,n,o⟩=>c pins s1 O l vs us Q m n o) k b
theorem Tx (c:yq X (.type T) r) (d:Gl X x) (f:X.mg x=none) (g:bootBuiltins x=some (.type T)) (i:PA X (e :: es) t) (j:x ≠ "__name__" := by decide) (a:(x == ("__debug__" : Str))=false:=by decide)
  (k:starEach (e :: es) X.env=(false,eval e X.env) :: starEach es X.env:=by rfl) (b:(backTo pos (starEach es X.env)).any (·.1)=false:=by rfl):PE X (.Call (.Name x p) (e :: es) [] pos) (tCB r t):=by
 intro pins s O H Q I h
 refine wpAny_Call_Name_kw (uk I d f g ?_ j a)
 exact PyProof.Rows.callWith_type1 (thn (i pos pins s O H _ I h) fun us s1 ⟨vs,l,m,n,o⟩=>c pins s1 O l vs us Q m n o) k b
end
end L2
namespace HT
open PySem PyProof.Rows
section
open PySem.SeqAt
open PySem.AutoSeq1 (wpAny_loadPart')
open PySem.MeetsSeq PySem.MeetsSeq2 PySem.MeetsSeq3
end
section
variable {prog:Program} {w:World} {A:Around} {E:Value->Shared->Prop} {s:Shared}
def sIx (n d:Nat):Option Int->Nat
 | none=>d
 | some v=>if v < 0 then (v + (n:Int)).toNat else min v.toNat n
theorem Xr (n d k:Nat):sIx n d (some (k:Int))=min k n:=by
 show (if (k:Int) < 0 then ((k:Int) + (n:Int)).toNat else min (k:Int).toNat n)=min k n
 rw [if_neg (by omega),Int.toNat_natCast]
end
end HT
namespace L2
open PySem PySem.Spec PyProof.Rows
abbrev TO:=St->Hp->(Option Int->Hp->Prop)->Prop
def PO (X:Cx) (e:Option Expr) (t:TO):Prop :=
 ∀ (pins:List (Addr×Obj)) (s:Shared) (O:St) (H:Hp) (Q:Option Int->Hp->Prop),Inv X pins O H s->t O H Q ->
  wpAny (model X.prog X.w) X.A (evalPart e X.env) (fun u s'=>∃ o H',Inv X pins O H' s'/\IsPart u o/\Q o H') X.xe s
def Uw:TO:=fun _ H Q=>Q none H
def zcP (t:TE):TO:=fun O H Q=>t O H fun x H1=>∃ i,x=.int i/\Q (some i) H1
theorem x0:∀ {us:List Value},Vals (ns.map V.int) us->IntsAre us ns:=by
 induction ns with
 | nil=>intro us r;rw [List.map_nil] at r;cases r;exact .nil
 | cons n ns a =>
  intro us r
  rw [bB] at r
  cases r with
  | cons b c =>
   obtain ⟨t,e⟩:=b
   subst e
   exact .cons n t (a c)
section
variable {X:Cx} {e:Expr} {te:TE} {lo hi:Option Expr} {tl th:TO} {pos p2:Pos}
theorem XA:PO X none Uw:=by
 intro pins s O H Q I h
 rw [evalPart_none]
 exact wpAny_pure ⟨none,H,I,.none,h⟩
theorem uJ (h:PE X e te):PO X (some e) (zcP te):=by
 intro pins s O H Q I a
 rw [evalPart_some]
 refine thn (h pins s O H _ I a) fun u s1 ⟨x,b,c,d,f⟩=>?_
 obtain ⟨i,rfl,q⟩:=f
 obtain ⟨t,rfl⟩:=d
 exact ⟨some i,b,c,.int i t,q⟩
def SlR (X:Cx) (r:V->Option Int->Option Int->Hp->VK->Prop):Prop :=
 ∀ (pins:List (Addr×Obj)) (s:Shared) (O:St) (H:Hp) (x:V) (v vl vu:Value) (lo hi:Option Int) (sl:Addr) (Q:VK),Inv X pins O H s->RelV x v->s.heap.IsSliceOf sl vl vu .none->IsPart vl lo->IsPart vu hi->r x lo hi H Q ->
  ∃ T id,typeLookup (.type T) "__getitem__" = pure (some (.builtin id))/\s.TypeIs v T/\wpAny (model X.prog X.w) X.A (getItem v (.ref sl)) (EP X pins O Q) X.xe s
def tSl (r:V->Option Int->Option Int->Hp->VK->Prop) (te:TE) (tl th:TO):TE:=fun O H Q=>te O H fun x H1=>tl O H1 fun l H2=>th O H2 fun u H3=>r x l u H3 Q
theorem uK (g:SlR X r) (i:PE X e te) (j:PO X lo tl) (k:PO X hi th):PE X (.Subscript e (.Slice lo hi none p2) pos) (tSl r te tl th):=by
 intro pins s O H Q I h
 refine Subscript_ (thn (i pins s O H _ I h) fun v s1 ⟨x,m,n,o,p⟩=>?_)
 refine wpAny_Slice (thn (j pins s1 O m _ n p) fun c s2 ⟨l,t,y,pl,z⟩=>thn (k pins s2 O t _ y z) fun d a ⟨u,f,B,C,D⟩=>?_)
 rw [evalPart_none]
 refine wpAny_pure ?_
 have E:Inv X pins O f { a with heap:=a.heap.push { cls:=.type "slice", data:=.fields #[c,d,.none] } }:=B.kept (t':=a.toks) fun b ob q=>aR _ q
 obtain ⟨T,id,F,G,J⟩:=g pins { a with heap:=a.heap.push { cls:=.type "slice", data:=.fields #[c,d,.none] } } O f x v c d l u a.heap.objs.size Q E o (Heap.IsSliceOf.new ..) pl C D
 show wpAny (model X.prog X.w) X.A (subscriptTail e (.Slice lo hi none p2) v (.ref a.heap.objs.size)) (EP X pins O Q) X.xe { a with heap:=a.heap.push { cls:=.type "slice", data:=.fields #[c,d,.none] } }
 exact tail_any (ops:=[.ref a.heap.objs.size,v]) G F J (by with_unfolding_all rfl)
def cutV (xs:List V) (lo hi:Option Int):List V:=(xs.drop (HT.sIx xs.length 0 lo)).take (HT.sIx xs.length xs.length hi - HT.sIx xs.length 0 lo)
theorem Vh (xs:List V) (lo hi:Option Int):(cutV xs lo hi).length<=xs.length:=by
 unfold cutV
 rw [cJ,cA]
 omega
end
def ixN (n:Nat) (i:Int):Option Nat:=if 0<=i then (if i < n then some i.toNat else none) else if -(n:Int)<=i then some (i + n).toNat else none
def atI {α:Type} (xs:List α) (i:Int):Option α:=(ixN xs.length i).bind fun j=>xs[j]?
theorem zb7 {n:Nat} (h:ixN n i=some j):seqIndex? i n=some j/\j < n/\-(n:Int)<=i/\i < n:=by
 unfold ixN at h
 by_cases b:0<=i
 ·rw [if_pos b] at h
  by_cases a:i < n
  ·rw [if_pos a] at h
   have e:i.toNat=j:=bI h
   exact ⟨by rw [seqIndex_of b a,e],by omega,by omega,a⟩
  ·rw [if_neg a] at h;cases h
 ·rw [if_neg b] at h
  by_cases a:-(n:Int)<=i
  ·rw [if_pos a] at h
   have e:(i + n).toNat=j:=bI h
   exact ⟨by rw [seqIndex_neg (by omega) a,e],by omega,a,by omega⟩
  ·rw [if_neg a] at h;cases h
theorem Tc (h:atI xs i=some v):∃ j,seqIndex? i xs.length=some j/\xs[j]?=some v/\j < xs.length/\-(xs.length:Int)<=i/\i < xs.length:=by
 unfold atI at h
 cases e:ixN xs.length i with
 | none=>rw [e] at h;cases h
 | some j =>
  rw [e] at h
  obtain ⟨a,b,c,d⟩:=zb7 e
  exact ⟨j,a,h,b,c,d⟩
theorem zcH {j:Nat} (h:xs[j]?=some v):atI xs (j:Int)=some v:=by
 have a:j < xs.length:=(aP.mp h).1
 have e:ixN xs.length (j:Int)=some j:=by
  unfold ixN
  rw [if_pos (by omega),if_pos (by omega)];simp
 unfold atI;rw [e];exact h
theorem vI (xs:List α) (v:α):atI (xs ++ [v]) (-1)=some v:=by
 have a:(xs ++ [v]).length=xs.length + 1:=by simp
 have e:ixN (xs ++ [v]).length (-1)=some xs.length:=by
  unfold ixN
  rw [a,if_neg (by decide),if_pos (by omega)]
  congr 1
  omega
 unfold atI
 rw [e]
 show (xs ++ [v])[xs.length]?=some v
 simp
def Te (b:Expr):Prop:=∀ o i,subscripted b false o i=operate [o,i] (getItem o i)
def IxR (X:Cx) (r:R2):Prop :=
 ∀ (value slice:Expr) (pins:List (Addr×Obj)) (s:Shared) (O:St) (H:Hp) (x y:V) (v u:Value) (Q:VK),Inv X pins O H s->RelV x v->RelV y u->r x y H Q ->
  subscripted slice false v u=operate [v,u] (getItem v u)->wpAny (model X.prog X.w) X.A (subscriptTail value slice v u) (EP X pins O Q) X.xe s
def MtR (X:Cx) (id:String) (r:V->List V->Hp->VK->Prop):Prop :=
 ∀ (pins:List (Addr×Obj)) (s:Shared) (O:St) (H:Hp) (x:V) (xs:List V) (v:Value) (us:List Value) (Q:VK),Inv X pins O H s->RelV x v->Vals xs us->r x xs H Q ->
  wpAny (model X.prog X.w) X.A (call (.builtin id) (v :: us)) (EP X pins O Q) X.xe s
section
variable {X:Cx} {a b:Expr} {ta tb:TE} {pos:Pos}
theorem zey (c:IxR X r) (d:PE X a ta) (e:PE X b tb) (f:Te b):PE X (.Subscript a b pos) (tOp r ta tb):=by
 intro pins s O H Q I h
 exact Subscript_ (binT d e I h fun v u s2 x y g i j k q=>c a b pins s2 O g x y v u Q i j k q (f _ _))
def rIxL (K:aA):R2:=fun x y H Q=>∃ p xs i v,x=.ref p/\y=.int i/\SqL K H p xs/\atI xs i=some v/\Q v H
def rIxT (K:aA):R2:=fun x y H Q=>∃ p xs i v,x=.ref p/\y=.int i/\SqT K H p xs/\atI xs i=some v/\Q v H
theorem zb6:IxR X (rIxL X.K):=by
 intro c d pins s O H x y v u Q I n o h k
 obtain ⟨p,xs,i,z,rfl,rfl,A,B,q⟩:=h
 cases n
 obtain ⟨t,rfl⟩:=o
 obtain ⟨e,r,pl,J⟩:=I.list A
 obtain ⟨j,b,C,L,D,E⟩:=Tc B
 obtain ⟨w,l,f⟩:=r.get C
 have F:=r.length
 have M:=V7
 have a:EP X pins O Q w s:=⟨z,H,I,f,q⟩
 by_cases m:0<=i
 ·have g:i.toNat=j:=by
   rw [seqIndex_of m E] at b
   exact bI b
  exact item_listR pl.isList m (by omega) (by rw [g];simpa using l) a k
 ·have g:(i + (e.toArray.size:Int)).toNat=j:=by
   rw [seqIndex_neg (by omega) D] at b
   rw [bT,<- F]
   exact bI b
  exact subscriptTail_builtinR (x:=w) pl.isList.typeIs slot_list_getitem.lookup
   (wpAny_getItem_list_neg (Q:=fun r G=>r=w/\EP X pins O Q r G) pl.isList (by omega) (by rw [List.size_toArray] <;> omega) (by omega) (by rw [g];simpa using l) ⟨rfl,a⟩) k
theorem zdV:IxR X (rIxT X.K):=by
 intro a b pins s O H x y v u Q I e f h g
 obtain ⟨p,xs,i,z,rfl,rfl,k,l,q⟩:=h
 cases e
 obtain ⟨t,rfl⟩:=f
 obtain ⟨m,r,pl,D⟩:=I.tuple k
 obtain ⟨j,n,o,E,F,G⟩:=Tc l
 obtain ⟨w,A,c⟩:=r.get o
 have B:=r.length
 have J:=V7
 have d:EP X pins O Q w s:=⟨z,H,I,c,q⟩
 exact subscriptTail_builtinR (x:=w) pl.typeIs slot_tuple_getitem.lookup
  (getItem_tuple (j:=j) (Q:=fun r C=>r=w/\EP X pins O Q r C) pl (by omega) (by omega) (by rw [List.size_toArray,<- B];exact n) (by simpa using A) ⟨rfl,d⟩) g
theorem Xi (lo hi:Option Int) (n:Nat):(sliceBounds lo hi none n).1=((HT.sIx n 0 lo:Nat):Int)/\(sliceBounds lo hi none n).2.1=((HT.sIx n n hi:Nat):Int)/\(sliceBounds lo hi none n).2.2=1:=by
 refine ⟨?_,?_,rfl⟩
 ·cases lo with
  | none=>simp [sliceBounds,HT.sIx]
  | some i =>
   simp only [sliceBounds,HT.sIx,Option.getD_none,show (1:Int) > 0 by decide,if_true]
   by_cases h:i < 0
   ·simp only [h,if_true] <;> omega
   ·simp only [h,if_false] <;> omega
 ·cases hi with
  | none=>simp [sliceBounds,HT.sIx]
  | some i =>
   simp only [sliceBounds,HT.sIx,Option.getD_none,show (1:Int) > 0 by decide,if_true]
   by_cases h:i < 0
   ·simp only [h,if_true] <;> omega
   ·simp only [h,if_false] <;> omega
theorem Ye (its:List Value) (lo hi:Option Int):slicePick its.toArray lo hi none=((its.drop (HT.sIx its.length 0 lo)).take (HT.sIx its.length its.length hi - HT.sIx its.length 0 lo)).toArray:=by
 obtain ⟨a,b,c⟩:=Xi lo hi its.toArray.size
 unfold slicePick
 rw [a,b,c]
 simp only [sliceRange_one,pick_run,List.size_toArray] <;> rfl
def rSlL (K:aA):V->Option Int->Option Int->Hp->VK->Prop:=fun x lo hi H Q=>∃ a xs,x=.ref a/\SqL K H a xs/\∀ p,H p=none->Q (.ref p) (upd H p (.lst (cutV xs lo hi)))
theorem zbv:SlR X (rSlL X.K):=by
 intro pins s O H x v l m lo hi sl Q I e f pl g h
 obtain ⟨a,xs,rfl,i,q⟩:=h
 cases e
 obtain ⟨j,r,d,k⟩:=I.list i
 have c:=r.length
 refine ⟨"list", _,slot_list_getitem.lookup,d.isList.typeIs,?_⟩
 refine wpAny_getItem_list_slice d.isList f pl g .none (by simp) ?_ (by rw [List.size_toArray] <;> omega)
 rw [Ye,<- c]
 refine ⟨.ref s.heap.objs.size,_,I.laid (t':=s.toks) (o:=.lst (cutV xs lo hi)) (fun b ob q=>aR _ q) (aC _) ?_,rfl,q _ (I.hok.fresh (aC _))⟩
 exact ⟨bO (Vh xs lo hi) k,_,0,(r.drop (HT.sIx xs.length 0 lo)).take (HT.sIx xs.length xs.length hi - HT.sIx xs.length 0 lo),bE _ rfl⟩
def uU:V->Bool
 | .non=>true
 | .bl _=>true
 | .int _=>true
 | .str _=>true
 | _=>false
def eqV:V->V->Bool
 | .non,.non=>true
 | .bl a,.bl b=>a == b
 | .bl a,.int b=>(if a then 1 else 0) == b
 | .int a,.bl b=>a == (if b then 1 else 0)
 | .int a,.int b=>a == b
 | .str a,.str b=>a == b
 | _,_=>false
theorem zd2 (e:RelV y u) (c:RelV x v) (g:uU y=true) (f:uU x=true):SeqAt.EqAt A s u v (eqV y x):=by
 cases y with
 | non =>
  cases e
  cases x with
  | non=>cases c;exact SeqAt.EqAt.same _
  | bl b=>cases c;exact SeqAt.EqAt.none_bool b
  | int b=>obtain ⟨t,rfl⟩:=c;exact SeqAt.EqAt.none_int b t
  | str b=>obtain ⟨t,rfl⟩:=c;exact SeqAt.EqAt.none_str b t
  | _=>exact absurd (show false=true from f) aY
 | bl a =>
  cases e
  cases x with
  | non=>cases c;exact SeqAt.EqAt.bool_none a
  | bl b=>cases c;exact SeqAt.EqAt.bool_bool a b
  | int b=>obtain ⟨t,rfl⟩:=c;exact SeqAt.EqAt.bool_int a b t
  | str b=>obtain ⟨t,rfl⟩:=c;exact SeqAt.EqAt.bool_str a b t
  | _=>exact absurd (show false=true from f) aY
 | int a =>
  obtain ⟨d,rfl⟩:=e
  cases x with
  | non=>cases c;exact SeqAt.EqAt.int_none a d
  | bl b=>cases c;exact SeqAt.EqAt.int_bool a d b
  | int b=>obtain ⟨t,rfl⟩:=c;exact SeqAt.EqAt.int_int a d b t
  | str b=>obtain ⟨t,rfl⟩:=c;exact SeqAt.EqAt.int_str a d b t
  | _=>exact absurd (show false=true from f) aY
 | str a =>
  obtain ⟨d,rfl⟩:=e
  cases x with
  | non=>cases c;exact SeqAt.EqAt.str_none a d
  | bl b=>cases c;exact SeqAt.EqAt.str_bool a d b
  | int b=>obtain ⟨t,rfl⟩:=c;exact SeqAt.EqAt.str_int a d b t
  | str b=>obtain ⟨t,rfl⟩:=c;exact SeqAt.EqAt.str_str a d b t
  | _=>exact absurd (show false=true from f) aY
 | _=>exact absurd (show false=true from g) aY
def eqU (x:V) (u:Value):Bool:=match u with
 | .none=>eqV .non x
 | .bool b=>eqV (.bl b) x
 | .int i _=>eqV (.int i) x
 | .str z _=>eqV (.str z) x
 | _=>false
theorem zaS (r:RelV y u) (f:uU y=true):eqU x u=eqV y x:=by
 cases y with
 | non=>cases r;rfl
 | bl b=>cases r;rfl
 | int i=>obtain ⟨t,rfl⟩:=r;rfl
 | str z=>obtain ⟨t,rfl⟩:=r;rfl
 | _=>exact absurd (show false=true from f) aY
theorem tf:∀ {xs:List V} {us:List Value},Vals xs us->xs.all uU=true->us.any (eqU x)=xs.any fun y=>eqV y x
 | _,_,.nil,_=>rfl
 | y :: xs,u :: us,.cons r t,f=>by
  rw [eG,eE] at f
  rw [cF,cF,zaS r f.1,tf t f.2]
theorem vD (b:RelV x v) (c:uU x=true):∀ {xs:List V} {us:List Value},Vals xs us->xs.all uU=true->∀ u∈us,SeqAt.EqAt A s u v (eqU x u)
 | _,_,.nil,_=>fun u a=>by cases a
 | y :: xs,u :: us,.cons r t,f=>fun d a=>by
  rw [eG,eE] at f
  rcases aT.mp a with rfl | a
  ·rw [zaS r f.1];exact zd2 r b f.1 c
  ·exact vD b c t f.2 d a
def inV (x:V) (xs:List V):Bool:=xs.any fun y=>eqV y x
def rIn (K:aA) (neg:Bool):R2:=fun x y H Q=>∃ p xs,y=.ref p/\(SqL K H p xs\/SqT K H p xs)/\uU x=true/\xs.all uU=true/\Q (.bl (if neg then !inV x xs else inV x xs)) H
theorem Tz:OpR X (compareOp .In) (rIn X.K false):=by
 intro pins s O H x y v u Q I d f h
 obtain ⟨p,xs,rfl,b,e,fs,q⟩:=h
 cases f
 rcases b with b | b
 ·obtain ⟨a,r,pl,g⟩:=I.list b
  refine SeqAt.in_listAt (eqU x) pl.isList (fun w c=>vD d e r fs w (by simpa using c)) ⟨.bl _,H,I,rfl,?_⟩
  rw [show a.toArray.any (eqU x)=a.any (eqU x) by simp,tf r fs]
  exact q
 ·obtain ⟨a,r,pl,g⟩:=I.tuple b
  refine SeqAt.in_tupleAt (eqU x) pl (fun w c=>vD d e r fs w (by simpa using c)) ⟨.bl _,H,I,rfl,?_⟩
  rw [show a.toArray.any (eqU x)=a.any (eqU x) by simp,tf r fs]
  exact q
theorem XH:OpR X (compareOp .NotIn) (rIn X.K true):=by
 intro pins s O H x y v u Q I d f h
 obtain ⟨p,xs,rfl,b,e,fs,q⟩:=h
 cases f
 rcases b with b | b
 ·obtain ⟨a,r,pl,g⟩:=I.list b
  refine SeqAt.notIn_listAt (eqU x) pl.isList (fun w c=>vD d e r fs w (by simpa using c)) ⟨.bl _,H,I,rfl,?_⟩
  rw [show a.toArray.any (eqU x)=a.any (eqU x) by simp,tf r fs]
  exact q
 ·obtain ⟨a,r,pl,g⟩:=I.tuple b
  refine SeqAt.notIn_tupleAt (eqU x) pl (fun w c=>vD d e r fs w (by simpa using c)) ⟨.bl _,H,I,rfl,?_⟩
  rw [show a.toArray.any (eqU x)=a.any (eqU x) by simp,tf r fs]
  exact q
theorem We:yq X (.builtin "len") (fun xs H Q=>∃ p ys,xs=[.ref p]/\(SqL X.K H p ys\/SqT X.K H p ys)/\Q (.int ys.length) H):=by
 intro pins s O H xs us Q I r h
 obtain ⟨p,ys,rfl,b,q⟩:=h
 obtain ⟨u,rfl,e⟩:=xh r
 cases e
 have g:=V7
 rcases b with b | b
 ·obtain ⟨c,d,pl,f⟩:=I.list b
  have a:=d.length
  exact Calls.call_len_list pl.isList (by simp only [List.size_toArray] <;> omega) ⟨.int ys.length,H,I.tok _,⟨s.toks + 1,by rw [List.size_toArray,a]⟩,q⟩
 ·obtain ⟨c,d,pl,f⟩:=I.tuple b
  have a:=d.length
  exact len_tuple pl (by simp only [List.size_toArray] <;> omega) ⟨.int ys.length,H,I.tok _,⟨s.toks + 1,by rw [List.size_toArray,a]⟩,q⟩
theorem Wd:yq X (.type "list") (fun xs H Q=>∃ p ys,xs=[.ref p]/\(SqL X.K H p ys\/SqT X.K H p ys)/\∀ l,H l=none->Q (.ref l) (upd H l (.lst ys))):=by
 intro pins s O H xs us Q I r h
 obtain ⟨p,ys,rfl,f,q⟩:=h
 obtain ⟨u,rfl,t⟩:=xh r
 cases t
 have g:∀ (a:List Value),Vals ys a->ys.length<=sizeLine->∀ (h':Heap) (c:Nat),(∀ b o',s.heap.get? b=some o'->h'.get? b=some o') ->
   h'.get? s.heap.objs.size=some { cls:=.type "list", dict:=none,data:=.seq a.toArray c,slots:=#[] }->EP X pins O Q (.ref s.heap.objs.size) { s with heap:=h' }:=fun a d i h' c kp e =>
  ⟨.ref s.heap.objs.size,_,I.laid (t':=s.toks) kp (aC _) (show yj X.prog X.w _ h' _ (.lst ys) from ⟨i,a,c,d,e⟩),rfl,q _ (I.hok.fresh (aC _))⟩
 rcases f with f | f
 ·obtain ⟨a,d,pl,i⟩:=I.list f
  have j:=d.length
  obtain ⟨o,k,m,n,hd⟩:=pl.isList
  exact call_list_seq p (.inl rfl) k m hd (fun h' c kp e=>g a d i h' c kp e) (by simp only [List.size_toArray] <;> omega)
 ·obtain ⟨a,d,pl,i⟩:=I.tuple f
  have j:=d.length
  obtain ⟨o,k,m,n,hd⟩:=pl
  exact call_list_seq p (.inr rfl) k m hd (fun h' c kp e=>g a d i h' c kp e) (by simp only [List.size_toArray] <;> omega)
def tyV (K:aA) (T:String) (x:V) (H:Hp):Prop:=match x with
 | .str _=>T = "str"
 | .int _=>T = "int"
 | .ref p=>(T = "list" /\ ∃ xs,SqL K H p xs)\/(T = "tuple" /\ ∃ o,K.lookup p=some o/\o.cls=.type "tuple" /\ o.dict=none) \/
   (T = "dict" /\ ((∃ kvs,H p=some (.dK kvs))\/∃ kvs,H p=some (.dT kvs)))\/(T = "set" /\ ∃ S n,H p=some (.set S n))
 | _=>False
theorem Qk (I:Inv X pins O H s) (r:RelV x v) (ty:tyV X.K T x H) :
  s.TypeIs v T/\∀ a,v=.ref a->∃ ob,s.heap.get? a=some ob/\ob.dict=none:=by
 cases x with
 | str z =>
  obtain ⟨t,rfl⟩:=r
  cases (show T = "str" from ty)
  exact ⟨typeIs_str s z t,fun _ e=>nomatch e⟩
 | int i =>
  obtain ⟨t,rfl⟩:=r
  cases (show T = "int" from ty)
  exact ⟨typeIs_int s i t,fun _ e=>nomatch e⟩
 | ref p =>
  cases r
  rcases ty with ⟨rfl,xs,f⟩ | ⟨rfl,o,b,g,hd⟩ | ⟨rfl,b⟩ | ⟨rfl,S,n,b⟩
  ·obtain ⟨h,_,pl,_⟩:=I.list f
   refine ⟨pl.isList.typeIs,fun a e=>?_⟩
   cases e
   obtain ⟨o,n,e,c,hd,_⟩:=pl
   exact ⟨o,e,hd⟩
  ·refine ⟨⟨o,I.kIn p o b,g⟩,fun a e=>?_⟩
   cases e
   exact ⟨o,I.kIn _ o b,hd⟩
  ·have z:∃ o,s.heap.get? p=some o/\o.ExactDict:=by
    rcases b with ⟨kvs,b⟩ | ⟨kvs,b⟩
    ·obtain ⟨_,_,_,_,o,_,_,e,ex,_⟩:=I.hok p _ b
     exact ⟨o,e,ex⟩
    ·obtain ⟨_,_,_,_,o,_,_,e,ex,_⟩:=I.hok p _ b
     exact ⟨o,e,ex⟩
   obtain ⟨o,e,ex⟩:=z
   refine ⟨⟨o,e,ex.1⟩,fun a d=>?_⟩
   cases d
   exact ⟨o,e,ex.2.1⟩
  ·obtain ⟨o,_,_,_,e,ex,_⟩:=I.hok p _ b
   refine ⟨⟨o,e,ex.1⟩,fun a d=>?_⟩
   cases d
   exact ⟨o,e,ex.2.1⟩
 | _=>exact False.elim ty
def tBM0 (K:aA) (T:String) (r:V->List V->Hp->VK->Prop) (to:TE):TE:=fun O H Q=>to O H fun x H1=>tyV K T x H1/\r x [] H1 Q
def tBM (K:aA) (T:String) (r:V->List V->Hp->VK->Prop) (to:TE) (t:TA):TE:=fun O H Q=>to O H fun x H1=>tyV K T x H1/\t O H1 fun xs H2=>r x xs H2 Q
variable {o e:Expr} {es:List Expr} {to:TE} {t:TA} {name:Str} {apos cpos:Pos} {T id:String} {r:V->List V->Hp->VK->Prop}
theorem zdz (pa:PlainAttrs T) (slot:Slot T name id) (c:typeOf (.builtin id)=pure (.type "method_descriptor")) (f:MtR X id r) (g:PE X o to)
  (a:attributeBase o name X.env (eval o X.env)=eval o X.env:=by rfl) (b:(apos.endLine == cpos.line)=true:=by rfl):PE X (.Call (.Attribute o name apos) [] [] cpos) (tBM0 X.K T r to):=by
 intro pins s O H Q I h
 refine wpAny_Call_method0_late a b (thn (g pins s O H _ I h) fun v s1 ⟨x,i,d,e,ty,j⟩=>?_)
 obtain ⟨k,l⟩:=Qk d e ty
 exact ⟨T,id,pa,slot,c,k,l,Calls.callWith_builtin rfl (PySem.evalArgs_none (f pins s1 O i x [] v [] Q d e .nil j))⟩
theorem zeA (pa:PlainAttrs T) (slot:Slot T name id) (f:typeOf (.builtin id)=pure (.type "method_descriptor")) (k:MtR X id r) (l:PE X o to) (m:PA X (e :: es) t)
  (b:attributeBase o name X.env (eval o X.env)=eval o X.env:=by rfl)
  (d:((backTo cpos (starEach (e :: es) X.env)).all (fun x=>!x.1) && (backToKw cpos (keywordEach [] X.env)).all (fun x=>x.1.isSome)
   && decide ((e :: es).length + ([]:List Keyword).length + (if ([]:List Keyword).isEmpty then 0 else 1) < 30))=true:=by rfl)
  (c:(apos.endLine == cpos.line)=true:=by rfl) (n:starEach (e :: es) X.env=(false,eval e X.env) :: starEach es X.env:=by rfl) (a:(backTo cpos (starEach es X.env)).any (·.1)=false:=by rfl) :
  PE X (.Call (.Attribute o name apos) (e :: es) [] cpos) (tBM X.K T r to t):=by
 intro pins s O H Q I h
 refine wpAny_Call_method_late b d c rfl (thn (l pins s O H _ I h) fun v s1 ⟨x,p,g,i,ty,q⟩=>?_)
 obtain ⟨u,w⟩:=Qk g i ty
 refine ⟨T,id,pa,slot,f,u,w,?_⟩
 have j:=m cpos pins s1 O p _ g q
 rw [n] at j ⊢
 refine Calls.callWith_builtin (by show (false || (backTo cpos (starEach es X.env)).any (·.1))=false;rw [a] <;> rfl) (Calls.evalArgs_plain ?_)
 exact thn j fun us s2 ⟨vs,y,z,A,B⟩=>k pins s2 O y x vs v us Q z i A B
end
def MtM (X:Cx) (id:String) (r:V->List V->Hp->VK->Prop):Prop :=
 ∀ (pins:List (Addr×Obj)) (s:Shared) (O:St) (H:Hp) (x:V) (xs:List V) (v:Value) (us:List Value) (Q:VK),Inv X pins O H s->RelV x v->Vals xs us->r x xs H Q ->
  wpAny (model X.prog X.w) X.A (call (.builtin id) (v :: us)) (EP X pins O Q) X.xe s
theorem Vals.one:∀ {x:V} {us:List Value},Vals [x] us->∃ u,us=[u]/\RelV x u
 | _,_,.cons r .nil=>⟨_,rfl,r⟩
theorem Vals.two:∀ {x y:V} {us:List Value},Vals [x,y] us->∃ u v,us=[u,v]/\RelV x u/\RelV y v
 | _,_,_,.cons r (.cons q .nil)=>⟨_,_,rfl,r,q⟩
theorem Vals.zero:∀ {us:List Value},Vals [] us->us=[]
 | _,.nil=>rfl
theorem Vals.dropLast (h:Vals xs us):Vals xs.dropLast us.dropLast:=by
 induction h with
 | nil=>exact .nil
 | cons r t a =>
  cases t with
  | nil=>exact .nil
  | cons q b=>exact .cons r a
theorem Uc (l:List α):l.eraseIdx (l.length - 1)=l.dropLast:=by
 induction l with
 | nil=>rfl
 | cons a r c =>
  cases r with
  | nil=>rfl
  | cons b r =>
   have e:(a :: b :: r).length - 1=((b :: r).length - 1) + 1:=by
    have d:(a :: b :: r).length=r.length + 2:=rfl
    have f:(b :: r).length=r.length + 1:=rfl
    omega
   rw [e,List.eraseIdx_cons_succ,c]
   all_goals rfl
section
variable {X:Cx} {pins:List (Addr×Obj)} {O:St} {H:Hp} {s:Shared} {l b:Addr} {xs ys zs:List V}
theorem Inv.lset {its its':List Value} {n:Nat} {f:Array Value->Array Value} {t':Nat} (I:Inv X pins O H s) (a:H l=some (.lst xs))
  (e:s.heap.get? l=some { cls:=.type "list", data:=.seq its.toArray n }) (b:f its.toArray=its'.toArray) (c:Vals ys its') (hz:ys.length<=sizeLine) :
  Inv X pins O (upd H l (.lst ys)) { s with heap:=s.heap.update l (Obj.mapSeq f),toks:=t' }:=by
 have q:=PySem.IsL.update e f
 rw [b] at q
 refine I.write (x:=l) (e:=l) (by rw [a];exact trivial) (.inl rfl) (fun h u d g=>(dW s.heap (Obj.mapSeq f) (Ne.symm d)).trans g) ⟨_,q⟩ ?_
 exact ⟨hz,its',_,c,q⟩
theorem Inv.lnew {t':Nat} (I:Inv X pins O H s) (a:Vals ys its) (hz:ys.length<=sizeLine) :
  Inv X pins O (upd H s.heap.objs.size (.lst ys)) { s with heap:=s.heap.push { cls:=.type "list", data:=.seq its.toArray },toks:=t' } :=
 I.laid (fun _ _ q=>aR _ q) (aC _) ⟨hz,its,0,a,bE _ rfl⟩
theorem Inv.fresh (I:Inv X pins O H s):H s.heap.objs.size=none:=I.hok.fresh (aC _)
theorem Inv.lstM (I:Inv X pins O H s) (b:H l=some (.lst xs)):xs.length<=sizeLine/\∃ (a:List Value) (n:Nat),Vals xs a/\xs.length=a.length/\s.heap.get? l=some { cls:=.type "list", data:=.seq a.toArray n }:=by
 obtain ⟨z,a,n,r,e⟩:=I.hok l _ b
 exact ⟨z,a,n,r,r.length,e⟩
theorem zaf (h:n<=sizeLine):Builtin.List.listTooLong n=false:=by
 unfold Builtin.List.listTooLong
 exact decide_eq_false (by omega)
end
section
variable {X:Cx}
def we:V->List V->Hp->VK->Prop:=fun x vs H Q=>∃ l xs y,x=.ref l/\vs=[y]/\H l=some (.lst xs)/\xs.length < sizeLine/\Q .non (upd H l (.lst (xs ++ [y])))
theorem yf:MtM X "list.append" we:=by
 intro pins s O H x vs v us Q I c d h
 obtain ⟨l,xs,y,rfl,rfl,b,g,q⟩:=h
 cases c
 obtain ⟨u,rfl,f⟩:=d.one
 obtain ⟨z,a,n,r,i,e⟩:=I.lstM b
 refine call_meets F.slot_list_append ⟨_,e,rfl⟩ F.entry_list_append (F.args_list_append_2 _ _) (PySem.list_append l a.toArray n u (by rw [bT];omega)) ⟨e,?_⟩
 refine ⟨.non,_,I.lset (its':=a ++ [u]) b e (by simp) (r.append (.cons f .nil)) ?_,rfl,q⟩
 rw [aG,List.length_singleton]
 omega
def rPop:V->List V->Hp->VK->Prop:=fun x vs H Q=>∃ l xs y,x=.ref l/\vs=[]/\H l=some (.lst xs)/\xs[xs.length - 1]?=some y/\Q y (upd H l (.lst xs.dropLast))
theorem V1:MtM X "list.pop" rPop:=by
 intro pins s O H x vs v us Q I f g h
 obtain ⟨l,xs,y,rfl,rfl,d,i,q⟩:=h
 cases f
 have b:=g.zero
 subst b
 obtain ⟨z,a,n,r,j,e⟩:=I.lstM d
 obtain ⟨u,k,m⟩:=r.get i
 have c:a.toArray[a.toArray.size - 1]?=some u:=by
  show a.toArray[a.length - 1]?=some u
  rw [<- dJ,<- j]
  exact k
 refine call_meets F.slot_list_pop ⟨_,e,rfl⟩ F.entry_list_pop (F.args_list_pop_1 _) (MeetsSeq.list_pop_last l a.toArray n u c (by rw [bT];omega)) ⟨e,?_⟩
 refine ⟨y,_,I.lset (its':=a.dropLast) d e ?_ r.dropLast ?_,m,q⟩
 ·show a.toArray.eraseIdxIfInBounds (a.toArray.size - 1)=a.dropLast.toArray
  rw [bT,List.eraseIdxIfInBounds_toArray,Uc]
 ·rw [eM]
  omega
end
section
variable {prog:Program} {w:World} {A:Around} {E:Value->Shared->Prop} {s:Shared}
end
section
variable {X:Cx}
end
end L2
namespace Att
open PySem PySem.W PySem.Calls PyProof.Rows
theorem Zg:∀ (ns:List Int) (vs:List Value),WellAll P h vs (ns.map WData.int)->IntsAre vs ns:=by
 intro ns
 induction ns with
 | nil =>
  intro vs w
  rw [List.map_nil] at w
  cases w
  exact .nil
 | cons n ns c =>
  intro vs w
  rw [bB] at w
  cases w with
  | cons a b =>
   cases a
   exact .cons _ _ (c _ b)
theorem To {l:OpenLaw} {n:Nat} (o:l.most=some n) {P:Params} {h:Heap} {args:List WData} {b:List Value}
  (c:l.row.toRowW.claim.pre args=true) (j:WellAll P h b args) :
  ∃ a vs ns,b=[Value.ref a]/\args=[WData.list (ns.map WData.int)]/\h.get? a=some { cls:=.type "list", data:=.seq vs.toArray }/\IntsAre vs ns/\ns.length<=n:=by
 have k:WShape.hasAll [] args [.list .int]=true:=(pre_splitW c).1
 have m:l.pre.holds [] { args:=args }=true:=(pre_splitW c).2
 obtain ⟨d,r,rfl,p,s⟩:=hasAllW_cons k
 obtain rfl:=hasAllW_nil s
 obtain ⟨xs,rfl,t⟩:=hasW_list p
 obtain ⟨ns,rfl⟩:=items_int t
 have e:ns.length<=n:=by
  unfold OpenLaw.pre at m
  have g:(WTm.not (.lt (.lit (.int (n:Int))) (.len (.arg 0)))).holds [] { args:=[.list (ns.map .int)] }=true:=by
   have g:=(holds_andW m).1
   rw [o] at g
   exact g
  have i:=condW_of g (w_not (w_lt w_lit (w_len_list (w_arg rfl))))
  rw [aB] at i
  refine Nat.le_of_not_lt fun q=>?_
  have u:(n:Int) < ((ns.length:Nat):Int):=by omega
  first
   | (rw [decide_eq_true u] at i;exact absurd i (by decide))
   | (simp at i;omega)
 cases j with
 | cons v w =>
  cases w
  cases v with
  | list x f=>exact ⟨_,_,ns,rfl,rfl,x,Zg ns _ f,e⟩
theorem Tu (l:OpenLaw) (args:List WData):l.row.toRowW.claim.post args (.bool true) args=true :=
 postW_of (r:=l.row.toRowW) (X:=(true == true))
  (show WShape.has [] (.bool true) .bool=true by first | rfl | decide | simp [WShape.has,WShape.arms,WShape.armsAll])
  (show (WTm.eq .res (.lit (.bool true))).value [] { args:=args,res:=some (.bool true),after:=args }=some (.bool (true == true)) from w_eq_bool (w_res rfl) w_lit) rfl
theorem Vm {l:OpenLaw} {n:Nat} {q:Program} {c:List Str} {v:(Str->Option Value)->Heap->Prop} {x:World->Heap->Prop} {d:DefRec}
  (B:l.most=some n) (p:d.params.defaults=[])
  (call:∀ (w:World) (s₀ b:Shared) (mg mb:Str->Option Value) (g:Addr) (o:Obj) (pm k doc:Value) (a:Addr) (vs:List Value) (ns:List Int),
   Ground q c [] v w s₀ mg mb b.heap->x w b.heap ->
   b.heap.get? g=some o->o.data=.func (docDef d.name d.params d.body d.scope pm k doc)->b.heap.CodeRec k d.name->mg d.name=some (.ref g) ->
   b.heap.get? a=some { cls:=.type "list", data:=.seq vs.toArray }->IntsAre vs ns->ns.length<=n->b.gens=#[] ->
   codeAny (model l.prog w) callerA (.call (.ref g) ⟨[.ref a],[]⟩) (fun r m=>r=.ok (.ret (.bool true))/\OldK b.heap m.heap/\m.os=b.os/\AllBare m.gens) b) :
  WalkO q c v x l.row.toRowW d [] (fun f vs=>PySem.call f vs):=by
 intro w s₀ b mg mb G fE g o pm k doc C kV D hd s y t E args z as h A F u H
 obtain rfl:C=.none:=Dflts.none y p
 obtain rfl:kV=.none:=Dflts.noKw y
 obtain ⟨a,vs,ns,rfl,rfl,i,e,j⟩:=To B h u
 refine enter_call (codeAny_mono (call w s₀ b mg mb g o pm k doc a vs ns G fE D (fd_plain hd) s t i e j E) fun r m I=>?_)
 obtain ⟨rfl,J,K,L⟩:=I
 exact ⟨.inl ⟨.bool true,.bool true,[],rfl,fun _=>rfl,.bool true,Tu l _,fun _=>⟨List.Pairwise.nil,fun _ M=>(nomatch M)⟩⟩,J,K,L⟩
section
variable {prog:Program} {w:World} {A:Around} {E:Value->Shared->Prop} {s:Shared} {K:Frag}
end
end Att
namespace L2
open PySem PySem.Spec PyProof.Rows
theorem Yv:∀ {vs:List Value} {ns:List Int},IntsAre vs ns->Vals (ns.map V.int) vs
 | _,_,.nil=>.nil
 | _,_,.cons n t h=>.cons ⟨t,rfl⟩ (Yv h)
theorem Vt {K:aA} {p:Addr×Str} (h:p∈yg K):∃ c o vs,K.lookup c=some o/\o.cls=.type "code" /\ o.data=.fields vs/\vs[11]?=some (.ref p.1):=by
 obtain ⟨⟨c,_⟩,_,e⟩:=dO.mp h
 obtain ⟨o,b,a⟩:=eX.mp e
 unfold Qn at a
 split at a
 ·rename_i vs d f
  split at a
  ·rename_i q t P i g
   split at a
   ·cases a
    exact ⟨c,o,vs,b,d,f,g⟩
   ·cases a
  ·cases a
 ·cases a
theorem zas {P:Program} {w:World} {K:aA} {mg mb:Str->Option Value} {CX:CXT} {k:Nat} {X a:Addr} {fd:FuncData} {x:Str} {sp:Sp} {f:Shared} {vs:List Value} {ns:List Int}
  (fE:K.In f.heap) (M:(∀ p∈yg K,f.heap.get? p.1=some (PySem.W.tabObj #[]))/\Xg K=true)
  (Z:∃ bm ob,mg "__builtins__" = some (.ref bm)/\bm≠builtinsNs/\f.heap.get? bm=some ob/\ob.cls=.type "module" /\ ob.dict=some builtinsNs/\ob.data=.plain)
  (N:f.heap.Ns mainGlobals mg) (l:f.heap.Ns builtinsNs mb) (a0:∀ x:Str,x ≠ "__name__" -> mb x=bootBuiltins x) (fF:f.heap.NoLimit) (hg:f.gens=#[])
  (Q:f.heap.get? a=some { cls:=.type "list", data:=.seq vs.toArray }) (hi:IntsAre vs ns) (hl:ns.length<=sizeLine) (hr:Room k callerA)
  (F:∀ base:Heap,K.In base->base.Ns mainGlobals mg->FnOk P w K mg base CX k X fd [x] sp) (J:∀ (s:Shared) (u:Value),BindsTo s fd ⟨[u],[]⟩ [(x,u)])
  (a1:∀ H:Hp,SqL K H a (ns.map V.int)->sp [.ref a] H (fun v _=>v=.bl true) fun _ _ _=>False)
  (a2:∀ H e A,CX [] H f (fun _ _ _=>False) e A->False) :
  codeAny (model P w) callerA (.call (.ref X) ⟨[.ref a],[]⟩) (fun r A=>r=.ok (.ret (.bool true))/\OldK f.heap A.heap/\A.os=f.os/\AllBare A.gens) f:=by
 have uq:=M.2
 unfold Xg at uq
 have L:∀ p∈yg K,f.heap.get? p.1=some (PySem.W.tabObj #[])/\K.lookup p.1=none:=fun p g=>⟨M.1 p g,by
  have:=cC.mp uq p g
  simp only [Bool.and_eq_true] at this
  exact Option.isNone_iff_eq_none.mp this.1⟩
 have one:∀ p q:Addr×Str,p∈yg K->q∈yg K->p.1=q.1->p.2=q.2:=fun p q g hq e=>by
  have:=cC.mp uq p g
  simp only [Bool.and_eq_true] at this
  have:=cC.mp this.2 q hq
  simpa [e] using this
 have rv:=Yv hi
 have R:=hi.length
 have D:∀ H:Hp,SqL K H a (ns.map V.int)->HOk P w H f.heap->(∀ b,H b=none\/(b=a/\∃ o xs,H b=some (.frz o (.lst xs)))\/∃ p∈yg K,b=p.1/\∃ ps,H b=some (.tbl ps))->(H a≠none->K.lookup a=none)->TbOk K H ->
   codeAny (model P w) callerA (.call (.ref X) ⟨[.ref a],[]⟩) (fun r A=>r=.ok (.ret (.bool true))/\OldK f.heap A.heap/\A.os=f.os/\AllBare A.gens) f:=by
  intro H hS hok hA hK a3
  have i:∀ {b:Addr} {o:Obj},f.heap.get? b=some o->H b=none->(hidT f.heap H).get? b=some o:=fun e n=>zax e n
  have S:∀ {b:Addr} {o:Obj},f.heap.get? b=some o->(∀ vs:Array Value,∀ n,o.data≠.seq vs n)->(∀ vs,o.data≠.fields vs)->H b=none:=fun {b o} e d1 d2=>by
   rcases hA b with z | ⟨rfl,_⟩ | ⟨p,g,rfl,_⟩
   ·exact z
   ·rw [Q] at e;cases e
    exact absurd rfl (d1 _ _)
   ·rw [(L p g).1] at e;cases e
    exact absurd rfl (d2 _)
  have B:∀ {b:Addr} {m:Str->Option Value},f.heap.Ns b m->(hidT f.heap H).Ns b m:=fun {b m} ⟨o,es,ep,e,d,r⟩=>⟨o,es,ep,i e (S e (fun _ _ z=>by rw [d] at z;cases z) fun _ z=>by rw [d] at z;cases z),d,r⟩
  have T:K.In (hidT f.heap H):=fun b o e=>i (fE b o e) (by
   rcases hA b with z | ⟨rfl,_,_,z⟩ | ⟨p,g,rfl,_⟩
   ·exact z
   ·rw [hK (by rw [z];simp)] at e;cases e
   ·rw [(L p g).2] at e;cases e)
  have hM:Mod K mg (hidT f.heap H):=⟨T,B N,⟨mb,B l,a0⟩,let ⟨mc,h1,h2⟩:=fF;⟨mc,B h1,h2⟩,let ⟨bm,ob,q1,q2,q3,q4,q5,q6⟩:=Z;⟨bm,ob,q1,q2,i q3 (S q3 (fun _ _ z=>by rw [q6] at z;cases z) fun _ z=>by rw [q6] at z;cases z),q4,q5,q6⟩⟩
  have e0:Env0 P w K mg (hidT f.heap H) callerA [] f H:=⟨rfl,hM,fun b o e=>zbW e,Nat.le_of_eq (T0 _ _),trivial,fun b l=>absurd (show b∈([]:List Addr) from l) (by simp),hok,.of_eq hg,a3⟩
  refine codeAny_mono ((F _ T (B N)).run callerA [] f H ⟨[.ref a],[]⟩ [.ref a] [.ref a] _ _ hr e0 (J f (.ref a)) (.cons rfl .nil) (a1 H hS)) fun r A h=>?_
  cases r with
  | error e=>exact (a2 H e A h).elim
  | ok fl =>
   cases fl with
   | next=>exact False.elim h
   | brk=>exact False.elim h
   | cont=>exact False.elim h
   | ret u =>
    obtain ⟨v,H',os,bare,un,E,r',q⟩:=h
    have q':v=.bl true:=q
    subst q'
    obtain rfl:u=Value.bool true:=r'
    refine ⟨rfl,⟨fun b o e=>?_,fun b o e=>un.there b o e (by simp)⟩,os,bare⟩
    rcases hA b with z | ⟨rfl,ob,xs,z⟩ | ⟨p,g,rfl,ps,z⟩
    ·exact .inl (un.keep b o e z (by intro z;exact absurd (show b∈([]:List Addr) from z) (by simp)) (by simp))
    ·have z2:=un.frzs _ ob _ z
     obtain ⟨e1,_⟩:=hok _ _ z
     obtain ⟨e2,_⟩:=E _ _ z2
     rw [e] at e1;cases e1
     exact .inl e2
    ·obtain ⟨m,z2⟩:=un.tbls _ _ z
     obtain ⟨a4,e2,_⟩:=E _ _ z2
     obtain ⟨c,oc,cs,k1,k2,k3,k4⟩:=Vt g
     rw [(L p g).1] at e
     cases e
     exact .inr (.inl ⟨⟨c,oc,cs,fE _ _ k1,k2,k3,k4⟩,rfl,#[],a4,rfl,by simpa using e2⟩)
 have G:∀ {H:Hp} {p:Addr×Str},p∈yg K->yj P w H f.heap p.1 (.tbl #[.str p.2 0]):=fun {H p} g=>⟨#[],(L p g).1,trivial,fun q v z=>by cases z⟩
 let fG:Hp:=fun b=>((yg K).find? fun p=>p.1 == b).map fun p=>HO.tbl #[.str p.2 0]
 have j:∀ b,fG b=none\/∃ p∈yg K,b=p.1/\fG b=some (.tbl #[.str p.2 0]):=fun b=>by
  cases q:(yg K).find? fun p=>p.1 == b with
  | none=>exact .inl (by show Option.map _ _=none;rw [q];rfl)
  | some p=>exact .inr ⟨p,List.mem_of_find?_eq_some q,(show p.1=b by have:=List.find?_some q;simpa using this).symm,by show Option.map _ _=_;rw [q];rfl⟩
 have I:TbOk K fG:=fun p g=>by
  rcases j p.1 with z | ⟨q,hq,e,z⟩
  ·exfalso
   have C:Option.map _ ((yg K).find? fun q=>q.1 == p.1)=none:=z
   rw [Option.map_eq_none_iff,List.find?_eq_none] at C
   exact C p g (by simp)
  ·exact ⟨0,#[],by rw [z,one p q g hq e];simp⟩
 cases hk:K.lookup a with
 | some o =>
  have e:=fE a o hk
  rw [Q] at e
  cases e
  refine D fG (.inr ⟨_,vs.toArray,_,hk,rfl,rfl,rfl,by rw [List.size_toArray,R];exact hl,by simpa using rv⟩) (fun b u z=>?_) (fun b=>?_) (fun z=>?_) I
  ·rcases j b with y | ⟨p,g,rfl,y⟩
   ·rw [y] at z;cases z
   ·rw [y] at z;cases z;exact G g
  ·rcases j b with y | ⟨p,g,e,y⟩
   ·exact .inl y
   ·exact .inr (.inr ⟨p,g,e,_,y⟩)
  ·rcases j a with y | ⟨p,g,rfl,y⟩
   ·exact absurd y z
   ·exact (L p g).2
 | none =>
  have na:∀ p∈yg K,p.1≠a:=fun p g e=>by
   have:=(L p g).1
   rw [e,Q] at this;cases this
  refine D (fun b=>if b=a then some (.frz { cls:=.type "list", data:=.seq vs.toArray } (.lst (ns.map V.int))) else fG b) (.inl (.inr ⟨{ cls:=.type "list", data:=.seq vs.toArray },if_pos rfl⟩)) (fun b u z=>?_) (fun b=>?_) (fun _=>hk) fun p g=>?_
  ·by_cases l:b=a
   ·have C:=(if_pos l).symm.trans z
    cases C
    subst l
    exact ⟨Q,by rw [aB];exact hl,vs,_,rv,Q⟩
   ·have C:=(if_neg l).symm.trans z
    rcases j b with y | ⟨p,g,rfl,y⟩
    ·rw [y] at C;cases C
    ·rw [y] at C;cases C;exact G g
  ·by_cases l:b=a
   ·exact .inr (.inl ⟨l,_,_,if_pos l⟩)
   ·rcases j b with y | ⟨p,g,e,y⟩
    ·exact .inl ((if_neg l).trans y)
    ·exact .inr (.inr ⟨p,g,e,_,(if_neg l).trans y⟩)
  ·obtain ⟨t,m,e⟩:=I p g
   exact ⟨t,m,(if_neg (na p g)).trans e⟩
theorem zbi {l:PySem.W.OpenLaw} {n k:Nat} {q:Program} {i:List Str} {I:(Str->Option Value)->Heap->Prop} {y:World->Heap->Prop} {d:DefRec} {K:Params->aA} {CX:World->CXT} {sp:World->Sp} {x:Str}
  (J:l.most=some n) (z:n<=sizeLine) (A:d.params.defaults=[]) (L:Room k callerA)
  (M:∀ (w:World) (h:Heap),y w h->(K w.params).In h) (N:∀ (w:World) (h:Heap),y w h->(∀ p∈yg (K w.params),h.get? p.1=some (PySem.W.tabObj #[]))/\Xg (K w.params)=true)
  (F:∀ (w:World) (mg:Str->Option Value) (t:Addr) (h:Heap),(K w.params).In h->h.Ns mainGlobals mg->mg d.name=some (.ref t) ->
   ∃ fd:FuncData,(∀ (s:Shared) (u:Value),BindsTo s fd ⟨[u],[]⟩ [(x,u)]) /\
    ∀ base:Heap,(K w.params).In base->base.Ns mainGlobals mg->FnOk l.prog w (K w.params) mg base (CX w) k t fd [x] (sp w))
  (B:∀ (w:World) (H:Hp) (a:Addr) (ns:List Int),ns.length<=n->SqL (K w.params) H a (ns.map V.int)->sp w [.ref a] H (fun v _=>v=.bl true) fun _ _ _=>False)
  (C:∀ (w:World) (H:Hp) (s:Shared) (e:Value) (s':Shared),CX w [] H s (fun _ _ _=>False) e s'->False) :
  PySem.W.WalkO q i I y l.row.toRowW d [] (fun f vs=>PySem.call f vs):=by
 refine Att.Vm J A fun w s₀ m mg mb t o pm fG doc a vs ns G fE X hd fF D r j c P=>?_
 have E:=M w _ fE
 obtain ⟨fd,Q,R⟩:=F w mg t _ E G.T.g D
 exact zas E (N w _ fE) G.T.bmain G.T.g G.T.b G.T.builtins G.T.nolimit P r j (bO c z) L R Q (fun H S=>B w H a ns c S) fun H e s'=>C w H m e s'
def wg (s:Stmt):Arguments:=match s with
 | .FunctionDef _ a _ _ _ _ _ _ _ _=>a
 | _=>{ posonlyargs:=[],args:=[],vararg:=none,kwonlyargs:=[],kw_defaults:=[],kwarg:=none,defaults:=[] }
def xB (s:Stmt):List Stmt:=match s with
 | .FunctionDef _ _ b _ _ _ _ _ _ _=>b
 | _=>[]
def zo (s:Stmt):Scope:=match s with
 | .FunctionDef _ _ _ _ _ _ sc _ _ _=>sc
 | _=>{ kind:=.function,names:=[],isGenerator:=false,isCoroutine:=false }
abbrev CX0:CXT:=fun _ _ _ _ _ _=>False
abbrev E0:XK:=fun _ _ _=>False
theorem zcZ:Wi CX0 X E0:=fun _ _ _ _ _ _ _ h=>h.elim
structure Fun (K:aA) (x qual:Str) (st:Stmt) (f:Addr) (fd:FuncData):Prop where
 ex:∃ (oc:Value) (od:Option Addr) (kV doc pm:Value) (an:Option Addr) (cdv ct:Value) (osl:Array (Option Value)),
  fd=PySem.W.fnOf x qual (wg st) (xB st) (zo st) .none kV doc pm an cdv ct/\K.lookup f=some ⟨oc,od,.func fd,osl⟩/\PySem.W.codeIn K cdv qual=true
 kp:PySem.W.keepIn K (.ref f)=true
section
variable {P:Program} {w:World} {K:aA} {mg:Str->Option Value} {base:Heap}
theorem Fun.ok {x qual:Str} {st:Stmt} {f:Addr} {fd:FuncData} {N ps:List Str} {k:Nat} {sp:Sp} (F:Fun K x qual st f fd) (S:zA N ps (zo st)) (len:∀ vs H Q E,sp vs H Q E->vs.length=ps.length)
  (a:∀ (cdv:Value) (A:Around) (outer:List Env) (s:Shared) (H:Hp) (vs:List V) (Q:VK) (E:XK),Room k (A.deeper (envOfC qual (zo st) s.heap.objs.size f cdv))->sp vs H Q E ->
   ∃ t,PSs (cxOf CX0 P w K mg base N qual (zo st) f cdv A outer s H E).nox (xB st) t/\t { nx:=fun _ H'=>Q .non H',rt:=Q } (start N vs) H):FnOk P w K mg base CX0 (k + 1) f fd ps sp:=by
 obtain ⟨oc,od,kV,doc,pm,an,cdv,ct,osl,rfl,d,b⟩:=F.ex
 refine zc5 d b S len fun A outer s H vs Q E e c=>?_
 obtain ⟨t,h,q⟩:=a cdv A outer s H vs Q E e c
 exact ⟨t,h.nox,q⟩
theorem Fun.binds {x qual:Str} {st:Stmt} {f:Addr} {fd:FuncData} {ps:List Str} (F:Fun K x qual st f fd)
  (h:∀ (kV doc pm:Value) (an:Option Addr) (cdv ct:Value) (us:List Value),us.length=ps.length->bindArgs (PySem.W.fnOf x qual (wg st) (xB st) (zo st) .none kV doc pm an cdv ct) ⟨us,[]⟩=pure (ps.zip us)):xg K fd ps []:=by
 obtain ⟨oc,od,kV,doc,pm,an,cdv,ct,osl,rfl,b,a⟩:=F.ex
 exact .all (h kV doc pm an cdv ct)
theorem V9 {x qual:Str} {st:Stmt} {f:Addr} {oc:Value} {od an:Option Addr} {osl:Array (Option Value)} {kV doc pm cdv ct:Value} (l:K.lookup f=some ⟨oc,od,.func (PySem.W.fnOf x qual (wg st) (xB st) (zo st) .none kV doc pm an cdv ct),osl⟩)
  (c:PySem.W.codeIn K cdv qual=true) (k:PySem.W.keepIn K (.ref f)=true):Fun K x qual st f (PySem.W.fnOf x qual (wg st) (xB st) (zo st) .none kV doc pm an cdv ct):=⟨⟨oc,od,kV,doc,pm,an,cdv,ct,osl,rfl,l,c⟩,k⟩
end
theorem vh (a:Room k A):A.units + 1 < cLine:=Nat.lt_of_le_of_lt (Nat.add_le_add_left (by decide:1<=64) _) a.units
section
variable {X:Cx}
theorem pv (i:Nat) (b:X.N[i]?=some x:=by rfl) (c:Vis X.env.scope x:=by first | exact Or.inl rfl | exact Or.inr (.inl rfl) | exact Or.inr (.inr rfl)) (hd:(x == ("__debug__" : Str))=false:=by decide)
  (a:(x == ("__classdict__" : Str))=false:=by decide):PE X (.Name x pos) (tVar i):=QZ b c hd a
end
theorem iteF {A B:Prop} (h:B):if false=true then A else B:=by
 rw [if_neg aY]
 exact h
theorem iteT {A B:Prop} (h:A):if true=true then A else B:=by
 rw [if_pos rfl]
 exact h
def Same (H H':Hp):Prop:=∀ b o,H b=some o->H' b=some o
theorem Same.refl (H:Hp):Same H H:=fun _ _ h=>h
theorem Same.trans (a:Same H H1) (b:Same H1 H2):Same H H2:=fun c o h=>b c o (a c o h)
theorem Same.free (e:Same H H') (h:H' l=Option.none):H l=Option.none:=by
 cases q:H l with
 | none=>rfl
 | some o =>
  rw [e l o q] at h
  cases h
theorem Same.seq {K:aA} {H H':Hp} {a:Addr} {xs:List V} (e:Same H H') (h:SqL K H a xs):SqL K H' a xs:=by
 rcases h with (h | ⟨o,h⟩) | h
 ·exact .inl (.inl (e _ _ h))
 ·exact .inl (.inr ⟨o,e _ _ h⟩)
 ·exact .inr h
end L2
set_option maxHeartbeats 1000000
namespace L2
open PySem PySem.Spec PyProof.Rows PySem.SeqAt
section
variable {X:Cx}
theorem Zj:OpR X (binaryOp .Mult) (rI IntMulOk fun i j=>.int (i * j)):=opI fun _ _ _ _ _ _ _ a q=>mul_int q a
mutual
inductive Dp (K:aA) (H:Hp):V->PyData->Prop
 | non:Dp K H .non .none
 | bl (b:Bool):Dp K H (.bl b) (.bool b)
 | int (i:Int):Dp K H (.int i) (.int i)
 | str (x:Str):Dp K H (.str x) (.str x)
 | lst {a:Addr} {xs:List V} {ds:List PyData}:SqL K H a xs->zO K H xs ds->Dp K H (.ref a) (.list ds)
 | tup {a:Addr} {xs:List V} {ds:List PyData}:SqT K H a xs->zO K H xs ds->Dp K H (.ref a) (.tuple ds)
inductive zO (K:aA) (H:Hp):List V->List PyData->Prop
 | nil:zO K H [] []
 | cons {v:V} {vs:List V} {d:PyData} {ds:List PyData}:Dp K H v d->zO K H vs ds->zO K H (v :: vs) (d :: ds)
end
mutual
theorem Dp.reads (I:Inv X pins O H s):∀ {x:V} {d:PyData} {u:Value},Dp X.K H x d->RelV x u->∃ as,Reads s.heap u d as
 | _,_,u,.non,r=>by cases (show u=Value.none from r);exact ⟨_,.none⟩
 | _,_,u,.bl b,r=>by cases (show u=Value.bool b from r);exact ⟨_,.bool b⟩
 | _,_,u,.int i,r=>by obtain ⟨t,e⟩:=(show ∃ t,u=Value.int i t from r);subst e;exact ⟨_,.int i t⟩
 | _,_,u,.str x,r=>by obtain ⟨t,e⟩:=(show ∃ t,u=Value.str x t from r);subst e;exact ⟨_,.str x t⟩
 | _,_,u,@Dp.lst _ _ a xs ds h k,r=>by
  cases (show u=Value.ref a from r)
  obtain ⟨f,g,⟨o,n,e,c,_,d⟩,_⟩:=I.list h
  obtain ⟨as,j⟩:=zO.reads I k g
  exact ⟨_,.list e c d (by simpa using j)⟩
 | _,_,u,@Dp.tup _ _ a xs ds h k,r=>by
  cases (show u=Value.ref a from r)
  obtain ⟨f,g,⟨o,e,c,n,d⟩,_⟩:=I.tuple h
  obtain ⟨as,j⟩:=zO.reads I k g
  exact ⟨_,.tuple e c d (by simpa using j)⟩
theorem zO.reads (I:Inv X pins O H s):∀ {xs:List V} {ds:List PyData} {us:List Value},zO X.K H xs ds->Vals xs us->∃ as,ReadsAll s.heap us ds as
 | _,_,_,.nil,.nil=>⟨_,.nil⟩
 | _,_,_,.cons h k,.cons r t=>by
  obtain ⟨as,a⟩:=Dp.reads I h r
  obtain ⟨bs,b⟩:=zO.reads I k t
  exact ⟨_,.cons a b⟩
end
def rEqD (K:aA) (neg:Bool):R2:=fun x y H Q=>∃ d e,Dp K H x d/\Dp K H y e/\shaped d=true/\shaped e=true/\Q (.bl (if neg then !PyData.eqv d e else PyData.eqv d e)) H
theorem zdF (a:X.A.units + 64 < cLine):OpR X (compareOp .Eq) (rEqD X.K false):=by
 intro pins s O H x y v u Q I b c h
 obtain ⟨d,e,f,g,i,j,q⟩:=h
 obtain ⟨as,k⟩:=f.reads I b
 obtain ⟨bs,l⟩:=g.reads I c
 exact eq_dataH k l i j a ⟨.bl (PyData.eqv d e),H,I,rfl,q⟩
theorem zdD (a:X.A.units + 64 < cLine):OpR X (compareOp .NotEq) (rEqD X.K true):=by
 intro pins s O H x y v u Q I b c h
 obtain ⟨d,e,f,g,i,j,q⟩:=h
 obtain ⟨as,k⟩:=f.reads I b
 obtain ⟨bs,l⟩:=g.reads I c
 exact ne_dataH k l i j a ⟨.bl (!PyData.eqv d e),H,I,rfl,q⟩
theorem Inv.turnNew {pins:List (Addr×Obj)} {O:St} {H:Hp} {s:Shared} {h':Heap} {fp:List Addr} {T:Addr} {o:HO} {t':Nat} (I:Inv X pins O H s) (f:∀ b∈fp,FpOk X pins H b)
  (k:∀ b u,b∉fp->s.heap.get? b=some u->h'.get? b=some u) (j:s.heap.objs.size<=T) (new:yj X.prog X.w (upd H T o) h' T o):Inv X pins O (upd H T o) { s with heap:=h',toks:=t' }:=by
 have g:H T=none:=I.hok.fresh j
 have h:∀ b u,H b=some u->b∉fp:=fun b u e z=>by rw [(f b z).1] at e;cases e
 have i:∀ b u,s.heap.get? b=some u->b≠T:=fun b u e=>aL (bF (aE e) j)
 refine I.step (g':=s.gens) (d':=s.drawn) (ch:=fp) (fun b a=>⟨(f b a).2.2.2.1,(f b a).2.1,(f b a).2.2.2.2.1,(f b a).2.2.2.2.2⟩) (fun b u _ _ d e _=>k b u d e) (fun b u _ _ d e _=>⟨u.slots,k b u d e⟩)
  (fun b u _ e n=>by rw [zp (i b u e)];exact n) (fun b u d e=>⟨u,k b u d e⟩) (fun b xs e=>by rw [zp (zB e g)];exact e) (fun b u v e=>by rw [zp (zB e g)];exact e) (fun b ps e=>⟨#[],by rw [zp (zB e g),e];simp⟩)
  (fun m l=>?_) (fun b u e=>?_) I.bare
 ·obtain ⟨ob,p,t,x,r⟩:=l
  exact ⟨ob,p,t,k _ ob (fun z=>(f _ z).2.1 rfl) x,r⟩
 ·by_cases a:b=T
  ·subst a;rw [zi] at e;cases e;exact new
  ·rw [zp a] at e
   refine (I.hok b u e).stay (fun c v d q=>k c v ?_ q) (fun c q=>by rw [zp (zB q g)];exact q) fun c xs q=>by rw [zp (zB q g)];exact q
   rcases d with z | z
   ·rw [z];exact h b u e
   ·exact h c _ z
theorem Inv.turnAll {pins:List (Addr×Obj)} {O:St} {H:Hp} {s:Shared} {h':Heap} {fp:List Addr} {t':Nat} (I:Inv X pins O H s) (d:∀ b∈fp,FpOk X pins H b)
  (k:∀ b u,b∉fp->s.heap.get? b=some u->h'.get? b=some u):Inv X pins O H { s with heap:=h',toks:=t' }:=by
 have f:∀ b u,H b=some u->b∉fp:=fun b u e z=>by rw [(d b z).1] at e;cases e
 refine I.step (g':=s.gens) (d':=s.drawn) (ch:=fp) (fun b g=>⟨(d b g).2.2.2.1,(d b g).2.1,(d b g).2.2.2.2.1,(d b g).2.2.2.2.2⟩) (fun b u _ _ a e _=>k b u a e) (fun b u _ _ a e _=>⟨u.slots,k b u a e⟩)
  (fun b u _ e n=>n) (fun b u a e=>⟨u,k b u a e⟩) (fun b xs e=>e) (fun b u v e=>e) (fun b ps e=>⟨#[],by rw [e];simp⟩)
  (fun m h=>?_) (fun b u e=>?_) I.bare
 ·obtain ⟨ob,i,j,l,r⟩:=h
  exact ⟨ob,i,j,k _ ob (fun z=>(d _ z).2.1 rfl) l,r⟩
 ·refine (I.hok b u e).stay (fun c v a q=>k c v ?_ q) (fun c q=>q) fun c xs q=>q
  rcases a with z | z
  ·rw [z];exact f b u e
  ·exact f c _ z
end
theorem ad (h:m≠n):(show Addr from m)≠(show Addr from n):=h
section
variable {X:Cx}
end
end L2
namespace L2
open PySem PySem.Spec PyProof.Rows
def Cx.blk (X:Cx) (N:List Str) (scope:Scope) (cl:List (Str×Addr)) (C:Addr) (s:Shared) (H:Hp) (fp:List Addr):Cx :=
 { X with N:=N,s₀:=s,H₀:=H,env:=compEnvC scope cl C X.env,outer:=X.stack,stack:=X.stack,ex:=fp,fn:=fun _=>false,pn:=[],xe:=fun _ _=>False }
def capt (js:List (Option Nat)) (O:St):St:=js.map fun o=>match o with | none=>none | some j=>(O[j]?).join
structure vM (X:Cx) (N:List Str) (scope:Scope) (cl:List (Str×Addr)) (js:List (Option Nat)):Prop where
 clos:closureFor scope X.env=pure cl
 nocell:∀ y∈scope.names,y.2≠.cell
 kind:scope.kind=.function
 names:∀ y∈scope.names,y.2=.local->scope.names.lookup y.1=some .local
 cells:∀ p∈cl,X.env.cells.lookup p.1=some p.2
 has:∀ y∈scope.names,y.2=.free->(cl.lookup y.1).isSome=true
 len:js.length=N.length
 cap:∀ (i j:Nat),js[i]?=some (some j)->∃ x,N[i]?=some x/\X.N[j]?=some x/\scope.names.lookup x=some .free/\(X.env.scope.names.lookup x=some .cell\/X.env.scope.names.lookup x=some .free)
def Sub (O O':St):Prop:=O.length=O'.length/\∀ (i:Nat) v,O[i]?=some (some v)->O'[i]?=some (some v)
theorem Sub.set (h:O[i]?=some none):Sub O (O.set i x):=by
 refine ⟨by simp,fun j v e=>?_⟩
 have ne:j≠i:=by rintro rfl;rw [h] at e;cases e
 rw [bM (Ne.symm ne)]
 exact e
theorem wO {env:Env} (d:env.scope.kind=.function):∀ {names:List (Str×NameKind)} {x:Str},names.lookup x=some .free->env.scope.names.lookup x=some .cell ->
  (names.map fun (n,k)=>if (k == NameKind.free && env.scope.kind == .function && env.kindOf n == some .cell) then (n,NameKind.cell) else (n,k)).lookup x=some .cell
 | [],_,h,_=>by simp at h
 | (n,k) :: r,x,h,hc=>by
  have f:=@wO env d r x
  show List.lookup x ((if (k == NameKind.free && env.scope.kind == .function && env.kindOf n == some .cell)=true then (n,NameKind.cell) else (n,k)) :: _)=_
  cases a:x == n with
  | true =>
   have e:x=n:=by simpa using a
   subst e
   simp only [List.lookup_cons,a] at h
   cases h
   have c:(NameKind.free == NameKind.free && env.scope.kind == .function && env.kindOf x == some .cell)=true:=by
    have q:env.kindOf x=some .cell:=hc
    rw [d,q];rfl
   rw [if_pos c,cU,a]
  | false =>
   simp only [List.lookup_cons,a] at h
   by_cases b:(k == NameKind.free && env.scope.kind == .function && env.kindOf n == some .cell)=true
   ·rw [if_pos b,cU,a];exact f h hc
   ·rw [if_neg b,cU,a];exact f h hc
theorem wN {env:Env}:∀ {names:List (Str×NameKind)} {x:Str},names.lookup x=some .free->env.scope.names.lookup x=some .free ->
  (names.map fun (n,k)=>if (k == NameKind.free && env.scope.kind == .function && env.kindOf n == some .cell) then (n,NameKind.cell) else (n,k)).lookup x=some .free
 | [],_,h,_=>by simp at h
 | (n,k) :: r,x,h,hc=>by
  have c:=@wN env r x
  show List.lookup x ((if (k == NameKind.free && env.scope.kind == .function && env.kindOf n == some .cell)=true then (n,NameKind.cell) else (n,k)) :: _)=_
  cases a:x == n with
  | true =>
   have e:x=n:=by simpa using a
   subst e
   simp only [List.lookup_cons,a] at h
   cases h
   have q:env.kindOf x=some .free:=hc
   rw [if_neg (by rw [q];simp),List.lookup_cons,a]
  | false =>
   simp only [List.lookup_cons,a] at h
   by_cases b:(k == NameKind.free && env.scope.kind == .function && env.kindOf n == some .cell)=true
   ·rw [if_pos b,cU,a];exact c h hc
   ·rw [if_neg b,cU,a];exact c h hc
theorem uE {env:Env}:∀ {names:List (Str×NameKind)} {x:Str},(∀ y∈names,y.2≠.cell) ->
  ((names.map fun (n,k)=>if (k == NameKind.free && env.scope.kind == .function && env.kindOf n == some .cell) then (n,NameKind.cell) else (n,k)).lookup x=some .cell \/
   (names.map fun (n,k)=>if (k == NameKind.free && env.scope.kind == .function && env.kindOf n == some .cell) then (n,NameKind.cell) else (n,k)).lookup x=some .free)->∃ y∈names,y.1=x/\y.2=.free
 | [],_,_,h=>by simp at h
 | (n,k) :: r,x,hn,h=>by
  have d:=@uE env r x (fun y b=>hn y (bA _ b))
  have h':List.lookup x ((if (k == NameKind.free && env.scope.kind == .function && env.kindOf n == some .cell)=true then (n,NameKind.cell) else (n,k)) :: (r.map fun (n,k)=>if (k == NameKind.free && env.scope.kind == .function && env.kindOf n == some .cell) then (n,NameKind.cell) else (n,k)))=some .cell \/
   List.lookup x ((if (k == NameKind.free && env.scope.kind == .function && env.kindOf n == some .cell)=true then (n,NameKind.cell) else (n,k)) :: (r.map fun (n,k)=>if (k == NameKind.free && env.scope.kind == .function && env.kindOf n == some .cell) then (n,NameKind.cell) else (n,k)))=some .free:=h
  cases c:x == n with
  | true =>
   have e:x=n:=by simpa using c
   subst e
   by_cases a:(k == NameKind.free && env.scope.kind == .function && env.kindOf x == some .cell)=true
   ·have f:k=.free:=by
     cases k <;> first | rfl | (simp at a)
    exact ⟨(x,k),aK,rfl,f⟩
   ·rw [if_neg a] at h'
    simp only [List.lookup_cons,c] at h'
    rcases h' with q | q
    ·cases q;exact absurd rfl (hn (x,.cell) aK)
    ·cases q;exact ⟨(x,.free),aK,rfl,rfl⟩
  | false =>
   by_cases a:(k == NameKind.free && env.scope.kind == .function && env.kindOf n == some .cell)=true
   ·rw [if_pos a] at h'
    simp only [List.lookup_cons,c] at h'
    obtain ⟨y,b,e⟩:=d h'
    exact ⟨y,bA _ b,e⟩
   ·rw [if_neg a] at h'
    simp only [List.lookup_cons,c] at h'
    obtain ⟨y,b,e⟩:=d h'
    exact ⟨y,bA _ b,e⟩
section
variable {X:Cx} {N:List Str} {scope:Scope} {cl:List (Str×Addr)} {js:List (Option Nat)} {pins:List (Addr×Obj)} {O:St} {H:Hp} {s:Shared} {fp:List Addr}
theorem Qi (K:vM X N scope cl js) (I:Inv X pins O H s) (E:∀ b∈fp,FpOk X pins H b) (G:∀ b∈fp,b < s.heap.objs.size) {J:Heap} {P:Str->Option Value} {tk:Nat} (Q:J.Ns s.heap.objs.size P)
  (F:∀ b o,s.heap.get? b=some o->J.get? b=some o) :
  Inv (X.blk N scope cl s.heap.objs.size s H fp) [] (capt js O) H { s with heap:=J,toks:=tk }:=by
 have n:∀ b∈fp,b≠s.heap.objs.size:=fun b g=>aL (G b g)
 have a:∀ x c,cl.lookup x=some c->X.env.cells.lookup x=some c:=fun x c e=>K.cells (x,c) (PySem.mem_of_lookup e)
 refine ⟨⟨I.ok.mod,K.kind,I.ok.glob,I.ok.blt,aC _,fun x y c t A=>I.ok.inj x y c (a x c t) (a y c A),fun x R=>?_,fun x c z _=>absurd z (by intro q;cases q),I.ok.hd,I.ok.frames,.inl rfl,fun b g=>⟨n b g,fun x c e=>(E b g).2.2.2.2.1 x c (a x c e)⟩,
  I.bs,Nat.le_trans I.ok.bsz I.sz,fun b o e g=>?_,fun b g z=>?_,I.stack,I.stkFree,I.ok.tb.un I.base⟩,rfl,I.bare,Un.kept F,⟨P,Q,fun i x v t A e3=>?_⟩,fun x c e=>?_,I.hok.fresh (Nat.le_refl _),fun x c e=>(I.freeC x c (a x c e)).imp id fun z=>⟨rfl,z.2⟩,fun p S=>absurd (show p∈([]:List (Addr×Obj)) from S) (by simp),I.hok.kept F,?_⟩
 ·obtain ⟨y,T,t,A⟩:=uE K.nocell R
  have q:=K.has y T A
  rw [t] at q
  exact cW.mp q
 ·rcases (E b g).2.2.2.1 with z | z
  ·exact I.ok.noex b o e z
  ·exact absurd (bF (aE e) (bO I.ok.bsz z)) (bN _)
 ·rcases aT.mp (I.stkSub b z) with q | q
  ·exact (E b g).2.1 q
  ·exact (E b g).2.2.1 q
 ·
  have hi:(capt js O)[i]?=some (some v):=A
  unfold capt at hi
  rw [aU] at hi
  cases L:js[i]? with
  | none=>rw [L] at hi;cases hi
  | some o =>
   rw [L] at hi
   cases o with
   | none=>cases hi
   | some j =>
    obtain ⟨y,M,fF,h,d⟩:=K.cap i j L
    have B:N[i]?=some x:=t
    rw [M] at B
    cases B
    have fG:O[j]?=some (some v):=by
     cases q:O[j]? with
     | none=>have f:(Option.join O[j]?)=some v:=bI hi;rw [q] at f;cases f
     | some w=>have f:(Option.join O[j]?)=some v:=bI hi;rw [q] at f;cases w with
      | none=>cases f
      | some w=>exact congrArg some f
    obtain ⟨m,_,V⟩:=I.loc
    obtain ⟨u,r,l⟩:=V j x v fF fG (.inr d)
    refine ⟨u,r,.inr ⟨d.imp (fun z=>wO I.ok.kind h z) (fun z=>wN h z),?_⟩⟩
    rcases l with ⟨k,_⟩ | ⟨_,c,W,fE⟩
    ·rcases d with d | d <;> exact absurd (k.symm.trans d) (by intro z;cases z)
    ·obtain ⟨Z,C⟩:=cW.mp (K.has (x,.free) (PySem.mem_of_lookup h) rfl)
     have D:=a x Z C
     rw [W] at D
     cases D
     exact ⟨c,C,fE.keeps F⟩
 ·obtain ⟨v,hv⟩:=I.cell x c (a x c e)
  exact ⟨v,hv.keeps F⟩
 ·show (capt js O).length=N.length
  unfold capt
  rw [aB]
  exact K.len
theorem fG8 (I:Inv X pins O H s) (k:∀ b∈fp,FpOk X pins H b) (J:Inv (X.blk N scope cl s.heap.objs.size s H fp) [] O' H' s') (i:Heap.SameBut s.heap.objs.size s'.heap h') :
  Inv X pins O H' { s' with heap:=h' }:=by
 have d:∀ b o,s.heap.get? b=some o->b≠s.heap.objs.size:=fun b o e=>aL (aE e)
 have u:=J.base
 have f:Un (frs X.stack) fp H H' s.heap s'.heap:=u
 refine I.call' (s':={ s' with heap:=h' }) (ch:=fp) J.os ⟨fun b o e n g h=>?_,fun b o e n g h=>?_,f.free,fun b o e h=>?_,f.tups,f.frzs,f.tbls⟩ (fun b ob e=>?_) J.bare fun b g=>?_
 ·exact (i.2 b (d b o e)).trans (f.keep b o e n g h)
 ·obtain ⟨sl,q⟩:=f.slot b o e n g h
  exact ⟨sl,(i.2 b (d b o e)).trans q⟩
 ·obtain ⟨o',q⟩:=f.there b o e h
  exact ⟨o',(i.2 b (d b o e)).trans q⟩
 ·have a:H' s.heap.objs.size=none:=J.free
  refine (J.hok b ob e).stay (fun c t j q=>(i.2 c ?_).trans q) (fun _ q=>q) fun _ _ q=>q
  rintro rfl
  rcases j with rfl | j
  ·rw [a] at e;cases e
  ·rw [a] at j;cases j
 ·obtain ⟨v,l,w,m,p,r⟩:=k b g
  exact ⟨m,l,p,r⟩
end
def PIf (X:Cx) (ifs:List Expr) (t:TT):Prop :=
 ∀ (pins:List (Addr×Obj)) (s:Shared) (O:St) (H:Hp) (Q:Bool->Hp->Prop),Inv X pins O H s->t O H Q ->
  wpAny (model X.prog X.w) X.A (forIn ifs true fun c r=>if r=true then (do let ok <- isTrue c X.env (eval c X.env);pure (ForInStep.yield ok)) else pure (ForInStep.yield r)) (TP X pins O Q) X.xe s
def tYes:TT:=fun _ H Q=>Q true H
theorem yx:PIf X [] tYes:=fun _ _ _ H _ I h=>wpAny_tests_nil ⟨H,I,h⟩
theorem yS (h:PT X c t):PIf X [c] t:=fun pins s O H Q I q=>wpAny_tests_one (h pins s O H Q I q)
def za3 (J:It) (g:TG) (tt:TT) (te:TE) (σc:St) (Q:VK) (H1:Hp):Prop:=∀ D,H1 D=none ->
 ∃ W:Nat->Nat->List V->Hp->Prop,(∃ m,W 0 m [] (upd H1 D (.lst [])))/\∀ i m ys H,W i m ys H ->
  (J.stop i H/\Q (.ref D) H) \/
  (J.go i H/\∃ N:List V->Hp->Prop,(∀ zs H',N zs H'->∃ m',m' < m/\W (i + 1) m' zs H')/\∀ x H',J.yld i H x H'->g x σc H' fun O2 H2=>Sub σc O2/\tt O2 H2 fun b H3 =>
   if b=true then te O2 H3 fun v H4=>H4 D=some (.lst ys)/\ys.length < sizeLine/\N (ys ++ [v]) (upd H4 D (.lst (ys ++ [v]))) else N ys H3)
def ve (js:List (Option Nat)) (wi:TI) (g:TG) (tt:TT) (te:TE):TE:=fun O H Q=>wi O H fun J H1=>za3 J g tt te (capt js O) Q H1
section
variable {prog:Program} {w:World} {A:Around} {R:Result->Shared->Prop} {s:Shared}
theorem YX (b:Nat->Shared->Prop) (F:Value->Shared->Prop) (l:∀ e s,¬ F e s)
  (turn:∀ n s,b n s->wpAny (model prog w) A (pyNext it) (fun r s1=>(r=none->R (.ok .next) s1)/\∀ v,r=some v ->
   wpAny (model prog w) A (letOwnedTupleGo tg it v) (fun _ s2=>wpAny (model prog w) A (assign tg env v) (fun _ g =>
    wpAny (model prog w) A (forIn ifs true fun c r=>if r=true then (do let ok <- isTrue c env (eval c env);pure (ForInStep.yield ok)) else pure (ForInStep.yield r)) (fun ok d =>
     (ok=false->∃ m,m < n/\b m d)/\(ok=true->wpAny (model prog w) A (eval elt env) (fun x i=>wpAny (model prog w) A (call (.builtin "list.append") [acc,x]) (fun _ j=>∃ m,m < n/\b m j) F i) F d)) F g) F s2) F s1) F s)
  (n:Nat) (h:b n s):codeAny (model prog w) A (.compLoop (.ListComp elt [⟨tg,iter,ifs,0⟩] scope pos) 0 it acc env) R s:=by
 refine codeAny_loop rfl b (fun n s o=>?_) n h
 show wpAny _ A (Sem.onRaise (compTurn (.ListComp elt [⟨tg,iter,ifs,0⟩] scope pos) 0 it acc env) (fun x=>do noteFrame x env;theTreesLotGoes x)) _ _ s
 refine wpAny_noted ?_
 rw [compTurn_list]
 have a:∀ {E:Value->Shared->Prop} (e:Value) (s:Shared),F e s->E e s:=fun e s z=>(l e s z).elim
 refine wpAny_bind (wpAny_standAt (wpAny_bind (wpAny_mono (turn n s o) (fun r s1 f=>?_) a)))
 obtain ⟨p,f⟩:=f
 cases r with
 | none=>exact wpAny_pure (p rfl)
 | some v =>
  refine wpAny_bind (wpAny_mono (f v rfl) (fun _ s2 q=>?_) a)
  refine wpAny_bind (wpAny_mono q (fun _ g t=>?_) a)
  refine wpAny_bind (wpAny_mono t (fun ok d k=>?_) a)
  cases ok with
  | false=>exact wpAny_pure ⟨rfl,k.1 rfl⟩
  | true =>
   refine wpAny_bind (wpAny_bind (wpAny_mono (k.2 rfl) (fun x i u=>?_) a))
   exact wpAny_bind (wpAny_mono u (fun _ j y=>wpAny_pure (wpAny_pure ⟨rfl,y⟩)) a)
end
section
variable {X:Cx} {N:List Str} {scope:Scope} {cl:List (Str×Addr)} {js:List (Option Nat)} {pins:List (Addr×Obj)} {O:St} {H:Hp} {s:Shared}
theorem YY {k tg f:Expr} {l:List Expr} {pos:Pos} {J:It} {fp:List Addr} {it:Addr} {tn:Nat->Heap->Prop} {g:TG} {tt:TT} {te:TE} {Q:VK} {E:Value->Shared->Prop} {RR:Value->Addr->Result->Shared->Prop}
  (hc:X.calm=true) (K:vM X N scope cl js) (I:Inv X pins O H s) (T:Turn X.prog X.w X.K tg J fp it tn) (st:tn 0 s.heap) (hf:∀ b∈fp,FpOk X pins H b)
  (hg:∀ C s H fp,PG (X.blk N scope cl C s H fp) tg g) (ht:∀ C s H fp,PIf (X.blk N scope cl C s H fp) l tt) (he:∀ C s H fp,PE (X.blk N scope cl C s H fp) k te)
  (hq:za3 J g tt te (capt js O) Q H)
  (a0:∀ (D:Addr) (a s':Shared) (H':Hp) (O':St),Inv X pins O (upd H D (.lst [])) a->(∀ b∈fp,FpOk X pins (upd H D (.lst [])) b)->Inv (X.blk N scope cl a.heap.objs.size a (upd H D (.lst [])) fp) [] O' H' s'->Q (.ref D) H'->RR (.ref D) a.heap.objs.size (.ok .next) s') :
  wpAny (model X.prog X.w) X.A (newList []) (fun acc a=>wpAny (model X.prog X.w) X.A (newFunctionEnv scope X.env.globals cl [] X.env.qual none .none (some X.env)) (fun h s4 =>
   codeAny (model X.prog X.w) X.A (.compStart (.ListComp k [⟨tg,f,l,0⟩] scope pos) 0 (.ref it) acc { h with scope:=relabel scope X.env }) (RR acc h.locals) s4) E a) E s:=by
 have fresh:H s.heap.objs.size=none:=I.fresh
 have lt:∀ b∈fp,b < s.heap.objs.size:=fun b d=>by
  obtain ⟨o,e,_⟩:=T.obj _ _ st b d
  exact aE e
 obtain ⟨W,⟨m0,w0⟩,step⟩:=hq _ fresh
 refine wpAny_newObj_type ?_
 have S:=I.lnew (ys:=[]) (its:=[]) (t':=s.toks) .nil (aW _)
 have B:∀ b∈fp,FpOk X pins (upd H s.heap.objs.size (.lst [])) b:=fun b d=>⟨by rw [zp (aL (lt b d))];exact (hf b d).1,(hf b d).2⟩
 generalize e3:({ s with heap:=s.heap.push { cls:=.type "list", data:=.seq ([]:List Value).toArray },toks:=s.toks }:Shared)=a at S
 have F:tn 0 a.heap:=by
  rw [<- e3]
  exact T.keep _ _ _ st fun b _ o e=>aR _ e
 have G:∀ b∈fp,b < a.heap.objs.size:=fun b d=>by
  obtain ⟨o,e,_⟩:=T.obj _ _ F b d
  exact aE e
 refine wpAny_newFunctionEnv K.nocell (by intro y hy;simp at hy) (fun h4 n4 k4=>?_) K.kind
 have old:∀ b o,a.heap.get? b=some o->h4.get? b=some o:=fun b o e=>(k4.2 b (aL (aE e))).trans (aR _ e)
 have I4:=Qi K S B G (tk:=a.toks + ([]:List (Str×Value)).length) n4 old
 have L:tn 0 h4:=T.keep _ _ _ F fun b _ o e=>old b o e
 have m:∀ {H':Hp},(∀ b∈fp,H' b=none)->∀ b∈fp,FpOk (X.blk N scope cl a.heap.objs.size a (upd H s.heap.objs.size (.lst [])) fp) [] H' b:=fun hn b d =>
  ⟨hn b d,Nat.ne_of_lt (G b d),fun z=>(List.mem_cons.mp (S.stkSub b z)).elim (B b d).2.1 (B b d).2.2.1,.inl d,fun x c e=>(B b d).2.2.2.2.1 x c (K.cells (x,c) (PySem.mem_of_lookup e)),fun p hp=>absurd (show p∈([]:List (Addr×Obj)) from hp) (by simp)⟩
 have j:codeAny (model X.prog X.w) X.A (.compLoop (.ListComp k [⟨tg,f,l,0⟩] scope pos) 0 (.ref it) (.ref s.heap.objs.size) (compEnvC scope cl a.heap.objs.size X.env)) (RR (.ref s.heap.objs.size) a.heap.objs.size)
   ({ a with heap:=h4,toks:=a.toks + ([]:List (Str×Value)).length }:Shared):=by
  refine YX (fun n s'=>∃ i ys H',Inv (X.blk N scope cl a.heap.objs.size a (upd H s.heap.objs.size (.lst [])) fp) [] (capt js O) H' s'/\tn i s'.heap/\(∀ b∈fp,H' b=none)/\W i n ys H') (fun _ _=>False) (fun _ _ z=>z) ?_ m0
   ⟨0,[],_,I4,L,fun b d=>(B b d).1,w0⟩
  rintro n s5 ⟨i,ys,fG,I5,M,fF,w5⟩
  rcases step i n ys fG w5 with ⟨stop,qn⟩ | ⟨go,Nn,hN,a1⟩
  ·refine thn (T.done (X.blk N scope cl a.heap.objs.size a (upd H s.heap.objs.size (.lst [])) fp) rfl rfl rfl hc i [] s5 (capt js O) fG _ I5 (m fF) M stop) fun r s6 ⟨fE,I6⟩=>⟨fun _=>?_,fun v e=>?_⟩
   ·exact a0 _ a s6 fG _ S B I6 qn
   ·rw [fE] at e;cases e
  ·refine thn (T.item (X.blk N scope cl a.heap.objs.size a (upd H s.heap.objs.size (.lst [])) fp) rfl rfl rfl hc i [] s5 (capt js O) fG _ I5 (m fF) M go) fun r s6 ⟨u,fE,h6⟩=>⟨fun e=>?_,fun v e=>?_⟩
   ·rw [fE] at e;cases e
   rw [fE] at e;cases e
   refine thn h6 fun _ s7 ⟨x,H7,I7,r7,y7,q,a2⟩=>?_
   have a3:=I7.pinned (m a2) (T.obj _ _ q)
   have back:∀ {O':St} {H':Hp} {s':Shared} {i' n':Nat} {zs:List V},Inv (X.blk N scope cl a.heap.objs.size a (upd H s.heap.objs.size (.lst [])) fp) ([] ++ tH fp s7.heap) O' H' s'->Sub (capt js O) O'->W (i + 1) n' zs H' ->
     ∃ i ys H',Inv (X.blk N scope cl a.heap.objs.size a (upd H s.heap.objs.size (.lst [])) fp) [] (capt js O) H' s'/\tn i s'.heap/\(∀ b∈fp,H' b=none)/\W i n' ys H':=fun {O' H' s' i' n' zs} I' sb P=>by
    refine ⟨i + 1,zs,H',(I'.unpinned).weak sb.1 sb.2,T.keep _ _ _ q fun b d o e=>(I'.pin (b,o) (aO _ (aO _ (xr d e)))).1,fun b d=>?_,P⟩
    obtain ⟨o,e,_⟩:=T.obj _ _ q b d
    exact (I'.pin (b,o) (aO _ (aO _ (xr d e)))).2.1
   refine thn (hg _ _ _ _ _ s7 (capt js O) H7 x _ _ a3 r7 (a1 x H7 y7)) fun _ s8 ⟨t,H8,I8,R,q8⟩=>?_
   refine thn (ht _ _ _ _ _ s8 t H8 _ I8 q8) fun ok s9 ⟨H9,I9,Z⟩=>⟨fun e=>?_,fun e=>?_⟩
   ·rw [e,if_neg aY] at Z
    obtain ⟨m',hm,P⟩:=hN _ _ Z
    exact ⟨m',hm,back (i':=0) I9 R P⟩
   ·rw [e,if_pos rfl] at Z
    refine thn (he _ _ _ _ _ s9 t H9 _ I9 Z) fun xv sa ⟨v,Ha,Ia,ra,qa,za,nn⟩=>?_
    obtain ⟨m',hm,P⟩:=hN _ _ nn
    refine thn (yf (X:=X.blk N scope cl a.heap.objs.size a (upd H s.heap.objs.size (.lst [])) fp) _ sa t Ha (.ref s.heap.objs.size) [v] (.ref s.heap.objs.size) [xv] (fun y H'=>H'=upd Ha s.heap.objs.size (.lst (ys ++ [v]))) Ia rfl (.cons ra .nil) ⟨_,ys,v,rfl,rfl,qa,za,rfl⟩) fun y sb ⟨z,Hb,Ib,_,eb⟩=>?_
    rw [eb] at Ib
    exact ⟨m',hm,back (i':=0) Ib R P⟩
 exact codeAny_compStart_list j (T.self _ 0 _ _ _ L j)
theorem yc (d:X.calm=true) (K:vM X N scope cl js) (hi:PI X tg iter wi)
  (f:∀ C s H fp,PG (X.blk N scope cl C s H fp) tg g) (i:∀ C s H fp,PIf (X.blk N scope cl C s H fp) ifs tt) (j:∀ C s H fp,PE (X.blk N scope cl C s H fp) elt te)
  (k:∀ x,foldedSetIterable iter X.env x=pure x:=by intro _;rfl):PE X (.ListComp elt [⟨tg,iter,ifs,0⟩] scope pos) (ve js wi g tt te):=by
 intro pins s O H Q I h
 rw [eval_ListComp]
 refine wpAny_comprehension_free (use:=none) rfl k K.clos K.kind K.names (thn (hi pins s O H _ I h) fun v s1 l=>thn l fun n s2 o=>?_)
 obtain ⟨it,fp,tn,J,E,e,p,T,b,r,t⟩:=o
 subst e
 refine YY (RR:=fun acc C=>compPost (model X.prog X.w) X.A X.xe none (EP X pins O Q) acc C) d K p T b r f i j t ?_
 intro D F G H' O' u y c q
 obtain ⟨m,z,_⟩:=c.loc
 exact ⟨m,z,fun B a=>⟨.ref D,H',fG8 u y c a,rfl,q⟩⟩
theorem yU (S:X.calm=true) (fG:X.N.Nodup) (n:X.N[i]?=some y) (fF:X.env.scope.names.lookup y=some .local) (K:vM X N scope cl js) (hi:PI X tg iter wi)
  (V:∀ C s H fp,PG (X.blk N scope cl C s H fp) tg g) (W:∀ C s H fp,PIf (X.blk N scope cl C s H fp) ifs tt) (fE:∀ C s H fp,PE (X.blk N scope cl C s H fp) elt te)
  (r:swapsWith (.ListComp elt [⟨tg,iter,ifs,0⟩] scope pos) (some (.Name y py)) spos.line X.env=pure true:=by rfl)
  (Z:∀ x,foldedSetIterable iter X.env x=pure x:=by intro _;rfl):PS X (.Assign [.Name y py] (.ListComp elt [⟨tg,iter,ifs,0⟩] scope pos) spos) (tAsg (ve js wi g tt te) (yn i)):=by
 intro pins s O H D I h
 rw [exec_Assign_Name_used _ _ _ _ r]
 refine wpAny_bind (wpAny_standAt (wpAny_bind ?_))
 show wpAny _ X.A (do let _ <- comprehension (.ListComp elt [⟨tg,iter,ifs,0⟩] scope pos) scope X.env _ (newList []) false (eval iter X.env) (some (assign (.Name y py) X.env))) _ _ s
 refine wpAny_bind (wpAny_mono (wpAny_comprehension_free (use:=some (assign (.Name y py) X.env)) (Q:=fun _ f=>SP X pins D .next f) rfl Z K.clos K.kind K.names
  (thn (hi pins s O H _ I h) fun v s1 h1=>thn h1 fun a0 s2 h2=>?_)) (fun _ f t=>wpAny_pure (wpAny_pure t)) fun _ _ e=>e)
 obtain ⟨it,fp,tn,J,H2,e,I2,T,u,f2,t⟩:=h2
 subst e
 refine YY (RR:=fun acc C=>compPost (model X.prog X.w) X.A X.xe (some (assign (.Name y py) X.env)) (fun _ f=>SP X pins D .next f) acc C) S K I2 T u f2 V W fE t ?_
 intro P l f H' O' j f3 B q
 have I':Inv X pins O H' f:=fG8 j f3 B (Heap.SameBut.refl ..)
 obtain ⟨m,hn,_⟩:=B.loc
 have R:l.heap.objs.size≠X.env.locals:=Ne.symm (aL j.lt)
 have d:∀ x c,X.env.cells.lookup x=some c->c≠l.heap.objs.size:=fun x c e z=>by
  obtain ⟨v,q⟩:=j.cell x c e
  exact absurd q.lt (by rw [z];exact bN _)
 show wpAny _ X.A (assign (.Name y py) X.env (.ref P)) _ _ _
 refine wpAny_assign_Name (Yy I' fG n (.inl fF) (v:=.ref P) rfl (fun E F ⟨a,G,k⟩=>?_) (.inr fF))
 have L:l.heap.objs.size≠a:=by
  rcases k with k | k
  ·rw [k];exact R
  ·exact Ne.symm (d y a k)
 refine ⟨m,hn.sameBut G L,fun h3 M=>?_⟩
 refine ⟨_,H',F.turned (t':=E.toks) (it:=l.heap.objs.size) (fun b o hb e=>(M.2 b hb).trans e) B.free R (.inr j.sz) d (fun p hp z=>?_),q⟩
 exact absurd (aE (j.pin p hp).1) (by rw [z];exact bN _)
end
structure zz (P:Program) (w:World) (K:aA) (mg:Str->Option Value) (base:Heap) (CX:CXT) (x:Str) (ps:List Str) (k:Nat) (sp:Sp):Prop where
 ex:∃ f fd,FnOk P w K mg base CX k f fd ps sp/\mg x=some (.ref f)/\PySem.W.keepIn K (.ref f)=true/\xg K fd ps []
section
variable {X:Cx} {CX:CXT} {k:Nat} {ps:List Str} {sp:Sp} {E:XK} {x:Str} {p pos:Pos} {e:Expr} {es:List Expr} {t:TA}
theorem zez (C:zz X.prog X.w X.K X.mg X.base CX x ps k sp) (c:Room k X.A) (d:Gl X x) (g:Wi CX X E) (i:PA X (e :: es) t)
  (a:(x == ("__debug__" : Str))=false:=by decide) (j:starEach (e :: es) X.env=(false,eval e X.env) :: starEach es X.env:=by rfl) (b:(backTo pos (starEach es X.env)).any (·.1)=false:=by rfl) :
  PE X (.Call (.Name x p) (e :: es) [] pos) (v6 sp [] E t):=by
 intro pins s O H Q I h
 obtain ⟨f,fd,F,l,m,n⟩:=C.ex
 exact (zbM F c d l m n .nil g i a j b) pins s O H Q I h
end
theorem vM.of (clos:closureFor scope X.env=pure cl) (b:(scope.names.all fun y=>y.2 != .cell)=true) (kind:scope.kind=.function)
  (c:(scope.names.all fun y=>y.2 != .local || (scope.names.lookup y.1 == some .local))=true) (cells:∀ p∈cl,X.env.cells.lookup p.1=some p.2) (has:(scope.names.all fun y=>y.2 != .free || (cl.lookup y.1).isSome)=true)
  (len:js.length=N.length) (cap:((js.zip N).all fun p=>match p.1 with | none=>true | some j=>(X.N[j]? == some p.2) && (scope.names.lookup p.2 == some .free) && (X.env.scope.names.lookup p.2 == some .cell || X.env.scope.names.lookup p.2 == some .free))=true):vM X N scope cl js:=by
 rw [cC] at b c has cap
 refine ⟨clos,fun y a=>by simpa using b y a,kind,fun y a e=>?_,cells,fun y a e=>?_,len,fun i j e=>?_⟩
 ·have q:=c y a
  rw [e] at q
  simpa using q
 ·have q:=has y a
  rw [e] at q
  simpa using q
 ·have hi:i < js.length:=(aP.mp e).1
  have d:N[i]?=some (N[i]'(by omega)):=bD (by omega)
  have f:(js.zip N)[i]?=some (some j,N[i]'(by omega)):=by
   rw [List.getElem?_zip_eq_some]
   exact ⟨e,d⟩
  have q:=cap _ (aS f)
  simp only [Bool.and_eq_true,Bool.or_eq_true,beq_iff_eq] at q
  exact ⟨_,d,q.1.1,q.1.2,q.2⟩
theorem Same.new (h:H p=none) (o:HO):Same H (upd H p o):=fun b u q=>by rw [zp (zB q h)];exact q
def Uz (K:aA):Sp:=fun vs H Q _=>∃ (a:Addr) (ns:List Int),vs=[.ref a]/\SqL K H a (ns.map V.int)/\ns.length<=63/\∀ H',Q (.bl true) H'
theorem fG1 {K:aA} {H:Hp}:∀ ns:List Int,zO K H (ns.map V.int) (ns.map PyData.int)
 | []=>.nil
 | n :: r=>.cons (.int n) (fG1 r)
section
variable {X:Cx} {K:aA}
theorem zu (a:X.K=K):IxR X (rIxL K):=by subst a;exact zb6
theorem yE (a:X.K=K):IxR X (rIxT K):=by subst a;exact zdV
theorem zm (a:X.K=K):yq X (.builtin "len") (fun xs H Q=>∃ p ys,xs=[.ref p]/\(SqL K H p ys\/SqT K H p ys)/\Q (.int ys.length) H):=by subst a;exact We
theorem yR (a:X.K=K):yq X (.type "list") (fun xs H Q=>∃ p ys,xs=[.ref p]/\(SqL K H p ys\/SqT K H p ys)/\∀ l,H l=none->Q (.ref l) (upd H l (.lst ys))):=by subst a;exact Wd
theorem XI (a:X.K=K) (b:X.A.units + 64 < cLine):OpR X (compareOp .Eq) (rEqD K false):=by subst a;exact zdF b
theorem zbO (a:X.K=K) (b:X.A.units + 64 < cLine):OpR X (compareOp .NotEq) (rEqD K true):=by subst a;exact zdD b
theorem ux (a:X.K=K):SlR X (rSlL K):=by subst a;exact zbv
theorem zG (a:X.K=K):OpR X (compareOp .In) (rIn K false):=by subst a;exact Tz
theorem yd (a:X.K=K):OpR X (compareOp .NotIn) (rIn K true):=by subst a;exact XH
theorem XC (b:X.K=K) (c:X.calm=true) (h:PGs X es t)
  (d:(assignEach es X.env).length=n:=by rfl) (a:(assignEach es X.env).findIdx? (·.1)=none:=by rfl):PG X (.Tuple es k pos) (gTup K n t):=by subst b;exact zdx c h d a
end
end L2
namespace L2
open PySem PySem.Spec PyProof.Rows PySem.SeqAt
section
variable {X:Cx} {K:aA}
def rNeS (K:aA):R2:=fun x y H Q=>∃ d,Dp K H x d/\Dp K H y d/\shaped d=true/\Q (.bl false) H
theorem zdC (a:X.A.units + 64 < cLine):OpR X (compareOp .NotEq) (rNeS X.K):=by
 intro pins s O H x y v u Q I b c h
 obtain ⟨d,e,f,z,q⟩:=h
 obtain ⟨as,g⟩:=e.reads I b
 obtain ⟨bs,i⟩:=f.reads I c
 refine ne_dataH g i z z a ?_
 rw [eqv_refl d (canLay_of_shaped z)]
 exact ⟨.bl false,H,I,rfl,q⟩
theorem UF (a:X.K=K) (b:X.A.units + 64 < cLine):OpR X (compareOp .NotEq) (rNeS K):=by subst a;exact zdC b
end
end L2
namespace L2
open PySem PySem.Spec PyProof.Rows
section
end
end L2
namespace Cm
open PySem L2
theorem take_succ {a:Type} {xs:List a} {i:Nat} {x:a} (h:xs[i]?=some x):xs.take (i + 1)=xs.take i ++ [x]:=by
 rw [List.take_add_one,h];rfl
theorem zK (F:Fun K x x st f fd) (a:mg x=some (.ref f)) (b:xg K fd ps []) (G:FnOk P w K mg base CX0 k f fd ps sp) :
  zz P w K mg base CX0 x ps k sp:=⟨f,fd,G,a,F.kp,b⟩
structure At (K:aA) (x:Str) (st:Stmt) (f:Addr) (fd:FuncData):Prop where
 ns:PySem.W.nsIn K mainGlobals x=some (some (.ref f))
 fn:Fun K x x st f fd
theorem Xf {K:aA} {x:Str} {st:Stmt} {f:Addr} {oc:Value} {od an:Option Addr} {osl:Array (Option Value)} {kV doc pm cdv ct:Value} (a:PySem.W.nsIn K mainGlobals x=some (some (.ref f)))
  (l:K.lookup f=some ⟨oc,od,.func (PySem.W.fnOf x x (wg st) (xB st) (zo st) .none kV doc pm an cdv ct),osl⟩) (c:PySem.W.codeIn K cdv x=true) (k:PySem.W.keepIn K (.ref f)=true):∃ f fd,At K x st f fd:=⟨f,_,a,V9 l c k⟩
theorem Z3:∀ ns:List Int,PyData.depthAll (ns.map .int)=0
 | []=>rfl
 | n :: r=>by
  show max (PyData.depth (.int n)) (PyData.depthAll (r.map .int))=0
  rw [Z3 r];rfl
theorem tR (ns:List Int):PySem.SeqAt.shaped (.list (ns.map .int))=true:=by
 unfold PySem.SeqAt.shaped
 have a:PyData.canLay0 (.list (ns.map .int))=true:=by
  show PyData.canLayAll0 (ns.map .int)=true
  induction ns with
  | nil=>rfl
  | cons n r b =>
   show (PyData.canLay0 (.int n) && PyData.canLayAll0 (r.map .int))=true
   rw [b];rfl
 have c:PyData.depth (.list (ns.map .int))=1:=by
  show PyData.depthAll (ns.map .int) + 1=1
  rw [Z3]
 rw [a,c];rfl
end Cm
namespace PD
open PySem L2
variable {K:aA}
theorem Same.seqT (e:Same H H') (h:SqT K H a xs):SqT K H' a xs:=by
 rcases h with (h | ⟨o,h⟩) | h
 ·exact .inl (.inl (e _ _ h))
 ·exact .inl (.inr ⟨o,e _ _ h⟩)
 ·exact .inr h
mutual
theorem yT (e:Same F F'):∀ {v:V} {d:PyData},Dp K F v d->Dp K F' v d
 | _,_,.non=>.non
 | _,_,.bl b=>.bl b
 | _,_,.int i=>.int i
 | _,_,.str x=>.str x
 | _,_,.lst h k=>.lst (e.seq h) (xw e k)
 | _,_,.tup h k=>.tup (Same.seqT e h) (xw e k)
theorem xw (e:Same F F'):∀ {vs:List V} {ds:List PyData},zO K F vs ds->zO K F' vs ds
 | _,_,.nil=>.nil
 | _,_,.cons h k=>.cons (yT e h) (xw e k)
end
theorem zO.length:∀ {vs:List V} {ds:List PyData},zO K F vs ds->vs.length=ds.length
 | _,_,.nil=>rfl
 | _,_,.cons _ k=>congrArg (· + 1) (zO.length k)
theorem zO.get:∀ {vs:List V} {ds:List PyData} {i:Nat} {d:PyData},zO K F vs ds->ds[i]?=some d->∃ v,vs[i]?=some v/\Dp K F v d
 | _,_,_,_,.nil,e=>by simp at e
 | _,_,0,_,.cons h _,e=>by simp at e;subst e;exact ⟨_,rfl,h⟩
 | _,_,i + 1,d,.cons _ k,e=>by
  obtain ⟨v,a,b⟩:=zO.get (i:=i) k (by simpa using e)
  exact ⟨v,by simpa using a,b⟩
theorem w6 (ns:List Int):zO K F (ns.map V.int) (ns.map PyData.int):=fG1 ns
theorem zX:∀ {vs:List V} {ns:List Int},zO K F vs (ns.map PyData.int)->vs=ns.map V.int
 | _,[],.nil=>rfl
 | _,n :: r,.cons h t=>by cases h;rw [bB,zX t]
theorem wA (h:Dp K F v (.int i)):v=.int i:=by cases h;rfl
theorem zeH (h:Dp K F v (.bool b)):v=.bl b:=by cases h;rfl
theorem Wa (h:Dp K F v (.str x)):v=.str x:=by cases h;rfl
theorem zd5 (h:Dp K F v (.list ds)):∃ a vs,v=.ref a/\SqL K F a vs/\zO K F vs ds:=by cases h with | lst h k=>exact ⟨_,_,rfl,h,k⟩
theorem zd4 (h:Dp K F v (.tuple ds)):∃ a vs,v=.ref a/\SqT K F a vs/\zO K F vs ds:=by cases h with | tup h k=>exact ⟨_,_,rfl,h,k⟩
structure Gr (H F H' F':Hp):Prop where
 h:Same H H'
 f:Same F F'
 le:Same F' H'
 ap:∀ a o,H a=some o->F a=none->F' a=none
theorem Gr.refl (le:Same F H):Gr H F H F:=⟨.refl _,.refl _,le,fun _ _ _ h=>h⟩
theorem Gr.trans (a:Gr H F H1 F1) (b:Gr H1 F1 H2 F2):Gr H F H2 F2:=⟨a.h.trans b.h,a.f.trans b.f,b.le,fun c o q n=>b.ap c o (a.h _ _ q) (a.ap c o q n)⟩
theorem Gr.new (le:Same F H) (a:H p=none) (o:HO):Gr H F (upd H p o) (upd F p o):=by
 have fp:F p=none:=le.free a
 refine ⟨Same.new a o,Same.new fp o,fun b u q=>?_,fun b u q n=>?_⟩
 ·by_cases e:b=p
  ·subst e;rw [zi] at q ⊢;exact q
  ·rw [zp e] at q ⊢;exact le _ _ q
 ·rw [zp (zB q a)];exact n
theorem Gr.newO (le:Same F H) (a:H p=none) (o:HO):Gr H F (upd H p o) F:=⟨Same.new a o,.refl _,fun b u q=>by rw [zp (zB (le _ _ q) a)];exact le _ _ q,fun _ _ _ n=>n⟩
inductive Sx where
 | fresh | spoil (T:Addr->Prop)
def Sx.has (S:Sx) (H0:Hp) (a:Addr):Prop:=match S with | .fresh=>H0 a≠none | .spoil T=>H0 a≠none\/T a
def LN (K:aA) (U:Bool) (S:Sx) (H0 F:Hp) (a:Addr) (xs:List V):Prop:=match U with
 | true=>F a=some (.lst xs)/\¬ S.has H0 a
 | false=>SqL K F a xs
theorem LN.sq (h:LN K U S H0 F a xs):SqL K F a xs:=by
 cases U with
 | true=>exact SqL.of h.1
 | false=>exact h
theorem LN.mono (h:LN K U S H0 F a xs) (e:Same F F'):LN K U S H0 F' a xs:=by
 cases U with
 | true=>exact ⟨e _ _ h.1,h.2⟩
 | false=>exact e.seq h
theorem LN.new (h:¬ S.has H0 a):LN K U S H0 (upd F a (.lst xs)) a xs:=by
 cases U with
 | true=>exact ⟨zi,h⟩
 | false=>exact SqL.of zi
mutual
inductive Rp (K:aA) (U:Bool) (S:Sx) (H0 F:Hp):V->PyData->Prop
 | non:Rp K U S H0 F .non .none
 | bl (b:Bool):Rp K U S H0 F (.bl b) (.bool b)
 | int (i:Int):Rp K U S H0 F (.int i) (.int i)
 | str (x:Str):Rp K U S H0 F (.str x) (.str x)
 | lst {a:Addr} {xs:List V} {ds:List PyData}:LN K U S H0 F a xs->zv K U S H0 F xs ds->Rp K U S H0 F (.ref a) (.list ds)
 | tup {a:Addr} {xs:List V} {ds:List PyData}:SqT K F a xs->zv K U S H0 F xs ds->Rp K U S H0 F (.ref a) (.tuple ds)
inductive zv (K:aA) (U:Bool) (S:Sx) (H0 F:Hp):List V->List PyData->Prop
 | nil:zv K U S H0 F [] []
 | cons {v:V} {vs:List V} {d:PyData} {ds:List PyData}:Rp K U S H0 F v d->zv K U S H0 F vs ds->zv K U S H0 F (v :: vs) (d :: ds)
end
section
variable {U U':Bool} {S S':Sx} {H0 H0' F F':Hp}
mutual
theorem xS (c:∀ a xs,LN K U S H0 F a xs->LN K U' S' H0' F' a xs) (e:∀ a xs,SqT K F a xs->SqT K F' a xs):∀ {v:V} {d:PyData},Rp K U S H0 F v d->Rp K U' S' H0' F' v d
 | _,_,.non=>.non
 | _,_,.bl b=>.bl b
 | _,_,.int i=>.int i
 | _,_,.str x=>.str x
 | _,_,.lst h k=>.lst (c _ _ h) (xm c e k)
 | _,_,.tup h k=>.tup (e _ _ h) (xm c e k)
theorem xm (b:∀ a xs,LN K U S H0 F a xs->LN K U' S' H0' F' a xs) (c:∀ a xs,SqT K F a xs->SqT K F' a xs):∀ {vs:List V} {ds:List PyData},zv K U S H0 F vs ds->zv K U' S' H0' F' vs ds
 | _,_,.nil=>.nil
 | _,_,.cons h k=>.cons (xS b c h) (xm b c k)
end
theorem yA (e:Same F F') (h:Rp K U S H0 F v d):Rp K U S H0 F' v d:=xS (fun _ _ z=>z.mono e) (fun _ _ z=>Same.seqT e z) h
theorem zw (e:Same F F') (h:zv K U S H0 F vs ds):zv K U S H0 F' vs ds:=xm (fun _ _ z=>z.mono e) (fun _ _ z=>Same.seqT e z) h
mutual
theorem yW:∀ {v:V} {d:PyData},Rp K U S H0 F v d->Dp K F v d
 | _,_,.non=>.non
 | _,_,.bl b=>.bl b
 | _,_,.int i=>.int i
 | _,_,.str x=>.str x
 | _,_,.lst h k=>.lst h.sq (zP k)
 | _,_,.tup h k=>.tup h (zP k)
theorem zP:∀ {vs:List V} {ds:List PyData},zv K U S H0 F vs ds->zO K F vs ds
 | _,_,.nil=>.nil
 | _,_,.cons h k=>.cons (yW h) (zP k)
end
mutual
theorem uc:∀ {v:V} {d:PyData},Dp K F v d->Rp K false S H0 F v d
 | _,_,.non=>.non
 | _,_,.bl b=>.bl b
 | _,_,.int i=>.int i
 | _,_,.str x=>.str x
 | _,_,.lst h k=>.lst h (uZ k)
 | _,_,.tup h k=>.tup h (uZ k)
theorem uZ:∀ {vs:List V} {ds:List PyData},zO K F vs ds->zv K false S H0 F vs ds
 | _,_,.nil=>.nil
 | _,_,.cons h k=>.cons (uc h) (uZ k)
end
theorem uB (a:U'=true->U=true) (h:Rp K U S H0 F v d):Rp K U' S H0 F v d:=by
 cases U' with
 | false=>exact uc (yW h)
 | true=>rw [a rfl] at h;exact h
theorem zv.length (h:zv K U S H0 F vs ds):vs.length=ds.length:=zO.length (zP h)
theorem zv.get:∀ {vs:List V} {ds:List PyData} {i:Nat} {d:PyData},zv K U S H0 F vs ds->ds[i]?=some d->∃ v,vs[i]?=some v/\Rp K U S H0 F v d
 | _,_,_,_,.nil,e=>by simp at e
 | _,_,0,_,.cons h _,e=>by simp at e;subst e;exact ⟨_,rfl,h⟩
 | _,_,i + 1,d,.cons _ k,e=>by
  obtain ⟨v,a,b⟩:=zv.get (i:=i) k (by simpa using e)
  exact ⟨v,by simpa using a,b⟩
theorem zv.get':∀ {vs:List V} {ds:List PyData} {i:Nat} {v:V},zv K U S H0 F vs ds->vs[i]?=some v->∃ d,ds[i]?=some d/\Rp K U S H0 F v d
 | _,_,_,_,.nil,e=>by simp at e
 | _,_,0,_,.cons h _,e=>by simp at e;subst e;exact ⟨_,rfl,h⟩
 | _,_,i + 1,d,.cons _ k,e=>by
  obtain ⟨v,a,b⟩:=zv.get' (i:=i) k (by simpa using e)
  exact ⟨v,by simpa using a,b⟩
theorem zv.append:∀ {vs ws:List V} {ds a:List PyData},zv K U S H0 F vs ds->zv K U S H0 F ws a->zv K U S H0 F (vs ++ ws) (ds ++ a)
 | _,_,_,_,.nil,k=>k
 | _,_,_,_,.cons h t,k=>.cons h (zv.append t k)
theorem zv.take:∀ {vs:List V} {ds:List PyData} (n:Nat),zv K U S H0 F vs ds->zv K U S H0 F (vs.take n) (ds.take n)
 | _,_,0,_=>.nil
 | _,_,_ + 1,.nil=>.nil
 | _,_,n + 1,.cons h t=>.cons h (zv.take n t)
theorem zv.drop:∀ {vs:List V} {ds:List PyData} (n:Nat),zv K U S H0 F vs ds->zv K U S H0 F (vs.drop n) (ds.drop n)
 | _,_,0,r=>r
 | _,_,_ + 1,.nil=>.nil
 | _,_,n + 1,.cons _ t=>zv.drop n t
theorem ym (h:Rp K U S H0 F v (.int i)):v=.int i:=by cases h;rfl
theorem uC (h:Rp K U S H0 F v (.bool b)):v=.bl b:=by cases h;rfl
theorem tE (h:Rp K U S H0 F v (.list ds)):∃ a vs,v=.ref a/\LN K U S H0 F a vs/\zv K U S H0 F vs ds:=by cases h with | lst h k=>exact ⟨_,_,rfl,h,k⟩
theorem uf (h:Rp K U S H0 F v (.tuple ds)):∃ a vs,v=.ref a/\SqT K F a vs/\zv K U S H0 F vs ds:=by cases h with | tup h k=>exact ⟨_,_,rfl,h,k⟩
end
def imm:PyData->Bool
 | .none=>true
 | .bool _=>true
 | .int _=>true
 | .str _=>true
 | .tuple ds=>immAll ds
 | _=>false
where immAll:List PyData->Bool
 | []=>true
 | d :: r=>imm d && immAll r
mutual
theorem Z2:∀ {v:V} {d:PyData},imm d=true->Dp K F v d->Rp K U S H0 F v d
 | _,_,_,.non=>.non
 | _,_,_,.bl b=>.bl b
 | _,_,_,.int i=>.int i
 | _,_,_,.str x=>.str x
 | _,_,h,.lst _ _=>by unfold imm at h;cases h
 | _,_,h,.tup q k=>.tup q (tN (by unfold imm at h;exact h) k)
theorem tN:∀ {vs:List V} {ds:List PyData},imm.immAll ds=true->zO K F vs ds->zv K U S H0 F vs ds
 | _,_,_,.nil=>.nil
 | _,_,h,.cons p k=>by
  unfold imm.immAll at h
  rw [eE] at h
  exact .cons (Z2 h.1 p) (tN h.2 k)
end
theorem x6 (h:∀ d∈ds,imm d=true) (k:zO K F vs ds):zv K U S H0 F vs ds:=by
 refine tN ?_ k
 clear k
 induction ds with
 | nil=>rfl
 | cons d r a =>
  unfold imm.immAll
  rw [h d aK,a fun x b=>h x (bA _ b)]
  rfl
inductive DV where
 | fz (U:Bool) (d:PyData) | ow (U:Bool) (ds:List PyData) | tn (d:PyData) | ox | o2 (r:Option Addr) (dss:List (List PyData)) | fn (a:Addr) | xn (o:Addr->HO) | oa (a:Addr) (U:Bool) (ds:List PyData) | xp (φ:Hp->V->Prop) | od (o:HO) | og (ad:Hp->V->Addr->Prop) (ψ:Sx->Hp->Hp->Hp->V->Prop)
abbrev Ctx:=List (Option DV)
structure OwnO (S:Sx) (H0 H F:Hp) (a:Addr) (o:HO):Prop where
 h:H a=some o
 f:F a=none
 n:H0 a=none
 s:¬ S.has H0 a
abbrev vj (S:Sx) (H0 H F:Hp) (a:Addr) (vs:List V):Prop:=OwnO S H0 H F a (.lst vs)
structure IdA (r:Option Addr) (v:V) (a:Addr):Prop where
 eq:v=.ref a
 id:∀ b,r=some b->a=b
structure GOk (ad:Hp->V->Addr->Prop) (ψ:Sx->Hp->Hp->Hp->V->Prop):Prop where
 pl:∀ H H' v,(∀ a,ad H v a->H' a=H a)->∀ a,ad H' v a↔ad H v a
 ps:∀ S H0 H H' F F' v,(∀ a,ad H v a->H' a=H a)->Same F F'->ψ S H0 H F v->ψ S H0 H' F' v
def HasV (K:aA) (S:Sx) (H0 H F:Hp) (v:V):DV->Prop
 | .fz U d=>Rp K U S H0 F v d
 | .ow U ds=>∃ a vs,v=.ref a/\vj S H0 H F a vs/\zv K U S H0 F vs ds
 | .tn d=>∃ T,S=.spoil T/\Rp K true (.spoil fun a=>¬ T a) (fun _=>none) F v d
 | .ox=>∃ a vs,v=.ref a/\vj S H0 H F a vs
 | .fn a=>v=.ref a
 | .xn o=>∃ a,v=.ref a/\F a=some (o a)
 | .oa a U ds=>v=.ref a/\∃ vs,vj S H0 H F a vs/\zv K U S H0 F vs ds
 | .xp φ=>∃ F1,Same F1 F/\φ F1 v
 | .od o=>∃ a,v=.ref a/\OwnO S H0 H F a o
 | .og ad ψ=>GOk ad ψ/\(∀ a,ad H v a->∃ o,OwnO S H0 H F a o)/\ψ S H0 H F v
 | .o2 r dss=>∃ a vs,IdA r v a/\vj S H0 H F a vs/\V.ref a∉vs/\vs.Nodup/\vs.length=dss.length/\∀ (j:Nat) x,vs[j]?=some x->∃ b us ds,x=.ref b/\vj S H0 H F b us/\dss[j]?=some ds/\zv K true S H0 F us ds
def Owns (H:Hp) (v:V):DV->Addr->Prop
 | .ow _ _,a=>v=.ref a
 | .ox,a=>v=.ref a
 | .oa _ _ _,a=>v=.ref a
 | .od _,a=>v=.ref a
 | .og ad _,a=>ad H v a
 | .o2 _ _,a=>v=.ref a\/∃ p vs,v=.ref p/\H p=some (.lst vs)/\V.ref a∈vs
 | _,_=>False
structure DEnv (K:aA) (S:Sx) (H0 F0 H F:Hp) (O:St) (Y:Ctx):Prop where
 gr:Gr H0 F0 H F
 l0:Same F0 H0
 sd:∀ a,S.has H0 a->∃ o,H a=some o
 s0:∀ T,S=.spoil T->∀ a,T a->H0 a=none
 len:O.length=Y.length
 has:∀ (i:Nat) (x:DV),Y[i]?=some (some x)->∃ v,O[i]?=some (some v)/\HasV K S H0 H F v x
 ne:∀ (i j:Nat) (x y:DV) (v w:V) (a:Addr),Y[i]?=some (some x)->Y[j]?=some (some y)->O[i]?=some (some v)->O[j]?=some (some w)->Owns H v x a->Owns H w y a->i=j
variable {S:Sx} {U:Bool}
theorem DEnv.le (e:DEnv K S H0 F0 H F O Y):Same F H:=e.gr.le
theorem DEnv.out (e:DEnv K S H0 F0 H F O Y) (a:H p=none):¬ S.has H0 p:=fun c=>by
 obtain ⟨o,q⟩:=e.sd p c
 rw [a] at q;cases q
theorem OwnO.mono (o:OwnO S H0 H F a u) (g:Gr H F H' F'):OwnO S H0 H' F' a u:=⟨g.h _ _ o.h,g.ap _ _ o.h o.f,o.n,o.s⟩
theorem HasV.mono (h:HasV K S H0 H F v x) (g:Gr H F H' F'):HasV K S H0 H' F' v x:=by
 cases x with
 | fz U d=>exact yA g.f h
 | ow U ds=>obtain ⟨a,vs,e,o,k⟩:=h;exact ⟨a,vs,e,o.mono g,zw g.f k⟩
 | tn d=>obtain ⟨T,e,k⟩:=h;exact ⟨T,e,yA g.f k⟩
 | ox=>obtain ⟨a,vs,e,o⟩:=h;exact ⟨a,vs,e,o.mono g⟩
 | o2 r dss =>
  obtain ⟨a,vs,e,o,c,i,l,k⟩:=h
  refine ⟨a,vs,e,o.mono g,c,i,l,fun j x m=>?_⟩
  obtain ⟨b,us,ds,n,o2,q,t⟩:=k j x m
  exact ⟨b,us,ds,n,o2.mono g,q,zw g.f t⟩
 | fn a=>exact h
 | xn φ=>obtain ⟨a,e,k⟩:=h;exact ⟨a,e,g.f _ _ k⟩
 | oa a U ds=>obtain ⟨e,vs,o,k⟩:=h;exact ⟨e,vs,o.mono g,zw g.f k⟩
 | xp φ=>obtain ⟨A,s,k⟩:=h;exact ⟨A,s.trans g.f,k⟩
 | od u=>obtain ⟨a,e,o⟩:=h;exact ⟨a,e,o.mono g⟩
 | og ad ψ =>
  obtain ⟨ok,w,p⟩:=h
  have eq:∀ a,ad H v a->H' a=H a:=fun a z=>by
   obtain ⟨o,y⟩:=w a z
   rw [y.h]
   exact g.h _ _ y.h
  refine ⟨ok,fun a z=>?_,ok.ps S H0 H H' F F' v eq g.f p⟩
  obtain ⟨o,y⟩:=w a ((ok.pl H H' v eq a).mp z)
  exact ⟨o,y.mono g⟩
theorem HasV.owns (h:HasV K S H0 H F v x) (o:Owns H v x a):∃ u,OwnO S H0 H F a u:=by
 cases x with
 | fz _ _=>exact o.elim
 | tn _=>exact o.elim
 | ow U ds=>obtain ⟨b,vs,e,w,_⟩:=h;cases (show v=.ref a from o);cases e;exact ⟨_,w⟩
 | ox=>obtain ⟨b,vs,e,w⟩:=h;cases (show v=.ref a from o);cases e;exact ⟨_,w⟩
 | o2 r dss =>
  obtain ⟨b,vs,e,w,_,_,_,k⟩:=h
  rcases o with o | ⟨p,us,f,g,i⟩
  ·cases o;cases e.eq;exact ⟨_,w⟩
  ·cases e.eq
   cases f
   have d:=w.h
   rw [g] at d
   cases d
   obtain ⟨j,l⟩:=dV.mp i
   obtain ⟨c,ws,ds,m,n,_⟩:=k j _ l
   cases m
   exact ⟨_,n⟩
 | fn _=>exact o.elim
 | xn _=>exact o.elim
 | oa b U ds=>obtain ⟨e,vs,w,_⟩:=h;cases (show v=.ref a from o);cases e;exact ⟨_,w⟩
 | xp _=>exact o.elim
 | od u=>obtain ⟨b,e,w⟩:=h;cases (show v=.ref a from o);cases e;exact ⟨u,w⟩
 | og ad ψ=>exact h.2.1 a o
theorem Owns.back (h:HasV K S H0 H F v x) (g:∀ b u,OwnO S H0 H F b u->H' b=some u) (o:Owns H' v x a):Owns H v x a:=by
 cases x with
 | fz _ _=>exact o.elim
 | tn _=>exact o.elim
 | ow U ds=>exact o
 | ox=>exact o
 | o2 r dss =>
  rcases o with o | ⟨p,us,c,d,f⟩
  ·exact .inl o
  ·obtain ⟨b,vs,i,w,_⟩:=h
   have e:=i.eq
   rw [c] at e
   cases e
   rw [g _ _ w] at d
   cases d
   exact .inr ⟨p,_,c,w.h,f⟩
 | fn _=>exact o.elim
 | xn _=>exact o.elim
 | oa b U ds=>exact o
 | xp _=>exact o.elim
 | od _=>exact o
 | og ad ψ =>
  obtain ⟨ok,w,p⟩:=h
  exact (ok.pl H H' v (fun b z=>by
   obtain ⟨u,y⟩:=w b z
   rw [g _ _ y,y.h]) a).mp o
theorem DEnv.mono (e:DEnv K S H0 F0 H F O Y) (g:Gr H F H' F'):DEnv K S H0 F0 H' F' O Y where
 gr:=e.gr.trans g
 l0:=e.l0
 sd:=fun a h=>let ⟨o,q⟩:=e.sd a h;⟨o,g.h _ _ q⟩
 s0:=e.s0
 len:=e.len
 has:=fun i x h=>let ⟨v,a,b⟩:=e.has i x h;⟨v,a,b.mono g⟩
 ne:=fun i j x y v w a c d f k n o2=>by
  obtain ⟨s,l,p⟩:=e.has i x c
  obtain ⟨t,m,r⟩:=e.has j y d
  rw [f] at l
  cases l
  rw [k] at m
  cases m
  exact e.ne i j x y v w a c d f k (n.back p fun _ _ z=>g.h _ _ z.h) (o2.back r fun _ _ z=>g.h _ _ z.h)
section
variable {Y:Ctx}
def EvE (K:aA) (S:Sx) (U:Bool) (t:TE) (Y:Ctx) (d:PyData):Prop:=∀ (H0 F0 H F:Hp) (O:St),DEnv K S H0 F0 H F O Y->∀ Q:VK,(∀ v H' F',Gr H F H' F'->Rp K U S H0 F' v d->Q v H')->t O H Q
def EvO (K:aA) (S:Sx) (U:Bool) (t:TE) (Y:Ctx) (ds:List PyData):Prop:=∀ (H0 F0 H F:Hp) (O:St),DEnv K S H0 F0 H F O Y->∀ Q:VK,(∀ a vs H' F',Gr H F H' F'->H a=none->H' a=some (.lst vs)->F' a=none->zv K U S H0 F' vs ds->Q (.ref a) H')->t O H Q
def EvL (K:aA) (S:Sx) (U:Bool) (t:TE) (Y:Ctx) (ds:List PyData):Prop:=∀ (H0 F0 H F:Hp) (O:St),DEnv K S H0 F0 H F O Y->∀ Q:VK,(∀ a vs H' F',Gr H F H' F'->SqL K H' a vs->zv K U S H0 F' vs ds->Q (.ref a) H')->t O H Q
def EvD (K:aA) (S:Sx) (t:TE) (Y:Ctx) (d:PyData):Prop:=∀ (H0 F0 H F:Hp) (O:St),DEnv K S H0 F0 H F O Y->∀ Q:VK,(∀ v H' F',Gr H F H' F'->Dp K H' v d->Q v H')->t O H Q
def EvT (K:aA) (S:Sx) (t:TT) (Y:Ctx) (b:Bool):Prop:=∀ (H0 F0 H F:Hp) (O:St),DEnv K S H0 F0 H F O Y->∀ Q:Bool->Hp->Prop,(∀ H' F',Gr H F H' F'->Q b H')->t O H Q
def EvA (K:aA) (S:Sx) (U:Bool) (t:TA) (Y:Ctx) (ds:List PyData):Prop:=∀ (H0 F0 H F:Hp) (O:St),DEnv K S H0 F0 H F O Y->∀ Q:List V->Hp->Prop,(∀ vs H' F',Gr H F H' F'->zv K U S H0 F' vs ds->Q vs H')->t O H Q
def EvP (K:aA) (S:Sx) (t:TO) (Y:Ctx) (o:Option Int):Prop:=∀ (H0 F0 H F:Hp) (O:St),DEnv K S H0 F0 H F O Y->∀ Q:Option Int->Hp->Prop,(∀ H' F',Gr H F H' F'->Q o H')->t O H Q
theorem EvE.toD (h:EvE K S U t Y d):EvD K S t Y d:=fun H0 F0 H F O e Q q=>h H0 F0 H F O e Q fun v H' F' g p=>q v H' F' g (yT g.le (yW p))
theorem EvE.weak (h:EvE K S U t Y d) (a:U'=true->U=true):EvE K S U' t Y d:=fun H0 F0 H F O e Q q=>h H0 F0 H F O e Q fun v H' F' g p=>q v H' F' g (uB a p)
theorem EvE.imm (h:EvE K S U t Y d) (a:imm d=true):EvE K S U' t Y d:=fun H0 F0 H F O e Q q=>h H0 F0 H F O e Q fun v H' F' g p=>q v H' F' g (Z2 a (yW p))
theorem EvE.toL (h:EvE K S U t Y (.list ds)):EvL K S U t Y ds:=fun H0 F0 H F O e Q q=>h H0 F0 H F O e Q fun v H' F' g p=>by
 obtain ⟨a,vs,rfl,b,c⟩:=tE p
 exact q a vs H' F' g (g.le.seq b.sq) c
theorem EvL.imm (h:EvL K S U t Y ds) (b:∀ d∈ds,imm d=true):EvL K S U' t Y ds:=fun H0 F0 H F O e Q q=>h H0 F0 H F O e Q fun a vs H' F' g p k=>q a vs H' F' g p (x6 b (zP k))
theorem EvO.toL (h:EvO K S U t Y ds):EvL K S U t Y ds:=fun H0 F0 H F O e Q q=>h H0 F0 H F O e Q fun a vs H' F' g _ p _ k=>q a vs H' F' g (SqL.of p) k
theorem EvO.toE (h:EvO K S U t Y ds):EvE K S U t Y (.list ds):=fun H0 F0 H F O e Q q=>h H0 F0 H F O e Q fun a vs H' F' g n p f k=>by
 have s:Same F' (upd F' a (.lst vs)):=Same.new f _
 refine q (.ref a) H' (upd F' a (.lst vs)) ⟨g.h,g.f.trans s,fun b u z=>?_,fun b u z y=>?_⟩ (.lst (LN.new (e.out n)) (zw s k))
 ·by_cases c:b=a
  ·subst c;rw [zi] at z;rw [<- z];exact p
  ·rw [zp c] at z;exact g.le _ _ z
 ·rw [zp (zB z n)];exact g.ap _ _ z y
theorem EvL.toD (h:EvL K S U t Y ds):EvD K S t Y (.list ds):=fun H0 F0 H F O e Q q=>h H0 F0 H F O e Q fun a vs H' F' g p k=>q _ H' F' g (.lst p (xw g.le (zP k)))
theorem zcr (h:Y[i]?=some (some (.ow U ds))):EvL K S U (tVar i) Y ds:=fun H0 F0 H F O e Q q=>by
 obtain ⟨v,b,a,vs,rfl,o,k⟩:=e.has i _ h
 exact ⟨_,b,q a vs H F (.refl e.le) (SqL.of o.h) k⟩
theorem ZV (h:Y[i]?=some (some (.fz U d))):EvE K S U (tVar i) Y d:=fun H0 F0 H F O e Q q=>by
 obtain ⟨v,a,hd⟩:=e.has i _ h
 exact ⟨v,a,q v H F (.refl e.le) hd⟩
theorem zd0 (h:Y[i]?=some (some (.tn d))):EvE K S false (tVar i) Y d:=fun H0 F0 H F O e Q q=>by
 obtain ⟨v,a,T,_,hd⟩:=e.has i _ h
 exact ⟨v,a,q v H F (.refl e.le) (uc (yW hd))⟩
theorem xI:EvE K S U (tC (.int i)) Y (.int i):=fun _ _ H F _ e _ q=>q _ H F (.refl e.le) (.int i)
theorem zeG:EvE K S U (tC (.bl b)) Y (.bool b):=fun _ _ H F _ e _ q=>q _ H F (.refl e.le) (.bl b)
theorem zaI:EvE K S U (tC .non) Y .none:=fun _ _ H F _ e _ q=>q _ H F (.refl e.le) .non
theorem ZX:EvE K S U (tC (.str x)) Y (.str x):=fun _ _ H F _ e _ q=>q _ H F (.refl e.le) (.str x)
theorem YU (h:EvE K S false ta Y x) (i:EvE K S false tb Y y) (j:∀ v w H F (Q:VK),Same F H->Dp K F v x->Dp K F w y->(∀ z,(∀ F,Dp K F z d)->Q z H)->r v w H Q) (hi:imm d=true:=by rfl):EvE K S U (tOp r ta tb) Y d:=fun H0 F0 H F O e Q q =>
 h H0 F0 H F O e _ fun v k l c m=>i H0 F0 k l O (e.mono c) _ fun w g a b n=>by
  exact j v w g a Q b.le (yT b.f (yW m)) (yW n) fun z o=>q z g a (c.trans b) (Z2 hi (o a))
theorem Ve (hi:imm d=true) (a:∀ F,Dp K F (g i j) d) (b:EvE K S false ta Y (.int i)) (c:EvE K S false tb Y (.int j)):EvE K S U (tOp (rI0 g) ta tb) Y d :=
 YU b c (fun v w H F Q le e f k=>by cases wA e;cases wA f;exact ⟨i,j,rfl,rfl,k _ a⟩) hi
theorem ev_I (hi:imm d=true) (a:∀ F,Dp K F (g i j) d) (b:EvE K S false ta Y (.int i)) (c:EvE K S false tb Y (.int j)) (e:C i j):EvE K S U (tOp (rI C g) ta tb) Y d :=
 YU b c (fun v w H F Q le f h k=>by cases wA f;cases wA h;exact ⟨i,j,rfl,rfl,e,k _ a⟩) hi
theorem wx (a:EvE K S false ta Y (.int i)) (b:EvE K S false tb Y (.int j)):EvE K S U (tOp (rI0 fun i j=>.int (i + j)) ta tb) Y (.int (i + j)):=Ve rfl (fun _=>.int _) a b
theorem ZW (a:EvE K S false ta Y (.int i)) (b:EvE K S false tb Y (.int j)):EvE K S U (tOp (rI0 fun i j=>.int (i - j)) ta tb) Y (.int (i - j)):=Ve rfl (fun _=>.int _) a b
theorem YV (a:EvE K S false ta Y (.int i)) (b:EvE K S false tb Y (.int j)):EvE K S U (tOp (rI0 fun i j=>.bl (decide (i < j))) ta tb) Y (.bool (decide (i < j))):=Ve rfl (fun _=>.bl _) a b
theorem t7 (a:EvE K S false ta Y (.int i)) (b:EvE K S false tb Y (.int j)):EvE K S U (tOp (rI0 fun i j=>.bl (decide (j < i))) ta tb) Y (.bool (decide (j < i))):=Ve rfl (fun _=>.bl _) a b
theorem zc7 (a:EvE K S false ta Y (.int i)) (b:EvE K S false tb Y (.int j)):EvE K S U (tOp (rI0 fun i j=>.bl (decide (j<=i))) ta tb) Y (.bool (decide (j<=i))):=Ve rfl (fun _=>.bl _) a b
theorem X6 (a:EvE K S false ta Y (.int i)) (b:EvE K S false tb Y (.int j)) (c:IntMulOk i j):EvE K S U (tOp (rI IntMulOk fun i j=>.int (i * j)) ta tb) Y (.int (i * j)):=ev_I rfl (fun _=>.int _) a b c
theorem uX (a:EvE K S false ta Y (.int i)) (b:EvE K S false tb Y (.int j)) (c:CDiv i j):EvE K S U (tOp (rI CDiv fun i j=>.int (i / j)) ta tb) Y (.int (i / j)):=ev_I rfl (fun _=>.int _) a b c
theorem xH (a:EvE K S false ta Y (.int i)) (b:EvE K S false tb Y (.int j)) (c:0 < j):EvE K S U (tOp (rI (fun _ j=>0 < j) fun i j=>.int (i % j)) ta tb) Y (.int (i % j)):=ev_I rfl (fun _=>.int _) a b c
theorem uo (a:EvE K S false ta Y (.int i)):EvE K S U (tUn (rU fun i=>.int (-i)) ta) Y (.int (-i)):=fun H0 F0 H F O e Q q =>
 a H0 F0 H F O e _ fun v b c d f=>by cases ym f;exact ⟨i,rfl,q _ b c d (.int _)⟩
theorem u7 (i j:Int):decide (V.int i=V.int j)=decide (i=j):=by by_cases h:i=j <;> simp [h]
theorem u6 (i j:Str):decide (V.str i=V.str j)=decide (i=j):=by by_cases h:i=j <;> simp [h]
theorem ur (a:EvE K S false ta Y (.int i)) (b:EvE K S false tb Y (.int j)):EvE K S U (tOp rEq ta tb) Y (.bool (decide (i=j))) :=
 YU a b fun v w H F Q le c d k=>by
  cases wA c;cases wA d
  refine ⟨rfl,?_⟩
  rw [u7];exact k _ fun _=>.bl _
theorem zaM (a:EvE K S false ta Y (.str i)) (b:EvE K S false tb Y (.str j)):EvE K S U (tOp rEq ta tb) Y (.bool (decide (i=j))) :=
 YU a b fun v w H F Q le c d k=>by
  cases Wa c;cases Wa d
  refine ⟨rfl,?_⟩
  rw [u6];exact k _ fun _=>.bl _
theorem vG (a:EvE K S false ta Y (.int i)) (b:EvE K S false tb Y (.int j)):EvE K S U (tOp rNe ta tb) Y (.bool (!(decide (i=j)))) :=
 YU a b fun v w H F Q le c d k=>by
  cases wA c;cases wA d
  refine ⟨rfl,?_⟩
  rw [u7];exact k _ fun _=>.bl _
theorem zaJ (a:EvE K S false ta Y (.str i)) (b:EvE K S false tb Y (.str j)):EvE K S U (tOp rNe ta tb) Y (.bool (!(decide (i=j)))) :=
 YU a b fun v w H F Q le c d k=>by
  cases Wa c;cases Wa d
  refine ⟨rfl,?_⟩
  rw [u6];exact k _ fun _=>.bl _
def isNone:PyData->Bool
 | .none=>true
 | _=>false
theorem W3 (h:Dp K F v d):decide (v=.non)=isNone d:=by
 cases h <;> first | rfl | exact decide_eq_false (by intro e;cases e)
theorem tL (a:EvD K S ta Y d):EvE K S U (tOp (fun x y H Q=>y=.non/\Q (.bl (decide (x=.non))) H) ta (tC .non)) Y (.bool (isNone d)):=fun H0 F0 H F O e Q q =>
 a H0 F0 H F O e _ fun v b c f g=>⟨rfl,by rw [W3 g];exact q _ b c f (.bl _)⟩
theorem X5 (a:EvD K S ta Y d):EvE K S U (tOp (fun x y H Q=>y=.non/\Q (.bl (!decide (x=.non))) H) ta (tC .non)) Y (.bool (!isNone d)):=fun H0 F0 H F O e Q q =>
 a H0 F0 H F O e _ fun v b c f g=>⟨rfl,by rw [W3 g];exact q _ b c f (.bl _)⟩
theorem Z0 (c:EvD K S ta Y d) (g:EvD K S tb Y f) (i:SeqAt.shaped d=true) (j:SeqAt.shaped f=true):EvE K S U (tOp (rEqD K neg) ta tb) Y (.bool (if neg then !PyData.eqv d f else PyData.eqv d f)):=fun H0 F0 H F O e Q q =>
 c H0 F0 H F O e _ fun v k l a m=>g H0 F0 k l O (e.mono a) _ fun w n o b p=>⟨d,f,yT b.h m,p,i,j,q _ n o (a.trans b) (.bl _)⟩
theorem Zo (c:EvD K S ta Y d) (f:EvD K S tb Y d) (z:SeqAt.shaped d=true):EvE K S U (tOp (rNeS K) ta tb) Y (.bool false):=fun H0 F0 H F O e Q q =>
 c H0 F0 H F O e _ fun v g i a j=>f H0 F0 g i O (e.mono a) _ fun w k l b m=>⟨d,yT b.h j,m,z,q _ k l (a.trans b) (.bl _)⟩
theorem zbh (k:zv K U S H0 F vs ds) (h:atI ds i=some d):∃ v,atI vs i=some v/\Rp K U S H0 F v d:=by
 unfold atI at h ⊢
 rw [zv.length k]
 cases e:ixN ds.length i with
 | none=>rw [e] at h;cases h
 | some j=>rw [e] at h;exact zv.get k h
theorem zI (g:EvL K S U ta Y ds) (j:EvE K S false tb Y (.int i)) (h:atI ds i=some d):EvE K S U (tOp (rIxL K) ta tb) Y d:=fun H0 F0 H F O e Q q =>
 g H0 F0 H F O e _ fun a vs k l c m n=>j H0 F0 k l O (e.mono c) _ fun w o p b r=>by
  cases ym r
  obtain ⟨v,s,t⟩:=zbh (zw b.f n) h
  exact ⟨a,vs,i,v,rfl,rfl,b.h.seq m,s,q _ o p (c.trans b) t⟩
theorem yP (g:EvE K S U ta Y (.tuple ds)) (j:EvE K S false tb Y (.int i)) (h:atI ds i=some d):EvE K S U (tOp (rIxT K) ta tb) Y d:=fun H0 F0 H F O e Q q =>
 g H0 F0 H F O e _ fun v k l b m=>j H0 F0 k l O (e.mono b) _ fun w n o c p=>by
  cases ym p
  obtain ⟨a,vs,rfl,r,s⟩:=uf m
  obtain ⟨v,t,u⟩:=zbh (zw c.f s) h
  exact ⟨a,vs,i,v,rfl,rfl,Same.seqT (b.le.trans c.h) r,t,q _ n o (b.trans c) u⟩
theorem Ub (g:EvE K S false ta Y (.bool a)) (h:a=true->EvE K S false tb Y (.bool b)):EvE K S U (zcR ta tb) Y (.bool (a && b)):=fun H0 F0 H F O e Q q =>
 g H0 F0 H F O e _ fun v d f c i=>by
  cases uC i
  refine ⟨a,rfl,?_⟩
  cases a with
  | true=>exact iteT (h rfl H0 F0 d f O (e.mono c) Q fun v j k l m=>by cases uC m;exact q _ j k (c.trans l) (.bl _))
  | false=>exact iteF (q _ d f c (.bl _))
theorem zc6 (g:EvE K S false ta Y (.bool a)) (h:a=false->EvE K S false tb Y (.bool b)):EvE K S U (tOrV ta tb) Y (.bool (a || b)):=fun H0 F0 H F O e Q q =>
 g H0 F0 H F O e _ fun v d f c i=>by
  cases uC i
  refine ⟨a,rfl,?_⟩
  cases a with
  | false=>exact iteF (h rfl H0 F0 d f O (e.mono c) Q fun v j k l m=>by cases uC m;exact q _ j k (c.trans l) (.bl _))
  | true=>exact iteT (q _ d f c (.bl _))
theorem ZY (b:EvE K S false ta Y (.bool a)):EvE K S U (zcQ ta) Y (.bool (!a)):=fun H0 F0 H F O e Q q =>
 b H0 F0 H F O e _ fun v c d f g=>by cases uC g;exact ⟨a,rfl,q _ c d f (.bl _)⟩
theorem zq (h:EvE K S false t Y (.bool b)):EvT K S (Qp t) Y b:=fun H0 F0 H F O e Q q =>
 h H0 F0 H F O e _ fun v a c d f=>by cases uC f;exact ⟨b,rfl,q a c d⟩
theorem et_B (h:EvE K S false t Y (.bool b)):EvT K S (tB t) Y b:=fun H0 F0 H F O e Q q =>
 h H0 F0 H F O e _ fun v a c d f=>by cases uC f;exact ⟨b,rfl,q a c d⟩
theorem xu (g:EvT K S t Y a) (h:a=true->EvT K S u Y b):EvT K S (tAnd t u) Y (a && b):=fun H0 F0 H F O e Q q =>
 g H0 F0 H F O e _ fun d f c=>by
  cases a with
  | true=>exact iteT (h rfl H0 F0 d f O (e.mono c) Q fun i j k=>q i j (c.trans k))
  | false=>exact iteF (q d f c)
theorem yG (g:EvT K S t Y a) (h:a=false->EvT K S u Y b):EvT K S (tOr t u) Y (a || b):=fun H0 F0 H F O e Q q =>
 g H0 F0 H F O e _ fun d f c=>by
  cases a with
  | false=>exact iteF (h rfl H0 F0 d f O (e.mono c) Q fun i j k=>q i j (c.trans k))
  | true=>exact iteT (q d f c)
theorem xJ (b:EvT K S t Y a):EvT K S (tNot t) Y (!a):=fun H0 F0 H F O e Q q=>b H0 F0 H F O e _ fun c d f=>q c d f
theorem zaP:EvT K S tYes Y true:=fun H0 F0 H F O e Q q=>q H F (.refl e.le)
theorem EvT.eq (h:EvT K S t Y a) (e:a=b):EvT K S t Y b:=e ▸ h
theorem EvE.eq (h:EvE K S U t Y a) (e:a=b):EvE K S U t Y b:=e ▸ h
theorem EvO.eq (h:EvO K S U t Y a) (e:a=b):EvO K S U t Y b:=e ▸ h
theorem zC:EvA K S U tNil Y []:=fun H0 F0 H F O e Q q=>q [] H F (.refl e.le) .nil
theorem zg (h:EvE K S U t Y d) (k:EvA K S U u Y ds):EvA K S U (zR t u) Y (d :: ds):=fun H0 F0 H F O e Q q =>
 h H0 F0 H F O e _ fun v c g a i=>k H0 F0 c g O (e.mono a) _ fun vs j l b m=>q _ j l (a.trans b) (.cons (yA b.f i) m)
theorem ww (h:EvA K S U t Y ds) (hz:ds.length<=sizeLine):EvE K S U (tTup t) Y (.tuple ds):=fun H0 F0 H F O e Q q =>
 h H0 F0 H F O e _ fun vs f d a b=>⟨by rw [zv.length b];exact hz,fun p c=>q _ _ (upd d p (.tup vs)) (a.trans (.new a.le c _)) (.tup (SqT.of zi) (zw (Same.new (a.le.free c) _) b))⟩
theorem zZ (h:EvA K S U t Y ds) (hz:ds.length<=sizeLine):EvO K S U (tLst t) Y ds:=fun H0 F0 H F O e Q q =>
 h H0 F0 H F O e _ fun vs f d a c=>⟨by rw [zv.length c];exact hz,fun p b=>q p vs _ d (a.trans (.newO a.le b _)) (a.h.free b) zi (a.le.free b) c⟩
def spD (K:aA) (U:Bool) (pre:List PyData->PyData->Prop):Sp:=fun vs H Q _=>∃ F ds d,Same F H/\zO K F vs ds/\pre ds d/\∀ v H' F',Gr H F H' F'->Rp K U .fresh H F' v d->Q v H'
theorem zk (h:EvA K S false t Y ds) (f:pre ds d):EvE K S U (v6 (spD K true pre) [] E t) Y d:=fun H0 F0 H F O e Q q =>
 h H0 F0 H F O e _ fun vs g i b j=>⟨i,ds,d,b.le,by rw [bG];exact zP j,f,fun v k l m n=>q v k l (b.trans m) (uB (U:=true) (fun _=>rfl) (xS (U:=true) (U':=true) (S':=S) (H0':=H0) (fun a xs z=>⟨z.1,fun c=>by
  obtain ⟨u,o⟩:=(e.mono b).sd a c
  exact z.2 (by show g a≠none;rw [o];simp)⟩) (fun _ _ z=>z) n))⟩
theorem Vc (h:EvA K S false t Y ds) (b:pre ds d):EvE K S false (v6 (spD K false pre) [] E t) Y d:=fun H0 F0 H F O e Q q =>
 h H0 F0 H F O e _ fun vs l c a f=>⟨c,ds,d,a.le,by rw [bG];exact zP f,b,fun v g i j k=>q v g i (a.trans j) (uc (yW k))⟩
theorem yb (h:EvL K S false ta Y ds):EvE K S U (tCB (fun xs H Q=>∃ p ys,xs=[.ref p]/\(SqL K H p ys\/SqT K H p ys)/\Q (.int ys.length) H) (zR ta tNil)) Y (.int ds.length):=fun H0 F0 H F O e Q q =>
 h H0 F0 H F O e _ fun a vs b c d f g=>⟨a,vs,rfl,.inl f,q _ b c d (by rw [zv.length g];exact .int _)⟩
theorem uW (h:EvE K S false ta Y (.tuple ds)):EvE K S U (tCB (fun xs H Q=>∃ p ys,xs=[.ref p]/\(SqL K H p ys\/SqT K H p ys)/\Q (.int ys.length) H) (zR ta tNil)) Y (.int ds.length):=fun H0 F0 H F O e Q q =>
 h H0 F0 H F O e _ fun v c d b f=>by
  obtain ⟨a,vs,rfl,g,i⟩:=uf f
  exact ⟨a,vs,rfl,.inr (Same.seqT b.le g),q _ c d b (by rw [zv.length i];exact .int _)⟩
theorem x5 (h:EvL K S U ta Y ds):EvO K S U (tCB (fun xs H Q=>∃ p ys,xs=[.ref p]/\(SqL K H p ys\/SqT K H p ys)/\∀ l,H l=none->Q (.ref l) (upd H l (.lst ys))) (zR ta tNil)) Y ds:=fun H0 F0 H F O e Q q =>
 h H0 F0 H F O e _ fun a vs i d b f g=>⟨a,vs,rfl,.inl f,fun p c=>q p vs _ d (b.trans (.newO b.le c _)) (b.h.free c) zi (b.le.free c) g⟩
def cutD (xs:List PyData) (lo hi:Option Int):List PyData:=(xs.drop (HT.sIx xs.length 0 lo)).take (HT.sIx xs.length xs.length hi - HT.sIx xs.length 0 lo)
theorem zea (k:zv K U S H0 F vs ds):zv K U S H0 F (cutV vs lo hi) (cutD ds lo hi):=by
 unfold cutV cutD
 rw [zv.length k]
 exact zv.take _ (zv.drop _ k)
theorem X8:EvP K S Uw Y none:=fun H0 F0 H F O e Q q=>q H F (.refl e.le)
theorem uY (h:EvE K S false t Y (.int i)):EvP K S (zcP t) Y (some i):=fun H0 F0 H F O e Q q =>
 h H0 F0 H F O e _ fun v a b c d=>by cases ym d;exact ⟨i,rfl,q a b c⟩
theorem xQ (h:EvL K S U t Y ds) (i:EvP K S tl Y lo) (j:EvP K S th Y hi):EvO K S U (tSl (rSlL K) t tl th) Y (cutD ds lo hi):=fun H0 F0 H F O e Q q =>
 h H0 F0 H F O e _ fun a vs k l d m n=>i H0 F0 k l O (e.mono d) _ fun o r c=>j H0 F0 o r O ((e.mono d).mono c) _ fun u s b =>
  ⟨a,vs,rfl,(c.h.trans b.h).seq m,fun p g=>q p _ _ s (((d.trans c).trans b).trans (.newO b.le g _)) (((d.trans c).trans b).h.free g) zi (b.le.free g) (zea (zw (c.f.trans b.f) n))⟩
end
end PD
namespace L2
open PySem PySem.Spec PyProof.Rows
section
variable {X:Cx} {K:aA}
def UC (K:aA):R2:=fun x y H Q=>∃ l b xs zs,x=.ref l/\y=.ref b/\SqL K H l xs/\SqL K H b zs/\xs.length + zs.length<=sizeLine/\∀ p,H p=none->Q (.ref p) (upd H p (.lst (xs ++ zs)))
theorem zbQ:OpR X (binaryOp .Add) (UC X.K):=by
 intro pins s O H x y v u Q I A B h
 obtain ⟨l,b,xs,G,rfl,rfl,C,D,J,q⟩:=h
 cases A
 cases B
 obtain ⟨c,r,pl,z⟩:=I.list C
 obtain ⟨a,o,i,L⟩:=I.list D
 have M:=r.length
 have N:=o.length
 obtain ⟨⟨cls,dd,data,sl⟩,p,t,n,hd⟩:=pl.isList
 obtain ⟨⟨w,j,k,m⟩,d,f,E,g⟩:=i.isList
 simp only at t hd f g
 subst t hd f g
 have e:c.toArray ++ a.toArray=(c ++ a).toArray:=by simp
 refine concat_meets ⟨_,p,rfl⟩ ⟨_,d,rfl⟩ noFill_list_add seq_list_add PySem.F.slot_list_add PySem.F.entry_list_add (PySem.F.args_list_add_2 _ _) (list_addW l b c.toArray a.toArray n E dd j sl m (by simp only [List.size_toArray];omega)) ⟨p,d,?_⟩
 rw [e]
 exact ⟨.ref _,_,I.lnew (t':=s.toks) (r.append o) (by rw [aG];omega),rfl,q _ I.fresh⟩
def tyD:PyData->String
 | .none => "NoneType"
 | .bool _ => "bool"
 | .int _ => "int"
 | .str _ => "str"
 | .list _ => "list"
 | .tuple _ => "tuple"
 | _ => "object"
def QR (K:aA):List V->Hp->VK->Prop:=fun xs H Q=>∃ x d T b,xs=[x,.ty T]/\Dp K H x d/\PySem.W.kitOne K (.type (tyD d)) (.type T)=some b/\Q (.bl b) H
theorem Qh:yq X (.builtin "isinstance") (QR X.K):=by
 intro pins s O H xs us Q I r h
 obtain ⟨x,d,T,b,rfl,dp,e,q⟩:=h
 obtain ⟨u,v,rfl,f,g⟩:=r.two
 cases (show v=Value.type T from g)
 have c:∀ j,EP X pins O Q (.bool b) { s with toks:=j }:=fun j=>⟨.bl b,H,I.tok j,rfl,q⟩
 cases dp with
 | non=>cases (show u=Value.none from f);exact PySem.W.kia_one PySem.W.kitx_none I.kIn True.intro e (fun z=>nomatch z) c
 | bl y=>cases (show u=Value.bool y from f);exact PySem.W.kia_one PySem.W.kitx_bool I.kIn True.intro e (fun z=>nomatch z) c
 | int i=>obtain ⟨t,z⟩:=(show ∃ t,u=Value.int i t from f);cases z;exact PySem.W.kia_one PySem.W.kitx_int I.kIn True.intro e (fun z=>nomatch z) c
 | str y=>obtain ⟨t,z⟩:=(show ∃ t,u=Value.str y t from f);cases z;exact PySem.W.kia_one PySem.W.kitx_str I.kIn True.intro e (fun z=>nomatch z) c
 | @lst a xs ds h k =>
  cases (show u=Value.ref a from f)
  obtain ⟨l,g,⟨o,n,m,p,_⟩,_⟩:=I.list h
  exact PySem.W.kia_one PySem.W.kitx_list I.kIn ⟨_,m,p⟩ e (fun z=>nomatch z) c
 | @tup a xs ds h k =>
  cases (show u=Value.ref a from f)
  obtain ⟨l,g,⟨o,m,p,_⟩,_⟩:=I.tuple h
  exact PySem.W.kia_one PySem.W.kitx_tuple I.kIn ⟨_,m,p⟩ e (fun z=>nomatch z) c
theorem x8 (a:X.K=K):yq X (.builtin "isinstance") (QR K):=by subst a;exact Qh
theorem wI (a:X.K=K):OpR X (binaryOp .Add) (UC K):=by subst a;exact zbQ
end
end L2
namespace PD
open PySem L2
section
variable {K:aA} {S:Sx} {U:Bool} {Y:Ctx}
theorem wZ (k:EvL K S U ta Y xs) (l:EvL K S U tb Y ys) (hz:xs.length + ys.length<=sizeLine):EvO K S U (tOp (UC K) ta tb) Y (xs ++ ys):=fun H0 F0 H F O e Q q =>
 k H0 F0 H F O e _ fun a vs m n d o i=>l H0 F0 m n O (e.mono d) _ fun b ws t r c s j =>
  ⟨a,b,vs,ws,rfl,rfl,c.h.seq o,s,by rw [zv.length i,zv.length j];exact hz,fun p g=>q p _ _ r ((d.trans c).trans (.newO c.le g _)) ((d.trans c).h.free g) zi (c.le.free g) (zv.append (zw c.f i) j)⟩
theorem ZZ (h:EvD K S ta Y d) (hi:PySem.W.kitOne K (.type (tyD d)) (.type T)=some b):EvE K S U (tCB (QR K) (zR ta (zR (tC (.ty T)) tNil))) Y (.bool b):=fun H0 F0 H F O e Q q =>
 h H0 F0 H F O e _ fun v a c f g=>⟨v,d,T,b,rfl,g,hi,q _ a c f (.bl b)⟩
theorem zaB (ns:List Int):(ns.map V.int).all uU=true:=by
 rw [cC]
 intro v a
 obtain ⟨n,_,rfl⟩:=aF.mp a
 rfl
theorem zca (i:Int) (ns:List Int):inV (.int i) (ns.map V.int)=decide (i∈ns):=by
 unfold inV
 rw [cZ]
 by_cases h:i∈ns
 ·rw [decide_eq_true h,bQ]
  exact ⟨i,h,by show eqV (.int i) (.int i)=true;simp [eqV]⟩
 ·rw [decide_eq_false h,List.any_eq_false]
  intro x a b
  have:x=i:=by
   have q:eqV (.int x) (.int i)=true:=b
   simpa [eqV] using q
  exact h (this ▸ a)
theorem zW {neg:Bool} {a tb:TE} {i:Int} {ns:List Int} (d:EvE K S false a Y (.int i)) (f:EvL K S false tb Y (ns.map .int)):EvE K S U (tOp (rIn K neg) a tb) Y (.bool (if neg then !decide (i∈ns) else decide (i∈ns))):=fun H0 F0 H F O e Q q =>
 d H0 F0 H F O e _ fun v g h c j=>f H0 F0 g h O (e.mono c) _ fun b ws k l m n o=>by
  cases ym j
  cases zX (zP o)
  refine ⟨b,_,rfl,.inl n,rfl,zaB ns,?_⟩
  rw [zca]
  exact q _ k l (c.trans m) (.bl _)
def ExG (K:aA) (S:Sx) (U:Bool) (g:TG) (js:List Nat) (d:PyData) (Y:Ctx) (k:Ctx->Prop):Prop:=∀ (H0 F0 H F:Hp) (O:St) (v:V),DEnv K S H0 F0 H F O Y->Rp K U S H0 F v d->∀ Q:St->Hp->Prop,
 (∀ Y' O' H' F',k Y'->Gr H F H' F'->DEnv K S H0 F0 H' F' O' Y'->O'.length=O.length->(∀ j,j∉js->O'[j]?=O[j]?)->Q O' H')->g v O H Q
theorem DEnv.set (e:DEnv K S H0 F0 H F O Y) (p:HasV K S H0 H F v x)
  (m:∀ a,Owns H v x a->∀ (j:Nat) y w,j≠i->Y[j]?=some (some y)->O[j]?=some (some w)->¬ Owns H w y a):DEnv K S H0 F0 H F (O.set i (some v)) (Y.set i (some x)):=by
 refine ⟨e.gr,e.l0,e.sd,e.s0,by simp [e.len],fun j f h=>?_,fun j o s t u A b d c n g r o2=>?_⟩
 ·by_cases k:j=i
  ·subst k
   by_cases B:j < Y.length
   ·rw [bH B] at h
    cases h
    exact ⟨v,by rw [bH (by rw [e.len];exact B)],p⟩
   ·rw [List.getElem?_eq_none (by simp;omega)] at h
    cases h
  ·rw [bM (Ne.symm k)] at h ⊢
   exact e.has j f h
 ·have q:∀ {j:Nat} {y:DV},(Y.set i (some x))[j]?=some (some y)->j < Y.length:=fun {j y} z=>by
   have:=(aP.mp z).1
   rw [List.length_set] at this
   exact this
  by_cases k:j=i
  ·subst k
   by_cases l:o=j
   ·exact l.symm
   ·rw [bH (by rw [e.len];exact q d)] at n
    rw [bH (q d)] at d
    cases d
    cases n
    rw [bM (Ne.symm l)] at g c
    exact absurd o2 (m b r o t A l c g)
  ·rw [bM (Ne.symm k)] at n d
   by_cases l:o=i
   ·subst l
    rw [bH (by rw [e.len];exact q c)] at g
    rw [bH (q c)] at c
    cases c
    cases g
    exact absurd r (m b o2 j s u k d n)
   ·rw [bM (Ne.symm l)] at g c
    exact e.ne j o s t u A b d c n g r o2
theorem DEnv.setF (e:DEnv K S H0 F0 H F O Y) (p:Rp K U S H0 F v d):DEnv K S H0 F0 H F (O.set i (some v)) (Y.set i (some (.fz U d))):=e.set (x:=.fz U d) p fun _ z=>z.elim
theorem OwnO.other (w:OwnO S H0 H F b u) (h:b≠a):OwnO S H0 (upd H a oo) F b u:=⟨by rw [zp h];exact w.h,w.f,w.n,w.s⟩
theorem HasV.other (h:HasV K S H0 H F v x) (n:¬ Owns H v x a):HasV K S H0 (upd H a oo) F v x:=by
 cases x with
 | fz U d=>exact h
 | tn d=>exact h
 | ow U ds=>obtain ⟨b,us,e,f,g⟩:=h;exact ⟨b,us,e,f.other fun z=>n (by rw [e,z];rfl),g⟩
 | ox=>obtain ⟨b,us,e,f⟩:=h;exact ⟨b,us,e,f.other fun z=>n (by rw [e,z];rfl)⟩
 | o2 r dss =>
  obtain ⟨b,us,e,f,s,t,l,k⟩:=h
  refine ⟨b,us,e,f.other fun z=>n (.inl (by rw [e.eq,z])),s,t,l,fun j y i=>?_⟩
  obtain ⟨c,ws,ds,m,o2,A,B⟩:=k j y i
  exact ⟨c,ws,ds,m,o2.other fun z=>n (.inr ⟨b,us,e.eq,f.h,by rw [<- z,<- m];exact aS i⟩),A,B⟩
 | fn a=>exact h
 | xn φ=>exact h
 | oa b U ds=>obtain ⟨e,us,f,g⟩:=h;exact ⟨e,us,f.other fun z=>n (by rw [e,z];rfl),g⟩
 | xp φ=>exact h
 | od u=>obtain ⟨b,e,f⟩:=h;exact ⟨b,e,f.other fun z=>n (by rw [e,z];rfl)⟩
 | og ad ψ =>
  obtain ⟨ok,w,p⟩:=h
  have eq:∀ b,ad H v b->upd H a oo b=H b:=fun b z=>zp fun y=>n (y ▸ z)
  refine ⟨ok,fun b z=>?_,ok.ps S H0 H _ F F v eq (.refl _) p⟩
  have z:=(ok.pl H _ v eq b).mp z
  obtain ⟨o,y⟩:=w b z
  exact ⟨o,y.other fun q=>n (q ▸ z)⟩
theorem Owns.other (h:HasV K S H0 H F v x) (n:¬ Owns H v x a) (o:Owns (upd H a oo) v x c):Owns H v x c:=by
 cases x with
 | fz _ _=>exact o.elim
 | tn _=>exact o.elim
 | ow U ds=>exact o
 | ox=>exact o
 | o2 r dss =>
  rcases o with o | ⟨p,us,d,e,f⟩
  ·exact .inl o
  ·rw [zp (fun z=>n (.inl (by rw [d,z])))] at e
   exact .inr ⟨p,us,d,e,f⟩
 | fn _=>exact o.elim
 | xn _=>exact o.elim
 | oa _ _ _=>exact o
 | xp _=>exact o.elim
 | od _=>exact o
 | og ad ψ=>exact (h.1.pl H (upd H a oo) v (fun b z=>zp fun y:b=a=>n (y ▸ z)) c).mp o
theorem DEnv.putO (e:DEnv K S H0 F0 H F O Y) (h:Y[i]?=some (some x)) (p:O[i]?=some (some v)) (B:Owns H v x a)
  (k:HasV K S H0 (upd H a oo) F v y) (J:∀ c,Owns (upd H a oo) v y c->Owns H v x c):DEnv K S H0 F0 (upd H a oo) F O (Y.set i (some y)):=by
 obtain ⟨Z,C,L⟩:=e.has i x h
 rw [p] at C
 cases C
 obtain ⟨ws,w⟩:=L.owns B
 have M:Same F (upd H a oo):=fun b u z=>by
  have:b≠a:=by rintro rfl;rw [w.f] at z;cases z
  rw [zp this];exact e.le _ _ z
 have D:=(aP.mp h).1
 have l:∀ {j:Nat} {f:DV} {u:V},j≠i->Y[j]?=some (some f)->O[j]?=some (some u)->¬ Owns H u f a:=fun {j f u} d z r o=>d (e.ne j i f x u v a z h r p o B)
 refine ⟨⟨fun b u z=>?_,e.gr.f,M,e.gr.ap⟩,e.l0,fun b c=>?_,e.s0,by simp [e.len],fun j f z=>?_,fun j N x1 y1 fF P b Q R E G T o2=>?_⟩
 ·rw [zp (zB z w.n)];exact e.gr.h _ _ z
 ·obtain ⟨o,q⟩:=e.sd b c
  by_cases I:b=a
  ·subst I;exact ⟨_,zi⟩
  ·exact ⟨o,by rw [zp I];exact q⟩
 ·by_cases d:j=i
  ·subst d
   rw [bH D] at z
   cases z
   exact ⟨_,p,k⟩
  ·rw [bM (Ne.symm d)] at z
   obtain ⟨u,m,s⟩:=e.has j f z
   exact ⟨u,m,s.other (l d z m)⟩
 ·have bk:∀ {j:Nat} {f:DV} {u:V},(Y.set i (some y))[j]?=some (some f)->O[j]?=some (some u)->Owns (upd H a oo) u f b->∃ g,Y[j]?=some (some g)/\Owns H u g b:=fun {j f u} z r o=>by
   by_cases d:j=i
   ·subst d
    rw [bH D] at z
    cases z
    rw [p] at r
    cases r
    exact ⟨x,h,J b o⟩
   ·rw [bM (Ne.symm d)] at z
    obtain ⟨u',m,s⟩:=e.has j f z
    rw [r] at m
    cases m
    exact ⟨f,z,o.other s (l d z r)⟩
  obtain ⟨fG,W,t⟩:=bk Q E T
  obtain ⟨X,fE,A⟩:=bk R G o2
  exact e.ne j N fG X fF P b W fE E G t A
theorem DEnv.put (e:DEnv K S H0 F0 H F O Y) (h:Y[i]?=some (some x)) (b:O[i]?=some (some v)) (d:Owns H v x a)
  (k:HasV K S H0 (upd H a (.lst vs)) F v y) (f:∀ c,Owns (upd H a (.lst vs)) v y c->Owns H v x c):DEnv K S H0 F0 (upd H a (.lst vs)) F O (Y.set i (some y)):=e.putO h b d k f
theorem OwnO.frz (w:OwnO S H0 H F b u) (h:b≠a):OwnO S H0 H (upd F a oo) b u:=⟨w.h,by rw [zp h];exact w.f,w.n,w.s⟩
theorem HasV.frz (h:HasV K S H0 H F v x) (s:Same F (upd F a (.lst vs))) (n:¬ Owns H v x a):HasV K S H0 H (upd F a (.lst vs)) v x:=by
 cases x with
 | fz U d=>exact yA s h
 | tn d=>obtain ⟨T,A,k⟩:=h;exact ⟨T,A,yA s k⟩
 | ow U ds=>obtain ⟨b,us,f,g,i⟩:=h;exact ⟨b,us,f,g.frz fun z=>n (by rw [f,z];rfl),zw s i⟩
 | ox=>obtain ⟨b,us,f,g⟩:=h;exact ⟨b,us,f,g.frz fun z=>n (by rw [f,z];rfl)⟩
 | o2 r dss =>
  obtain ⟨b,us,f,g,B,C,l,k⟩:=h
  refine ⟨b,us,f,g.frz fun z=>n (.inl (by rw [f.eq,z])),B,C,l,fun j y m=>?_⟩
  obtain ⟨c,ws,ds,t,o2,D,E⟩:=k j y m
  exact ⟨c,ws,ds,t,o2.frz fun z=>n (.inr ⟨b,us,f.eq,g.h,by rw [<- z,<- t];exact aS m⟩),D,zw s E⟩
 | fn a=>exact h
 | xn φ=>obtain ⟨b,e,k⟩:=h;exact ⟨b,e,s _ _ k⟩
 | oa b U ds=>obtain ⟨f,us,g,i⟩:=h;exact ⟨f,us,g.frz fun z=>n (by rw [f,z];rfl),zw s i⟩
 | xp φ=>obtain ⟨G,s1,k⟩:=h;exact ⟨G,s1.trans s,k⟩
 | od u=>obtain ⟨b,f,g⟩:=h;exact ⟨b,f,g.frz fun z=>n (by rw [f,z];rfl)⟩
 | og ad ψ =>
  obtain ⟨ok,w,p⟩:=h
  refine ⟨ok,fun b z=>?_,ok.ps S H0 H H F _ v (fun _ _=>rfl) s p⟩
  obtain ⟨o,y⟩:=w b z
  exact ⟨o,y.frz fun q=>n (q ▸ z)⟩
theorem DEnv.froz (e:DEnv K S H0 F0 H F O Y) (h:Y[i]?=some (some x)) (l:O[i]?=some (some v)) (D:Owns H v x a) (w:vj S H0 H F a vs)
  (k:HasV K S H0 H (upd F a (.lst vs)) v y) (E:∀ c,Owns H v y c->Owns H v x c):Same F (upd F a (.lst vs))/\DEnv K S H0 F0 H (upd F a (.lst vs)) O (Y.set i (some y)):=by
 have s:Same F (upd F a (.lst vs)):=Same.new w.f _
 have q:=(aP.mp h).1
 have g:Gr H0 F0 H (upd F a (.lst vs)):=⟨e.gr.h,e.gr.f.trans s,fun b u z=>by
  by_cases t:b=a
  ·subst t;rw [zi] at z;rw [<- z];exact w.h
  ·rw [zp t] at z;exact e.le _ _ z,fun b u z y=>by
  rw [zp (zB z w.n)];exact e.gr.ap _ _ z y⟩
 refine ⟨s,g,e.l0,e.sd,e.s0,by simp [e.len],fun j f z=>?_,fun j G fG W I J b L M A B N o2=>?_⟩
 ·by_cases d:j=i
  ·subst d
   rw [bH q] at z
   cases z
   exact ⟨v,l,k⟩
  ·rw [bM (Ne.symm d)] at z
   obtain ⟨u,C,fF⟩:=e.has j f z
   exact ⟨u,C,fF.frz s fun o=>d (e.ne j i f x u v a z h C l o D)⟩
 ·have bk:∀ {j:Nat} {f:DV} {u:V},(Y.set i (some y))[j]?=some (some f)->O[j]?=some (some u)->Owns H u f b->∃ g,Y[j]?=some (some g)/\Owns H u g b:=fun {j f u} z r o=>by
   by_cases d:j=i
   ·subst d
    rw [bH q] at z
    cases z
    rw [l] at r
    cases r
    exact ⟨x,h,E b o⟩
   ·rw [bM (Ne.symm d)] at z
    exact ⟨f,z,o⟩
  obtain ⟨P,Q,m⟩:=bk L A N
  obtain ⟨R,T,p⟩:=bk M B o2
  exact e.ne j G P R I J b Q T A B m p
theorem DEnv.freeze (e:DEnv K S H0 F0 H F O Y) (h:Y[i]?=some (some (.ow U ds))):∃ F',Same F F'/\DEnv K S H0 F0 H F' O (Y.set i (some (.fz U (.list ds)))):=by
 obtain ⟨v,b,a,vs,rfl,w,c⟩:=e.has i _ h
 exact ⟨_,e.froz (y:=.fz U (.list ds)) h b rfl w (.lst (LN.new w.s) (zw (Same.new w.f _) c)) fun _ z=>z.elim⟩
theorem zcy (h:k (Y.set i (some (.fz U d)))):ExG K S U (yn i) [i] d Y k:=fun H0 F0 H F O v e p Q q =>
 q _ _ H F h (.refl e.le) (e.setF p) (by simp) fun j a=>by rw [List.getElem?_set_ne (by intro z;exact a (by simp [z]))]
theorem zd3 (h:k ((Y.set i (some (.fz U x))).set j (some (.fz U y)))):ExG K S U (gTup K 2 (uT (yn i) (uT (yn j) gNil))) [i,j] (.tuple [x,y]) Y k:=fun H0 F0 H F O v e p Q q=>by
 obtain ⟨a,vs,rfl,d,b⟩:=uf p
 cases b with
 | cons f b=>cases b with
  | cons g b =>
   cases b
   refine ⟨a,_,rfl,Same.seqT e.le d,rfl,_,_,rfl,_,_,rfl,rfl,?_⟩
   refine q _ _ H F h (.refl e.le) ((e.setF f).setF g) (by simp) fun m c=>?_
   rw [List.getElem?_set_ne (by intro z;exact c (by simp [z])),List.getElem?_set_ne (by intro z;exact c (by simp [z]))]
structure ItD (K:aA) (S:Sx) (U:Bool) (H0 F:Hp) (J:It) (ds:List PyData):Prop where
 go:∀ i H F',Same F F'->Same F' H->i < ds.length->J.go i H
 yld:∀ i H F' x H',Same F F'->Same F' H->(∀ a,S.has H0 a->∃ o,H a=some o)->i < ds.length->J.yld i H x H'->∃ d F'',ds[i]?=some d/\Gr H F' H' F''/\Rp K U S H0 F'' x d
 stop:∀ H F',Same F F'->Same F' H->J.stop ds.length H
def EvI (K:aA) (S:Sx) (U:Bool) (t:TI) (Y:Ctx) (ds:List PyData):Prop:=∀ (H0 F0 H F:Hp) (O:St),DEnv K S H0 F0 H F O Y->∀ R:It->Hp->Prop,(∀ J H' F',Gr H F H' F'->ItD K S U H0 F' J ds->R J H')->t O H R
theorem zN (h:EvE K S U t Y (.list ds)):EvI K S U (UX K t) Y ds:=fun H0 F0 H F O e R q =>
 h H0 F0 H F O e _ fun v g b c j=>by
  obtain ⟨a,vs,rfl,k,f⟩:=tE j
  have n:=zv.length f
  have up:∀ {F' H':Hp},Same b F'->Same F' H'->SqL K H' a vs:=fun s1 s2=>(s1.trans s2).seq k.sq
  refine ⟨a,rfl,⟨vs,up (.refl _) c.le⟩,q _ g b c ⟨fun i H' F' s1 s2 hi=>?_,fun i H' F' x l s1 s2 _ hi y=>?_,fun H' F' s1 s2=>?_⟩⟩
  ·exact ⟨vs,vs[i]'(by omega),up s1 s2,by simp⟩
  ·obtain ⟨rfl,y⟩:=y
   obtain ⟨d,hd,m⟩:=zv.get' f (y vs (up s1 s2))
   exact ⟨d,F',hd,.refl s2,yA s1 m⟩
  ·exact ⟨vs,up s1 s2,by omega⟩
theorem xA (h:EvA K S false t Y [.int n]) (c:-(2 ^ 62)<=n) (d:n < 2 ^ 62):EvI K S U (UW t) Y ((List.range n.toNat).map fun i:Nat=>.int (i:Int)):=fun H0 F0 H F O e R q =>
 h H0 F0 H F O e _ fun vs f g j a=>by
  cases a with
  | cons p a =>
   cases a
   cases ym p
   refine ⟨n,rfl,c,d,q _ f g j ⟨fun i H' F' s1 s2 hi=>?_,fun i H' F' x k s1 s2 _ hi y=>?_,fun H' F' s1 s2=>?_⟩⟩
   ·show i < n.toNat
    simpa using hi
   ·obtain ⟨rfl,rfl⟩:=y
    have b:i < n.toNat:=by simpa using hi
    refine ⟨.int i,F',by simp [b],.refl s2,?_⟩
    have:(0:Int) + (i:Int)=i:=by omega
    rw [this];exact .int _
   ·show n.toNat<=_
    simp
theorem X9 (h:EvA K S false t Y [.int m,.int n]) (c:-(2 ^ 62)<=m/\m < 2 ^ 62/\-(2 ^ 62)<=n/\n < 2 ^ 62):EvI K S U (zc1 t) Y ((List.range (n - m).toNat).map fun i:Nat=>.int (m + (i:Int))):=fun H0 F0 H F O e R q =>
 h H0 F0 H F O e _ fun vs d f g a=>by
  cases a with
  | cons p a =>
   cases a with
   | cons j a =>
    cases a
    cases ym p
    cases ym j
    refine ⟨m,n,rfl,c,q _ d f g ⟨fun i H' F' s1 s2 hi=>?_,fun i H' F' x k s1 s2 _ hi y=>?_,fun H' F' s1 s2=>?_⟩⟩
    ·show i < (n - m).toNat
     simpa using hi
    ·obtain ⟨rfl,rfl⟩:=y
     have b:i < (n - m).toNat:=by simpa using hi
     exact ⟨.int (m + i),F',by simp [b],.refl s2,.int _⟩
    ·show (n - m).toNat<=_
     simp
def Za (js:List (Option Nat)) (Y:Ctx):Ctx:=js.map fun o=>match o with | none=>none | some j=>(Y[j]?).join
theorem tP {i:Nat} (h:(Za js Y)[i]?=some (some d)):∃ j,js[i]?=some (some j)/\Y[j]?=some (some d):=by
 unfold Za at h
 rw [aU] at h
 cases e:js[i]? with
 | none=>rw [e] at h;cases h
 | some o =>
  rw [e] at h
  cases o with
  | none=>cases h
  | some j =>
   refine ⟨j,rfl,?_⟩
   have h':(Y[j]?).join=some d:=bI h
   cases q:Y[j]? with
   | none=>rw [q] at h';cases h'
   | some o=>rw [q] at h';exact congrArg some h'
theorem Z6 {i j:Nat} (h:js[i]?=some (some j)) (k:O[j]?=some (some v)):(capt js O)[i]?=some (some v):=by
 unfold capt
 rw [aU,h]
 show some ((O[j]?).join)=_
 rw [k];rfl
theorem DEnv.capt {H0 F0 H F:Hp} {O:St} {js:List (Option Nat)} (e:DEnv K S H0 F0 H F O Y) (r:∀ i j k:Nat,js[i]?=some (some k)->js[j]?=some (some k)->i=j):DEnv K S H0 F0 H F (L2.capt js O) (Za js Y):=by
 refine ⟨e.gr,e.l0,e.sd,e.s0,by unfold L2.capt Za;simp,fun i d h=>?_,fun i j x y v w a s t u z A o2=>?_⟩
 ·obtain ⟨j,b,c⟩:=tP h
  obtain ⟨v,f,g⟩:=e.has j d c
  exact ⟨v,Z6 b f,g⟩
 ·obtain ⟨m,b,c⟩:=tP s
  obtain ⟨n,f,g⟩:=tP t
  obtain ⟨B,l,_⟩:=e.has m x c
  obtain ⟨C,o,_⟩:=e.has n y g
  have p:=Z6 (O:=O) b l
  have q:=Z6 (O:=O) f o
  rw [u] at p
  rw [z] at q
  cases p
  cases q
  have:=e.ne m n x y v w a c g l o A o2
  subst this
  exact r i j m b f
theorem zaF (p:PyData->Bool) (f:PyData->PyData) (hi:EvI K S U' wi Y ds) (fE:∀ i∈is,js[i]?=some none) (hj:∀ i j k:Nat,js[i]?=some (some k)->js[j]?=some (some k)->i=j)
  (hz:ds.length<=sizeLine) (hb:∀ d∈ds,ExG K S U' g is d (Za js Y) fun Y'=>EvT K S tt Y' (p d)/\(p d=true->EvE K S U te Y' (f d))):EvO K S U (ve js wi g tt te) Y ((ds.filter p).map f):=fun H0 F0 H F O e Q q =>
 hi H0 F0 H F O e _ fun J Z fG A I1=>by
  intro D V
  have a0:∀ {r l:Hp},Gr Z fG r l->∀ a,S.has H0 a->∃ o,r a=some o:=fun n a c=>let ⟨o,z⟩:=(e.mono A).sd a c;⟨o,n.h _ _ z⟩
  refine ⟨fun i m ys r=>m=ds.length - i/\i<=ds.length/\∃ l,Gr Z fG r l/\r D=some (.lst ys)/\l D=none/\zv K U S H0 l ys (((ds.take i).filter p).map f),⟨_,rfl,aW _,fG,.newO A.le V _,zi,A.le.free V,.nil⟩,?_⟩
  rintro i m ys r ⟨rfl,hi,l,n,hl,fl,G⟩
  by_cases s:i < ds.length
  ·refine .inr ⟨I1.go i r l n.f n.le s,fun zs B=>i + 1<=ds.length/\∃ l,Gr Z fG B l/\B D=some (.lst zs)/\l D=none/\zv K U S H0 l zs (((ds.take (i + 1)).filter p).map f),fun zs B h3=>⟨ds.length - (i + 1),by omega,rfl,h3⟩,fun x B y=>?_⟩
   obtain ⟨d,F3,hd,C,p3⟩:=I1.yld i r l x B n.f n.le (a0 n) s y
   have I:=C.h _ _ hl
   have a1:=C.ap _ _ hl fl
   have E3:=((e.mono A).mono (n.trans C)).capt hj
   refine hb d (aS hd) H0 F0 B F3 _ x E3 p3 _ fun Y' O' H4 F4 a2 L E4 M N=>?_
   obtain ⟨ht,he⟩:=a2
   have fF:=L.h _ _ I
   have a3:=L.ap _ _ I a1
   have tk:ds.take (i + 1)=ds.take i ++ [d]:=by rw [List.take_add_one,hd];rfl
   refine ⟨⟨M.symm,fun j v W=>?_⟩,ht H0 F0 H4 F4 O' E4 _ fun H5 F5 E=>?_⟩
   ·by_cases P:j∈is
    ·have:=fE j P
     unfold L2.capt at W
     rw [aU,this] at W
     cases W
    ·rw [N j P];exact W
   have t:=E.h _ _ fF
   have R:=E.ap _ _ fF a3
   cases w:p d with
   | false =>
    refine iteF ⟨s,F5,n.trans ((C.trans L).trans E),t,R,?_⟩
    rw [tk,cQ,aN]
    simp only [List.filter_cons,w,List.filter_nil]
    simpa using zw ((C.trans L).trans E).f G
   | true =>
    refine iteT (he w H0 F0 H5 F5 O' (E4.mono E) _ fun v H6 F6 g6 p6=>?_)
    have a4:=g6.h _ _ t
    have T:=g6.ap _ _ t R
    have gg:=(C.trans L).trans (E.trans g6)
    have X:=n.trans gg
    refine ⟨a4,?_,s,F6,⟨fun b u z=>?_,X.f,fun b u z=>?_,X.ap⟩,zi,T,?_⟩
    ·have h1:=zv.length G
     rw [aB] at h1
     have h2:=bP p (ds.take i)
     rw [cJ] at h2
     omega
    ·rw [zp (zB z V)];exact X.h _ _ z
    ·rw [zp (by rintro rfl;rw [T] at z;cases z)];exact X.le _ _ z
    ·rw [tk,cQ,aN]
     simp only [List.filter_cons,w,List.filter_nil,if_true,List.map_cons,List.map_nil]
     exact zv.append (zw gg.f G) (.cons p6 .nil)
  ·have ei:i=ds.length:=by omega
   subst ei
   rw [cT] at G
   exact .inl ⟨I1.stop r l n.f n.le,q D ys r l (A.trans n) (A.h.free V) hl fl G⟩
structure Post where
 nx:Ctx->Prop
 rt:PyData->Prop
 bk:Ctx->Prop:=fun _=>False
 ct:Ctx->Prop:=fun _=>False
 kr:Bool:=false
structure Into (K:aA) (S:Sx) (H0 F0 B:Hp) (P:Post) (D:Ends):Prop where
 nx:∀ Y' O' H' F',P.nx Y'->Same B F'->DEnv K S H0 F0 H' F' O' Y'->D.nx O' H'
 rt:∀ d v H' F',P.rt d->Gr H0 F0 H' F'->Rp K P.kr .fresh H0 F' v d->D.rt v H'
 bk:∀ Y' O' H' F',P.bk Y'->Same B F'->DEnv K S H0 F0 H' F' O' Y'->D.bk O' H'
 ct:∀ Y' O' H' F',P.ct Y'->Same B F'->DEnv K S H0 F0 H' F' O' Y'->D.ct O' H'
def Tg (S:Sx) (B:Hp):Prop:=∀ T,S=.spoil T->∀ a xs,B a=some (.lst xs)->¬ T a
def ExT (K:aA) (S S':Sx) (t:TS) (Y:Ctx) (P:Post):Prop:=∀ (H0 F0 H F:Hp) (O:St) (B:Hp),DEnv K S H0 F0 H F O Y->Same B F->(S'=S\/Tg S B)->∀ D:Ends,Into K S' H0 F0 B P D->t D O H
abbrev ExS (K:aA) (S:Sx) (t:TS) (Y:Ctx) (P:Post):Prop:=ExT K S S t Y P
variable {S':Sx}
variable {P:Post}
theorem yr (h:P.nx Y):ExS K S Wo Y P:=fun H0 F0 H F O B e b _ D I=>I.nx Y O H F h b e
theorem yK (N:Ctx->Prop) (a:ExT K S S t Y { P with nx:=N,bk:=fun _=>False,ct:=fun _=>False }) (c:∀ Y',N Y'->ExT K S S' u Y' P):ExT K S S' (tSeq t u) Y P:=fun H0 F0 H F O B e b v D I =>
 a H0 F0 H F O B e b (.inl rfl) { D with nx:=u D } ⟨fun Y' O' H' F' n s d=>c Y' n H0 F0 H' F' O' B d s v D I,I.rt,fun _ _ _ _ z=>z.elim,fun _ _ _ _ z=>z.elim⟩
theorem T3 (h:¬ S.has H0 a):¬ Sx.has .fresh H0 a:=by
 cases S with
 | fresh=>exact h
 | spoil T=>exact fun c=>h (.inl c)
theorem WG (b:(S=S/\U=kr)\/kr=false) (p:Rp K U S H0 F v d):Rp K kr .fresh H0 F v d:=by
 rcases b with ⟨_,rfl⟩ | rfl
 ·cases U with
  | false=>exact uc (yW p)
  | true=>exact xS (U:=true) (U':=true) (fun a xs z=>⟨z.1,T3 z.2⟩) (fun _ _ z=>z) p
 ·exact uc (yW p)
theorem zM (U:Bool) (h:EvE K S U te Y d) (a:P.rt d) (c:(S=S/\U=P.kr)\/P.kr=false):ExT K S S' (tRet te) Y P:=fun H0 F0 H F O B e b _ D I=>h H0 F0 H F O e _ fun v H' F' g p=>I.rt d v H' F' a (e.gr.trans g) (WG c p)
theorem YO (i:Nat) (h:Y[i]?=some (some (.ow U ds))) (k:ExT K S S' t (Y.set i (some (.fz U (.list ds)))) P):ExT K S S' t Y P:=fun H0 F0 H F O B e b v D I=>by
 obtain ⟨F',s,a⟩:=e.freeze h
 exact k H0 F0 H F' O B a (b.trans s) v D I
theorem zck (h:Y[i]?=some (some (.ow U ds))) (a:P.rt (.list ds)) (b:(S=S/\U=P.kr)\/P.kr=false):ExT K S S' (tRet (tVar i)) Y P :=
 YO i h (zM U (ZV (by rw [bH (aP.mp h).1])) a b)
theorem zaC (h:EvE K S U te Y d) (k:P.nx (Y.set i (some (.fz U d)))):ExS K S (tAsg te (yn i)) Y P:=fun H0 F0 H F O B e b _ D I =>
 h H0 F0 H F O e _ fun v H' F' g p=>I.nx _ _ H' F' k (b.trans g.f) ((e.mono g).setF p)
theorem zcj (h:EvO K S U te Y ds) (k:P.nx (Y.set i (some (.ow U ds)))):ExS K S (tAsg te (yn i)) Y P:=fun H0 F0 H F O B e b _ D I =>
 h H0 F0 H F O e _ fun a vs H' F' g n p f q=>I.nx _ _ H' F' k (b.trans g.f) ((e.mono g).set (x:=.ow U ds) ⟨a,vs,rfl,⟨p,f,e.gr.h.free n,e.out n⟩,q⟩ fun c oc j y w s z m o=>by
  cases (show V.ref a=.ref c from oc)
  obtain ⟨v,d,l⟩:=e.has j y z
  rw [m] at d
  cases d
  obtain ⟨us,r⟩:=l.owns (o.back l fun _ _ z=>g.h _ _ z.h)
  have:=r.h
  rw [n] at this;cases this)
theorem zaE (h:EvE K S U te Y d) (c:ExG K S U g js d Y P.nx):ExS K S (tAsg te g) Y P:=fun H0 F0 H F O B e b _ D I =>
 h H0 F0 H F O e _ fun v i j a k=>c H0 F0 i j O v (e.mono a) k _ fun Y' O' H' F' n l m _ _=>I.nx Y' O' H' F' n (b.trans (a.f.trans l.f)) m
theorem YR (h:Y[i]?=some (some (.ow U ds))) (l:EvE K S U te Y d) (hz:ds.length < sizeLine) (k:P.nx (Y.set i (some (.ow U (ds ++ [d]))))):ExS K S (v5 (tBM K "list" we (tVar i) (zR te tNil))) Y P:=fun H0 F0 H F O B e b _ D I=>by
 obtain ⟨o,c,a,vs,rfl,w,j⟩:=e.has i _ h
 refine ⟨_,c,.inl ⟨rfl,_,SqL.of w.h⟩,l H0 F0 H F O e _ fun v H' F' g p=>?_⟩
 have m:=zw g.f j
 refine ⟨a,vs,v,rfl,rfl,g.h _ _ w.h,by rw [zv.length j];exact hz,?_⟩
 exact I.nx _ _ _ F' k (b.trans g.f) ((e.mono g).put (y:=.ow U (ds ++ [d])) h c (show Owns H' (.ref a) (.ow U ds) a from rfl) ⟨a,_,rfl,⟨zi,(w.mono g).f,w.n,w.s⟩,zv.append m (.cons p .nil)⟩ fun _ z=>z)
theorem xj (d:EvT K S c Y b) (h:b=true->ExT K S S' t Y P) (i:b=false->ExT K S S' u Y P):ExT K S S' (tIfS c t u) Y P:=fun H0 F0 H F O B e a v D I =>
 d H0 F0 H F O e _ fun H' F' g=>by
  cases b with
  | true=>exact iteT (h rfl H0 F0 H' F' O B (e.mono g) (a.trans g.f) v D I)
  | false=>exact iteF (i rfl H0 F0 H' F' O B (e.mono g) (a.trans g.f) v D I)
theorem um (U:Bool) (k:Nat->Ctx->Prop) (hi:EvI K S U wi Y ds) (h0:k 0 Y)
  (R:∀ i d Y',ds[i]?=some d->k i Y'->∃ js,ExG K S U g js d Y' fun s=>ExS K S tb s { nx:=k (i + 1),rt:=P.rt,bk:=P.nx,ct:=k (i + 1),kr:=P.kr }) (hd:∀ Y',k ds.length Y'->P.nx Y'):ExS K S (tFor wi g tb) Y P:=fun H0 F0 H F O B e b _ D I =>
 hi H0 F0 H F O e _ fun J H1 p L E=>by
  refine ⟨fun i m h q=>m=ds.length - i/\i<=ds.length/\∃ a l,k i a/\Same p l/\DEnv K S H0 F0 q l h a,⟨_,rfl,aW _,Y,p,h0,.refl _,e.mono L⟩,?_⟩
  rintro i m h q ⟨rfl,hi,a,l,M,s2,r⟩
  have N:Same B p:=b.trans L.f
  by_cases j:i < ds.length
  ·refine .inr ⟨E.go i q l s2 r.le j,fun t u=>i + 1<=ds.length/\∃ v C,k (i + 1) v/\Same p C/\DEnv K S H0 F0 u C t v,fun t u T=>⟨_,by omega,rfl,T⟩,fun x u y=>?_⟩
   obtain ⟨d,C,hd,fF,fG⟩:=E.yld i q l x u s2 r.le r.sd j y
   obtain ⟨js,V⟩:=R i d a hd M
   refine V H0 F0 u C h x (r.mono fF) fG _ fun Y' O' W Q X fE Z _ _=>?_
   have s4:Same p Q:=s2.trans (fF.f.trans fE.f)
   exact X H0 F0 W Q O' p Z s4 (.inl rfl) _ ⟨fun c o G w n z A=>⟨j,c,w,n,z,A⟩,I.rt,fun c o G w n z A=>I.nx c o G w n (N.trans z) A,fun c o G w n z A=>⟨j,c,w,n,z,A⟩⟩
  ·have ei:i=ds.length:=by omega
   subst ei
   exact .inl ⟨E.stop q l s2 r.le,I.nx a h q l (hd a M) (N.trans s2) r⟩
theorem vF (l:Nat->Ctx->Prop) (z:Nat) (h0:l z Y)
  (L:∀ m Y',l m Y'->∃ b,EvT K S c Y' b/\(b=true->ExS K S tb Y' { nx:=fun d=>∃ a,a < m/\l a d,rt:=P.rt,bk:=P.nx,ct:=fun d=>∃ a,a < m/\l a d,kr:=P.kr })/\(b=false->P.nx Y')):ExS K S (Qo c tb) Y P:=fun H0 F0 H F O B e M _ D I=>by
 refine ⟨fun m g v=>∃ i u,l m i/\Same B u/\DEnv K S H0 F0 v u g i,⟨z,Y,F,h0,M,e⟩,?_⟩
 rintro m g v ⟨i,u,N,s2,w⟩
 obtain ⟨b,fF,Q,R⟩:=L m i N
 refine fF H0 F0 v u g w _ fun A C x=>?_
 have E:=s2.trans x.f
 cases b with
 | true =>
  refine iteT ⟨fun o G=>∃ a,a < m/\∃ p J,l a p/\Same B J/\DEnv K S H0 F0 G J o p,fun o G ⟨a,q,h⟩=>⟨a,q,h⟩,?_⟩
  exact Q rfl H0 F0 A C g B (w.mono x) E (.inl rfl) _ ⟨fun j k y r ⟨a,q,n⟩ s t=>⟨a,q,j,r,n,s,t⟩,I.rt,fun j k y r n s t=>I.nx j k y r n s t,fun j k y r ⟨a,q,n⟩ s t=>⟨a,q,j,r,n,s,t⟩⟩
 | false=>exact iteF (I.nx i g A C (R rfl) E (w.mono x))
def vo (n:Nat) (ds:List PyData):Ctx:=ds.map (fun d=>some (.fz false d)) ++ List.replicate (n - ds.length) none
theorem w8 (le:Same F H) (k:zO K F vs ds):DEnv K .fresh H F H F (L2.start N vs) (vo N.length ds):=by
 have l:=zO.length k
 have no:∀ (i:Nat) (x:DV),(vo N.length ds)[i]?=some (some x)->∃ d,x=.fz false d/\ds[i]?=some d:=fun i x h=>by
  unfold vo at h
  by_cases hi:i < ds.length
  ·rw [List.getElem?_append_left (by simpa using hi),List.getElem?_map] at h
   rw [bD hi] at h ⊢
   have h':some (DV.fz false ds[i])=some x:=bI h
   exact ⟨_,(bI h').symm,rfl⟩
  ·rw [List.getElem?_append_right (by simpa using Nat.le_of_not_lt hi)] at h
   rw [eJ] at h
   split at h <;> cases h
 refine ⟨.refl le,le,fun a c=>?_,fun T z=>(nomatch z),by unfold L2.start vo;simp [l],fun i x h=>?_,fun i j x y v w a h _ _ _ o=>?_⟩
 ·cases q:H a with
  | none=>exact absurd q c
  | some o=>exact ⟨o,rfl⟩
 ·obtain ⟨f,e,h'⟩:=no i _ h
  cases e
  obtain ⟨v,b,g⟩:=zO.get k h'
  refine ⟨v,?_,uc g⟩
  unfold L2.start
  have hi:=(aP.mp b).1
  rw [List.getElem?_append_left (by simpa using hi),List.getElem?_map,b]
  rfl
 ·obtain ⟨f,e,_⟩:=no i _ h
  cases e
  exact o.elim
theorem QE (a:vo N.length ds=Y) (h:ExS K .fresh t Y { nx:=fun _=>d=.none,rt:=fun x=>x=d,kr:=U }) (le:Same F H) (k:zO K F vs ds)
  (q:∀ v H' F',Gr H F H' F'->Rp K U .fresh H F' v d->Q v H'):t { nx:=fun _ H'=>Q .non H',rt:=Q } (L2.start N vs) H:=by
 subst a
 refine h H F H F (L2.start N vs) F (w8 le k) (.refl _) (.inl rfl) _ ⟨fun Y' O' H' F' n _ e=>?_,fun b v H' F' e g p=>?_,fun _ _ _ _ z=>z.elim,fun _ _ _ _ z=>z.elim⟩
 ·have c:d=.none:=n
  subst c
  exact q .non H' F' e.gr .non
 ·have f:b=d:=e
  subst f
  exact q v H' F' g p
theorem zH (h:∀ ds d,pre ds d->ds.length=n) (s:spD K U pre vs H Q E):vs.length=n:=by
 obtain ⟨F,ds,d,_,k,p,_⟩:=s
 rw [zO.length k]
 exact h ds d p
inductive MkD:DV->DV->Prop
 | fz {d:PyData}:MkD (.fz true d) (.fz true d)
 | im {U:Bool} {d:PyData}:imm d=true->MkD (.fz U d) (.fz true d)
 | ow {ds:List PyData}:MkD (.ow true ds) (.ow true ds)
 | oi {U:Bool} {ds:List PyData}:(∀ d∈ds,imm d=true)->MkD (.ow U ds) (.ow true ds)
 | ox:MkD .ox .ox
 | fn {a:Addr}:MkD (.fn a) (.fn a)
inductive wm:Ctx->Ctx->Prop
 | nil:wm [] []
 | no {x:Option DV} {Y Y':Ctx}:wm Y Y'->wm (x :: Y) (none :: Y')
 | got {x y:DV} {Y Y':Ctx}:MkD x y->wm Y Y'->wm (some x :: Y) (some y :: Y')
theorem wm.len (h:wm Y Y'):Y.length=Y'.length:=by
 induction h with
 | nil=>rfl
 | no _ a=>exact congrArg (· + 1) a
 | got _ _ a=>exact congrArg (· + 1) a
theorem wm.get (h:wm Y Y'):∀ {i:Nat} {x:DV},Y'[i]?=some (some x)->∃ y,Y[i]?=some (some y)/\MkD y x:=by
 induction h with
 | nil=>intro i x e;simp at e
 | no _ c =>
  intro i x e
  cases i with
  | zero=>simp at e
  | succ i=>exact c (i:=i) (by simpa using e)
 | @got a b _ _ m _ c =>
  intro i x e
  cases i with
  | zero =>
   have d:b=x:=by simpa using e
   subst d
   exact ⟨a,rfl,m⟩
  | succ i=>exact c (i:=i) (by simpa using e)
theorem MkD.owns (h:MkD y x) (o:Owns H' v x a):Owns H v y a:=by
 cases h <;> first | exact o | exact o.elim
theorem zcl (h:EvA K .fresh false ta Y ds) (W:pre ds d) (L:wm Y Y1) (X:Y1.set i (some (.tn d))=Y2)
  (k:∀ T,ExT K (.spoil T) S' u Y2 P):ExT K .fresh S' (tSeq (tAsg (v6 (spD K true pre) [] E ta) (yn i)) u) Y P:=fun H0 F0 H F O B e b _ D I =>
 h H0 F0 H F O e _ fun vs p M r fE=>⟨M,ds,d,r.le,by rw [bG];exact zP fE,W,fun v N t g Z=>by
  have A:=e.mono r
  let T:Addr->Prop:=fun a=>t a≠none/\p a=none
  have fF:∀ {a:Addr} {o:HO},p a=some o->¬ T a:=fun {a o} z c=>by
   have:p a=none:=c.2
   rw [z] at this;cases this
  have keep:∀ (a:Addr) (xs:List V),LN K true .fresh H0 M a xs->LN K true (.spoil T) H0 t a xs:=fun a xs z=>⟨g.f _ _ z.1,fun c=>c.elim z.2 (fF (r.le _ _ z.1))⟩
  have l:∀ {a:Addr} {us:List V},vj .fresh H0 p M a us->vj (.spoil T) H0 N t a us:=fun {a us} w=>⟨g.h _ _ w.h,g.ap _ _ w.h w.f,w.n,fun c=>c.elim w.s (fF w.h)⟩
  have em:DEnv K (.spoil T) H0 F0 N t O Y1:=by
   refine ⟨A.gr.trans g,A.l0,fun a c=>?_,fun T' Q a c=>?_,by rw [e.len,L.len],fun j x hx=>?_,fun m n x y v w a h1 h2 h3 h4 o1 o2=>?_⟩
   ·rcases c with c | c
    ·obtain ⟨o,q⟩:=A.sd a c
     exact ⟨o,g.h _ _ q⟩
    ·cases q:t a with
     | none=>exact absurd q c.1
     | some o=>exact ⟨o,g.le _ _ q⟩
   ·cases Q
    exact A.gr.h.free c.2
   ·obtain ⟨y,hy,my⟩:=L.get hx
    obtain ⟨w,hw,C⟩:=A.has j y hy
    refine ⟨w,hw,?_⟩
    cases my with
    | fz=>exact xS keep (fun _ _ z=>Same.seqT g.f z) C
    | im hi=>exact Z2 hi (yT g.f (yW C))
    | ow=>obtain ⟨a,us,G,J,R⟩:=C;exact ⟨a,us,G,l J,xm keep (fun _ _ z=>Same.seqT g.f z) R⟩
    | oi hi=>obtain ⟨a,us,G,J,R⟩:=C;exact ⟨a,us,G,l J,x6 hi (xw g.f (zP R))⟩
    | ox=>obtain ⟨a,us,G,J⟩:=C;exact ⟨a,us,G,l J⟩
    | fn=>exact C
   ·obtain ⟨x',S,m1⟩:=L.get h1
    obtain ⟨y',fG,m2⟩:=L.get h2
    exact A.ne m n x' y' v w a S fG h3 h4 (m1.owns o1) (m2.owns o2)
  subst X
  refine k T H0 F0 N t _ B (em.set (x:=.tn d) ⟨T,rfl,?_⟩ fun _ z=>z.elim) (b.trans (r.f.trans g.f)) (.inr fun T' Q a xs z=>?_) D I
  ·refine xS (U:=true) (U':=true) (S':=.spoil fun a=>¬ T a) (H0':=fun _=>none) (fun a xs z=>⟨z.1,fun c=>c.elim (fun w=>w rfl) fun w=>w ⟨by rw [z.1];simp,?_⟩⟩) (fun _ _ z=>z) Z
   cases q:p a with
   | none=>rfl
   | some o=>exact absurd (show p a≠none by rw [q];simp) z.2
  ·cases Q
   exact fF (r.le _ _ (r.f _ _ (b _ _ z)))⟩
def UV:Option HO->Bool
 | some (.lst _)=>true
 | _=>false
open Classical in
noncomputable def drop (T:Addr->Prop) (F:Hp):Hp:=fun a=>if T a/\UV (F a)=true then none else F a
theorem yk:drop T F a=some o↔F a=some o/\¬ (T a/\UV (some o)=true):=by
 unfold drop
 constructor
 ·intro h
  split at h
  ·cases h
  ·rename_i c;rw [h] at c;exact ⟨h,c⟩
 ·rintro ⟨h,c⟩
  rw [h,if_neg c]
inductive SpD:DV->DV->Prop
 | fz {d:PyData}:SpD (.fz true d) (.fz true d)
 | im {U:Bool} {d:PyData}:imm d=true->SpD (.fz U d) (.fz true d)
 | ow {ds:List PyData}:SpD (.ow true ds) (.ow true ds)
 | oi {U:Bool} {ds:List PyData}:(∀ d∈ds,imm d=true)->SpD (.ow U ds) (.ow true ds)
 | ox:SpD .ox .ox
 | tn {ds:List PyData}:SpD (.tn (.list ds)) .ox
inductive SpC:Ctx->Ctx->Prop
 | nil:SpC [] []
 | no {x:Option DV} {Y Y':Ctx}:SpC Y Y'->SpC (x :: Y) (none :: Y')
 | got {x y:DV} {Y Y':Ctx}:SpD x y->SpC Y Y'->SpC (some x :: Y) (some y :: Y')
theorem SpC.len (h:SpC Y Y'):Y.length=Y'.length:=by
 induction h with
 | nil=>rfl
 | no _ a=>exact congrArg (· + 1) a
 | got _ _ a=>exact congrArg (· + 1) a
theorem SpC.get (h:SpC Y Y'):∀ {i:Nat} {x:DV},Y'[i]?=some (some x)->∃ y,Y[i]?=some (some y)/\SpD y x:=by
 induction h with
 | nil=>intro i x e;simp at e
 | no _ c =>
  intro i x e
  cases i with
  | zero=>simp at e
  | succ i=>exact c (i:=i) (by simpa using e)
 | @got a b _ _ m _ c =>
  intro i x e
  cases i with
  | zero =>
   have d:b=x:=by simpa using e
   subst d
   exact ⟨a,rfl,m⟩
  | succ i=>exact c (i:=i) (by simpa using e)
def OneT (Y:Ctx):Prop:=∀ (i j:Nat) d f,Y[i]?=some (some (.tn d))->Y[j]?=some (some (.tn f))->i=j
theorem DEnv.spoilt (e:DEnv K (.spoil T) H0 F0 H F O Y) (I:∀ b o,H b=some o->UV (some o)=false\/¬ T b->H' b=some o) (J:SpC Y Y') (ho:OneT Y)
  (h2:∀ (i:Nat) ds a vs,Y[i]?=some (some (.tn (.list ds)))->O[i]?=some (some (.ref a))->H a=some (.lst vs)->∃ ws,H' a=some (.lst ws)):DEnv K .fresh H0 F0 H' (drop T F) O Y':=by
 have s0:∀ a,T a->H0 a=none:=e.s0 T rfl
 have hF:∀ b o,drop T F b=some o->H' b=some o:=fun b o z=>by
  obtain ⟨z1,z2⟩:=yk.mp z
  refine I b o (e.le _ _ z1) ?_
  cases q:UV (some o) with
  | false=>exact .inl rfl
  | true=>exact .inr fun c=>z2 ⟨c,q⟩
 have tup:∀ (a:Addr) (xs:List V),SqT K F a xs->SqT K (drop T F) a xs:=fun a xs z=>by
  rcases z with (z | ⟨o,z⟩) | z
  ·exact .inl (.inl (yk.mpr ⟨z,fun c=>nomatch c.2⟩))
  ·exact .inl (.inr ⟨o,yk.mpr ⟨z,fun c=>nomatch c.2⟩⟩)
  ·exact .inr z
 have ln:∀ (a:Addr) (xs:List V),LN K true (.spoil T) H0 F a xs->LN K true .fresh H0 (drop T F) a xs:=fun a xs z=>⟨yk.mpr ⟨z.1,fun c=>z.2 (.inr c.1)⟩,fun c=>z.2 (.inl c)⟩
 have C:∀ {U:Bool} {v:V} {d:PyData},imm d=true->Rp K U (.spoil T) H0 F v d->Rp K true .fresh H0 (drop T F) v d:=fun hi p=>xS (U:=true) ln tup (Z2 hi (yW p))
 have own:∀ {a:Addr} {us:List V},vj (.spoil T) H0 H F a us->vj .fresh H0 H' (drop T F) a us:=fun {a us} w=>by
  refine ⟨I _ _ w.h (.inr fun c=>w.s (.inr c)),?_,w.n,fun c=>w.s (.inl c)⟩
  cases q:drop T F a with
  | none=>rfl
  | some o =>
   have:=(yk.mp q).1
   rw [w.f] at this
   cases this
 have r:∀ {i:Nat} {ds:List PyData} {v:V},Y[i]?=some (some (.tn (.list ds)))->O[i]?=some (some v)->∃ a vs ws,v=.ref a/\F a=some (.lst vs)/\vj .fresh H0 H' (drop T F) a ws:=fun {i ds v} hi D=>by
  obtain ⟨v',E,h⟩:=e.has i _ hi
  rw [D] at E
  cases E
  obtain ⟨T',M,p⟩:=h
  cases M
  obtain ⟨a,vs,rfl,L,_⟩:=tE p
  have N:T a:=Classical.byContradiction fun c=>L.2 (.inr c)
  obtain ⟨ws,hw⟩:=h2 i ds a vs hi D (e.le _ _ L.1)
  refine ⟨a,vs,ws,rfl,L.1,hw,?_,s0 a N,fun c=>c (s0 a N)⟩
  cases q:drop T F a with
  | none=>rfl
  | some o =>
   obtain ⟨R,q2⟩:=yk.mp q
   rw [L.1] at R
   cases R
   exact absurd ⟨N,rfl⟩ q2
 refine ⟨⟨fun b o z=>?_,fun b o z=>?_,hF,fun b o z n=>?_⟩,e.l0,(fun a c=>by
  cases q:H0 a with
  | none=>exact absurd q c
  | some o=>exact ⟨o,I _ _ (e.gr.h _ _ q) (.inr fun c=>by rw [s0 _ c] at q;cases q)⟩),(fun T' M=>nomatch M),by rw [e.len,J.len],fun j x hx=>?_,fun m n x y v w a g1 g2 S fF o1 o2=>?_⟩
 ·exact I _ _ (e.gr.h _ _ z) (.inr fun c=>by rw [s0 _ c] at z;cases z)
 ·exact yk.mpr ⟨e.gr.f _ _ z,fun c=>by have:=e.l0 _ _ z;rw [s0 _ c.1] at this;cases this⟩
 ·cases q:drop T F b with
  | none=>rfl
  | some o'=>have:=(yk.mp q).1;rw [e.gr.ap _ _ z n] at this;cases this
 ·obtain ⟨y,fG,my⟩:=J.get hx
  obtain ⟨v,D,h⟩:=e.has j y fG
  refine ⟨v,D,?_⟩
  cases my with
  | fz=>exact xS ln tup h
  | im hi=>exact C hi h
  | ow=>obtain ⟨a,us,t,g,P⟩:=h;exact ⟨a,us,t,own g,xm ln tup P⟩
  | oi hi=>obtain ⟨a,us,t,g,P⟩:=h;exact ⟨a,us,t,own g,xm (U:=true) ln tup (x6 hi (zP P))⟩
  | ox=>obtain ⟨a,us,t,g⟩:=h;exact ⟨a,us,t,own g⟩
  | tn=>obtain ⟨a,_,ws,t,_,g⟩:=r fG D;exact ⟨a,ws,t,g⟩
 ·obtain ⟨k,A,m1⟩:=J.get g1
  obtain ⟨y',l,W⟩:=J.get g2
  have cs:∀ {x k:DV} {i:Nat} {v:V},Y[i]?=some (some k)->O[i]?=some (some v)->SpD k x->Owns H' v x a->(Owns H v k a/\F a=none)\/(∃ ds,k=.tn (.list ds))/\F a≠none:=fun {x k i v} hi X m o=>by
   have B:Owns H v k a->F a=none:=fun o'=>by
    obtain ⟨u,fE,h⟩:=e.has i k hi
    rw [X] at fE
    cases fE
    obtain ⟨us,g⟩:=h.owns o'
    exact g.f
   cases m with
   | fz=>exact o.elim
   | im _=>exact o.elim
   | ow=>exact .inl ⟨o,B o⟩
   | oi _=>exact .inl ⟨o,B o⟩
   | ox=>exact .inl ⟨o,B o⟩
   | tn =>
    obtain ⟨b,vs,ws,eb,hb,_⟩:=r hi X
    cases (show v=.ref a from o)
    cases eb
    exact .inr ⟨⟨_,rfl⟩,by rw [hb];simp⟩
  rcases cs A S m1 o1 with ⟨p1,Q⟩ | ⟨⟨d1,rfl⟩,Q⟩
  ·rcases cs l fF W o2 with ⟨Z,G⟩ | ⟨_,G⟩
   ·exact e.ne m n k y' v w a A l S fF p1 Z
   ·exact absurd Q G
  ·rcases cs l fF W o2 with ⟨Z,G⟩ | ⟨⟨d2,rfl⟩,G⟩
   ·exact absurd G Q
   ·exact ho m n _ _ A l
theorem Ul (b:Same B F) (h:Tg (.spoil T) B):Same B (drop T F):=fun a o z=>yk.mpr ⟨b _ _ z,fun c=>by
 cases o with
 | lst xs=>exact h T rfl a xs z c.1
 | _=>exact nomatch c.2⟩
theorem zbe (v:Sx.fresh=.spoil T\/Tg (.spoil T) B):Tg (.spoil T) B:=v.elim (fun z=>nomatch z) fun z=>z
end
inductive SetC:Ctx->Nat->Option DV->Ctx->Prop
 | zero {a x:Option DV} {l:Ctx}:SetC (a :: l) 0 x (x :: l)
 | succ {a x:Option DV} {l l':Ctx} {i:Nat}:SetC l i x l'->SetC (a :: l) (i + 1) x (a :: l')
theorem SetC.eq (h:SetC Y i x Y'):Y.set i x=Y':=by
 induction h with
 | zero=>rfl
 | succ _ a=>rw [List.set_cons_succ,a]
inductive GetC:Ctx->Nat->DV->Prop
 | zero {x:DV} {l:Ctx}:GetC (some x :: l) 0 x
 | succ {a:Option DV} {x:DV} {l:Ctx} {i:Nat}:GetC l i x->GetC (a :: l) (i + 1) x
theorem GetC.eq (h:GetC Y i x):Y[i]?=some (some x):=by
 induction h with
 | zero=>rfl
 | succ _ a=>rw [List.getElem?_cons_succ,a]
inductive xK:List (Option Nat)->Ctx->Ctx->Prop
 | nil {Y:Ctx}:xK [] Y []
 | no {js:List (Option Nat)} {Y Y':Ctx}:xK js Y Y'->xK (none :: js) Y (none :: Y')
 | got {js:List (Option Nat)} {Y Y':Ctx} {j:Nat} {x:DV}:GetC Y j x->xK js Y Y'->xK (some j :: js) Y (some x :: Y')
theorem xK.eq (h:xK js Y Y'):Za js Y=Y':=by
 induction h with
 | nil=>rfl
 | no _ a =>
  unfold Za at a ⊢
  rw [bB,a]
 | got g _ a =>
  unfold Za at a ⊢
  rw [bB,a]
  show (Option.join _ :: _)=_
  rw [g.eq]
  rfl
section
variable {K:aA} {S S':Sx} {U U':Bool} {Y Y' Y'':Ctx} {P:Post}
theorem evv (h:GetC Y i (.fz U' d)) (a:U=true->U'=true):EvE K S U (tVar i) Y d:=(ZV h.eq).weak a
theorem evi (h:GetC Y i (.fz U' d)) (a:imm d=true):EvE K S U (tVar i) Y d:=(ZV h.eq).imm a
theorem evtn (h:GetC Y i (.tn d)):EvE K S false (tVar i) Y d:=zd0 h.eq
theorem EvL.weak (h:EvL K S U' t Y ds) (b:U=true->U'=true):EvL K S U t Y ds:=fun H0 F0 H F O e Q q=>h H0 F0 H F O e Q fun a vs H' F' g p k=>q a vs H' F' g p (by
 cases U with
 | false=>exact uZ (zP k)
 | true=>rw [b rfl] at k;exact k)
theorem evw (h:GetC Y i (.ow U' ds)) (a:U=true->U'=true):EvL K S U (tVar i) Y ds:=(zcr h.eq).weak a
theorem exs (U:Bool) (h:EvE K S U te Y d) (e:SetC Y i (some (.fz U d)) Y') (k:ExT K S S' u Y' P):ExT K S S' (tSeq (tAsg te (yn i)) u) Y P:=yK (·=Y') (zaC h e.eq) fun _ z=>z ▸ k
theorem exs1 (U:Bool) (h:EvE K S U te Y d) (e:SetC Y i (some (.fz U d)) Y') (k:P.nx Y'):ExS K S (tAsg te (yn i)) Y P:=zaC h (e.eq ▸ k)
theorem exo (U:Bool) (h:EvO K S U te Y ds) (e:SetC Y i (some (.ow U ds)) Y') (k:ExT K S S' u Y' P):ExT K S S' (tSeq (tAsg te (yn i)) u) Y P:=yK (·=Y') (zcj h e.eq) fun _ z=>z ▸ k
theorem exa (h:GetC Y i (.ow U ds)) (a:EvE K S U te Y d) (e:SetC Y i (some (.ow U (ds ++ [d]))) Y') (hz:ds.length < sizeLine) (k:ExT K S S' u Y' P):ExT K S S' (tSeq (v5 (tBM K "list" we (tVar i) (zR te tNil))) u) Y P:=yK (·=Y') (YR h.eq a hz e.eq) fun _ z=>z ▸ k
theorem exa1 (h:GetC Y i (.ow U ds)) (a:EvE K S U te Y d) (e:SetC Y i (some (.ow U (ds ++ [d]))) Y') (hz:ds.length < sizeLine) (k:P.nx Y'):ExS K S (v5 (tBM K "list" we (tVar i) (zR te tNil))) Y P:=YR h.eq a hz (e.eq ▸ k)
theorem exfz (i:Nat) (h:GetC Y i (.ow U ds)) (e:SetC Y i (some (.fz U (.list ds))) Y') (k:ExT K S S' t Y' P):ExT K S S' t Y P:=YO i h.eq (by rw [e.eq];exact k)
theorem egn (e:SetC Y i (some (.fz U d)) Y') (h:k Y'):ExG K S U (yn i) [i] d Y k:=zcy (by rw [e.eq];exact h)
theorem egt (a:SetC Y i (some (.fz U x)) Y') (b:SetC Y' j (some (.fz U y)) Y'') (h:k Y''):ExG K S U (gTup K 2 (uT (yn i) (uT (yn j) gNil))) [i,j] (.tuple [x,y]) Y k:=zd3 (by rw [a.eq,b.eq];exact h)
theorem exro (h:GetC Y i (.ow U ds)) (a:P.rt (.list ds)) (b:(S=S/\U=P.kr)\/P.kr=false):ExT K S S' (tRet (tVar i)) Y P:=zck h.eq a b
theorem exif (N:Ctx->Prop) (a:EvT K S c Y b) (d:b=true->ExS K S t Y { P with nx:=N,bk:=fun _=>False,ct:=fun _=>False }) (e:b=false->ExS K S u Y { P with nx:=N,bk:=fun _=>False,ct:=fun _=>False }) (k:∀ Y',N Y'->ExT K S S' v Y' P):ExT K S S' (tSeq (tIfS c t u) v) Y P:=yK N (xj a d e) k
theorem vE (d:EvT K S c Y b) (h:b=true->ExT K S S' (tSeq t v) Y P) (i:b=false->ExT K S S' (tSeq u v) Y P):ExT K S S' (tSeq (tIfS c t u) v) Y P:=fun H0 F0 H F O B e a vv D I=>by
 refine d H0 F0 H F O e _ fun H' F' g=>?_
 cases b with
 | true=>exact iteT (h rfl H0 F0 H' F' O B (e.mono g) (a.trans g.f) vv D I)
 | false=>exact iteF (i rfl H0 F0 H' F' O B (e.mono g) (a.trans g.f) vv D I)
theorem exn (k:ExT K S S' v Y P):ExT K S S' (tSeq Wo v) Y P:=yK (·=Y) (yr rfl) fun _ z=>z ▸ k
theorem wK (a:EvT K S c Y b) (d:b=false) (k:ExT K S S' v Y P):ExT K S S' (tSeq (tIfS c t Wo) v) Y P:=vE a (fun h=>by rw [d] at h;cases h) fun _=>exn k
theorem vi (U:Bool) (a:Nat->Ctx->Prop) (hi:EvI K S U wi Y ds) (h0:a 0 Y)
  (c:∀ i d Y',ds[i]?=some d->a i Y'->∃ js,ExG K S U g js d Y' fun b=>ExS K S tb b { nx:=a (i + 1),rt:=P.rt,bk:=a ds.length,ct:=a (i + 1),kr:=P.kr }) (hd:∀ Y',a ds.length Y'->ExT K S S' u Y' P):ExT K S S' (tSeq (tFor wi g tb) u) Y P:=yK (a ds.length) (um U a hi h0 c fun _ h=>h) hd
theorem exrs (U:Bool) (h:EvE K S U te Y d) (a:P.rt d) (b:(S=S/\U=P.kr)\/P.kr=false):ExT K S S' (tSeq (tRet te) v) Y P:=yK (fun _=>False) (zM U h a b) fun _ z=>z.elim
theorem exmk (h:EvA K .fresh false ta Y ds) (a:pre ds d) (b:wm Y Y1) (c:SetC Y1 i (some (.tn d)) Y2)
  (k:∀ T,ExT K (.spoil T) S' u Y2 P):ExT K .fresh S' (tSeq (tAsg (v6 (spD K true pre) [] E ta) (yn i)) u) Y P:=zcl h a b c.eq k
theorem YT (U':Bool) (p:PyData->Bool) (f:PyData->PyData) (hi:EvI K S U' wi Y ds) (n:xK js Y Γc) (c:(is.all fun i=>js[i]? == some none)=true)
  (q:(js.filterMap id).Nodup) (hz:ds.length<=sizeLine) (r:∀ d∈ds,ExG K S U' g is d Γc fun Y'=>EvT K S tt Y' (p d)/\(p d=true->EvE K S U te Y' (f d))):EvO K S U (ve js wi g tt te) Y ((ds.filter p).map f):=by
 refine zaF p f hi (fun i hi=>?_) ?_ hz (by rw [n.eq];exact r)
 ·have:=cC.mp c i hi
  simpa using this
 ·intro i j k b e
  clear n c hi r
  induction js generalizing i j with
  | nil=>simp at b
  | cons o js s =>
   cases o with
   | none =>
    cases i with
    | zero=>simp at b
    | succ i =>
     cases j with
     | zero=>simp at e
     | succ j=>rw [s (by simpa using q) i j (by simpa using b) (by simpa using e)]
   | some m =>
    have h:(m :: js.filterMap id).Nodup:=by simpa using q
    have t:=(bV.mp h).1
    cases i with
    | zero =>
     cases j with
     | zero=>rfl
     | succ j =>
      have l:m=k:=by simpa using b
      subst l
      have a:js[j]?=some (some m):=by simpa using e
      exact absurd (show m∈js.filterMap id from dO.mpr ⟨some m,aS a,rfl⟩) t
    | succ i =>
     cases j with
     | zero =>
      have l:m=k:=by simpa using e
      subst l
      have a:js[i]?=some (some m):=by simpa using b
      exact absurd (show m∈js.filterMap id from dO.mpr ⟨some m,aS a,rfl⟩) t
     | succ j=>rw [s (List.nodup_cons.mp h).2 i j (by simpa using b) (by simpa using e)]
theorem zcq (U':Bool) (f:PyData->PyData) (hi:EvI K S U' wi Y ds) (b:xK js Y Γc) (a:(is.all fun i=>js[i]? == some none)=true)
  (c:(js.filterMap id).Nodup) (hz:ds.length<=sizeLine) (j:∀ d∈ds,ExG K S U' g is d Γc fun Y'=>EvE K S U te Y' (f d)):EvO K S U (ve js wi g tYes te) Y (ds.map f):=by
 have h:=YT (K:=K) (S:=S) (U:=U) (g:=g) (tt:=tYes) (te:=te) (is:=is) U' (fun _=>true) f hi b a c hz fun d hd H0 F0 H F O v e p Q q=>j d hd H0 F0 H F O v e p Q fun Y' O' H' F' k=>q Y' O' H' F' ⟨zaP,fun _=>k⟩
 rwa [List.filter_eq_self.mpr (fun _ _=>rfl)] at h
end
inductive xf:Nat->List PyData->Ctx->Prop
 | z:xf 0 [] []
 | no {n:Nat} {Y:Ctx}:xf n [] Y->xf (n + 1) [] (none :: Y)
 | got {n:Nat} {d:PyData} {ds:List PyData} {Y:Ctx}:xf n ds Y->xf (n + 1) (d :: ds) (some (.fz false d) :: Y)
theorem xf.eq (h:xf n ds Y):vo n ds=Y:=by
 induction h with
 | z=>rfl
 | @no n Y _ a =>
  rw [<- a]
  unfold vo
  simp [List.replicate_succ]
 | @got n d ds Y _ a =>
  rw [<- a]
  unfold vo
  simp
theorem zbz (le:Same F H) (k:zO K F vs ds) (q:∀ v H' F',Gr H F H' F'->Rp K U .fresh H F' v d->Q v H') (b:N.length=n) (a:xf n ds Y)
  (h:ExS K .fresh t Y { nx:=fun _=>d=.none,rt:=fun x=>x=d,kr:=U }):t { nx:=fun _ H'=>Q .non H',rt:=Q } (L2.start N vs) H:=QE (b ▸ a.eq) h le k q
section
variable {K:aA} {S:Sx} {U:Bool} {Y:Ctx}
end
theorem asm {p:Prop} (h:p):p:=h
theorem atI0:atI (a :: l) 0=some a:=by
 unfold atI ixN
 simp
theorem atI1:atI (a :: b :: l) 1=some b:=by
 unfold atI ixN
 have h:(1:Int) < ((a :: b :: l).length:Int):=by simp;omega
 rw [if_pos (by decide),if_pos h]
 rfl
theorem zdQ (h:PySem.W.kitOne K t c=some b):PySem.W.kitOne K t c=some b:=h
end PD
namespace L2
open PySem PySem.Spec PyProof.Rows
section
variable {X:Cx} {K:aA}
theorem zE (a:X.K=K) (b:PE X l tl):PI X tg l (UX K tl):=by subst a;exact zbK b
variable {o e:Expr} {es:List Expr} {to:TE} {t:TA} {name:Str} {apos cpos:Pos} {T id:String} {r:V->List V->Hp->VK->Prop}
theorem XG (d:X.K=K) (pa:PlainAttrs T) (slot:Slot T name id) (c:typeOf (.builtin id)=pure (.type "method_descriptor")) (e:MtR X id r) (f:PE X o to)
  (a:attributeBase o name X.env (eval o X.env)=eval o X.env:=by rfl) (b:(apos.endLine == cpos.line)=true:=by rfl):PE X (.Call (.Attribute o name apos) [] [] cpos) (tBM0 K T r to):=by subst d;exact zdz pa slot c e f a b
theorem yN (g:X.K=K) (pa:PlainAttrs T) (slot:Slot T name id) (f:typeOf (.builtin id)=pure (.type "method_descriptor")) (h:MtR X id r) (i:PE X o to) (j:PA X (e :: es) t)
  (b:attributeBase o name X.env (eval o X.env)=eval o X.env:=by rfl)
  (d:((backTo cpos (starEach (e :: es) X.env)).all (fun x=>!x.1) && (backToKw cpos (keywordEach [] X.env)).all (fun x=>x.1.isSome)
   && decide ((e :: es).length + ([]:List Keyword).length + (if ([]:List Keyword).isEmpty then 0 else 1) < 30))=true:=by rfl)
  (c:(apos.endLine == cpos.line)=true:=by rfl) (k:starEach (e :: es) X.env=(false,eval e X.env) :: starEach es X.env:=by rfl) (a:(backTo cpos (starEach es X.env)).any (·.1)=false:=by rfl):PE X (.Call (.Attribute o name apos) (e :: es) [] cpos) (tBM K T r to t):=by subst g;exact zeA pa slot f h i j b d c k a
end
end L2
namespace PD
open PySem L2
abbrev il (ns:List Int):PyData:=.list (ns.map .int)
theorem W5 (ns:List Int):∀ d∈ns.map PyData.int,imm d=true:=fun d hd=>by
 obtain ⟨n,_,rfl⟩:=aF.mp hd
 rfl
section
variable {K:aA} {S:Sx} {U:Bool} {Y:Ctx}
theorem zaG {t:TE} {ns:List Int} (h:EvE K S false t Y (.list (ns.map .int))):EvL K S U t Y (ns.map .int):=h.toL.imm (W5 ns)
end
theorem xN {a:Type} {g:a->PyData} {ns:List a} {i:Nat} {d:PyData} (h:(ns.map g)[i]?=some d):∃ n,ns[i]?=some n/\d=g n:=by
 rw [aU] at h
 cases e:ns[i]? with
 | none=>rw [e] at h;cases h
 | some n=>rw [e] at h;exact ⟨n,rfl,(bI h).symm⟩
theorem vP (h0:-(2 ^ 64) < j) (a:j < 2 ^ 64):IntMulOk i j:=.of_right (intBits_le_64 h0 a)
theorem yt {a:Type} {g:a->PyData} {xs:List a} {i:Nat} {x:a} (h:xs[i]?=some x):atI (xs.map g) (i:Int)=some (g x):=zcH (by rw [aU,h];rfl)
theorem zb8 {n i:Nat} (h:i < n):ixN n (i:Int)=some i:=by
 unfold ixN
 rw [if_pos (by omega),if_pos (by omega)]
 simp
theorem xo (h:((List.range n).map fun k:Nat=>PyData.int (k:Int))[i]?=some d):i < n/\d=.int i:=by
 rw [aU] at h
 by_cases hi:i < n
 ·rw [cN hi] at h
  exact ⟨hi,(bI h).symm⟩
 ·rw [List.getElem?_eq_none (by simp;omega)] at h
  cases h
theorem yX (n:Nat):((List.range n).map fun k:Nat=>PyData.int (k:Int)).length=n:=by rw [aB,aV]
def isTn:Option DV->Bool
 | some (.tn _)=>true
 | _=>false
theorem UG (h:(Y.filter isTn).length<=1):OneT Y:=by
 intro i j d f a b
 have key:∀ (Y:Ctx),(Y.filter isTn).length<=1->∀ (i j:Nat),Y[i]?=some (some (.tn d))->Y[j]?=some (some (.tn f))->i=j:=by
  intro Y
  induction Y with
  | nil=>intro _ i j a;simp at a
  | cons x r l =>
   intro c i j a b
   have no:isTn x=true->∀ {m:Nat} {g:PyData},r[m]?=some (some (.tn g))->False:=fun n m g o=>by
    rw [eD,if_pos n,bS] at c
    have:(some (DV.tn g))∈r.filter isTn:=aJ.mpr ⟨aS o,rfl⟩
    have:=dB this
    omega
   have k:(r.filter isTn).length<=1:=by
    rw [eD] at c
    split at c
    ·rw [bS] at c;omega
    ·exact c
   cases i with
   | zero =>
    cases j with
    | zero=>rfl
    | succ j =>
     have e:x=some (.tn d):=by simpa using a
     exact (no (by rw [e];rfl) (by simpa using b)).elim
   | succ i =>
    cases j with
    | zero =>
     have e:x=some (.tn f):=by simpa using b
     exact (no (by rw [e];rfl) (by simpa using a)).elim
    | succ j=>rw [l k i j (by simpa using a) (by simpa using b)]
 exact key Y h i j a b
section
variable {K:aA} {S S':Sx} {U:Bool} {Y:Ctx} {P:Post}
end
theorem Zm {a:Type} {g:a->PyData} (h:∀ x,PyData.canLay0 (g x)=true):∀ xs:List a,PyData.canLayAll0 (xs.map g)=true
 | []=>rfl
 | x :: r=>by
  show (PyData.canLay0 (g x) && PyData.canLayAll0 (r.map g))=true
  rw [h,Zm h r]
  rfl
theorem vX {a:Type} {g:a->PyData} {n:Nat} (h:∀ x,PyData.depth (g x)<=n):∀ xs:List a,PyData.depthAll (xs.map g)<=n
 | []=>aW _
 | x :: r=>by
  show max (PyData.depth (g x)) (PyData.depthAll (r.map g))<=n
  have:=vX h r
  have:=h x
  omega
theorem YA (a:PyData.canLay0 d=true) (b:PyData.depth d<=50):SeqAt.shaped d=true:=by
 unfold SeqAt.shaped
 rw [a]
 simp
 omega
end PD
namespace L2
open PySem PySem.Spec PyProof.Rows
def srt (ns:List Int):List Int:=ns.mergeSort fun a b=>decide (a<=b)
theorem tX:∀ {a b:List Int},a.Perm b->a.Pairwise (·<=·)->b.Pairwise (·<=·)->a=b
 | [],b,p,_,_=>p.nil_eq
 | x :: r,[],p,_,_=>absurd p.length_eq (by simp)
 | x :: r,y :: t,p,h1,h2=>by
  have f:=dE.mp h1
  have g:=dE.mp h2
  have c:x∈y :: t:=p.mem_iff.mp aK
  have d:y∈x :: r:=p.mem_iff.mpr aK
  have e:x=y:=by
   rcases aT.mp c with e | c
   ·exact e
   ·rcases aT.mp d with e | d
    ·exact e.symm
    ·have:=g.1 x c
     have:=f.1 y d
     omega
  subst e
  rw [tX p.cons_inv f.2 g.2]
theorem uw (ns:List Int):(srt ns).Perm ns:=List.mergeSort_perm ns _
theorem Zs (ns:List Int):(srt ns).Pairwise (·<=·):=by
 have:=List.pairwise_mergeSort (le:=fun a b:Int=>decide (a<=b)) (fun a b c d e=>by simp at *;omega) (fun a b=>by simp;omega) ns
 exact this.imp fun h=>by simpa using h
theorem zdi (p:a.Perm ns) (h:a.Pairwise (·<=·)):a=srt ns:=tX (p.trans (uw ns).symm) h (Zs ns)
section
variable {X:Cx} {K:aA}
theorem uu:∀ {ns:List Int} {us:List Value},IntsAre us ns->Vals (ns.map V.int) us
 | _,_,.nil=>.nil
 | _,_,.cons _ t r=>.cons ⟨t,rfl⟩ (uu r)
def Xx (K:aA):List V->Hp->VK->Prop:=fun xs H Q=>∃ p ns,xs=[.ref p]/\SqL K H p (ns.map V.int)/\ns.length < 64/\∀ l,H l=none->Q (.ref l) (upd H l (.lst ((srt ns).map V.int)))
theorem Vj:yq X (.builtin "sorted") (Xx X.K):=by
 intro pins s O H xs us Q I r h
 obtain ⟨p,ns,rfl,f,g,q⟩:=h
 obtain ⟨u,rfl,i⟩:=xh r
 cases i
 obtain ⟨a,b,pl,d⟩:=I.list f
 have j:=b.length
 rw [aB] at j d
 refine sorted_ints (vs:=a) pl.isList (x0 b) (by omega) fun out k l m n=>?_
 have e:=zdi m n
 subst e
 obtain ⟨c,o⟩:=sortedAll_at s.heap a out
 exact ⟨.ref (s.heap.objs.size + 1),_,I.laid (t':=s.toks) (fun _ _=>sortedAll_old) (Nat.le_succ _) (show yj X.prog X.w _ _ _ (.lst ((srt ns).map V.int)) from ⟨by rw [List.length_map,(uw ns).length_eq];exact d,out.toList,c,uu l,by simpa using o⟩),rfl,q _ (I.hok.fresh (Nat.le_succ _))⟩
theorem u8 (a:X.K=K):yq X (.builtin "sorted") (Xx K):=by subst a;exact Vj
def low (d:PyData):Bool:=d.canLay0 && decide (d.depth<=50)
open Classical in
noncomputable def eqU2 (h:Heap) (d:PyData) (y:Value):Bool:=decide (∃ dy as,Reads h y dy as/\low dy=true/\PyData.eqv dy d=true)
theorem XW (h:low d=true):d.canLay0=true:=(bZ.mp h).1
theorem TQ (h:low d=true):d.depth<=50:=of_decide_eq_true (bZ.mp h).2
open Classical in
theorem fG0 (r:Reads h y dy as) (l:low dy=true):eqU2 h d y=PyData.eqv dy d:=by
 unfold eqU2
 cases e:PyData.eqv dy d with
 | true=>apply decide_eq_true;exact ⟨dy,as,r,l,e⟩
 | false =>
  apply decide_eq_false
  rintro ⟨b,bs,c,f,a⟩
  rw [SeqAt.Reads.unique dy b y as bs (XW l) r c] at e
  rw [e] at a
  cases a
theorem Vo:∀ {us:List Value} {ds:List PyData} {as:List Addr},ReadsAll h us ds as->(∀ e∈ds,low e=true)->us.any (eqU2 h d)=ds.any (PyData.eqv · d)
 | _,_,_,.nil,_=>rfl
 | _,_,_,.cons r t,l=>by rw [cF,cF,fG0 r (l _ aK),Vo t fun e a=>l e (bA _ a)]
theorem YK:∀ {us:List Value} {ds:List PyData} {as:List Addr},ReadsAll h us ds as->∀ u∈us,∃ d∈ds,∃ bs,Reads h u d bs
 | _,_,_,.nil,_,a=>by cases a
 | _,_,_,.cons r t,u,a=>by
  rcases aT.mp a with rfl | a
  ·exact ⟨_,aK,_,r⟩
  ·obtain ⟨d,hd,bs,q⟩:=YK t u a
   exact ⟨d,bA _ hd,bs,q⟩
def rInD (K:aA) (neg:Bool):R2:=fun x y H Q=>∃ p xs d ds,y=.ref p/\SqL K H p xs/\Dp K H x d/\zO K H xs ds/\low d=true/\(∀ e∈ds,low e=true)/\Q (.bl (if neg then !ds.any (PyData.eqv · d) else ds.any (PyData.eqv · d))) H
theorem Ty (t:X.A.units + 64 < cLine):OpR X (compareOp .NotIn) (rInD X.K true):=by
 intro pins s O H x y v u Q I i j h
 obtain ⟨p,xs,d,ds,rfl,k,l,m,e,c,q⟩:=h
 cases j
 obtain ⟨a,r,pl,z⟩:=I.list k
 obtain ⟨as,n⟩:=l.reads I i
 obtain ⟨bs,f⟩:=zO.reads I m r
 refine SeqAt.notIn_listAt (eqU2 s.heap d) pl.isList (fun w o=>?_) ⟨.bl _,H,I,rfl,?_⟩
 ·obtain ⟨b,hd,cs,g⟩:=YK f w (by simpa using o)
  rw [fG0 g (c b hd)]
  exact SeqAt.eqAt_reads b d _ s w v cs as g n (XW (c b hd)) (XW e) (by have:=TQ e;have:=Nat.min_le_right b.depth d.depth;show X.A.units + 1 + _ < _;omega)
 ·rw [show a.toArray.any (eqU2 s.heap d)=a.any (eqU2 s.heap d) by simp,Vo f c]
  exact q
theorem ZJ (a:X.K=K) (b:X.A.units + 64 < cLine):OpR X (compareOp .NotIn) (rInD K true):=by subst a;exact Ty b
def Xy:V->List V->Hp->VK->Prop:=fun x vs H Q=>∃ l xs j y,x=.ref l/\vs=[.int j,y]/\H l=some (.lst xs)/\0<=j/\j<=(xs.length:Int)/\xs.length < sizeLine/\Q .non (upd H l (.lst (xs.take j.toNat ++ y :: xs.drop j.toNat)))
theorem YJ:MtM X "list.insert" Xy:=by
 intro pins s O H x vs v us Q I d f h
 obtain ⟨l,xs,j,y,rfl,rfl,c,w,A,B,q⟩:=h
 cases d
 cases f with
 | cons g b =>
  obtain ⟨t,rfl⟩:=g
  obtain ⟨u,rfl,i⟩:=Vals.one b
  obtain ⟨z,a,n,r,C,e⟩:=I.lstM c
  have D:sizeLine < 2 ^ 62:=by decide
  have k:Builtin.List.listFitsIndex j=true:=fitsIndex_both (by omega) (by omega)
  have m:a.toArray.size<=sizeLine:=by rw [bT];omega
  have o:¬ (j < 0):=by omega
  have p:min j.toNat a.length=j.toNat:=by omega
  refine call_meets F.slot_list_insert ⟨_,e,rfl⟩ F.entry_list_insert (F.args_list_insert_3 _ _ _) (AutoSeq1.list_insert_list_int_val_1 l a.toArray n j t u (by rw [k];decide) m) ⟨e,?_⟩
  refine ⟨.non,_,I.lset (its':=a.take j.toNat ++ u :: a.drop j.toNat) c e ?_ ((r.take j.toNat).append (.cons i (r.drop j.toNat))) ?_,rfl,q⟩
  ·simp only [o,if_false,List.size_toArray,p]
   apply Array.toList_inj.mp
   simp
   exact cM (by rw [cA];exact aC _)
  ·rw [aG,bS,cJ,cA]
   omega
end
end L2
namespace PD
open PySem L2
section
variable {K:aA} {S S':Sx} {U U':Bool} {Y Y' Y'':Ctx} {P:Post}
theorem ug (ns:List Int):zv K U S H0 F (ns.map V.int) (ns.map .int):=x6 (W5 ns) (w6 ns)
theorem ZU (h:EvL K S false ta Y (ns.map .int)) (c:ns.length < 64):EvO K S U (tCB (Xx K) (zR ta tNil)) Y ((srt ns).map .int):=fun H0 F0 H F O e Q q =>
 h H0 F0 H F O e _ fun a vs j f b g i=>by
  cases zX (zP i)
  exact ⟨a,ns,rfl,g,c,fun p d=>q p _ _ f (b.trans (.newO b.le d _)) (b.h.free d) zi (b.le.free d) (ug _)⟩
theorem zaK (f:EvE K S false ta Y d) (g:EvL K S false tb Y ds) (i:low d=true) (j:∀ e∈ds,low e=true) :
  EvE K S U (tOp (rInD K neg) ta tb) Y (.bool (if neg then !ds.any (PyData.eqv · d) else ds.any (PyData.eqv · d))):=fun H0 F0 H F O e Q q =>
 f H0 F0 H F O e _ fun v k l a m=>g H0 F0 k l O (e.mono a) _ fun b ws n o c p r =>
  ⟨b,ws,d,ds,rfl,p,yT (a.le.trans c.h) (yW m),xw c.le (zP r),i,j,q _ n o (a.trans c) (.bl _)⟩
theorem T5 (h:Y[i]?=some (some (.ow U ds))) (hi:EvE K S false ti Y (.int m)) (r:EvE K S U te Y d) (h0:0<=m) (t:m<=ds.length) (hz:ds.length < sizeLine) (k:P.nx (Y.set i (some (.ow U (ds.take m.toNat ++ d :: ds.drop m.toNat))))) :
  ExS K S (v5 (tBM K "list" Xy (tVar i) (zR ti (zR te tNil)))) Y P:=fun H0 F0 H F O B e b _ D I=>by
 obtain ⟨E,c,a,vs,rfl,w,j⟩:=e.has i _ h
 refine ⟨_,c,.inl ⟨rfl,_,SqL.of w.h⟩,hi H0 F0 H F O e _ fun G u x l A=>r H0 F0 u x O (e.mono l) _ fun v H' F' C p=>?_⟩
 cases ym A
 have g:=l.trans C
 have o:=zw g.f j
 have q:=zv.length j
 refine ⟨a,vs,m,v,rfl,rfl,g.h _ _ w.h,h0,by rw [q];exact t,by rw [q];exact hz,?_⟩
 exact I.nx _ _ _ F' k (b.trans g.f) ((e.mono g).put (y:=.ow U (ds.take m.toNat ++ d :: ds.drop m.toNat)) h c (show Owns H' (.ref a) (.ow U ds) a from rfl) ⟨a,_,rfl,⟨zi,(w.mono g).f,w.n,w.s⟩,zv.append (zv.take _ o) (.cons p (zv.drop _ o))⟩ fun _ z=>z)
theorem exin (h:GetC Y i (.ow U ds)) (hi:EvE K S false ti Y (.int m)) (a:EvE K S U te Y d) (h0:0<=m) (b:m<=ds.length) (hz:ds.length < sizeLine) (e:SetC Y i (some (.ow U (ds.take m.toNat ++ d :: ds.drop m.toNat))) Y') (k:P.nx Y') :
  ExS K S (v5 (tBM K "list" Xy (tVar i) (zR ti (zR te tNil)))) Y P:=T5 h.eq hi a h0 b hz (e.eq ▸ k)
theorem T9 (h:F a=some (.lst xs)) (t:T a):drop T F a=none:=by
 cases q:drop T F a with
 | none=>rfl
 | some o =>
  obtain ⟨b,c⟩:=yk.mp q
  rw [h] at b
  cases b
  exact absurd ⟨t,rfl⟩ c
end
end PD
namespace L2
open PySem PySem.Spec PyProof.Rows
section
variable {X:Cx} {K:aA}
theorem Xd:∀ {bs:List Bool} {us:List Value},Vals (bs.map V.bl) us->us=bs.map Value.bool
 | [],_,.nil=>rfl
 | _ :: _,_,.cons r t=>by rw [Xd t,show _=Value.bool _ from r];rfl
theorem fE8:∀ (bs:List Bool) (f:Nat->Bool),(∀ i b,bs[i]?=some b->f i=b)->(List.range bs.length).all f=bs.all fun b=>b
 | [],_,_=>rfl
 | b :: r,f,h=>by
  have a:=fE8 r (fun i=>f (i + 1)) fun i c d=>h (i + 1) c (by simpa using d)
  rw [bS,List.range_succ_eq_map,eG,List.all_map,eG,h 0 b rfl,<- a]
  rfl
def rAll (K:aA):List V->Hp->VK->Prop:=fun xs H Q=>∃ p,∃ bs:List Bool,xs=[.ref p]/\SqL K H p (bs.map V.bl)/\Q (.bl (bs.all fun b=>b)) H
theorem za6 (j:X.calm=true):yq X (.builtin "all") (rAll X.K):=by
 intro pins s O H xs us Q I r h
 obtain ⟨p,bs,rfl,k,q⟩:=h
 obtain ⟨u,rfl,l⟩:=xh r
 cases l
 obtain ⟨m,n,pl,B⟩:=I.list k
 have e:=Xd n
 subst e
 have f:=pl.isList
 refine call_all_walk (wpAny_pyIter_list f ?_)
 have g:p≠s.heap.objs.size:=by
  obtain ⟨o,t,_⟩:=f
  exact aL (aE t)
 refine ⟨s.heap.objs.size,_,_,_,_,_,fun i=>bs.getD i false,rfl,Walks.list (A:=X.A.in1) (I.ok.hd j) _ p g (bs.map Value.bool).toArray,⟨⟨_,bE _ rfl,rfl,rfl⟩,f.push _⟩,fun i v s Q E w x=>?_,fun h' C y=>?_⟩
 ·have a:(bs.map Value.bool)[i]?=some v:=by simpa using w
  rw [aU] at a
  cases c:bs[i]? with
  | none=>rw [c] at a;cases a
  | some b =>
   rw [c] at a
   cases a
   have:bs.getD i false=b:=by rw [aM,c];rfl
   have d:Q (bs.getD i false) s:=x
   rw [this] at d
   exact wpAny_truthy_bool d
 ·have e:(List.range (bs.map Value.bool).toArray.size).all (fun i=>bs.getD i false)=bs.all fun b=>b:=by
   rw [bT,aB]
   exact fE8 bs _ fun i b z=>by rw [aM,z];rfl
  rw [e]
  exact ⟨.bl _,H,I.kept fun b o c=>y b o (by simpa using Nat.ne_of_lt (Heap.lt_size c)) (Heap.get?_push_of_some _ c),rfl,q⟩
theorem fE2 (a:X.K=K) (b:X.calm=true):yq X (.builtin "all") (rAll K):=by subst a;exact za6 b
end
end L2
namespace PD
open PySem L2
section
variable {K:aA} {S S':Sx} {U U':Bool} {Y Y' Y'':Ctx} {P:Post}
theorem w4:∀ {vs:List V} {bs:List Bool},zO K F vs (bs.map PyData.bool)->vs=bs.map V.bl
 | _,[],.nil=>rfl
 | _,_ :: _,.cons h t=>by rw [zeH h,w4 t];rfl
theorem zaO {c:TE} {bs:List Bool} (h:EvL K S false c Y (bs.map .bool)):EvE K S U (tCB (rAll K) (zR c tNil)) Y (.bool (bs.all fun b=>b)):=fun H0 F0 H F O e Q q =>
 h H0 F0 H F O e _ fun a vs d f g i j=>by
  cases w4 (zP j)
  exact ⟨a,bs,rfl,i,q _ d f g (.bl _)⟩
theorem zct (h:EvE K S false ta Y (.bool b)):EvE K S U (tCB (fun xs H Q=>(∃ i,xs=[.int i]/\Q (.int i) H)\/∃ k,xs=[.bl k]/\Q (.int (if k then 1 else 0)) H) (zR ta tNil)) Y (.int (if b then 1 else 0)):=fun H0 F0 H F O e Q q =>
 h H0 F0 H F O e _ fun v a c d f=>by
  cases uC f
  exact .inr ⟨b,rfl,q _ a c d (.int _)⟩
theorem WC:∀ {vs:List V} {ds:List PyData},vs.length=ds.length->(∀ (j:Nat) v d,vs[j]?=some v->ds[j]?=some d->Rp K U S H0 F v d)->zv K U S H0 F vs ds
 | [],[],_,_=>.nil
 | [],_ :: _,h,_=>by cases h
 | _ :: _,[],h,_=>by cases h
 | v :: vs,d :: ds,h,k=>.cons (k 0 v d rfl rfl) (WC (by simpa using h) fun j a b c e=>k (j + 1) a b (by simpa using c) (by simpa using e))
theorem tJ:∀ {l:List α},l.Nodup->∀ {i j:Nat} {x:α},l[i]?=some x->l[j]?=some x->i=j
 | [],_,i,j,x,h,_=>by simp at h
 | y :: r,n,0,0,x,_,_=>rfl
 | y :: r,n,0,j + 1,x,h1,h2=>by
  have e:y=x:=by simpa using h1
  exact absurd (List.mem_of_getElem? (show r[j]?=some x by simpa using h2)) (e ▸ (List.nodup_cons.mp n).1)
 | y :: r,n,i + 1,0,x,h1,h2=>by
  have e:y=x:=by simpa using h2
  exact absurd (List.mem_of_getElem? (show r[i]?=some x by simpa using h1)) (e ▸ (List.nodup_cons.mp n).1)
 | y :: r,n,i + 1,j + 1,x,h1,h2=>by rw [tJ (List.nodup_cons.mp n).2 (show r[i]?=some x by simpa using h1) (show r[j]?=some x by simpa using h2)]
theorem exo2 (hi:EvI K S U' wi Y ds) (hz:ds.length<=sizeLine) (es:SetC Y i (some (.o2 none (List.replicate ds.length []))) Y') (k:ExT K S S' u Y' P) :
  ExT K S S' (tSeq (tAsg (ve [none] wi (yn 0) tYes (tLst tNil)) (yn i)) u) Y P:=fun H0 F0 H F O B e bb vv D I =>
 hi H0 F0 H F O e _ fun J fF F1 E I1=>by
  intro L hL
  have a2:∀ {q l:Hp},Gr fF F1 q l->∀ a,S.has H0 a->∃ o,q a=some o:=fun r a c=>let ⟨o,z⟩:=(e.mono E).sd a c;⟨o,r.h _ _ z⟩
  refine ⟨fun n m ys q=>m=ds.length - n/\n<=ds.length/\∃ l,Gr fF F1 q l/\q L=some (.lst ys)/\l L=none/\V.ref L∉ys/\ys.Nodup/\ys.length=n/\∀ (j:Nat) x,ys[j]?=some x->∃ c,x=.ref c/\fF c=none/\q c=some (.lst [])/\l c=none,
   ⟨_,rfl,Nat.zero_le _,F1,.newO E.le hL _,zi,E.le.free hL,by simp,List.nodup_nil,rfl,by simp⟩,?_⟩
  rintro n m ys q ⟨rfl,hn,l,r,hl,fl,n1,n2,n3,hy⟩
  by_cases G:n < ds.length
  ·refine .inr ⟨I1.go n q l r.f r.le G,fun Q R=>n + 1<=ds.length/\∃ l,Gr fF F1 R l/\R L=some (.lst Q)/\l L=none/\V.ref L∉Q/\Q.Nodup/\Q.length=n + 1/\∀ (j:Nat) x,Q[j]?=some x->∃ c,x=.ref c/\fF c=none/\R c=some (.lst [])/\l c=none,fun Q R W=>⟨ds.length - (n + 1),by omega,rfl,W⟩,fun x R y=>?_⟩
   obtain ⟨d,F3,hd,A,p3⟩:=I1.yld n q l x R r.f r.le (a2 r) G y
   have g:=r.trans A
   have X:=A.h _ _ hl
   have fE:=A.ap _ _ hl fl
   refine ⟨Sub.set rfl,?_⟩
   unfold tYes
   dsimp only
   refine iteT ⟨aW _,fun p C=>?_⟩
   have M:p≠L:=by rintro rfl;rw [X] at C;cases C
   have Z:F3 p=none:=A.le.free C
   have a0:fF p=none:=g.h.free C
   have np:V.ref p∉ys:=fun t=>by
    obtain ⟨j,hj⟩:=dV.mp t
    obtain ⟨c,ec,_,T,_⟩:=hy j _ hj
    cases ec
    have:=A.h _ _ T
    rw [C] at this;cases this
   refine ⟨by rw [zp M.symm];exact X,by omega,G,F3,⟨fun b u z=>?_,g.f,fun b u z=>?_,g.ap⟩,zi,fE,?_,?_,by rw [aG,n3];rfl,fun j x s=>?_⟩
   ·rw [zp (zB z hL),zp (zB z a0)]
    exact g.h _ _ z
   ·rw [zp (by rintro rfl;rw [fE] at z;cases z),zp (by rintro rfl;rw [Z] at z;cases z)]
    exact A.le _ _ z
   ·intro t
    rcases aQ.mp t with t | t
    ·exact n1 t
    ·have:V.ref L=.ref p:=by simpa using t
     cases this
     exact M rfl
   ·refine List.nodup_append.mpr ⟨n2,by simp,fun a fG b hb=>?_⟩
    have:b=.ref p:=by simpa using hb
    rintro rfl
    exact np (this ▸ fG)
   ·by_cases hj:j < ys.length
    ·rw [List.getElem?_append_left hj] at s
     obtain ⟨c,rfl,h1,T,W⟩:=hy j x s
     have a3:c≠L:=by rintro rfl;exact n1 (aS s)
     have a4:c≠p:=by rintro rfl;exact np (aS s)
     exact ⟨c,rfl,h1,by rw [zp a3,zp a4];exact A.h _ _ T,A.ap _ _ T W⟩
    ·rw [List.getElem?_append_right (by omega)] at s
     have:j - ys.length=0:=by
      have:=(aP.mp s).1
      simp at this
      omega
     rw [this] at s
     cases (show some (V.ref p)=some x from s)
     exact ⟨p,rfl,a0,by rw [zp M,zi],Z⟩
  ·have en:n=ds.length:=by omega
   subst en
   have g:=E.trans r
   have e2:=e.mono g
   have N:H L=none:=E.h.free hL
   refine .inl ⟨I1.stop q l r.f r.le,?_⟩
   obtain rfl:=es.eq
   have hv:HasV K S H0 q l (.ref L) (.o2 none (List.replicate ds.length [])):=⟨L,ys,⟨rfl,fun _ z=>nomatch z⟩,⟨hl,fl,e.gr.h.free N,e.out N⟩,n1,n2,by rw [List.length_replicate];exact n3,fun j x s=>by
    obtain ⟨c,rfl,h1,T,W⟩:=hy j x s
    have a1:H c=none:=E.h.free h1
    have hj:=(aP.mp s).1
    exact ⟨c,[],[],rfl,⟨T,W,e.gr.h.free a1,e.out a1⟩,by rw [eJ,if_pos (by omega)],.nil⟩⟩
   refine k H0 F0 q l _ B (e2.set hv fun a oa j y w hj z hw o=>?_) (bb.trans g.f) vv D I
   obtain ⟨v,q1,q2⟩:=e.has j y z
   rw [hw] at q1
   cases q1
   obtain ⟨us,w1⟩:=q2.owns (o.back q2 fun _ _ z=>g.h _ _ z.h)
   have fG:=w1.h
   rcases oa with oa | ⟨p,vs,ep,C,t⟩
   ·cases oa
    rw [N] at fG;cases fG
   ·cases ep
    rw [hl] at C
    cases C
    obtain ⟨j',a5⟩:=dV.mp t
    obtain ⟨c,ec,h1,_⟩:=hy j' _ a5
    cases ec
    rw [E.h.free h1] at fG;cases fG
theorem zdZ (h:GetC Y i (.o2 r dss)) (hi:EvE K S false ti Y (.int m)) (l:ixN dss.length m=some j) (hd:dss[j]?=some ds):EvL K S true (tOp (rIxL K) (tVar i) ti) Y ds:=fun H0 F0 H F O e Q q=>by
 obtain ⟨z,n,a,vs,⟨rfl,o⟩,w,A,B,p,s⟩:=e.has i _ h.eq
 refine ⟨_,n,hi H0 F0 H F O e _ fun C t u d v=>?_⟩
 cases ym v
 have D:=(aP.mp hd).1
 have k:vs[j]?=some (vs[j]'(by omega)):=bD (by omega)
 obtain ⟨b,us,x,ex,ow,c,y⟩:=s j _ k
 rw [hd] at c
 cases c
 have g:atI vs m=some (.ref b):=by
  unfold atI
  rw [p,l]
  show vs[j]?=_
  rw [k,ex]
 exact ⟨a,vs,m,_,rfl,rfl,SqL.of (d.h _ _ w.h),g,q b us t u d (SqL.of (d.h _ _ ow.h)) (zw d.f y)⟩
theorem zaD (h:GetC Y i (.o2 r dss)) (hi:EvE K S false ti Y (.int m)) (X:ixN dss.length m=some j) (hd:dss[j]?=some ds) (fE:EvE K S true te Y d) (hz:ds.length < sizeLine)
  (es:SetC Y i (some (.o2 r (dss.set j (ds ++ [d])))) Y') (k:P.nx Y'):ExS K S (v5 (tBM K "list" we (tOp (rIxL K) (tVar i) ti) (zR te tNil))) Y P:=fun H0 F0 H F O B e Z _ D I=>by
 obtain ⟨v0,N,a,vs,⟨rfl,G⟩,w,fF,Q,R,T⟩:=e.has i _ h.eq
 refine ⟨_,N,hi H0 F0 H F O e _ fun w' H1 F1 C p1=>?_⟩
 cases ym p1
 have hj:=(aP.mp hd).1
 have q:vs[j]?=some (vs[j]'(by omega)):=bD (by omega)
 obtain ⟨b,us,u,ex,ow,z,fG⟩:=T j _ q
 rw [hd] at z
 cases z
 rw [ex] at q
 have J:atI vs m=some (.ref b):=by
  unfold atI
  rw [R,X]
  exact q
 refine ⟨a,vs,m,_,rfl,rfl,SqL.of (C.h _ _ w.h),J,.inl ⟨rfl,_,SqL.of (C.h _ _ ow.h)⟩,fE H0 F0 H1 F1 O (e.mono C) _ fun v H2 F2 g2 p2=>?_⟩
 have g:=C.trans g2
 have l:=ow.mono g
 have E:=w.mono g
 have A:b≠a:=by rintro rfl;exact fF (aS q)
 refine ⟨b,us,v,rfl,rfl,l.h,by rw [zv.length fG];exact hz,?_⟩
 obtain rfl:=es.eq
 refine I.nx _ _ _ F2 k (Z.trans g.f) ((e.mono g).put (y:=.o2 r (dss.set j (ds ++ [d]))) h.eq N (show Owns H2 (.ref a) (.o2 r dss) b from .inr ⟨a,vs,rfl,E.h,aS q⟩) ?_ ?_)
 ·refine ⟨a,vs,⟨rfl,G⟩,E.other A.symm,fF,Q,by rw [List.length_set];exact R,fun V x o=>?_⟩
  by_cases t:V=j
  ·subst t
   rw [q] at o
   cases o
   exact ⟨b,us ++ [v],ds ++ [d],rfl,⟨zi,l.f,l.n,l.s⟩,by rw [bH hj],zv.append (zw g.f fG) (.cons p2 .nil)⟩
  ·obtain ⟨c,ws,u,rfl,oc,hc,kc⟩:=T V x o
   have L:c≠b:=by
    rintro rfl
    exact t (tJ Q o q)
   exact ⟨c,ws,u,rfl,(oc.mono g).other L,by rw [bM (Ne.symm t)];exact hc,zw g.f kc⟩
 ·rintro c (oc | ⟨p,xs,ep,W,M⟩)
  ·exact .inl oc
  ·cases ep
   rw [zp A.symm,E.h] at W
   cases W
   exact .inr ⟨a,vs,rfl,E.h,M⟩
theorem HasV.frzG (h:HasV K S H0 H F v x) (s:Same F F') (n:∀ c,Owns H v x c->F' c=none):HasV K S H0 H F' v x:=by
 cases x with
 | fz U d=>exact yA s h
 | tn d=>obtain ⟨T,t,k⟩:=h;exact ⟨T,t,yA s k⟩
 | ow U ds=>obtain ⟨b,us,g,f,i⟩:=h;exact ⟨b,us,g,⟨f.h,n b g,f.n,f.s⟩,zw s i⟩
 | ox=>obtain ⟨b,us,g,f⟩:=h;exact ⟨b,us,g,⟨f.h,n b g,f.n,f.s⟩⟩
 | o2 r dss =>
  obtain ⟨b,us,g,f,A,B,l,k⟩:=h
  refine ⟨b,us,g,⟨f.h,n b (.inl g.eq),f.n,f.s⟩,A,B,l,fun j y m=>?_⟩
  obtain ⟨c,ws,ds,q,o2,C,D⟩:=k j y m
  exact ⟨c,ws,ds,q,⟨o2.h,n c (.inr ⟨b,us,g.eq,f.h,by rw [<- q];exact aS m⟩),o2.n,o2.s⟩,C,zw s D⟩
 | fn a=>exact h
 | xn φ=>obtain ⟨b,e,k⟩:=h;exact ⟨b,e,s _ _ k⟩
 | oa b U ds=>obtain ⟨g,us,f,i⟩:=h;exact ⟨g,us,⟨f.h,n b g,f.n,f.s⟩,zw s i⟩
 | xp φ=>obtain ⟨E,s1,k⟩:=h;exact ⟨E,s1.trans s,k⟩
 | od u=>obtain ⟨b,g,f⟩:=h;exact ⟨b,g,⟨f.h,n b g,f.n,f.s⟩⟩
 | og ad ψ =>
  obtain ⟨ok,w,p⟩:=h
  refine ⟨ok,fun b z=>?_,ok.ps S H0 H H F F' v (fun _ _=>rfl) s p⟩
  obtain ⟨o,y⟩:=w b z
  exact ⟨o,⟨y.h,n b z,y.n,y.s⟩⟩
open Classical in
noncomputable def frzF (F H:Hp) (a:Addr) (vs:List V):Hp:=fun c=>if c=a\/V.ref c∈vs then H c else F c
theorem DEnv.frz2 (e:DEnv K S H0 F0 H F O Y) (h:GetC Y i (.o2 r dss)) (es:SetC Y i (some (.fz true (.list (dss.map .list)))) Y') :
  ∃ (t:Hp) (A:Addr->Prop),DEnv K S H0 F0 H t O Y'/\Same F t/\(∀ c,A c->F c=none/\∃ vs,t c=some (.lst vs))/\∀ c,¬ A c->t c=F c:=by
 have h':=h.eq
 obtain ⟨v0,C,a,vs,⟨rfl,fF⟩,w,n1,n2,P,D⟩:=e.has i _ h'
 have p:∀ {c:Addr},(c=a\/V.ref c∈vs)->∃ us,vj S H0 H F c us:=fun {c} g=>by
  rcases g with rfl | g
  ·exact ⟨_,w⟩
  ·obtain ⟨j,m⟩:=dV.mp g
   obtain ⟨b,us,ds,Q,ow,_⟩:=D j _ m
   cases Q
   exact ⟨us,ow⟩
 have l:∀ {c:Addr},(c=a\/V.ref c∈vs)->frzF F H a vs c=H c:=fun g=>if_pos g
 have k:∀ {c:Addr},¬ (c=a\/V.ref c∈vs)->frzF F H a vs c=F c:=fun g=>if_neg g
 have s:Same F (frzF F H a vs):=fun c o g=>by
  rw [k fun z=>by obtain ⟨us,ow⟩:=p z;rw [ow.f] at g;cases g]
  exact g
 have le:Same (frzF F H a vs) H:=fun c o g=>by
  by_cases z:c=a\/V.ref c∈vs
  ·rw [l z] at g;exact g
  ·rw [k z] at g;exact e.le _ _ g
 have B:=(aP.mp h').1
 have own:∀ {c:Addr},(c=a\/V.ref c∈vs)->Owns H (.ref a) (.o2 r dss) c:=fun {c} g=>by
  rcases g with rfl | g
  ·exact .inl rfl
  ·exact .inr ⟨a,vs,rfl,w.h,g⟩
 obtain rfl:=es.eq
 have R:HasV K S H0 H (frzF F H a vs) (.ref a) (.fz true (.list (dss.map .list))):=by
  refine .lst ⟨by rw [l (.inl rfl)];exact w.h,w.s⟩ (WC (by rw [aB];exact P) fun j v d E G=>?_)
  obtain ⟨b,us,ds,rfl,ow,hd,T⟩:=D j v E
  rw [aU,hd] at G
  cases G
  exact .lst ⟨by rw [l (.inr (aS E))];exact ow.h,ow.s⟩ (zw s T)
 have fG:DEnv K S H0 F0 H (frzF F H a vs) O (Y.set i (some (.fz true (.list (dss.map .list))))):=by
  refine ⟨⟨e.gr.h,e.gr.f.trans s,le,fun c o g W=>?_⟩,e.l0,e.sd,e.s0,by simp [e.len],fun j f z=>?_,fun j I X fE Z w1 b x y g3 g4 J o2=>?_⟩
  ·rw [k fun z=>by obtain ⟨us,ow⟩:=p z;rw [ow.n] at g;cases g]
   exact e.gr.ap c o g W
  ·by_cases m:j=i
   ·subst m
    rw [bH B] at z
    cases z
    exact ⟨_,C,R⟩
   ·rw [bM (Ne.symm m)] at z
    obtain ⟨u,L,M⟩:=e.has j f z
    refine ⟨u,L,M.frzG s fun c oc=>?_⟩
    by_cases N:c=a\/V.ref c∈vs
    ·exact absurd (e.ne j i f _ u _ c z h' L C oc (own N)) m
    ·rw [k N]
     obtain ⟨us,wo⟩:=M.owns oc
     exact wo.f
  ·by_cases m:j=i
   ·subst m
    rw [bH B] at x
    cases x
    exact J.elim
   ·by_cases q:I=i
    ·subst q
     rw [bH B] at y
     cases y
     exact o2.elim
    ·rw [bM (Ne.symm m)] at x
     rw [bM (Ne.symm q)] at y
     exact e.ne j I X fE Z w1 b x y g3 g4 J o2
 refine ⟨_,fun c=>c=a\/V.ref c∈vs,fG,s,fun c g=>?_,fun c g=>k g⟩
 obtain ⟨us,ow⟩:=p g
 exact ⟨ow.f,us,by rw [l g];exact ow.h⟩
theorem zeF (i:Nat) (h:GetC Y i (.o2 r dss)) (es:SetC Y i (some (.fz true (.list (dss.map .list)))) Y') (k:ExT K S S' t Y' P):ExT K S S' t Y P:=fun H0 F0 H F O B e a vv D I=>by
 obtain ⟨c,A,b,s,_⟩:=e.frz2 h es
 exact k H0 F0 H _ O B b (a.trans s) vv D I
theorem thaw (e:DEnv K S H0 F0 H F O Y) (h:GetC Y i (.ow U ds)) (es:SetC Y i (some (.fz U (.list ds))) Γf) :
  ∃ a b,DEnv K S H0 F0 H b O Γf/\∀ H' F',Gr H b H' F'->Gr H F H' (drop (fun c=>c=a) F'):=by
 obtain ⟨v,k,a,vs,rfl,w,l⟩:=e.has i _ h.eq
 obtain ⟨s,d⟩:=e.froz (y:=.fz U (.list ds)) h.eq k rfl w (.lst (LN.new w.s) (zw (Same.new w.f _) l)) fun _ z=>z.elim
 rw [es.eq] at d
 refine ⟨a,_,d,fun H' F' g=>⟨g.h,fun c o z=>yk.mpr ⟨g.f _ _ (s _ _ z),?_⟩,fun c o z=>g.le _ _ (yk.mp z).1,fun c o z n=>?_⟩⟩
 ·rintro ⟨rfl,_⟩
  rw [w.f] at z;cases z
 ·by_cases j:c=a
  ·subst j
   exact T9 (g.f _ _ zi) rfl
  ·cases m:drop (fun c=>c=a) F' c with
   | none=>rfl
   | some o' =>
    have:=(yk.mp m).1
    rw [g.ap _ _ z (by rw [zp j];exact n)] at this;cases this
theorem zcv (i:Nat) (h:GetC Y i (.ow U ds)) (es:SetC Y i (some (.fz U (.list ds))) Γf) (k:EvT K S t Γf b):EvT K S t Y b:=fun H0 F0 H F O e Q q=>by
 obtain ⟨a,c,d,g⟩:=thaw e h es
 exact k H0 F0 H c O d Q fun H' F' f=>q H' _ (g H' F' f)
theorem yp {e:Type} {js:List (Option Nat)} {b:Ctx} {wi:TI} {g:TG} {te:TE} {is:List Nat} {xs:List e} (U':Bool) (u f:e->PyData) (k:∀ x∈xs,∀ y∈xs,u x=u y->f x=f y) (hi:EvI K S U' wi Y (xs.map u)) (l:xK js Y b) (c:(is.all fun i=>js[i]? == some none)=true)
  (m:(js.filterMap id).Nodup) (hz:xs.length<=sizeLine) (n:∀ x∈xs,ExG K S U' g is (u x) b fun Y'=>EvE K S U te Y' (f x)):EvO K S U (ve js wi g tYes te) Y (xs.map f):=by
 classical
 let F:PyData->PyData:=fun d=>if h:∃ x,x∈xs/\u x=d then f h.choose else .none
 have j:∀ x∈xs,F (u x)=f x:=fun x a=>by
  have h:∃ y,y∈xs/\u y=u x:=⟨x,a,rfl⟩
  show (if h:∃ y,y∈xs/\u y=u x then f h.choose else .none)=_
  rw [dif_pos h]
  exact k _ h.choose_spec.1 _ a h.choose_spec.2
 refine EvO.eq (zcq (U:=U) U' F hi l c m (by rw [aB];exact hz) fun d hd=>?_) ?_
 ·obtain ⟨x,a,rfl⟩:=aF.mp hd
  rw [j x a]
  exact n x a
 ·rw [bC]
  exact dX fun x a=>j x a
theorem zap:sizeLine < 2 ^ 62:=by decide
theorem UZ {n:Nat} (f:Nat->PyData) (hi:EvA K S false ta Y [.int n]) (b:n<=sizeLine) (c:xK js Y Γc) (a:(is.all fun i=>js[i]? == some none)=true)
  (d:(js.filterMap id).Nodup) (e:∀ k:Nat,k < n->ExG K S true g is (.int k) Γc fun Y'=>EvE K S U te Y' (f k)):EvO K S U (ve js (UW ta) g tYes te) Y ((List.range n).map f) :=
 yp true (fun k:Nat=>.int (k:Int)) f (fun x _ y _ h=>by cases Int.ofNat.inj (PyData.int.inj h);rfl) (xA (n:=(n:Int)) hi (by omega) (by have:=zap;omega)) c a d (by rw [aV];exact b) fun k j=>e k (aZ.mp j)
theorem VI:((List.range n).map f).length=n:=by rw [aB,aV]
theorem zdp (h:k < n):((List.range n).map f)[k]?=some (f k):=by
 rw [aU,cN h]
 rfl
theorem zdo (h:((List.range n).map f)[k]?=some x):k < n/\x=f k:=by
 have a:k < n:=by
  have:=(aP.mp h).1
  rwa [VI] at this
 rw [zdp a] at h
 cases h
 exact ⟨a,rfl⟩
end
end PD
namespace L2
open PySem PySem.Spec PyProof.Rows
section
variable {X:Cx} {K:aA}
end
end L2
namespace PD
open PySem L2
section
variable {K:aA} {S S':Sx} {U U':Bool} {Y Y' Y'':Ctx} {P:Post} {E:XK} {C:Addr}
inductive Arg (K:aA) (F:Hp):V->DV->Prop
 | dat {v:V} {d:PyData}:Dp K F v d->Arg K F v (.fz false d)
 | thg {a:Addr} {o:Addr->HO}:F a=some (o a)->Arg K F (.ref a) (.xn o)
inductive xx (K:aA) (F:Hp):List V->List DV->Prop
 | nil:xx K F [] []
 | cons {v:V} {x:DV} {vs:List V} {xs:List DV}:Arg K F v x->xx K F vs xs->xx K F (v :: vs) (x :: xs)
theorem xx.length:∀ {vs:List V} {xs:List DV},xx K F vs xs->vs.length=xs.length
 | _,_,.nil=>rfl
 | _,_,.cons _ t=>congrArg (· + 1) (xx.length t)
theorem xx.get:∀ {vs:List V} {xs:List DV} {i:Nat} {x:DV},xx K F vs xs->xs[i]?=some x->∃ v,vs[i]?=some v/\Arg K F v x
 | _,_,_,_,.nil,e=>by simp at e
 | _,_,0,_,.cons h _,e=>by simp at e;subst e;exact ⟨_,rfl,h⟩
 | _,_,i + 1,x,.cons _ t,e=>by
  obtain ⟨v,a,b⟩:=xx.get (i:=i) t (by simpa using e)
  exact ⟨v,by simpa using a,b⟩
theorem Arg.has (h:Arg K F v x):HasV K .fresh H H F v x:=by
 cases h with
 | dat h=>exact uc h
 | thg h=>exact ⟨_,rfl,h⟩
theorem Arg.noOwn (h:Arg K F v x):¬ Owns H w x a:=by
 cases h <;> exact fun o=>o.elim
def spV (K:aA) (U:Bool) (pre:List DV->PyData->Prop):Sp:=fun vs H Q _=>∃ F xs d,Same F H/\xx K F vs xs/\pre xs d/\∀ v H' F',Gr H F H' F'->Rp K U .fresh H F' v d->Q v H'
theorem zbr (h:∀ xs d,pre xs d->xs.length=n) (s:spV K U pre vs H Q E):vs.length=n:=by
 obtain ⟨F,xs,d,_,k,p,_⟩:=s
 rw [k.length]
 exact h xs d p
inductive xc:Nat->List DV->Ctx->Prop
 | z:xc 0 [] []
 | no {n:Nat} {Y:Ctx}:xc n [] Y->xc (n + 1) [] (none :: Y)
 | got {n:Nat} {x:DV} {xs:List DV} {Y:Ctx}:xc n xs Y->xc (n + 1) (x :: xs) (some x :: Y)
theorem xc.len (h:xc n xs Y):Y.length=n/\xs.length<=n:=by
 induction h with
 | z=>exact ⟨rfl,aC _⟩
 | no _ a=>exact ⟨by rw [bS,a.1],aW _⟩
 | got _ a=>exact ⟨by rw [bS,a.1],by rw [bS];omega⟩
theorem xc.get (h:xc n xs Y):∀ {i:Nat} {x:DV},Y[i]?=some (some x)->xs[i]?=some x:=by
 induction h with
 | z=>intro i x e;simp at e
 | no _ a =>
  intro i x e
  cases i with
  | zero=>simp at e
  | succ i =>
   have:=a (i:=i) (by simpa using e)
   simp at this
 | got _ a =>
  intro i x e
  cases i with
  | zero=>simpa using e
  | succ i =>
   have:=a (i:=i) (by simpa using e)
   simpa using this
theorem Vg (le:Same F H) (k:xx K F vs xs) (f:N.length=n) (b:xc n xs Y):DEnv K .fresh H F H F (L2.start N vs) Y:=by
 have l:=k.length
 have sl:=b.len
 refine ⟨.refl le,le,fun a c=>?_,fun T z=>(nomatch z),by unfold L2.start;rw [List.length_append,List.length_map,List.length_replicate,sl.1];omega,fun i x h=>?_,fun i j x y v w a h _ _ _ o=>?_⟩
 ·cases q:H a with
  | none=>exact absurd q c
  | some o=>exact ⟨o,rfl⟩
 ·obtain ⟨v,e,d⟩:=k.get (b.get h)
  refine ⟨v,?_,d.has⟩
  unfold L2.start
  have hi:=(aP.mp e).1
  rw [List.getElem?_append_left (by simpa using hi),List.getElem?_map,e]
  rfl
 ·obtain ⟨g,_,d⟩:=k.get (b.get h)
  exact fun o'=>(d.noOwn o).elim
theorem QD (le:Same F H) (k:xx K F vs xs) (q:∀ v H' F',Gr H F H' F'->Rp K U .fresh H F' v d->Q v H') (c:N.length=n) (a:xc n xs Y)
  (h:ExS K .fresh t Y { nx:=fun _=>d=.none,rt:=fun x=>x=d,kr:=U }):t { nx:=fun _ H'=>Q .non H',rt:=Q } (L2.start N vs) H :=
 h H F H F _ F (Vg le k c a) (.refl _) (.inl rfl) _ ⟨fun Y' O' H' F' n b e=>q _ H' F' e.gr (by rw [n];exact .non),fun f v H' F' r g p=>q v H' F' g (r ▸ p),fun _ _ _ _ z=>z.elim,fun _ _ _ _ z=>z.elim⟩
def EvV (K:aA) (S:Sx) (t:TA) (Y:Ctx) (xs:List DV):Prop:=∀ (H0 F0 H F:Hp) (O:St),DEnv K S H0 F0 H F O Y->∀ Q:List V->Hp->Prop,(∀ vs H' F',Gr H F H' F'->xx K F' vs xs->Q vs H')->t O H Q
theorem zcp:EvV K S tNil Y []:=fun _ _ H F _ e Q q=>q [] H F (.refl e.le) .nil
theorem W9 (h:EvE K S false t Y d) (k:EvV K S u Y xs):EvV K S (zR t u) Y (.fz false d :: xs):=fun H0 F0 H F O e Q q =>
 h H0 F0 H F O e _ fun v c g a i=>k H0 F0 c g O (e.mono a) _ fun vs j l b m=>q _ j l (a.trans b) (.cons (.dat (yT b.f (yW i))) m)
theorem zco (h:GetC Y i (.xn o)) (k:EvV K S u Y xs):EvV K S (zR (tVar i) u) Y (.xn o :: xs):=fun H0 F0 H F O e Q q=>by
 obtain ⟨v,c,a,rfl,d⟩:=e.has i _ h.eq
 exact ⟨_,c,k H0 F0 H F O e _ fun vs g j b l=>q _ g j b (.cons (.thg (b.f _ _ d)) l)⟩
theorem zaN (h:EvV K S t Y xs) (f:pre xs d):EvE K S U (v6 (spV K true pre) [] E t) Y d:=fun H0 F0 H F O e Q q =>
 h H0 F0 H F O e _ fun vs g i b j=>⟨i,xs,d,b.le,by rw [bG];exact j,f,fun v k l m n=>q v k l (b.trans m) (uB (U:=true) (fun _=>rfl) (xS (U:=true) (U':=true) (S':=S) (H0':=H0) (fun a xs z=>⟨z.1,fun c=>by
  obtain ⟨u,o⟩:=(e.mono b).sd a c
  exact z.2 (by show g a≠none;rw [o];simp)⟩) (fun _ _ z=>z) n))⟩
end
section
variable {K:aA} {S S':Sx} {U U':Bool} {Y Y' Y'':Ctx} {P:Post} {E:XK}
theorem DEnv.newOwn (e:DEnv K S H0 F0 H F O Y) (g:Gr H F H' F') (d:H b=none) (j:Nat) (f:DV) (u:V) (z:Y[j]?=some (some f)) (r:O[j]?=some (some u)):¬ Owns H' u f b:=fun o=>by
 obtain ⟨i,a,c⟩:=e.has j f z
 rw [r] at a
 cases a
 obtain ⟨us,w⟩:=c.owns (o.back c fun _ _ z=>g.h _ _ z.h)
 have:=w.h
 rw [d] at this;cases this
def ExM (K:aA) (t:TS) (Y:Ctx) (G:Hp->Hp->Hp->Hp->V->Prop):Prop:=∀ (H0 F0 H F:Hp) (O:St),DEnv K .fresh H0 F0 H F O Y->∀ D:Ends,(∀ v H' F',G H0 F0 H' F' v->D.rt v H')->t D O H
theorem Zn (N:Ctx->Prop) (a:ExS K .fresh t Y { nx:=N,rt:=fun _=>False }) (b:∀ Y',N Y'->ExM K u Y' G):ExM K (tSeq t u) Y G:=fun H0 F0 H F O e D q =>
 a H0 F0 H F O F e (.refl _) (.inl rfl) _ ⟨fun Y' O' H' F' n _ c=>b Y' n H0 F0 H' F' O' c D q,fun _ _ _ _ z=>z.elim,fun _ _ _ _ z=>z.elim,fun _ _ _ _ z=>z.elim⟩
theorem zeu (le:Same F H) (k:zO K F vs ds) (q:∀ v H' F',G H F H' F' v->D.rt v H') (b:N.length=n) (a:xf n ds Y) (h:ExM K t Y G):t D (L2.start N vs) H:=by
 have e:=w8 (N:=N) le k
 rw [b,a.eq] at e
 exact h H F H F _ e D q
end
end PD
namespace L2
open PySem PySem.Spec PyProof.Rows
section
variable {X:Cx}
end
end L2
namespace PD
open PySem L2
section
variable {K:aA} {S S':Sx} {U U':Bool} {Y Y' Y'' Y3:Ctx} {P:Post}
theorem yo {c:Type} {js:List (Option Nat)} {b:Ctx} {wi:TI} {g:TG} {tt:TT} {te:TE} {is:List Nat} {xs:List c} (U':Bool) (u f:c->PyData) (p:c->Bool) (j:∀ x∈xs,∀ y∈xs,u x=u y->f x=f y/\p x=p y) (hi:EvI K S U' wi Y (xs.map u)) (m:xK js Y b) (e:(is.all fun i=>js[i]? == some none)=true)
  (n:(js.filterMap id).Nodup) (hz:xs.length<=sizeLine) (o:∀ x∈xs,ExG K S U' g is (u x) b fun Y'=>EvT K S tt Y' (p x)/\(p x=true->EvE K S U te Y' (f x))):EvO K S U (ve js wi g tt te) Y ((xs.filter p).map f):=by
 classical
 let F:PyData->PyData:=fun d=>if h:∃ x,x∈xs/\u x=d then f h.choose else .none
 let G:PyData->Bool:=fun d=>if h:∃ x,x∈xs/\u x=d then p h.choose else false
 have ex:∀ x∈xs,∃ y,y∈xs/\u y=u x:=fun x a=>⟨x,a,rfl⟩
 have k:∀ x∈xs,F (u x)=f x:=fun x a=>by
  show (if h:∃ y,y∈xs/\u y=u x then f h.choose else .none)=_
  rw [dif_pos (ex x a)]
  exact (j _ (ex x a).choose_spec.1 _ a (ex x a).choose_spec.2).1
 have l:∀ x∈xs,G (u x)=p x:=fun x a=>by
  show (if h:∃ y,y∈xs/\u y=u x then p h.choose else false)=_
  rw [dif_pos (ex x a)]
  exact (j _ (ex x a).choose_spec.1 _ a (ex x a).choose_spec.2).2
 refine EvO.eq (YT (U:=U) U' G F hi m e n (by rw [aB];exact hz) fun d hd=>?_) ?_
 ·obtain ⟨x,a,rfl⟩:=aF.mp hd
  rw [k x a,l x a]
  exact o x a
 ·rw [List.filter_map,bC]
  have q:xs.filter (G∘u)=xs.filter p:=List.filter_congr fun x a=>l x a
  rw [q]
  exact dX fun x a=>k x (aJ.mp a).1
theorem YS {n:Nat} (f:Nat->PyData) (p:Nat->Bool) (hi:EvA K S false ta Y [.int n]) (b:n<=sizeLine) (c:xK js Y Γc) (a:(is.all fun i=>js[i]? == some none)=true)
  (d:(js.filterMap id).Nodup) (e:∀ k:Nat,k < n->ExG K S true g is (.int k) Γc fun Y'=>EvT K S tt Y' (p k)/\(p k=true->EvE K S U te Y' (f k))):EvO K S U (ve js (UW ta) g tt te) Y (((List.range n).filter p).map f) :=
 yo true (fun k:Nat=>.int (k:Int)) f p (fun x _ y _ h=>by cases Int.ofNat.inj (PyData.int.inj h);exact ⟨rfl,rfl⟩) (xA (n:=(n:Int)) hi (by omega) (by have:=zap;omega)) c a d (by rw [aV];exact b) fun k j=>e k (aZ.mp j)
end
end PD
namespace L2
open PySem PySem.Spec PyProof.Rows
section
variable {X:Cx} {K:aA}
def dd (ns:List Int):List Int:=ns.foldl step_dedup []
theorem X2 (ns:List Int):firstMet (fun i=>ns.getD i 0) ns.length=dd ns:=by
 unfold firstMet dd
 congr 1
 refine List.ext_getElem? fun i=>?_
 rw [aU]
 by_cases h:i < ns.length
 ·rw [cN h,bD h]
  show some (ns.getD i 0)=_
  rw [aM,bD h]
  rfl
 ·rw [cB (by rw [aV];omega),cB (by omega)]
  rfl
theorem fG5 (ns:List Int) (k:Int):dd (ns ++ [k])=step_dedup (dd ns) k:=by
 unfold dd
 rw [List.foldl_append]
 rfl
theorem Uf (ns:List Int):∀ k,k∈dd ns↔k∈ns:=by
 suffices h:∀ n,∀ k,k∈dd (ns.take n)↔k∈ns.take n by simpa using h ns.length
 intro n
 induction n with
 | zero=>intro k;rfl
 | succ n a =>
  intro k
  by_cases b:n < ns.length
  ·have e:ns.take (n + 1)=ns.take n ++ [ns[n]]:=by rw [List.take_succ,bD b];rfl
   rw [e,fG5]
   unfold step_dedup
   split
   ·rename_i h
    obtain ⟨x,c,ex⟩:=bQ.mp h
    have:=eq_of_beq ex
    subst this
    rw [a,aQ]
    refine ⟨.inl,fun z=>?_⟩
    rcases z with z | z
    ·exact z
    ·rw [aD.mp z]
     exact (a _).mp c
   ·rw [aQ,aQ,a]
  ·rw [cM (by omega)]
   have:=a k
   rw [cM (by omega)] at this
   exact this
theorem zaY (ns:List Int):(dd ns).length<=ns.length:=by
 have:=length_foldl_step_dedup_le ns ([]:List Int)
 simpa [dd] using this
end
end L2
namespace PD
open PySem L2
section
variable {K:aA} {S S':Sx} {U U':Bool} {Y Y' Y'':Ctx} {P:Post}
def EvG (K:aA) (S:Sx) (U:Bool) (t:TE) (Y:Ctx) (G:PyData->Prop):Prop:=∀ (H0 F0 H F:Hp) (O:St),DEnv K S H0 F0 H F O Y->∀ Q:VK,(∀ d v H' F',G d->Gr H F H' F'->Rp K U S H0 F' v d->Q v H')->t O H Q
def spW (K:aA) (U:Bool) (pre:List PyData->(PyData->Prop)->Prop):Sp:=fun vs H Q _=>∃ F ds G,Same F H/\zO K F vs ds/\pre ds G/\∀ d v H' F',G d->Gr H F H' F'->Rp K U .fresh H F' v d->Q v H'
theorem Zh (h:∀ ds G,pre ds G->ds.length=n) (s:spW K U pre vs H Q E):vs.length=n:=by
 obtain ⟨F,ds,d,_,k,p,_⟩:=s
 rw [zO.length k]
 exact h ds d p
theorem uV (h:EvA K S false t Y ds) (f:pre ds G):EvG K S U (v6 (spW K true pre) [] E t) Y G:=fun H0 F0 H F O e Q q =>
 h H0 F0 H F O e _ fun vs g i b j=>⟨i,ds,G,b.le,by rw [bG];exact zP j,f,fun d v k l hd m n=>q d v k l hd (b.trans m) (uB (U:=true) (fun _=>rfl) (xS (U:=true) (U':=true) (S':=S) (H0':=H0) (fun a xs z=>⟨z.1,fun c=>by
  obtain ⟨u,o⟩:=(e.mono b).sd a c
  exact z.2 (by show g a≠none;rw [o];simp)⟩) (fun _ _ z=>z) n))⟩
theorem exg {te:TE} {u:TS} {i:Nat} {G:PyData->Prop} {Y':PyData->Ctx} (U:Bool) (h:EvG K S U te Y G) (es:∀ d,SetC Y i (some (.fz U d)) (Y' d)) (k:∀ d,G d->ExT K S S' u (Y' d) P):ExT K S S' (tSeq (tAsg te (yn i)) u) Y P :=
 yK (fun a=>∃ d,G d/\a=Y' d) (fun H0 F0 H F O B e b _ D I=>h H0 F0 H F O e _ fun d v H' F' hd g p=>I.nx _ _ H' F' ⟨d,hd,rfl⟩ (b.trans g.f) (by rw [<- (es d).eq];exact (e.mono g).setF p)) fun a ⟨d,hd,z⟩=>z ▸ k d hd
theorem zcf (U:Bool) (h:EvG K S U te Y G) (a:∀ d,G d->P.rt d) (c:(S=S/\U=P.kr)\/P.kr=false):ExT K S S' (tRet te) Y P:=fun H0 F0 H F O B e b _ D I=>h H0 F0 H F O e _ fun d v H' F' hd g p=>I.rt d v H' F' (a d hd) (e.gr.trans g) (WG c p)
theorem uA (le:Same F H) (k:zO K F vs ds) (q:∀ d v H' F',G d->Gr H F H' F'->Rp K U .fresh H F' v d->Q v H') (b:N.length=n) (a:xf n ds Y)
  (h:ExS K .fresh t Y { nx:=fun _=>False,rt:=G,kr:=U }):t { nx:=fun _ H'=>Q .non H',rt:=Q } (L2.start N vs) H:=by
 have e:=w8 (N:=N) le k
 rw [b,a.eq] at e
 exact h H F H F _ F e (.refl _) (.inl rfl) _ ⟨fun _ _ _ _ z=>z.elim,fun d v H' F' r g p=>q d v H' F' r g p,fun _ _ _ _ z=>z.elim,fun _ _ _ _ z=>z.elim⟩
end
end PD
namespace L2
open PySem
def Rise (xs:Array Nat):Prop:=xs.toList.Pairwise (· < ·)
theorem Rise.lt (r:Rise xs) (h:i < j) (a:j < xs.size):xs[i]'(by omega) < xs[j]:=by
 have:=List.pairwise_iff_getElem.mp r i j (by simp;omega) (by simpa using a) h
 simpa using this
theorem Z7 (xs:Array Nat) (r:Rise xs) (j:Nat):∀ (c lo hi:Nat),lo<=hi->hi<=xs.size->hi - lo<=c ->
  (∀ i (h:i < xs.size),i < lo->xs[i] < j)->(∀ i (h:i < xs.size),hi<=i->j<=xs[i]) ->
  SetTable.below.go xs j c lo hi<=xs.size/\(∀ i (h:i < xs.size),i < SetTable.below.go xs j c lo hi->xs[i] < j)/\∀ i (h:i < xs.size),SetTable.below.go xs j c lo hi<=i->j<=xs[i]
 | 0,lo,hi,h1,h2,h3,a,b=>by
  have:lo=hi:=by omega
  subst this
  exact ⟨h2,a,b⟩
 | f + 1,lo,hi,h1,h2,h3,a,b=>by
  unfold SetTable.below.go
  by_cases k:lo < hi
  ·rw [if_pos k]
   dsimp only
   have l:(lo + hi) / 2 < xs.size:=by omega
   have m:xs.getD ((lo + hi) / 2) j=xs[(lo + hi) / 2]:=by simp [l]
   rw [m]
   by_cases g:xs[(lo + hi) / 2] < j
   ·rw [if_pos g]
    refine Z7 xs r j f _ _ (by omega) h2 (by omega) (fun i d n=>?_) b
    by_cases e:i=(lo + hi) / 2
    ·subst e;exact g
    ·exact Nat.lt_trans (r.lt (show i < (lo + hi) / 2 by omega) l) g
   ·rw [if_neg g]
    refine Z7 xs r j f _ _ (by omega) (by omega) (by omega) a fun i d o=>?_
    by_cases e:i=(lo + hi) / 2
    ·subst e;omega
    ·have:=r.lt (show (lo + hi) / 2 < i by omega) d
     omega
  ·rw [if_neg k]
   have:lo=hi:=by omega
   subst this
   exact ⟨h2,a,b⟩
theorem zbd (xs:Array Nat) (r:Rise xs) (j:Nat):SetTable.below xs j<=xs.size/\(∀ i (h:i < xs.size),i < SetTable.below xs j->xs[i] < j)/\∀ i (h:i < xs.size),SetTable.below xs j<=i->j<=xs[i] :=
 Z7 xs r j _ _ _ (aW _) (aC _) (by omega) (fun _ _ h=>by omega) fun i h z=>by omega
structure TOk (b:Bool) (t:SetTable):Prop where
 led:t.led=b
 rise:Rise t.place
 dum:t.dummies=#[]
theorem TOk.fresh:TOk b (.fresh f m b):=⟨rfl,List.Pairwise.nil,rfl⟩
theorem TOk.plain {b c:Bool} (h:TOk b t):TOk b { t with plain:=c }:=⟨h.led,h.rise,h.dum⟩
theorem TOk.standIn (h:TOk b t) (n:Nat):TOk b (t.standIn n):=⟨h.led,by
 show (Array.range n).toList.Pairwise (· < ·)
 rw [Array.toList_range]
 exact fA,rfl⟩
theorem TOk.orStandIn (h:TOk b t) (n:Nat):TOk b (t.orStandIn n):=by
 unfold SetTable.orStandIn
 split
 ·exact h
 ·exact h.standIn n
theorem UY (j:Nat):SetTable.has #[] j=false:=rfl
theorem zbu {t:SetTable} {j:Nat} (h:t.slot j=.empty):t.place[SetTable.below t.place j]?≠some j:=by
 intro z
 unfold SetTable.slot at h
 simp [z] at h
theorem tS (c:TOk b t):∀ (n:Nat) (p:SetTable.Probe) {j:Nat} {d:Option Nat},p.dummy=none->SetTable.probe.go t g h n p=some (.empty j d)->d=none/\t.slot j=.empty
 | 0,p,j,d,_,e=>by cases e
 | n + 1,p,j,d,hp,e=>by
  unfold SetTable.probe.go at e
  split at e
  ·rename_i a
   injection e with e
   injection e with e1 e2
   subst e1
   exact ⟨e2 ▸ hp,a⟩
  ·rename_i a
   exfalso
   unfold SetTable.slot at a
   rw [c.dum] at a
   simp only [UY] at a
   split at a <;> simp at a
  ·split at e
   ·cases e
   ·refine tS c n _ ?_ e
    unfold SetTable.advance
    split
    ·exact hp
    ·exact hp
theorem zdt {b:Bool} {t:SetTable} (h:TOk b t) {j:Nat} (g:t.slot j=.empty):TOk b (t.put j).1:=by
 refine ⟨h.led,?_,by show (if SetTable.has t.dummies j=true then _ else _)=_;rw [h.dum,UY];rfl⟩
 have l:=zbu g
 obtain ⟨a,b,c⟩:=zbd t.place h.rise j
 show (SetTable.insertAt t.place (SetTable.below t.place j) j).toList.Pairwise (· < ·)
 generalize SetTable.below t.place j=p at *
 rw [SetTable.toList_insertAt,List.pairwise_append]
 have f:t.place.toList.Pairwise (· < ·):=h.rise
 refine ⟨f.sublist (List.take_sublist _ _),?_,?_⟩
 ·rw [dE]
  refine ⟨fun x d=>?_,f.sublist (List.drop_sublist _ _)⟩
  obtain ⟨i,hi,rfl⟩:=dL.mp d
  rw [cA,cO] at hi
  rw [List.getElem_drop,Array.getElem_toList]
  have:=c (p + i) (by omega) (by omega)
  by_cases z:i=0
  ·subst z
   have o:t.place[p]≠j:=fun q=>l (by rw [Array.getElem?_eq_getElem (by omega),q])
   simp only [Nat.add_zero] at this ⊢
   omega
  ·have r:=h.rise.lt (show p < p + i by omega) (show p + i < t.place.size by omega)
   have s:=c p (by omega) (aC _)
   omega
 ·intro x d y e
  obtain ⟨i,hi,rfl⟩:=dL.mp d
  rw [cJ,cO] at hi
  rw [List.getElem_take,Array.getElem_toList]
  have m:=b i (by omega) (by omega)
  rcases aT.mp e with rfl | e
  ·exact m
  ·obtain ⟨k,n,rfl⟩:=dL.mp e
   rw [cA,cO] at n
   rw [List.getElem_drop,Array.getElem_toList]
   have:=c (p + k) (by omega) (by omega)
   omega
theorem TU (h:TOk b t) (es:Array (Int×Value)) (k:Int) (x:Value):TOk b (layNew t es k x).2.1:=by
 unfold layNew
 split
 ·rename_i slot g e
  unfold SetTable.freeSlot at e
  split at e
  ·rename_i j d c
   obtain ⟨rfl,f⟩:=tS h _ _ rfl c
   injection e with e
   injection e with a _
   have a:j=slot:=a
   subst a
   exact (zdt h f).orStandIn _
  ·cases e
 ·exact h.standIn _
theorem WH (h:TOk b t) (es:Array (Int×Value)) (n:Nat):TOk b (relayAll t es n).2.1:=by
 unfold relayAll
 split
 ·rename_i g a e
  dsimp only
  split
  ·unfold SetTable.relaid SetTable.laid at e
   simp only [Option.bind_eq_bind] at e
   obtain ⟨ow,_,e⟩:=eX.mp e
   injection e with e
   injection e with e1 e2
   subst e1
   refine ⟨h.led,?_,rfl⟩
   show List.Pairwise (· < ·) _
   dsimp only
   rw [dY,List.pairwise_filterMap]
   refine fA.imp fun {i j} c x d y f=>?_
   obtain ⟨u,_,rfl⟩:=eZ.mp d
   obtain ⟨k,_,rfl⟩:=eZ.mp f
   exact c
  ·exact h.standIn _
 ·exact h.standIn _
theorem ZF (next:Nat->Nat) (xs:Array α):(pickOrder next xs).toList.Perm xs.toList:=by
 suffices h:∀ (n k:Nat) (l:List α) (out:Array α),l.length=n->(pickOrder.go next n k l out).toList.Perm (out.toList ++ l) by
  have:=h xs.size 0 xs.toList #[] (by simp)
  simpa [pickOrder] using this
 intro n
 induction n with
 | zero =>
  intro k l out b
  have:l=[]:=dH.mp b
  subst this
  simp [pickOrder.go]
 | succ n c =>
  intro k l out b
  unfold pickOrder.go
  have a:next k % l.length < l.length:=Nat.mod_lt _ (by omega)
  rw [bD a]
  dsimp only
  refine (c _ _ _ (by rw [List.length_eraseIdx_of_lt a];omega)).trans ?_
  rw [Array.toList_push,cR]
  refine List.Perm.append_left _ ?_
  have e:l=l.take (next k % l.length) ++ l[next k % l.length] :: l.drop (next k % l.length + 1):=by
   rw [<- eI a,fD]
  conv=>rhs;rw [e]
  rw [List.eraseIdx_eq_take_drop_succ,List.singleton_append]
  exact List.perm_middle.symm
end L2
namespace L2
open PySem PySem.Spec PyProof.Rows
def IsE (e:Int×Value):Prop:=∃ k t,e=(hashInt k,.int k t)
def kOf (e:Int×Value):Int:=match e.2 with | .int k _=>k | _=>0
def SetI (b:Bool) (a:Addr) (l:List Int) (h:Heap):Prop :=
 ∃ o es ep t,h.get? a=some o/\o.ExactSet/\o.data=.set es ep t/\(∀ e∈es.toList,IsE e)/\(es.toList.map kOf).Perm l/\es.size < scanBound/\t.fits es.size=true/\TOk b t
section
variable {prog:Program} {w:World} {A:Around} {E:Value->Shared->Prop} {s:Shared} {b:Bool} {a:Addr} {l:List Int}
theorem SetI.at (x:SetI b a l h) (e:∀ o,h.get? a=some o->h'.get? a=some o):SetI b a l h' :=
 let ⟨o,c,d,t,f,r⟩:=x
 ⟨o,c,d,t,e o f,r⟩
theorem IsE.elems (h:∀ e∈es,IsE e):ElemsOf (intKind prog w) es:=fun e a=>by
 obtain ⟨k,t,rfl⟩:=h e a
 exact ⟨⟨k,intKind_is _ _ k t,rfl⟩,rfl⟩
theorem IsE.is (h:IsE e) (k:Int):(intKind prog w).is k e.2=true↔kOf e=k:=by
 obtain ⟨j,t,rfl⟩:=h
 constructor
 ·intro z
  exact ((intKind prog w).inj _ _ _ z (intKind_is _ _ j t)).symm
 ·intro z
  have z:j=k:=z
  subst z
  exact intKind_is _ _ j t
theorem Vv {o:Obj} {es:Array (Int×Value)} {c:Nat} {t:SetTable} {h:Heap} (d:h.get? a=some o) (hd:o.data=.set es c t) (b:Array (Int×Value)) (t':SetTable) :
  (h.update a (Obj.putSet b t')).get? a=some { o with data:=.set b (c + 1) t' }:=by
 have q:=Heap.get?_update_self (Obj.putSet b t') d (by rw [putSet_of _ _ hd];rfl)
 rwa [putSet_of _ _ hd] at q
theorem zcO {g:Bool->Sem Unit} (D:∀ (c:Bool) (h:Shared) (R:Unit->Shared->Prop),R () h->wpAny (model prog w) A (g c) R E h)
  {o:Obj} {es:Array (Int×Value)} {F:Nat} {t:SetTable} (r:s.heap.get? a=some o) (j:o.ExactSet) (hd:o.data=.set es F t)
  {d:Array (Int×Value)} {f:SetTable} (u:∀ e∈d.toList,IsE e) (v:(d.toList.map kOf).Perm l) (hz:d.size < scanBound) (G:f.fits d.size=true) (y:TOk b f) {H:Bool} {R:Option Bool->Shared->Prop}
  (k:∀ h',Heap.SameBut a s.heap h'->SetI b a l h'->R (some true) { s with heap:=h' }) :
  wpAny (model prog w) A (do
   storeSet a d f
   if (!H && f.tooFull)=true then do
    g (relayAll f d (SetTable.grown d.size)).2.2;storeSet a (relayAll f d (SetTable.grown d.size)).1 (relayAll f d (SetTable.grown d.size)).2.1;pure (some true)
   else pure (some true)) R E s:=by
 refine wpAny_bind (wpAny_storeSet_of r hd ?_ (fits_of_scanBound hz))
 have n:=Vv r hd d f
 have z:=Heap.SameBut.update s.heap a (Obj.putSet d f)
 split
 ·have m:=relayAll_perm f d (SetTable.grown d.size)
  have p:=relayAll_fits f d (SetTable.grown d.size)
  have q:=WH y d (SetTable.grown d.size)
  generalize relayAll f d (SetTable.grown d.size)=Z at m p q ⊢
  obtain ⟨i,B,I⟩:=Z
  dsimp only at m p q ⊢
  have C:i.size=d.size:=by have:=m.length_eq;simpa using this
  refine wpAny_bind (D _ _ _ ?_)
  refine wpAny_bind (wpAny_storeSet_of n rfl ?_ (fits_of_scanBound (by rw [C];exact hz)))
  exact wpAny_pure (k _ (z.trans (Heap.SameBut.update _ a _)) ⟨_,i,_,B,Vv n rfl i B,j,rfl,fun e x=>u e (m.mem_iff.mp x),(m.map kOf).trans v,by rw [C];exact hz,p,q⟩)
 ·exact wpAny_pure (k _ z ⟨_,d,_,f,n,j,rfl,u,v,hz,G,y⟩)
theorem addI {k:Int} {tk:Tok} {Q:Bool->Shared->Prop} (X:SetI b a l s.heap) (hl:l.length + 1 < scanBound)
  (h:∀ (r:Bool) h',Heap.SameBut a s.heap h'->SetI b a (step_dedup l k) h'->Q r { s with heap:=h' }) :
  wpAny (model prog w) A (setAddHashed a (.int k tk) (hashInt k)) Q E s:=by
 obtain ⟨o,i,fE,t,C,n,hd,D,J,S,K,T⟩:=X
 have F:ElemsOf (intKind prog w) i.toList:=IsE.elems D
 have hn:i.size=l.length:=by have:=J.length_eq;simpa using this
 have fG:∀ G,G∈l↔∃ e∈i.toList,(intKind prog w).is G e.2=true:=fun G=>by
  rw [<- J.mem_iff,aF]
  exact ⟨fun ⟨e,x,y⟩=>⟨e,x,((D e x).is G).mpr y⟩,fun ⟨e,x,y⟩=>⟨e,x,((D e x).is G).mp y⟩⟩
 unfold setAddHashed setAddHashedIn
 refine wpAny_holding (wpAny_bind (wpAny_setState_of C hd K ?_))
 dsimp only
 rw [byScan_of (knd:=intKind prog w) (x:=.int k tk) rfl S F]
 simp only [↓reduceIte]
 unfold setAddByScan
 refine wpAny_bind (wpAny_bind (wpAny_rule ?_))
 refine wpAny_bind (wpAny_setScan_of (knd:=intKind prog w) (k:=k) (intKind_is _ _ k tk) C hd K F ?_)
 cases V:List.findIdx? (fun e=>(intKind prog w).is k e.2) i.toList with
 | some j =>
  dsimp only
  obtain ⟨hj,L,_⟩:=List.findIdx?_eq_some_iff_getElem.mp V
  have M:k∈l:=(fG k).mpr ⟨i.toList[j],eB hj,L⟩
  have N:step_dedup l k=l:=by unfold step_dedup;rw [if_pos (List.any_eq_true.mpr ⟨k,M,by simp⟩)]
  have q:=h false s.heap (Heap.SameBut.refl a s.heap) (N.symm ▸ ⟨o,i,fE,t,C,n,hd,D,J,S,K,T⟩)
  exact wpAny_pure (wpAny_pure q)
 | none =>
  dsimp only
  have M:k∉l:=fun z=>by
   obtain ⟨e,fF,P⟩:=(fG k).mp z
   have q:=List.findIdx?_eq_none_iff.mp V e fF
   rw [P] at q;cases q
  have N:step_dedup l k=l ++ [k]:=by
   unfold step_dedup
   refine if_neg fun z=>?_
   obtain ⟨x,hx,ex⟩:=bQ.mp z
   exact M (eq_of_beq ex ▸ hx)
  have p:∀ (c:Bool) {g:Shared} {R:Unit->Shared->Prop},R () g->wpAny (model prog w) A (match c with | true=>rule "set.scan.the-table-gave-way" | false=>pure ()) R E g:=fun c g R q=>by
   cases c
   ·exact wpAny_pure q
   ·exact wpAny_rule q
  have d:=layNew_perm t i (hashInt k) (.int k tk)
  have f:=layNew_fits t i (hashInt k) (.int k tk)
  have hok:=TU T i (hashInt k) (.int k tk)
  show wpAny _ _ (let (i,t,wasDummy,gave):=layNew t i (hashInt k) (.int k tk);_) _ _ _
  generalize layNew t i (hashInt k) (.int k tk)=Z at d f hok ⊢
  obtain ⟨m,t1,wd,gv⟩:=Z
  dsimp only at d f hok ⊢
  rw [Array.toList_push] at d
  have H:∀ e∈m.toList,IsE e:=fun e fF=>by
   rcases aQ.mp (d.mem_iff.mp fF) with z | z
   ·exact D e z
   ·rw [aD.mp z];exact ⟨k,tk,rfl⟩
  have B:(m.toList.map kOf).Perm (l ++ [k]):=by
   refine (d.map kOf).trans ?_
   rw [aN]
   exact J.append_right _
  have I:m.size < scanBound:=by
   have q:=B.length_eq
   rw [aB,cO,aG] at q
   have:m.size=l.length + 1:=q
   omega
  refine wpAny_bind (p _ ?_)
  have W:∀ h',Heap.SameBut a s.heap h'->SetI b a (l ++ [k]) h'->Q true { s with heap:=h' }:=fun h' u v=>h true h' u (N.symm ▸ v)
  split
  ·refine wpAny_bind ?_
   rw [hashByValue_scannable 8 (x:=.int k tk) rfl]
   refine wpAny_pure ?_
   refine zcO ?_ C n hd H B I ?_ ?_ fun h' u v=>wpAny_pure (W h' u v)
   ·exact fun c g R q=>p c q
   ·split
    ·exact f
    ·exact SetTable.fits_plain_off f
   ·split
    ·exact hok
    ·exact hok.plain
  ·refine wpAny_bind (wpAny_pure ?_)
   simp only [↓reduceIte]
   refine zcO ?_ C n hd H B I f hok fun h' u v=>wpAny_pure (W h' u v)
   exact fun c g R q=>p c q
end
section
variable {prog:Program} {w:World} {A:Around} {E:Value->Shared->Prop} {s:Shared} {b:Bool} {a I:Addr} {l:List Int}
end
section
variable {prog:Program} {w:World} {A:Around} {E:Value->Shared->Prop} {s:Shared} {b:Bool} {a I T:Addr} {l:List Int}
theorem zbl {R:Result->Shared->Prop} {fp d:List Addr} {G:Array GenState->Array GenState->Prop} {n:Nat} {P:Nat->Value->Prop} {St:Nat->Shared->Prop} (W:WalksS prog w A.in1 I fp d G n P St) (S:Addr) (e:S∉fp)
  (val:Nat->Int) (f:∀ i v,P i v->∃ t,v=.int (val i) t) (hz:n + 1 < scanBound) :
  ∀ (k i:Nat) (s:Shared),n - i=k->i<=n->St i s->SetI b S (firstMet val i) s.heap->(∀ a,Moved (S :: d) G s a->SetI b S (firstMet val n) a.heap->R (.ok (.ret .none)) a) ->
   codeAny (model prog w) A (.builtin "set.update.loop" ⟨[.ref S,.ref I],[]⟩) R s:=by
 have g:S∉d:=fun h=>e (W.sub _ h)
 have K:∀ c∈d,c∈S :: d:=fun c=>bA _
 intro k
 induction k with
 | zero =>
  intro i s L hi st B C
  obtain rfl:i=n:=by omega
  refine codeAny_builtin F.entry_set_update_loop ?_
  rw [Around.under_plainId F.plain_set_update_loop _]
  show wpAny _ A.in1 (pyNext (.ref I) >>= _) _ _ s
  refine wpAny_bind (W.done s _ _ st fun a j=>wpAny_pure (C a (j.mono K) (B.at fun o z=>j.heap S o g z)))
 | succ k M =>
  intro i s L hi st B C
  have l:i < n:=by omega
  refine codeAny_builtin F.entry_set_update_loop ?_
  rw [Around.under_plainId F.plain_set_update_loop _]
  show wpAny _ A.in1 (pyNext (.ref I) >>= _) _ _ s
  refine wpAny_bind (W.item i s _ _ l st fun v a N D j=>?_)
  obtain ⟨t,rfl⟩:=f i v N
  have E:SetI b S (firstMet val i) a.heap:=B.at fun o z=>j.heap S o g z
  show wpAny _ A.in1 (holding [Value.int (val i) t] (setAdd S (.int (val i) t)) >>= _) _ _ a
  refine wpAny_bind (wpAny_holding ?_)
  unfold setAdd
  refine wpAny_holding (wpAny_bind ((intKind prog w).pyHash (k:=val i) (intKind_is _ _ _ _) ?_))
  have m:(firstMet val i).length + 1 < scanBound:=by have:=firstMet_length_le val i;omega
  refine addI (s:={ a with toks:=a.toks + 1 }) E m fun r h' u p=>?_
  rw [<- firstMet_succ] at p
  refine wpAny_pure ⟨plainId_quiet F.plain_set_update_loop _,M (i + 1) _ (by omega) l (W.frame _ a _ _ D (cK _) fun c H o z=>?_) p fun J x y=>?_⟩
  ·rw [u.2 c fun q:c=S=>e (by rw [<- q];exact H)];exact z
  ·refine C J (Moved.trans W.gtrans ((j.mono K).then_heap (cK _) fun c o H z=>?_) x) y
   rw [u.2 c fun q:c=S=>H (by rw [q];exact .head _)];exact z
theorem newI (x:Value) (c:w.params.followText "set-order" = b)
  (h:Q₁ (.ref s.heap.objs.size) { s with heap:=s.heap.push { cls:=.type "set", dict:=none,data:=.set #[] 0 (.fresh 0 0 (!b)) } }) :
  codeAny (model prog w) A (.call (.builtin "set.__new__") ⟨[.type "set", x],[]⟩) (wants Q₁ E) s:=by
 refine codeAny_of_tree ?_
 show wpAny _ A.in1 (do checkBuiltinCall "set.__new__" ⟨[.type "set", x],[]⟩;again (.builtin "set.__new__" ⟨[.type "set", x],[]⟩)) _ _ s
 refine wpAny_bind (wpAny_of_eq (F.newCall_set_1 x) (wpAny_pure ⟨plainId_quiet F.plain_set_new _,codeAny_builtin F.entry_set_new ?_⟩))
 rw [Around.under_plainId F.plain_set_new _]
 unfold Builtin.«set.__new__» Builtin.Frozenset.newClass
 have a:=sub_set_self
 obtain ⟨e,g,d,f,os⟩:=s
 dsimp only
 wp_walk
 refine wpAny_askSetting (wpAny_pure ?_)
 dsimp only
 simp only [newObj]
 refine wpAny_bind (wpAny_alloc (wpAny_pure (wpAny_pure ?_)))
 rw [show (model prog w).w.params.followText "set-order" = b from c]
 exact h
set_option maxHeartbeats 3200000 in
theorem zdk (fE:A.handled=none) (Z:w.params.followText "set-order" = b) (hl:s.heap.IsList L items) (hi:IntsAre items.toList ns) (hz:items.size + 1 < scanBound)
  (k:∀ (h':Heap) (tk:Nat),SetI (!b) s.heap.objs.size (firstMet (fun i=>ns.getD i 0) items.size) h'->(∀ c o,s.heap.get? c=some o->h'.get? c=some o)->Q (.ref s.heap.objs.size) { s with heap:=h',toks:=tk }) :
  wpAny (model prog w) A (call (.type "set") [.ref L]) Q E s:=by
 obtain ⟨c,tl,fG⟩:=F.called_set.mro
 have J:=F.called_set.made
 have V:=F.called_set.sub
 refine wpAny_call (codeAny_of_tree ?_)
 show wpAny _ _ (callAny (.type "set") _) _ _ _
 refine wpAny_pure ⟨Code.quiet_builtin _ (by decide +kernel),codeAny_builtin F.entry_type_call ?_⟩
 rw [Around.under_plain (weight_type_call_type "set" [.ref L] []) rfl]
 have h1:=F.called_set.notType
 have h2:=F.called_set.canCreate
 have a0:=F.typeCall_set_1 (.ref L)
 repeat (any_goals (first | assumption | wp_step))
 refine codeAny_mono (newI (.ref L) (E:=E) Z (Q₁:=fun x f=>x=.ref s.heap.objs.size/\f={ s with heap:=s.heap.push { cls:=.type "set", dict:=none,data:=.set #[] 0 (.fresh 0 0 (!b)) } }) ⟨rfl,rfl⟩) fun r f K=>?_
 cases r with
 | error e=>exact K
 | ok fl =>
  cases fl with
  | ret obj =>
   obtain ⟨rfl,rfl⟩:=K
   generalize d:({ cls:=.type "set", dict:=none,data:=.set #[] 0 (.fresh 0 0 (!b)) }:Obj)=g
   have W:(s.heap.push g).get? s.heap.objs.size=some g:=bE _ (by rw [<- d];rfl)
   have hS0:SetI (!b) s.heap.objs.size [] (s.heap.push g):=⟨g,#[],0,_,W,by rw [<- d];exact ⟨rfl,rfl,rfl⟩,by rw [<- d],(fun e z=>by simp at z),.nil,by decide,by rfl,TOk.fresh⟩
   have hT:Shared.TypeIs { s with heap:=s.heap.push g } (.ref s.heap.objs.size) "set" := ⟨_,W,by rw [<- d]⟩
   have a1:=F.called_set.init.lookup
   have a2:=F.called_set.init.bind (.ref s.heap.objs.size)
   repeat (any_goals (first | assumption | wp_step))
   refine codeAny_mono (codeAny_call_builtin (R:=wants (fun r h=>r=.none/\∃ h' tk,h={ s with heap:=h',toks:=tk }/\SetI (!b) s.heap.objs.size (firstMet (fun i=>ns.getD i 0) items.size) h' /\
     (∀ c o,s.heap.get? c=some o->h'.get? c=some o)) E) F.called_set.init.plain F.entry_set_init (check_set_init_1 hT ?_)) fun n h a=>?_
   ·obtain ⟨ol,p,u,nl,y⟩:=hl
    obtain ⟨oc,od,a3,osl⟩:=ol
    simp only at u y
    subst u;subst y
    have B:(s.heap.push g).get? L=some { cls:=.type "list", dict:=od,data:=.seq items nl,slots:=osl }:=aR _ p
    have e1:=F.sub_list_set
    have e2:=F.sub_list_frozenset
    have a4:(Value.type "list" == Value.type "dict")=false:=by decide
    have C:(s.heap.push g).IsList L items:=⟨_,B,rfl,nl,rfl⟩
    have j:(s.heap.push g).objs.size=s.heap.objs.size + 1:=dG _ _
    subst d
    unfold Builtin.«set.__init__» noKeywords Builtin.Frozenset.updateFrom
    generalize M:pyIter=PI
    wp_walk
    subst M
    refine wpAny_pyIter_list C ?_
    refine wpAny_bind (wpAny_runValue ?_)
    have D:L < s.heap.objs.size:=aE p
    have N:A.in1.in1.in1.handled=none:=fE
    have G:L≠(s.heap.push { cls:=.type "set", dict:=none,data:=.set #[] 0 (.fresh 0 0 (!b)) }).objs.size:=by rw [j];exact aL (cX D)
    have fF:s.heap.objs.size∉[(s.heap.push { cls:=.type "set", dict:=none,data:=.set #[] 0 (.fresh 0 0 (!b)) }).objs.size,L]:=by
     rw [j]
     intro z
     rcases aT.mp z with z | z
     ·exact aL (cH _) z
     ·exact cV D (aD.mp z)
    have H:∀ (i:Nat) (v:Value),items[i]?=some v->∃ t,v=.int ((fun i=>ns.getD i 0) i) t:=fun i v hv=>IntsAre.int_at hi i v (by rw [dJ];exact hv)
    refine zbl (b:=!b) ((Walks.list N _ L G items).toS) s.heap.objs.size fF (fun i=>ns.getD i 0) H hz (items.size - 0) 0 _ (by omega) (aW _) ⟨⟨_,bE _ rfl,rfl,rfl⟩,(C.push _)⟩ ?hS0 ?hR
    case hS0=>exact hS0.at fun o z=>aR _ z
    case hR =>
     intro s' I l
     obtain ⟨h',g',d',P,S⟩:=s'
     have eg:g'=s.gens:=I.gens
     have ed:d'=s.drawn:=I.drawn
     have eo:S=s.os:=I.os
     subst eg;subst ed;subst eo
     show wpAny _ _ _ _ _ _
     refine wpAny_pure ?_
     show wpAny _ _ (ret Value.none) _ _ _
     refine wpAny_pure ⟨rfl,h',P,rfl,l,fun c o z=>?_⟩
     have X:c < s.heap.objs.size:=aE z
     refine I.heap c o (fun q=>?_) (aR _ (aR _ z))
     rcases aT.mp q with q | q
     ·exact aL X q
     ·have q:=aD.mp q
      rw [j] at q
      exact aL (cX X) q
   ·cases n with
    | error e=>exact a
    | ok m =>
     cases m with
     | ret r =>
      obtain ⟨rfl,h',tk,rfl,l,T⟩:=a
      repeat (any_goals (first | assumption | wp_step))
      exact k _ _ l T
     | _=>exact a.elim
  | _=>exact K.elim
end
section
variable {X:Cx} {K:aA} {b:Bool}
def SetB (b:Bool) (a:Addr) (l:List Int):HO:=.ext (SetI (!b) a l)
theorem UA (x:SetI (!b) a l h):yj P w H h a (SetB b a l) :=
 ⟨x,(let ⟨o,_,_,_,c,_⟩:=x;⟨o,c⟩),fun _ _ d k=>d.at k⟩
def QO (K:aA) (b:Bool):List V->Hp->VK->Prop:=fun xs H Q=>∃ p ns,xs=[.ref p]/\SqL K H p (ns.map V.int)/\ns.length < 4000/\∀ l,H l=none->Q (.ref l) (upd H l (SetB b l (dd ns)))
theorem YZ (f:X.K=K) (g:X.calm=true) (i:X.w.params.followText "set-order" = b):yq X (.type "set") (QO K b):=by
 subst f
 intro pins s O H xs us Q I r h
 obtain ⟨p,ns,rfl,j,t,q⟩:=h
 obtain ⟨u,rfl,k⟩:=xh r
 cases k
 obtain ⟨a,c,pl,l⟩:=I.list j
 have d:=c.length
 rw [aB] at d l
 refine zdk (ns:=ns) (I.ok.hd g) i pl.isList (by simpa using x0 c) (by rw [List.size_toArray];unfold scanBound;omega) fun h' m e n=>?_
 have o:a.toArray.size=ns.length:=by rw [bT,d]
 rw [o,X2] at e
 exact ⟨.ref s.heap.objs.size,_,I.laid (t':=m) n (aC _) (UA e),rfl,q _ (I.hok.fresh (aC _))⟩
def zcX (b:Bool):List V->Hp->VK->Prop:=fun xs H Q=>∃ p l,xs=[.ref p]/\H p=some (SetB b p l)/\Q (.int l.length) H
theorem Qg:yq X (.builtin "len") (zcX b):=by
 intro pins s O H xs us Q I r h
 obtain ⟨p,l,rfl,c,q⟩:=h
 obtain ⟨u,rfl,d⟩:=xh r
 cases d
 obtain ⟨o,f,m,t,g,a,hd,_,i,j,k,_⟩:SetI (!b) p l s.heap:=(I.hok p _ c).1
 have e:f.size=l.length:=by have:=i.length_eq;simpa using this
 exact PySem.call_len_set g a hd k (by unfold scanBound at j;omega) ⟨.int l.length,H,I.tok _,⟨_,by rw [e]⟩,q⟩
end
end L2
namespace PD
open PySem L2
section
variable {K:aA} {S S':Sx} {U U' b:Bool} {Y Y' Y'':Ctx} {P:Post}
end
end PD
namespace L2
open PySem PySem.Spec PyProof.Rows
def Ite (K:aA) (a:Addr):It :=
 ⟨fun i H=>∃ xs x,SqL K H a xs/\xs[i]?=some x,
  fun i H x H'=>∃ T u,H T=none/\x=.ref T/\H'=upd H T (.tup [.int i,u])/\∀ xs,SqL K H a xs->xs[i]?=some u,
  fun i H=>∃ xs,SqL K H a xs/\xs.length<=i⟩
theorem Tk {P:Program} {w:World} {K:aA} {es:List Expr} {k:Nat} {j:Pos} (a n:Addr) :
  Turn P w K (.Tuple es k j) (Ite K a) [n + 1,n] (n + 1) (fun i h=>(∃ old,IsEnum h (n + 1) n i old)/\h.IsListIter n a i) where
 mem:=by simp
 obj:=fun i h st c b=>by
  obtain ⟨⟨v,f⟩,⟨fE,t,_,d1⟩⟩:=st
  simp only [List.mem_cons,List.not_mem_nil,or_false] at b
  rcases b with rfl | rfl
  ·exact ⟨_,f,fun v z=>by have y:Data.fields _=Data.cell v:=z;cases y⟩
  ·exact ⟨_,t,fun v z=>by rw [d1] at z;cases z⟩
 keep:=fun i h h' st k=>by
  obtain ⟨⟨v,f⟩,g⟩:=st
  exact ⟨⟨v,k _ (by simp) _ f⟩,g.at fun o e=>k _ (by simp) o e⟩
 item:=by
  intro X A B C b i pins s O H E I r st D
  subst A B C
  obtain ⟨⟨old,f⟩,g⟩:=st
  obtain ⟨xs,x,d,Q⟩:=D
  obtain ⟨l,F,G,R⟩:=I.list d
  obtain ⟨u,S,T⟩:=F.get Q
  have m:n + 1≠n:=ad (by omega)
  refine wpAny_pyNext_enum_item f g G.isList (x:=u) (by simpa using S) m fun h' y J t' fG kp=>?_
  refine ⟨_,rfl,wpAny_letOwnedTupleGo_enum y fun L M N=>?_⟩
  have fF:∀ c o,c∉[n + 1,n]->s.heap.get? c=some o->L.get? c=some o:=fun c o b e =>
   (N.2 c (fun z=>b (by simp [z]))).trans (kp c o (fun z=>b (by simp [z])) (fun z=>b (by simp [z])) e)
  have p:∀ c∈[n + 1,n],c < s.heap.objs.size:=fun c b=>by
   obtain ⟨_,t,_⟩:=id g
   simp only [List.mem_cons,List.not_mem_nil,or_false] at b
   rcases b with rfl | rfl
   ·exact aE f
   ·exact aE t
  have V:s.heap.objs.size≠n + 1:=Nat.ne_of_gt (p _ (by simp))
  refine ⟨.ref s.heap.objs.size,upd H s.heap.objs.size (.tup [.int i,x]),I.turnNew (t':=s.toks + 1) r fF (aC _) ?_,rfl,⟨_,x,I.hok.fresh (aC _),rfl,rfl,fun Z W=>by rw [I.list_inj W d];exact Q⟩,?_,fun c b=>?_⟩
  ·refine ⟨by show 2<=sizeLine;decide,[.int i s.toks,u],.cons ⟨_,rfl⟩ (.cons T .nil),⟨_,(N.2 _ V).trans t',rfl,_,rfl⟩⟩
  ·exact ⟨⟨_,M⟩,J.at fun o e=>(N.2 _ (Ne.symm m)).trans e⟩
  ·rw [zp (aL (p c b))]
   exact (r c b).1
 done:=by
  intro X A B C b i pins s O H E I r st D
  subst A B C
  obtain ⟨⟨old,f⟩,g⟩:=st
  obtain ⟨xs,d,hl⟩:=D
  obtain ⟨l,F,G,R⟩:=I.list d
  have l1:=F.length
  have q:l.toArray[i]?=none:=by
   simp
   omega
  exact wpAny_pyNext_enum_end (I.ok.hd b) f g G.isList q fun h' kp=>⟨rfl,I.turnAll (t':=s.toks) r fun c o b e=>kp c o (fun z=>b (by simp [z])) e⟩
 self:=fun _ _ _ _ _ st h=>let ⟨_,z⟩:=st.1;wpAny_pyIter_enum z h
section
variable {X:Cx} {K:aA}
def zc2 (K:aA) (ta:TA):TI:=fun O H R=>ta O H fun vs H1=>∃ a,vs=[.ref a]/\(∃ xs,SqL K H1 a xs)/\R (Ite K a) H1
theorem QY {a:Expr} {g:TA} {p pos:Pos} {es:List Expr} {k:Nat} {b:Pos} (m:X.K=K) (n:Gl X "enumerate") (o:X.mg "enumerate" = none) (r:PA X [a] g) (t:starEach (a :: []) X.env=(false,eval a X.env) :: starEach [] X.env:=by rfl)
  (f:(backTo pos (starEach [] X.env)).any (·.1)=false:=by rfl):PI X (.Tuple es k b) (.Call (.Name "enumerate" p) [a] [] pos) (zc2 K g):=by
 subst m
 intro pins s O H R I h
 refine wpAny_Call_Name_kw (uk I n o (u:=.type "enumerate") (by decide +kernel) ?_ (by decide) (by decide))
 refine PyProof.Rows.callWith_type1 (thn (r pos pins s O H _ I h) fun us s1 ⟨vs,v,e,w,x⟩=>?_) t f
 obtain ⟨i,rfl,⟨xs,y⟩,q⟩:=x
 obtain ⟨u,rfl,z⟩:=xh w
 cases (show u=Value.ref i from z)
 obtain ⟨A,D,B,E⟩:=e.list y
 refine call_enumerate_list B.isList fun h' j C sz kp=>?_
 refine wpAny_pyIter_enum j ?_
 refine ⟨s1.heap.objs.size + 1,_,_,_,v,rfl,e.kept (t':=s1.toks) kp,Tk i s1.heap.objs.size,⟨⟨_,j⟩,C⟩,fun c l=>?_,q⟩
 have d:s1.heap.objs.size<=c:=by
  simp only [List.mem_cons,List.not_mem_nil,or_false] at l
  rcases l with rfl | rfl
  ·exact Nat.le_add_right _ _
  ·exact aC _
 exact e.fpOk d (e.hok.fresh d)
end
end L2
namespace PD
open PySem L2
section
variable {K:aA} {S S':Sx} {U U':Bool} {Y Y' Y'':Ctx} {P:Post}
theorem zcx (h:EvA K S U t Y [.list xs]):EvI K S U (zc2 K t) Y (xs.mapIdx fun i x=>.tuple [.int (i:Nat),x]):=fun H0 F0 H F O e R q =>
 h H0 F0 H F O e _ fun vs k c f b=>by
  cases b with
  | cons p b =>
   cases b
   obtain ⟨a,us,rfl,l,g⟩:=tE p
   have s:=zv.length g
   have up:∀ {F' H':Hp},Same c F'->Same F' H'->SqL K H' a us:=fun s1 s2=>(s1.trans s2).seq l.sq
   refine ⟨a,rfl,⟨us,up (.refl _) f.le⟩,q _ k c f ⟨fun i H' F' s1 s2 hi=>?_,fun i H' F' x m s1 s2 sd hi y=>?_,fun H' F' s1 s2=>?_⟩⟩
   ·rw [eQ] at hi
    exact ⟨us,us[i]'(by omega),up s1 s2,by simp⟩
   ·obtain ⟨T,u,j,rfl,rfl,n⟩:=y
    obtain ⟨d,hd,o⟩:=zv.get' g (n us (up s1 s2))
    have r:Same F' (upd F' T (.tup [.int i,u])):=Same.new (s2.free j) _
    exact ⟨.tuple [.int i,d],_,by rw [eO,hd];rfl,.new s2 j _,.tup (SqT.of zi) (.cons (.int _) (.cons (yA (s1.trans r) o) .nil))⟩
   ·exact ⟨us,up s1 s2,by rw [eQ];omega⟩
end
end PD
namespace L2
open PySem
end L2
namespace L2
open PySem PySem.Spec PyProof.Rows
theorem Xj:entryFor table "set.__and__" = some Builtin.«frozenset.__and__»:=entryFor_alias (id' := "frozenset.__and__") (by kernel_rfl) rfl (by decide +kernel) (by kernel_rfl)
def Yc (b:Bool) (m:Nat) (a:Addr) (h:Heap):Prop:=∃ o ep t,h.get? a=some o/\o.ExactSet/\o.data=.set #[] ep t/\TOk b t/\t.place=#[]/\(∃ k,t.mask + 1=2 ^ k)/\m<=t.mask
theorem Yc.fits (h:TOk b t) (e:t.place=#[]):t.fits (#[]:Array (Int×Value)).size=true:=by
 unfold SetTable.fits SetTable.fill
 rw [e,h.dum]
 simp
theorem Yc.set (x:Yc b m a h):SetI b a [] h:=by
 obtain ⟨o,d,t,f,g,hd,c,i,_⟩:=x
 exact ⟨o,#[],d,t,f,g,hd,(fun e z=>by simp at z),.nil,by decide,Yc.fits c i,c⟩
section
variable {prog:Program} {w:World} {A:Around} {E:Value->Shared->Prop} {s:Shared} {b:Bool} {a r o:Addr} {l l1 l2:List Int} {m:Nat}
end
section
variable {prog:Program} {w:World} {A:Around} {E:Value->Shared->Prop} {s:Shared} {bt:Bool} {a r o:Addr} {l l1 l2:List Int} {m:Nat}
theorem zbY (a:w.params.followText "set-order" = bt)
  (k:∀ ob,Yc (!bt) 7 s.heap.objs.size (s.heap.push ob)->Q (.ref s.heap.objs.size) { s with heap:=s.heap.push ob }):wpAny (model prog w) A (newSet (.type "set")) Q E s:=by
 unfold newSet setsByText
 refine wpAny_bind (wpAny_bind (wpAny_askSetting (wpAny_pure ?_)))
 rw [show (model prog w).w.params.followText "set-order" = bt from a]
 dsimp only
 simp only [newObj]
 exact wpAny_bind (wpAny_alloc (wpAny_pure (k _ ⟨_,0,_,bE _ rfl,⟨rfl,rfl,rfl⟩,rfl,TOk.fresh,rfl,⟨3,rfl⟩,aC _⟩)))
theorem zds (h:∀ a∈sets,∃ b l,SetI b a l s.heap) (k:Q true s):wpAny (model prog w) A (setsQuiet sets) Q E s:=by
 unfold setsQuiet
 refine wpAny_bind (wpAny_forIn_list _ (fun c r f=>r.1=none/\f=s/\∀ a∈c,∃ b l,SetI b a l s.heap) _ ?_ ?_ _ _ ⟨rfl,rfl,h⟩)
 ·rintro x c ⟨n,u⟩ f ⟨g,rfl,o⟩
  obtain ⟨b,l,ob,F,G,t,v,z,hd,B,H,I,C,J⟩:=o x (.head _)
  refine wpAny_bind (wpAny_setEntries_of v hd C ?_)
  refine wpAny_bind (wpAny_forIn_array' _ (fun c r d=>r.1=none/\d=f/\∀ e∈c,IsE e) _ ?_ ?_ _ _ ⟨rfl,rfl,B⟩)
  ·rintro e j ⟨p,D⟩ d ⟨i,rfl,q⟩
   obtain ⟨K,L,rfl⟩:=q e (.head _)
   exact wpAny_pure ⟨rfl,rfl,fun y m=>q y (.tail _ m)⟩
  ·rintro ⟨p,D⟩ d ⟨i,rfl,_⟩
   have i:p=none:=i
   subst i
   exact wpAny_pure ⟨rfl,rfl,fun y m=>o y (.tail _ m)⟩
 ·rintro ⟨n,u⟩ f ⟨g,rfl,_⟩
  have g:n=none:=g
  subst g
  exact wpAny_pure k
end
section
variable {prog:Program} {w:World} {A:Around} {E:Value->Shared->Prop} {s:Shared} {bt:Bool} {a r o p q:Addr} {l l1 l2:List Int} {m:Nat}
theorem Wg {h:Heap} (c:SetI b a l s.heap) (k:Q true s):wpAny (model prog w) A (Builtin.Frozenset.isAnySet (.ref a)) Q E s:=by
 obtain ⟨ob,_,_,_,d,e,_⟩:=c
 unfold Builtin.Frozenset.isAnySet
 refine wpAny_bind (wpAny_isInstance (b:=true) ⟨ob,d,e.1⟩ sub_set_self (wpAny_pure k))
end
section
variable {X:Cx} {K:aA} {b:Bool}
theorem zeJ (ns:List Int):(dd ns).Nodup:=by
 suffices z:∀ n,(dd (ns.take n)).Nodup by simpa using z ns.length
 intro n
 induction n with
 | zero=>exact cE
 | succ n a =>
  by_cases b:n < ns.length
  ·have e:ns.take (n + 1)=ns.take n ++ [ns[n]]:=by rw [List.take_succ,bD b];rfl
   rw [e,fG5]
   unfold step_dedup
   split
   ·exact a
   ·rename_i h
    rw [bU]
    refine ⟨a,by simp,fun x c y d=>?_⟩
    rw [aD.mp d]
    rintro rfl
    exact h (List.any_eq_true.mpr ⟨_,c,by simp⟩)
  ·have f:ns.take (n + 1)=ns.take n:=by rw [cM (by omega),cM (by omega)]
   rw [f]
   exact a
end
end L2
namespace PD
open PySem L2
section
variable {K:aA} {S S':Sx} {U U' b:Bool} {Y Y' Y'':Ctx} {P:Post}
end
section
variable {K:aA} {S S':Sx} {U U':Bool} {Y Y' Y'':Ctx} {P:Post} {E:XK} {C:Addr}
theorem X7 (k:EvT K S c Y b) (l:b=true->EvE K S U t Y d) (m:b=false->EvE K S U u Y d):EvE K S U (tIf c t u) Y d:=fun H0 F0 H F O e Q q =>
 k H0 F0 H F O e _ fun i j g=>by
  cases b with
  | true=>exact iteT (l rfl H0 F0 i j O (e.mono g) Q fun v a f h p=>q v a f (g.trans h) p)
  | false=>exact iteF (m rfl H0 F0 i j O (e.mono g) Q fun v a f h p=>q v a f (g.trans h) p)
end
section
variable {K:aA} {S S':Sx} {U U':Bool} {Y Y' Y'':Ctx} {P:Post}
theorem cutH (g:α->PyData) (xs:List α) (k:Nat):cutD (xs.map g) (some (k:Int)) none=(xs.drop k).map g:=by
 unfold cutD
 rw [HT.Xr]
 show ((xs.map g).drop (min k (xs.map g).length)).take ((xs.map g).length - min k (xs.map g).length)=_
 rw [cM (by rw [cA];exact aC _),aB,<- List.map_drop]
 congr 1
 rcases Nat.le_total k xs.length with h | h
 ·rw [Nat.min_eq_left h]
 ·rw [Nat.min_eq_right h,List.drop_of_length_le (aC _),List.drop_of_length_le h]
theorem Ud:∀ (a b:List Int),PyData.eqv (.list (a.map .int)) (.list (b.map .int))=decide (a=b)
 | [],[]=>rfl
 | [],_ :: _=>rfl
 | _ :: _,[]=>rfl
 | x :: a,y :: b=>by
  have c:=Ud a b
  have e:PyData.eqv (.list ((x :: a).map .int)) (.list ((y :: b).map .int))=((x == y) && PyData.eqv (.list (a.map .int)) (.list (b.map .int))):=by
   simp [PyData.eqv,PyData.eqvAll]
  rw [e,c]
  by_cases h:x=y
  ·subst h;simp
  ·have:(x == y)=false:=by simpa using h
   rw [this]
   simp [h]
end
end PD
namespace L2
open PySem PySem.Spec PyProof.Rows
section
variable {prog:Program} {w:World} {A:Around} {E:Value->Shared->Prop} {s:Shared} {b bt:Bool} {a r o p q:Addr} {l l1 l2:List Int}
theorem zeE (r:SetI b a l s.heap) (h:∀ x:Option Nat,(x.isSome=true↔k∈l)->Q x s):wpAny (model prog w) A (setFind a (.int k tk) (hashInt k)) Q E s:=by
 obtain ⟨ob,d,F,t,m,u,hd,f,v,B,n,G⟩:=r
 have c:ElemsOf (intKind prog w) d.toList:=IsE.elems f
 have o:k∈l↔∃ e∈d.toList,(intKind prog w).is k e.2=true:=by
  rw [<- v.mem_iff,aF]
  exact ⟨fun ⟨e,x,y⟩=>⟨e,x,((f e x).is k).mpr y⟩,fun ⟨e,x,y⟩=>⟨e,x,((f e x).is k).mp y⟩⟩
 unfold setFind setFindIn
 refine wpAny_bind (wpAny_setState_of m hd n ?_)
 dsimp only
 rw [byScan_of (knd:=intKind prog w) (x:=.int k tk) rfl B c]
 simp only [↓reduceIte]
 refine wpAny_bind (wpAny_rule ?_)
 refine wpAny_bind (wpAny_setScan_of (knd:=intKind prog w) (k:=k) (intKind_is _ _ k tk) m hd n c ?_)
 cases p:List.findIdx? (fun e=>(intKind prog w).is k e.2) d.toList with
 | none =>
  dsimp only
  refine wpAny_pure (h none ⟨fun z=>(by cases z),fun z=>?_⟩)
  obtain ⟨e,C,g⟩:=o.mp z
  have q:=List.findIdx?_eq_none_iff.mp p e C
  rw [g] at q;cases q
 | some j =>
  dsimp only
  obtain ⟨D,i,_⟩:=List.findIdx?_eq_some_iff_getElem.mp p
  exact wpAny_pure (h (some (0 + j)) ⟨fun _=>o.mpr ⟨d.toList[j],eB D,i⟩,fun _=>rfl⟩)
theorem zer {b:List Addr} {Q:Array (Int×Value)->Shared->Prop} (n:w.params.followText "set-order" = bt) (F:SetI (!bt) r l1 s.heap) (G:SetI (!bt) o l2 s.heap) (J:∀ x∈b,∃ c l,SetI c x l s.heap)
  (k:∀ (ws:Array (Int×Value)) h',(∀ e∈ws.toList,IsE e)->(ws.toList.map kOf).Perm l2->Heap.SameBut r s.heap h'->SetI (!bt) r l1 h'->Q ws { s with heap:=h' }):wpAny (model prog w) A (setWalkUnseen o b (some r)) Q E s:=by
 obtain ⟨ob,d,P,t,p,K,hd,H,I,R,q,L⟩:=id G
 have u:∀ ws:Array (Int×Value),ws.toList.Perm d.toList->Q ws s:=fun ws pm=>k ws s.heap (fun e x=>H e (pm.mem_iff.mp x)) ((pm.map kOf).trans I) (Heap.SameBut.refl _ _) F
 unfold setWalkUnseen
 refine wpAny_bind (wpAny_setState_of p hd q ?_)
 dsimp only
 unfold setsByText
 refine wpAny_bind (wpAny_bind (wpAny_askSetting (wpAny_pure ?_)))
 rw [show (model prog w).w.params.followText "set-order" = bt from n]
 cases bt with
 | true =>
  simp only [Bool.true_or,↓reduceIte]
  unfold setWalk
  refine wpAny_bind (wpAny_setState_of p hd q ?_)
  dsimp only
  unfold setsByText
  refine wpAny_bind (wpAny_bind (wpAny_askSetting (wpAny_pure ?_)))
  rw [show (model prog w).w.params.followText "set-order" = true from n]
  simp only [↓reduceIte]
  exact wpAny_bind (wpAny_askSetting (wpAny_pure (u _ (ZF _ _))))
 | false =>
  have led:t.led=true:=L.led
  by_cases c:(false || (t.led && t.plain) || decide (d.size<=1))=true
  ·rw [if_pos c]
   unfold setWalk
   refine wpAny_bind (wpAny_setState_of p hd q ?_)
   dsimp only
   unfold setsByText
   refine wpAny_bind (wpAny_bind (wpAny_askSetting (wpAny_pure ?_)))
   rw [show (model prog w).w.params.followText "set-order" = false from n]
   simp only [Bool.false_eq_true,↓reduceIte]
   split
   ·rename_i z
    have z:(!t.plain && decide (d.size > 1))=true:=z
    rw [led] at c
    simp at c z
    have y:¬ 1 < d.size:=by
     rcases c with c | c
     ·rw [c] at z
      exact absurd z.1 (by decide)
     ·omega
    exact absurd z.2 y
   ·refine wpAny_bind (wpAny_of_eq (a:=()) ?_ ?_)
    ·show (if (!t.led && decide (d.size > 1))=true then _ else _)=_
     rw [led]
     rfl
    ·exact wpAny_pure (u d (.refl _))
  ·rw [if_neg c]
   refine wpAny_bind (zds (fun x v=>?_) ?_)
   ·rcases aT.mp v with rfl | v
    ·exact ⟨_,_,G⟩
    ·exact J x v
   rw [if_neg (by decide)]
   refine wpAny_bind (wpAny_rule ?_)
   obtain ⟨M,B,N,fF,f,i,g,C,D,j,m,h⟩:=id F
   refine wpAny_bind (wpAny_setState_of f g m ?_)
   dsimp only
   split
   ·refine wpAny_bind (wpAny_storeSet_of f g ?_ (fits_of_scanBound j))
    refine wpAny_pure (k d _ H I (Heap.SameBut.update ..) ⟨_,B,_,_,Vv f g _ _,i,rfl,C,D,j,m,⟨?_,h.rise,h.dum⟩⟩)
    show (fF.led && t.led)=_
    rw [h.led,led]
    rfl
   ·exact wpAny_pure (u d (.refl _))
theorem zcT (c:SetI b a l s.heap) (k:Q l.length s):wpAny (model prog w) A (Builtin.Frozenset.sizeOf a) Q E s:=by
 obtain ⟨ob,d,j,t,e,f,hd,m,g,n,h,o⟩:=c
 have i:d.size=l.length:=by have:=g.length_eq;simpa using this
 unfold Builtin.Frozenset.sizeOf
 refine wpAny_bind (wpAny_setEntries_of e hd h (wpAny_pure ?_))
 rw [i]
 exact k
theorem zcz (nd:l.Nodup):(step_dedup l k).Nodup/\(∀ x,x∈step_dedup l k↔x∈l\/x=k)/\(step_dedup l k).length<=l.length + 1:=by
 unfold step_dedup
 split
 ·rename_i z
  obtain ⟨y,a,b⟩:=bQ.mp z
  have b:=eq_of_beq b
  subst b
  exact ⟨nd,fun x=>⟨.inl,fun z=>z.elim id fun z=>z ▸ a⟩,by omega⟩
 ·rename_i z
  refine ⟨?_,fun x=>by rw [aQ,aD],by rw [aG];exact aC _⟩
  rw [bU]
  refine ⟨nd,by simp,fun x c y a=>?_⟩
  rw [aD.mp a]
  rintro rfl
  exact z (List.any_eq_true.mpr ⟨_,c,by simp⟩)
theorem andI (hb:w.params.followText "set-order" = bt) (S:SetI (!bt) p l1 s.heap) (T:SetI (!bt) q l2 s.heap) (fG:p≠q) (hl:l1.length + l2.length < 2000)
  (k:∀ h' L,SetI (!bt) s.heap.objs.size L h'->(∀ c ob,s.heap.get? c=some ob->h'.get? c=some ob)->(∀ x,x∈L↔x∈l1/\x∈l2)->L.Nodup->L.length<=l1.length + l2.length->Q (.ref s.heap.objs.size) { s with heap:=h' }) :
  wpAny (model prog w) A (binaryOp .BitAnd (.ref p) (.ref q)) Q E s:=by
 obtain ⟨op,_,_,_,n,C,_⟩:=id S
 obtain ⟨oq,_,_,_,D,V,_⟩:=id T
 have hp:p < s.heap.objs.size:=aE n
 have hq:q < s.heap.objs.size:=aE D
 have hT:s.TypeIs (.ref p) "set" := ⟨op,n,C.1⟩
 refine wpAny_binaryOp_same hT ⟨oq,D,V.1⟩ F.fills_set_and F.slot_set_and (wpAny_call_entry F.slot_set_and hT Xj ?_ (F.args_set_and_2 _ _))
 unfold Builtin.«frozenset.__and__»
 show wpAny _ _ (do
  if !(<- Builtin.Frozenset.isAnySet (.ref p) <&&> Builtin.Frozenset.isAnySet (.ref q)) then rule s!"frozenset.{"__and__"}.declined";return <- ret .notImplemented
  ret (<- Builtin.Frozenset.intersection s!"frozenset.{"__and__"}" p (.ref q))) _ _ _
 refine wpAny_bind (wpAny_bind (Wg (h:=s.heap) S ?_))
 show wpAny _ _ (Builtin.Frozenset.isAnySet (Value.ref q)) _ _ _
 refine Wg (h:=s.heap) T ?_
 simp only [Bool.not_true,Bool.false_eq_true,↓reduceIte]
 refine wpAny_bind ?_
 unfold Builtin.Frozenset.intersection
 rw [if_neg (by simpa using Ne.symm fG)]
 unfold Builtin.Frozenset.baseOf
 refine wpAny_bind (wpAny_bind (wpAny_isInstance (b:=true) ⟨op,n,C.1⟩ sub_set_self (wpAny_pure ?_)))
 simp only [↓reduceIte]
 refine wpAny_bind (zbY hb fun d f1=>?_)
 unfold Builtin.Frozenset.addrOf
 refine wpAny_bind (wpAny_pure ?_)
 have up:∀ c ob,s.heap.get? c=some ob->(s.heap.push d).get? c=some ob:=fun c ob z=>aR _ z
 have o:SetI (!bt) p l1 (s.heap.push d):=S.at fun _ z=>up _ _ z
 have i:SetI (!bt) q l2 (s.heap.push d):=T.at fun _ z=>up _ _ z
 refine wpAny_bind (wpAny_holding ?_)
 refine wpAny_bind (Wg (s:={ s with heap:=s.heap.push d }) (h:=s.heap) i ?_)
 rw [if_pos rfl]
 refine wpAny_bind (wpAny_pure ?_)
 refine wpAny_bind (zcT (s:={ s with heap:=s.heap.push d }) i ?_)
 refine wpAny_bind (zcT (s:={ s with heap:=s.heap.push d }) o ?_)
 obtain ⟨⟨ak,M⟩,ep,r,v,W,X,na,fE,G,a2⟩:∃ H:Addr×Addr,(if l2.length > l1.length then (q,p) else (p,q))=H/\∃ r v,SetI (!bt) H.1 r (s.heap.push d)/\SetI (!bt) H.2 v (s.heap.push d)/\s.heap.objs.size≠H.1/\s.heap.objs.size≠H.2/\(∀ x,x∈r/\x∈v↔x∈l1/\x∈l2)/\v.length<=l1.length + l2.length:=by
  by_cases c:l2.length > l1.length
  ·exact ⟨_,if_pos c,l2,l1,i,o,cV hq,cV hp,fun x=>And.comm,by omega⟩
  ·exact ⟨_,if_neg c,l1,l2,o,i,cV hp,cV hq,fun x=>Iff.rfl,by omega⟩
 rw [ep]
 dsimp only at W X na fE ⊢
 obtain ⟨Z,a3,a0,t2,I,a4,J,a5,a6,a7,K,a8⟩:=id X
 refine wpAny_bind (wpAny_setEpoch_of (s:={ s with heap:=s.heap.push d }) I J K ?_)
 refine wpAny_bind (zer (s:={ s with heap:=s.heap.push d }) hb f1.set X (fun x B=>?_) fun ws h2 wE wp u2 f2=>?_)
 ·rcases aT.mp B with rfl | B
  ·exact ⟨_,_,W⟩
  ·rw [aD.mp B];exact ⟨_,_,f1.set⟩
 refine wpAny_bind (wpAny_forIn_array' _ (fun a _ s'=>∃ l h',s'={ s with heap:=h' }/\Heap.SameBut s.heap.objs.size (s.heap.push d) h'/\SetI (!bt) s.heap.objs.size l h'/\(∀ e∈a,IsE e)/\(∀ x,(x∈l\/(x∈r/\x∈a.map kOf))↔x∈r/\x∈v)/\l.Nodup/\l.length + a.length<=v.length) _ ?_ ?_ _ _ ⟨[],h2,rfl,u2,f2,wE,fun x=>by rw [wp.mem_iff];simp,List.nodup_nil,by have:=wp.length_eq;rw [List.length_map] at this;simpa using Nat.le_of_eq this⟩)
 ·rintro e a _ s' ⟨l,h',rfl,u,f,t,N,j,g⟩
  obtain ⟨fF,tk,rfl⟩:=t e (.head _)
  rw [bS] at g
  have a1:SetI (!bt) ak r h':=W.at fun ob z=>by rw [u.2 ak (Ne.symm na)];exact z
  have un:∀ (m:Heap) (Q':Unit->Shared->Prop),Heap.SameBut s.heap.objs.size h' m->Q' () { s with heap:=m }->wpAny (model prog w) A.in1 (Builtin.Frozenset.unchanged s!"frozenset.{"__and__"}" M a0) Q' E { s with heap:=m }:=fun m Q' P qq=>by
   unfold Builtin.Frozenset.unchanged
   refine wpAny_bind (wpAny_setEpoch_of (s:={ s with heap:=m }) ?_ J K ?_)
   ·show m.get? M=some Z
    rw [P.2 M (Ne.symm fE),u.2 M (Ne.symm fE)]
    exact I
   ·rw [if_neg (by simp)]
    exact wpAny_pure qq
  refine wpAny_bind (wpAny_holding (wpAny_bind (zeE (s:={ s with heap:=h' }) a1 fun x B=>?_)))
  by_cases c:x.isSome=true
  ·rw [if_pos c]
   refine wpAny_bind (addI (s:={ s with heap:=h' }) f (by unfold scanBound;omega) fun rr m P f3=>wpAny_pure ?_)
   refine wpAny_bind (un m _ P (wpAny_pure ?_))
   obtain ⟨d1,d2,d3⟩:=zcz (k:=fF) j
   refine ⟨_,m,rfl,u.trans P,f3,fun y hy=>t y (.tail _ hy),fun y=>?_,d1,by omega⟩
   rw [<- N y,d2 y,bB]
   show _↔_\/(_/\y∈fF :: _)
   rw [aT]
   have ka:=B.mp c
   constructor
   ·rintro ((z | rfl) | z)
    ·exact .inl z
    ·exact .inr ⟨ka,.inl rfl⟩
    ·exact .inr ⟨z.1,.inr z.2⟩
   ·rintro (z | ⟨R,z | z⟩)
    ·exact .inl (.inl z)
    ·exact .inl (.inr z)
    ·exact .inr ⟨R,z⟩
  ·rw [if_neg c]
   refine wpAny_pure (wpAny_bind (un h' _ (Heap.SameBut.refl _ _) (wpAny_pure ?_)))
   refine ⟨l,h',rfl,u,f,fun y hy=>t y (.tail _ hy),fun y=>?_,j,by omega⟩
   rw [<- N y,bB]
   show _↔_\/(_/\y∈fF :: _)
   rw [aT]
   have ka:fF∉r:=fun z=>c (B.mpr z)
   constructor
   ·rintro (z | z)
    ·exact .inl z
    ·exact .inr ⟨z.1,.inr z.2⟩
   ·rintro (z | ⟨R,rfl | z⟩)
    ·exact .inl z
    ·exact absurd R ka
    ·exact .inr ⟨R,z⟩
 ·rintro _ s' ⟨l,h',rfl,u,f,_,N,j,g⟩
  refine wpAny_pure (wpAny_pure ?_)
  exact wpAny_pure ⟨_,rfl,by simp,k h' l f (fun c ob z=>by rw [u.2 c (Nat.ne_of_lt (Heap.lt_size z))];exact up c ob z) (fun x=>by rw [<- G x,<- N x];simp) j (by simp at g;omega)⟩
end
section
variable {X:Cx} {K:aA} {b:Bool}
def zcY (b:Bool):R2:=fun x y H Q=>∃ p q l1 l2,x=.ref p/\y=.ref q/\p≠q/\H p=some (SetB b p l1)/\H q=some (SetB b q l2)/\l1.length + l2.length < 2000 /\
 ∀ c l3,H c=none->(∀ k,k∈l3↔k∈l1/\k∈l2)->l3.Nodup->l3.length<=l1.length + l2.length->Q (.ref c) (upd H c (SetB b c l3))
theorem zbR (t:X.calm=true) (c:X.w.params.followText "set-order" = b):OpR X (binaryOp .BitAnd) (zcY b):=by
 intro pins s O H x y v u Q I d e h
 obtain ⟨p,q,z,A,rfl,rfl,a,g,i,j,k⟩:=h
 cases d
 cases e
 exact andI c (I.hok p _ g).1 (I.hok q _ i).1 a j fun h' l f m n o r=>⟨.ref s.heap.objs.size,_,I.laid (t':=s.toks) m (aC _) (UA f),rfl,k _ l (I.hok.fresh (aC _)) n o r⟩
end
end L2
namespace PD
open PySem L2
section
variable {K:aA} {S S':Sx} {U U' b:Bool} {Y Y' Y'':Ctx} {P:Post}
theorem T7 {j l:TE} {ns ms:List Int} (u:EvL K S false j Y (ns.map .int)) (v:EvL K S false l Y (ms.map .int)) (hz:ns.length + ms.length < 2000) :
  EvE K S U (tCB (zcX b) (zR (tOp (zcY b) (tCB (QO K b) (zR j tNil)) (tCB (QO K b) (zR l tNil))) tNil)) Y (.int ((dd ns).filter fun k=>decide (k∈ms)).length):=fun H0 F0 H F O e Q q =>
 u H0 F0 H F O e _ fun a vs N w m x y=>by
  cases zX (zP y)
  refine ⟨a,ns,rfl,x,by omega,fun p A=>?_⟩
  have n:=m.trans (.newO m.le A (SetB b p (dd ns)))
  refine v H0 F0 _ w O (e.mono n) _ fun c ws B C g D E=>?_
  cases zX (zP E)
  refine ⟨c,ms,rfl,D,by omega,fun r o=>?_⟩
  have s:=(n.trans g).trans (.newO g.le o (SetB b r (dd ms)))
  have d:B p=some (SetB b p (dd ns)):=g.h _ _ zi
  have f:p≠r:=fun z=>by rw [z,o] at d;cases d
  have d1:=zaY ns
  have d2:=zaY ms
  refine ⟨p,r,dd ns,dd ms,rfl,rfl,f,by rw [zp f];exact d,zi,by omega,fun t i G I J fF=>?_⟩
  have L:=s.trans (.newO s.le G (SetB b t i))
  have M:i.length=((dd ns).filter fun k=>decide (k∈ms)).length:=by
   refine List.Perm.length_eq ?_
   rw [List.perm_ext_iff_of_nodup J ((zeJ ns).sublist dN)]
   intro k
   rw [I k,aJ,Uf ms k,decide_eq_true_eq]
  refine ⟨t,i,rfl,zi,?_⟩
  rw [M]
  exact q _ _ C L (.int _)
theorem zam (ns ms:List Int):decide (((((dd ns).filter fun k=>decide (k∈ms)).length:Nat):Int) > 0)=ns.any fun k=>decide (k∈ms):=by
 rw [dP,decide_eq_true_eq,bQ]
 constructor
 ·intro h
  obtain ⟨k,a⟩:=List.exists_mem_of_length_pos (l:=(dd ns).filter fun k=>decide (k∈ms)) (by omega)
  obtain ⟨b,c⟩:=aJ.mp a
  exact ⟨k,(Uf ns k).mp b,c⟩
 ·rintro ⟨k,b,c⟩
  have a:k∈(dd ns).filter fun k=>decide (k∈ms):=aJ.mpr ⟨(Uf ns k).mpr b,c⟩
  have:=dB a
  omega
end
end PD
namespace L2
open PySem PySem.Spec PyProof.Rows
section
variable {X:Cx} {K:aA}
theorem Vals.ofGet:∀ (xs:List V) (us:List Value),xs.length=us.length->(∀ (i:Nat) x u,xs[i]?=some x->us[i]?=some u->RelV x u)->Vals xs us
 | [],[],_,_=>.nil
 | [],_ :: _,h,_=>by cases h
 | _ :: _,[],h,_=>by cases h
 | x :: xs,u :: us,h,k=>.cons (k 0 x u rfl rfl) (Vals.ofGet xs us (Nat.succ.inj h) fun i y v a b=>k (i + 1) y v a b)
def zcW:List V->Hp->VK->Prop:=fun xs H Q=>∃ n:Int,xs=[.int n]/\∀ l,H l=none->Q (.ref l) (upd H l (.rng 0 n))
theorem fE0:yq X (.type "range") zcW:=by
 intro pins s O H xs us Q I r h
 obtain ⟨n,rfl,q⟩:=h
 obtain ⟨u,rfl,a⟩:=xh r
 obtain ⟨t,rfl⟩:=a
 exact call_range_1 ⟨.ref s.heap.objs.size,_,I.laid (t':=s.toks + 1 + 1) (fun b u e=>aR _ e) (aC _) (show yj X.prog X.w _ _ _ (.rng 0 n) from ⟨_,_,_,bE _ rfl⟩),rfl,q _ (I.hok.fresh (aC _))⟩
def WK:List V->Hp->VK->Prop:=fun xs H Q=>∃ (p:Addr) (n:Nat),xs=[.ref p]/\H p=some (.rng 0 n)/\n<=1000000/\∀ l,H l=none->Q (.ref l) (upd H l (.lst ((List.range n).map fun i:Nat=>V.int (i:Int))))
theorem u9 (e:X.calm=true):yq X (.type "list") WK:=by
 intro pins s O H xs us Q I r h
 obtain ⟨p,n,rfl,f,z,q⟩:=h
 obtain ⟨u,rfl,g⟩:=xh r
 cases g
 obtain ⟨t,u,v,j⟩:∃ t u v,s.heap.get? p=some { cls:=.type "range", data:=.fields #[.int 0 t,.int n u,.int 1 v] }:=I.hok p _ f
 have rs:Builtin.Range.rangeSize 0 n 1=(n:Int):=by
  unfold Builtin.Range.rangeSize
  simp
  omega
 refine call_list_range (n:=n) (I.ok.hd e) j ?_ ?_ (by omega) fun h' k a l m o b=>?_
 ·exact small_one (by omega) (by omega) (by omega) (by omega)
 ·exact rs
 ·have y:a.toList.length=n:=by rw [cO];exact b.1
  refine ⟨.ref s.heap.objs.size,_,I.laid (t':=k) m (aC _) (show yj X.prog X.w _ h' _ (.lst ((List.range n).map fun i:Nat=>V.int (i:Int))) from ⟨by rw [aB,aV,sizeLine_eq];omega,a.toList,l,Vals.ofGet _ _ (by rw [aB,aV,y]) fun i x u c d=>?_,o⟩),rfl,q _ (I.hok.fresh (aC _))⟩
  have hi:i < n:=by
   have:=(aP.mp d).1
   omega
  rw [aU,cN hi] at c
  cases c
  obtain ⟨t',rfl⟩:=b.2 i u (by rw [<- dJ];exact d)
  exact ⟨t',by rw [Int.mul_one,Int.zero_add]⟩
end
end L2
namespace PD
open PySem L2
section
variable {K:aA} {S S':Sx} {U U':Bool} {Y Y' Y'':Ctx} {P:Post}
theorem t6 {n:Nat} (h:EvE K S false ta Y (.int (n:Int))) (f:n<=1000000):EvO K S U (tCB WK (zR (tCB zcW (zR ta tNil)) tNil)) Y ((List.range n).map fun i:Nat=>.int (i:Int)):=fun H0 F0 H F O e Q q =>
 h H0 F0 H F O e _ fun v m b d g=>by
  cases ym g
  refine ⟨n,rfl,fun p j=>⟨p,n,rfl,zi,f,fun l c=>?_⟩⟩
  have a:=d.trans (.newO d.le j (.rng 0 n))
  have k:zv K U S H0 b ((List.range n).map fun i:Nat=>V.int (i:Int)) ((List.range n).map fun i:Nat=>.int (i:Int)):=by
   have:=ug (K:=K) (U:=U) (S:=S) (H0:=H0) (F:=b) ((List.range n).map fun i:Nat=>(i:Int))
   rw [bC,bC] at this
   exact this
  exact q l _ _ b (a.trans (.newO a.le c _)) (a.h.free c) zi (a.le.free c) k
end
end PD
namespace L2
open PySem PySem.Spec PyProof.Rows PySem.W
abbrev knw (o:Obj):HO:=.frz o (.ext fun _=>True)
theorem ZQ (e:h.get? a=some o):yj P w H h a (knw o):=⟨e,trivial,⟨o,e⟩,fun _ _ _ _=>trivial⟩
def zeM (H:Hp) (c:Addr) (v:V):Prop:=∃ o u,H c=some (knw o)/\o.data=.cell (some u)/\RelV v u
def Yd (H:Hp) (c:Addr) (q:Str):Prop:=∃ o fs t,H c=some (knw o)/\o.data=.fields fs/\fs[1]?=some (.str q t)
structure wL (x:Str) (ys:List Str) (sc:Scope):Prop where
 kind:sc.kind=.function
 co:sc.isCoroutine=false
 gen:sc.isGenerator=false
 nd:(x :: ys).Nodup
 par:sc.names.lookup x=some .local
 nocell:∀ y∈sc.names,y.2≠.cell
 fre:∀ y,sc.names.lookup y=some .free->y∈ys
 isf:∀ y∈ys,sc.names.lookup y=some .free
def cxL (P:Program) (w:World) (K:aA) (mg:Str->Option Value) (base:Heap) (N:List Str) (qual:Str) (scope:Scope) (f:Addr) (cd:Value) (cl:List (Str×Addr)) (A:Around) (outer:List Env) (s:Shared) (H:Hp):Cx where
 prog:=P
 w:=w
 K:=K
 mg:=mg
 base:=base
 A:=A.deeper (envX qual scope s.heap.objs.size f cd cl)
 N:=N
 s₀:=s
 H₀:=H
 env:=envX qual scope s.heap.objs.size f cd cl
 outer:=outer
 stack:=envX qual scope s.heap.objs.size f cd cl :: outer
 ex:=[]
 calm:=true
 fn:=fun _=>false
 pn:=[]
 xe:=fun _ _=>False
structure w9 (H:Hp) (ys:List Str) (va:Str->V) (cl:List (Str×Addr)):Prop where
 has:∀ y∈ys,∃ c,cl.lookup y=some c
 cel:∀ y c,cl.lookup y=some c->y∈ys/\zeM H c (va y)
 inj:∀ y z c,cl.lookup y=some c->cl.lookup z=some c->y=z
section
variable {P:Program} {w:World} {K:aA} {mg:Str->Option Value} {base:Heap} {x:Str} {ys:List Str} {va:Str->V} {qual:Str} {scope:Scope} {f:Addr} {cd:Value} {cl:List (Str×Addr)} {A:Around} {outer:List Env} {s:Shared} {H:Hp}
theorem zb9 {tk:Nat} (S:wL x ys scope) (hd:A.handled=none) (a:Env0 P w K mg base A outer s H) (E:RelV v u) (C:w9 H ys va cl)
  (q:k.Ns s.heap.objs.size fun y=>[(x,u)].reverse.lookup y) (r:∀ b o,s.heap.get? b=some o->k.get? b=some o) :
  Inv (cxL P w K mg base (x :: ys) qual scope f cd cl A outer s H) [] (some v :: ys.map fun y=>some (va y)) H { s with heap:=k,toks:=tk }:=by
 have d:∀ b:Addr,b∉(cxL P w K mg base (x :: ys) qual scope f cd cl A outer s H).ex:=fun b z=>absurd (show b∈([]:List Addr) from z) (by simp)
 have cel:∀ y c,cl.lookup y=some c->∃ g,RelV (va y) g/\k.IsCell c (some g):=fun y c e=>by
  obtain ⟨o,g,l,m,F⟩:=(C.cel y c e).2
  exact ⟨g,F,o,r _ _ (a.hok _ _ l).1,m⟩
 refine ⟨⟨a.mod,S.kind,rfl,rfl,aC _,fun y z c k G=>C.inj y z c k G,fun y h=>?_,(fun y c z _=>by cases z),fun _=>hd,Around.frames_deeper a.frames,.inr ⟨rfl,rfl⟩,fun b z=>absurd z (d b),a.bs,a.bsz,fun b _ _=>d b,fun b z=>absurd z (d b),a.funs,a.frf,a.tb⟩,
  rfl,a.bare,Un.kept r,⟨_,q,fun i y t j n L=>?_⟩,fun y c e=>?_,a.hok.fresh (Nat.le_refl _),fun y c e=>?_,fun p I=>absurd (show p∈([]:List (Addr×Obj)) from I) (by simp),a.hok.kept r,?_⟩
 ·have h:scope.names.lookup y=some .cell\/scope.names.lookup y=some .free:=h
  rcases h with h | h
  ·exact absurd rfl (S.nocell _ (PySem.mem_of_lookup h))
  ·exact C.has y (S.fre y h)
 ·have j:(x :: ys)[i]?=some y:=j
  cases i with
  | zero =>
   have l:x=y:=by simpa using j
   have m:v=t:=by simpa using n
   subst l m
   exact ⟨u,E,.inl ⟨S.par,by show List.lookup x [(x,u)]=_;simp⟩⟩
  | succ i =>
   have j:ys[i]?=some y:=by simpa using j
   have n:(ys.map fun y=>some (va y))[i]?=some (some t):=by simpa using n
   rw [aU,j] at n
   have m:va y=t:=by simpa using n
   subst m
   have B:=aS j
   obtain ⟨c,D⟩:=C.has y B
   obtain ⟨g,J,z⟩:=cel y c D
   exact ⟨g,J,.inr ⟨.inr (S.isf y B),c,D,z⟩⟩
 ·obtain ⟨g,_,z⟩:=cel y c e
  exact ⟨_,z⟩
 ·obtain ⟨o,_,l,_⟩:=(C.cel y c e).2
  exact .inr ⟨rfl,o,_,l⟩
 ·show _=(x :: ys).length
  simp
theorem zat (S:wL x ys scope) (len:∀ vs H Q E,sp vs H Q E->vs.length=1)
  (j:∀ vs H Q E,sp vs H Q E->H f=some (knw (kla_obj "<lambda>" qual params body scope cl pm c' ctv))/\Yd H c' qual/\w9 H ys va cl)
  (a:∀ (A:Around) (outer:List Env) (s:Shared) (H:Hp) (v:V) (Q:VK) (E:XK),Room k (A.deeper (envX qual scope s.heap.objs.size f (.ref c') cl))->sp [v] H Q E ->
   ∃ l,PE (cxL P w K mg base (x :: ys) qual scope f (.ref c') cl A outer s H) body l/\l (some v :: ys.map fun y=>some (va y)) H Q) :
  FnOk P w K mg base CX0 (k + 1) f (kla_fn "<lambda>" qual params body scope cl pm (.ref c') ctv) [x] sp:=by
 refine ⟨fun vs H Q E h=>len vs H Q E h,fun A outer s H args us vs Q E m d I r n=>?_⟩
 have L:=len _ _ _ _ n
 obtain ⟨v,rfl⟩:∃ v,vs=[v]:=by
  match vs,L with
  | [v],_=>exact ⟨v,rfl⟩
 obtain ⟨u,rfl,M⟩:=r.one
 obtain ⟨N,⟨oc,p,t,fF,d1,d2⟩,C⟩:=j _ _ _ _ n
 have B:s.heap.NoLimit:=d.mod.nolimit.keeps fun b o e=>(d.bs b o e).1
 refine kla_callFunE m.depth (d.hok _ _ N).1 rfl S.co S.gen rfl ⟨c',oc,p,t,rfl,(d.hok _ _ fF).1,d1,d2⟩ (I _ _ _ _ ?_)
 refine wpAny_newFunctionEnv S.nocell (fun y R=>?_) (fun g D i=>⟨B.fresh _ i,?_⟩) S.kind
 ·have e:y=(x,u):=by simpa using R
  rw [e]
  exact S.par
 show codeAny _ _ (.expr body (envX qual scope s.heap.objs.size f (.ref c') cl)) _ _
 have c:∀ b o,s.heap.get? b=some o->g.get? b=some o:=fun b o e=>i.extBut b o (aL (aE e)) (aR _ e)
 obtain ⟨l,T,F⟩:=a A outer s H v Q E (m.deeper _) n
 refine kla_codeExpr (wpAny_mono (T [] _ _ H _ (zb9 S m.hd d M C D c) F) (fun fE fG W=>?_) fun e fG z=>False.elim z)
 obtain ⟨X,H',J,G,q⟩:=W
 exact ⟨X,H',J.os,J.bare,J.base,J.hok,G,q⟩
end
theorem Uo:∀ (l:List Value),TriplesOk l->codeAmong p (l ++ [rawInt i,rawInt j,c])=some v->codeAmong p l=some v\/v=c:=by
 intro l
 fun_induction TriplesOk l with
 | case1 =>
  intro _ h
  simp only [List.nil_append,codeAmong,rawInt] at h
  split at h
  ·cases h;exact .inr rfl
  ·cases h
 | case2 a t b u x e f =>
  intro g h
  simp only [List.cons_append,codeAmong] at h ⊢
  split at h
  ·rename_i d
   rw [if_pos d]
   exact .inl h
  ·rename_i d
   rw [if_neg d]
   exact f g h
 | case3 l k m=>intro h;exact h.elim
def Tf (H H':Hp):Prop:=∀ b,H' b=H b\/H b=none/\∃ o,H' b=some (knw o)
section
variable {X:Cx} {pins:List (Addr×Obj)} {O:St} {H:Hp} {s:Shared}
theorem Inv.tb (I:Inv X pins O H s):TbOk X.K H:=I.ok.tb.un I.base
theorem W2 (I:Inv X pins O H s)
  (j:X.env.code=.ref c) (a0:codeHdIn X.K c P=true) (M:(P,q)∈yg X.K) (hq:X.env.qual ++ "<lambda>" = q) (N:closureFor lsc X.env=pure clos) (fF:defaultsOf params X.env=([],[]))
  (h:∀ s' H' f g pm i,Inv X pins O H' s'->Tf H H'->H f=none->H' f=some (knw (kla_obj "<lambda>" q params body lsc clos pm g i))->Yd H' g q->Q (.ref f) s') :
  wpAny (model X.prog X.w) X.A (eval (.Lambda params body lsc lpos) X.env) Q E s:=by
 obtain ⟨t,more,hP⟩:=I.tb (P,q) M
 obtain ⟨vs,C,ht,R⟩:=I.hok P _ hP
 have S:tagQ (#[.str q t] ++ more)=q:=by
  have e0:(#[Value.str q t] ++ more)[0]?=some (.str q t):=by rw [Array.getElem?_append_left (by simp)];rfl
  unfold tagQ
  rw [e0]
 have hd:CodeHd s.heap c P:=codeHd_of_K I.kIn a0
 have k:s.heap.Ns mainGlobals X.mg:=I.mod.glob.keeps I.bk
 have D:∀ {b:Addr},H b=none->b≠P:=fun n z=>by rw [z,hP] at n;cases n
 have T:s.heap.BuiltinsAt X.mg P:=by
  obtain ⟨bm,ob,b1,b2,b3,b4,b5,b6⟩:=I.mod.bm
  obtain ⟨F,n⟩:=I.bs bm ob b3
  refine ⟨bm,ob,b1,b2,fun z=>?_,D n,F,b4,b5,b6⟩
  obtain ⟨o,es,ep,e,d,_⟩:=k
  rw [z,e] at F;cases F;rw [d] at b6;cases b6
 have a1:mainGlobals≠P:=fun z=>by
  obtain ⟨o,es,ep,e,d,_⟩:=k
  rw [z,C] at e;cases e;cases d
 refine kla_eval fF ?_
 rw [hq]
 cases hc:codeAmong lpos vs.toList with
 | some cv =>
  obtain ⟨g,oc,fs,t',rfl,k1,k2,fG⟩:=R lpos cv hc
  rw [S] at fG
  refine kla_makeFunctionHit N I.ok.glob k j hd C ht hc T fun i h' tk hk V=>?_
  have fr:H h'.objs.size=none:=I.hok.fresh V
  have ob:(h'.push (kla_obj "<lambda>" q params body lsc clos ((X.mg "__name__").getD .none) g i)).get? h'.objs.size=some _:=bE _ rfl
  refine h _ (upd H h'.objs.size (knw (kla_obj "<lambda>" q params body lsc clos ((X.mg "__name__").getD .none) g i))) h'.objs.size g ((X.mg "__name__").getD .none) i (I.laid (t':=tk) (fun b u e=>aR _ (hk b u e)) V (ZQ ob)) (fun b=>?_) fr zi ⟨oc,fs,t',by rw [zp (zB k1 fr)];exact k1,k2,fG⟩
  by_cases e:b=h'.objs.size
  ·subst e;exact .inr ⟨fr,_,zi⟩
  ·exact .inl (zp e)
 | none =>
  refine kla_makeFunction N I.ok.glob k j hd C ht hc a1 T fun g i h' tk hx m G W fE=>?_
  obtain ⟨c2,oc,fs,t',e2,a2,k2,fG⟩:=W
  cases e2
  let fo:=kla_obj "<lambda>" q params body lsc clos ((X.mg "__name__").getD .none) g i
  let J:Hp:=upd (upd H g (knw oc)) h'.objs.size (knw fo)
  have Z:H g=none:=I.hok.fresh m
  have frf:H h'.objs.size=none:=I.hok.fresh (eH (Nat.lt_of_le_of_lt m G))
  have a3:g≠h'.objs.size:=aL G
  have r:∀ b,b≠g->b≠h'.objs.size->J b=H b:=fun b n1 n2=>by show upd _ _ _ b=_;rw [zp n2,zp n1]
  have x:J g=some (knw oc):=by show upd _ _ _ g=_;rw [zp a3,zi]
  have L:J h'.objs.size=some (knw fo):=zi
  have a:∀ {b:Addr} {u:HO},H b=some u->J b=some u:=fun {b u} e=>by rw [r b (zB e Z) (zB e frf)];exact e
  have ho:∀ b o,b≠P->s.heap.get? b=some o->(h'.push fo).get? b=some o:=fun b o n e=>aR _ (hx b o n e)
  have lt:∀ {b:Addr} {o:Obj},s.heap.get? b=some o->b≠g/\b≠h'.objs.size:=fun {b o} e=>by
   have l:=aE e
   exact ⟨aL (bF l m),aL (bF l (eH (Nat.lt_of_le_of_lt m G)))⟩
  have un:Un X.fs [] H J s.heap (h'.push fo):=by
   refine ⟨fun b o e n _ _=>ho b o (D n) e,fun b o e n _ _=>⟨o.slots,ho b o (D n) e⟩,fun b o e n _=>by rw [r b (lt e).1 (lt e).2];exact n,fun b o e _=>?_,fun b xs e=>a e,fun b o u e=>a e,fun b ps e=>⟨#[],by rw [a e];simp⟩⟩
   by_cases z:b=P
   ·subst z;exact ⟨_,aR _ fE⟩
   ·exact ⟨o,ho b o z e⟩
  have hok:HOk X.prog X.w J (h'.push fo):=fun b u e=>by
   by_cases z1:b=h'.objs.size
   ·subst z1
    rw [L] at e;cases e
    exact ZQ (bE _ rfl)
   ·by_cases z2:b=g
    ·subst z2
     rw [x] at e;cases e
     exact ZQ (aR _ a2)
    ·rw [r b z2 z1] at e
     by_cases z3:b=P
     ·subst z3
      rw [hP] at e;cases e
      refine ⟨vs ++ #[rawInt lpos.line,rawInt lpos.col,.ref g],aR _ fE,?_,fun p v z=>?_⟩
      ·rw [Array.toList_append]
       exact TriplesOk_snoc _ _ _ _ ht
      ·rw [Array.toList_append] at z
       rcases Uo _ ht z with y | y
       ·obtain ⟨b1,o1,a4,t1,y1,y2,y3,y4⟩:=R p v y
        exact ⟨b1,o1,a4,t1,y1,a y2,y3,y4⟩
       ·exact ⟨g,oc,fs,t',y,x,k2,by rw [S];exact fG⟩
     ·refine (I.hok b u e).stay (fun d v B y=>ho d v ?_ y) (fun d y=>a y) (fun d xs y=>a y) fun d o' u' y _=>a y
      rcases B with rfl | B
      ·exact z3
      ·intro y;rw [y,hP] at B;cases B
  refine h _ J h'.objs.size g ((X.mg "__name__").getD .none) i (I.un (t':=tk) un hok) (fun b=>?_) frf L ⟨oc,fs,t',x,k2,fG⟩
  by_cases z1:b=h'.objs.size
  ·subst z1;exact .inr ⟨frf,_,L⟩
  ·by_cases z2:b=g
   ·subst z2;exact .inr ⟨Z,_,x⟩
   ·exact .inl (r b z2 z1)
end
def tGL (te:TE) (params:Arguments) (body:Expr) (lsc:Scope) (q:Str) (caps:List (Str×Nat)) (sp:Sp):TE:=fun O H Q=>te O H fun v1 H1=>∃ va:Str->V,(∀ p∈caps,O[p.2]?=some (some (va p.1))) /\
 ∀ (cl:List (Str×Addr)) (f c':Addr) (pm ctv:Value) (H2:Hp),Tf H1 H2->H1 f=none->H2 f=some (knw (kla_obj "<lambda>" q params body lsc cl pm c' ctv))->Yd H2 c' q->w9 H2 (caps.map (·.1)) va cl ->
  sp [v1,.ref f] H2 (fun v H3=>∀ H4:Hp,(∀ b,H4 b=H3 b\/H4 b=none/\H1 b=none/\∃ o,H2 b=some (knw o))->Q v H4) E0
section
variable {X:Cx} {k:Nat} {ps:List Str} {sp:Sp} {g:Str} {p cpos lpos:Pos} {e:Expr} {te:TE} {params:Arguments} {body:Expr} {lsc:Scope} {q:Str} {c P:Addr} {clos:List (Str×Addr)} {caps:List (Str×Nat)}
theorem ui (C:zz X.prog X.w X.K X.mg X.base CX0 g ps k sp) (hr:Room k X.A) (hg:Gl X g) (he:PE X e te) (W:X.env.code=.ref c) (aa:codeHdIn X.K c P=true) (a2:(P,q)∈yg X.K) (hq:X.env.qual ++ "<lambda>" = q)
  (ab:closureFor lsc X.env=pure clos) (a3:defaultsOf params X.env=([],[])) (hN:∀ p∈caps,X.N[p.2]?=some p.1/\X.env.scope.names.lookup p.1=some .cell) (ac:∀ p∈clos,p.1∈caps.map (·.1)/\X.env.cells.lookup p.1=some p.2) (ae:∀ p∈caps,(clos.lookup p.1).isSome=true) (a4:∀ y,X.fn y=true)
  (af:(g == ("__debug__" : Str))=false:=by decide) (a5:starEach [e,.Lambda params body lsc lpos] X.env=(false,eval e X.env) :: starEach [.Lambda params body lsc lpos] X.env:=by rfl) (ag:(backTo cpos (starEach [.Lambda params body lsc lpos] X.env)).any (·.1)=false:=by rfl) :
  PE X (.Call (.Name g p) [e,.Lambda params body lsc lpos] [] cpos) (tGL te params body lsc q caps sp):=by
 intro pins s O H Q I h
 obtain ⟨f0,fd,F,hm,hk,i⟩:=C.ex
 refine wpAny_Call_Name_kw (XZ I hg hm ?_ af)
 refine callWith_K (h₀:=X.base) I.ok.mod.kin hk ?_ a5 ag
 rw [a5]
 show wpAny _ _ (spliced ((false,eval e X.env) :: backTo cpos (starEach [.Lambda params body lsc lpos] X.env))) _ _ s
 refine Calls.spliced_cons (thn (he pins s O H _ I h) fun u1 s1 ⟨v1,H1,I1,r1,va,ah,ai⟩=>?_)
 show wpAny _ _ (spliced ((false,eval (.Lambda params body lsc lpos) X.env) :: backTo cpos (starEach [] X.env))) _ _ s1
 refine Calls.spliced_cons (W2 I1 W aa a2 hq ab a3 fun s2 V f c' pm aj G up frf hf ak=>?_)
 refine Calls.spliced_nil ?_
 refine ⟨G.kIn,?_⟩
 have cel:∀ y b,(y,b)∈clos->V b=none/\X.env.cells.lookup y=some b/\y∈caps.map (·.1)/\∃ o u,s2.heap.get? b=some o/\o.data=.cell (some u)/\RelV (va y) u:=fun y b E=>by
  obtain ⟨m1,m2⟩:=ac (y,b) E
  obtain ⟨fE,hp,Z⟩:=aF.mp m1
  have Z:fE.1=y:=Z
  have n:=hN fE hp
  have vv:=ah fE hp
  rw [Z] at n vv
  have fr:V b=none:=(G.freeC y b m2).elim (fun z=>z) fun z=>by rw [a4 y] at z;cases z.1
  obtain ⟨m,hn,hl⟩:=id G.loc
  obtain ⟨u,ru,lk⟩:=hl fE.2 y (va y) n.1 vv (.inr (.inl n.2))
  refine ⟨fr,m2,m1,?_⟩
  rcases lk with ⟨z,_⟩ | ⟨_,b2,D,o,R,z4⟩
  ·have z':X.env.scope.names.lookup y=some .local:=z
   rw [n.2] at z';cases z'
  ·rw [m2] at D;cases D
   exact ⟨o,u,R,z4,ru⟩
 let cs:List Addr:=clos.map (·.2)
 have a0:∀ {b:Addr},b∈cs->∃ y,(y,b)∈clos:=fun {b} i=>by
  obtain ⟨⟨y,b'⟩,h1,h2⟩:=aF.mp i
  have:b'=b:=h2
  subst this
  exact ⟨y,h1⟩
 have a1:∀ {b:Addr},b∈cs->V b=none:=fun i=>let ⟨y,E⟩:=a0 i;(cel y _ E).1
 let M:Hp:=fun b=>if b∈cs then (s2.heap.get? b).map knw else V b
 have r:∀ {b:Addr},b∉cs->M b=V b:=fun i=>if_neg i
 have S:∀ {b:Addr},b∈cs->∃ y o u,(y,b)∈clos/\s2.heap.get? b=some o/\M b=some (knw o)/\o.data=.cell (some u)/\RelV (va y) u:=fun {b} i=>by
  obtain ⟨y,E⟩:=a0 i
  obtain ⟨_,_,_,o,u,fF,D,R⟩:=cel y b E
  exact ⟨y,o,u,E,fF,by show (if b∈cs then _ else _)=_;rw [if_pos i,fF];rfl,D,R⟩
 have nC:∀ {b:Addr} {x:HO},V b=some x->b∉cs:=fun {b x} B i=>by rw [a1 i] at B;cases B
 have a:∀ {b:Addr} {x:HO},V b=some x->M b=some x:=fun B=>by rw [r (nC B)];exact B
 have a6:HOk X.prog X.w M s2.heap:=fun b x B=>by
  by_cases i:b∈cs
  ·obtain ⟨_,o,u,_,fF,D,_⟩:=S i
   rw [D] at B;cases B
   exact ZQ fF
  ·rw [r i] at B
   exact (G.hok b x B).stay (fun _ _ _ z=>z) (fun _ z=>a z) (fun _ _ z=>a z) fun _ _ _ z _=>a z
 have big:∀ {b:Addr},b∈cs->X.s₀.heap.objs.size<=b/\b≠X.env.locals:=fun {b} i=>by
  obtain ⟨y,E⟩:=a0 i
  obtain ⟨_,m2,_⟩:=cel y b E
  exact ⟨G.ok.cab y b (a4 y) m2,G.cne y b m2⟩
 have e0:Env0 X.prog X.w X.K X.mg X.base X.A X.stack s2 M:=by
  have e:=G.env0
  refine ⟨e.frames,e.mod,fun b o z=>⟨(e.bs b o z).1,?_⟩,e.bsz,e.funs,fun b i=>?_,a6,e.bare,fun p hp=>?_⟩
  ·rw [r fun i=>absurd (bF (aE (G.ok.bs b o z).1) (big i).1) (bN _)]
   exact (e.bs b o z).2
  ·rw [r fun j=>?_]
   ·exact e.frf b i
   ·rcases aT.mp (G.stkSub b i) with z | z
    ·exact (big j).2 z
    ·obtain ⟨_,o,ho,_⟩:=G.ok.funs.mem z
     exact absurd (bF (aE ho) (big j).1) (bN _)
  ·obtain ⟨t,m,z⟩:=e.tb p hp
   exact ⟨t,m,a z⟩
 have al:Tf H1 M:=fun b=>by
  by_cases i:b∈cs
  ·obtain ⟨_,o,_,_,_,D,_⟩:=S i
   refine .inr ⟨?_,o,D⟩
   rcases up b with z | ⟨z,_⟩
   ·rw [<- z];exact a1 i
   ·exact z
  ·rw [r i];exact up b
 have T:∀ {y:Str} {b:Addr},clos.lookup y=some b->(y,b)∈clos:=fun e=>PySem.mem_of_lookup e
 have am:w9 M (caps.map (·.1)) va clos:=by
  refine ⟨fun y E=>?_,fun y b E=>?_,fun y z b E hz=>?_⟩
  ·obtain ⟨fE,hp,Z⟩:=aF.mp E
   have Z:fE.1=y:=Z
   have:=ae fE hp
   rw [Z] at this
   exact cW.mp this
  ·obtain ⟨_,_,m1,o,u,fF,D,R⟩:=cel y b (T E)
   have i:b∈cs:=aF.mpr ⟨(y,b),T E,rfl⟩
   refine ⟨m1,o,u,?_,D,R⟩
   show (if b∈cs then _ else _)=_
   rw [if_pos i,fF];rfl
  ·exact G.ok.inj y z b (cel y b (T E)).2.1 (cel z b (T hz)).2.1
 have a7:Yd M c' q:=let ⟨o,fs,t,fF,D,R⟩:=ak;⟨o,fs,t,a fF,D,R⟩
 have sq:=ai clos f c' pm aj M al frf (a hf) a7 am
 have hl:[u1,Value.ref f].length=ps.length:=F.len _ _ _ _ sq
 have bt:=i s2 [u1,.ref f] G.kIn (by rw [bG];exact hl)
 rw [bG] at bt
 refine wpAny_call (codeAny_mono (F.run X.A X.stack s2 M ⟨[u1,.ref f],[]⟩ [u1,.ref f] [v1,.ref f] _ _ hr e0 bt (.cons r1 (.cons rfl .nil)) sq) fun rs s3 J=>?_)
 cases rs with
 | error e'=>exact False.elim J
 | ok fl =>
  cases fl with
  | next=>exact False.elim J
  | brk=>exact False.elim J
  | cont=>exact False.elim J
  | ret u =>
   obtain ⟨v,H3,os,bare,un,L,rv,q3⟩:=J
   let H4:Hp:=fun b=>if b∈cs then none else H3 b
   have l:∀ {b:Addr},b∉cs->H4 b=H3 b:=fun i=>if_neg i
   have fG:∀ {b:Addr},b∈cs->∃ o u',s2.heap.get? b=some o/\H3 b=some (knw o)/\o.data=.cell (some u'):=fun {b} i=>by
    obtain ⟨_,o,u',_,fF,D,R,_⟩:=S i
    exact ⟨o,u',fF,un.frzs _ _ _ D,R⟩
   have ao:Un (frs X.stack) [] V H4 s2.heap s3.heap:=by
    refine ⟨fun b o z n i _=>?_,fun b o z n i _=>?_,fun b o z n _=>?_,fun b o z B=>un.there b o z B,fun b xs z=>?_,fun b o u z=>?_,fun b aq z=>?_⟩
    ·by_cases j:b∈cs
     ·obtain ⟨o',_,y1,y2,_⟩:=fG j
      rw [z] at y1;cases y1
      exact (L b _ y2).1
     ·exact un.keep b o z (by rw [r j];exact n) i (by simp)
    ·by_cases j:b∈cs
     ·obtain ⟨o',_,y1,y2,_⟩:=fG j
      rw [z] at y1;cases y1
      exact ⟨o.slots,(L b _ y2).1⟩
     ·exact un.slot b o z (by rw [r j];exact n) i (by simp)
    ·by_cases j:b∈cs
     ·exact if_pos j
     ·rw [l j];exact un.free b o z (by rw [r j];exact n) (by simp)
    ·rw [l (nC z)];exact un.tups b xs (a z)
    ·rw [l (nC z)];exact un.frzs b o u (a z)
    ·obtain ⟨m,y⟩:=un.tbls b aq (a z)
     exact ⟨m,by rw [l (nC z)];exact y⟩
   have a8:HOk X.prog X.w H4 s3.heap:=fun b x B=>by
    have i:b∉cs:=fun j=>by rw [show H4 b=none from if_pos j] at B;cases B
    rw [l i] at B
    have a9:∀ {d:Addr} {y:HO},H3 d=some y->(∀ o u,y≠.frz o u)->d∉cs:=fun {d y} ar hn j=>by
     obtain ⟨o,_,_,z,_⟩:=fG j
     rw [ar] at z;cases z
     exact hn _ _ rfl
    refine (L b x B).stay (fun _ _ _ z=>z) (fun d z=>?_) (fun d xs z=>?_) fun d o' u' z nd=>?_
    ·rw [l (a9 z fun _ _ y=>by cases y)];exact z
    ·rw [l (a9 z fun _ _ y=>by cases y)];exact z
    ·rw [l fun j=>by
      obtain ⟨o,u2,_,y,y2⟩:=fG j
      rw [z] at y;cases y
      exact nd _ y2]
     exact z
   refine ⟨v,H4,G.call' os ao a8 bare (ch:=[]) (fun _ z=>nomatch z),rv,q3 H4 fun b=>?_⟩
   by_cases j:b∈cs
   ·obtain ⟨_,o,_,_,_,D,_⟩:=S j
    refine .inr ⟨if_pos j,?_,o,D⟩
    rcases up b with z | ⟨z,_⟩
    ·rw [<- z];exact a1 j
    ·exact z
   ·exact .inl (l j)
end
def tFnL (i:Nat) (a:Addr) (sp:Sp) (t:TA):TE:=fun O H Q=>O[i]?=some (some (.ref a))/\t O H fun vs H1=>(∃ nm q params body lsc cl pm c' ctv,H1 a=some (knw (kla_obj nm q params body lsc cl pm c' ctv)))/\sp vs H1 Q E0
section
variable {X:Cx} {k:Nat} {ps:List Str} {sp:Sp} {x:Str} {p pos:Pos} {e:Expr} {es:List Expr} {t:TA}
theorem Q2 (i:Nat) (F:FnOk X.prog X.w X.K X.mg X.base CX0 k a fd ps sp) (y:xg X.K fd ps []) (z:Room k X.A) (B:PA X (e :: es) t)
  (C:X.N[i]?=some x:=by rfl) (D:Vis X.env.scope x:=by first | exact Or.inl rfl | exact Or.inr (.inl rfl) | exact Or.inr (.inr rfl)) (hd:(x == ("__debug__" : Str))=false:=by decide) (l:(x == ("__classdict__" : Str))=false:=by decide)
  (E:starEach (e :: es) X.env=(false,eval e X.env) :: starEach es X.env:=by rfl) (m:(backTo pos (starEach es X.env)).any (·.1)=false:=by rfl) :
  PE X (.Call (.Name x p) (e :: es) [] pos) (tFnL i a sp t):=by
 intro pins s O H Q I h
 obtain ⟨G,h⟩:=h
 refine wpAny_Call_Name_kw (thn (QZ (X:=X) (i:=i) (pos:=p) C D hd l pins s O H (fun v H'=>v=.ref a/\H'=H) I ⟨_,G,rfl,rfl⟩) fun u s1 ⟨v,H',J,L,ev,M⟩=>?_)
 subst ev M
 cases (show u=Value.ref a from L)
 have key:wpAny (model X.prog X.w) X.A (spliced (backTo pos (starEach (e :: es) X.env))) (fun us s2=>(∃ g q b c d cl pm j f,s2.heap.get? a=some (kla_obj g q b c d cl pm j f))/\wpAny (model X.prog X.w) X.A (call (.ref a) ([] ++ us)) (EP X pins O Q) X.xe s2) X.xe s1 :=
  thn (B pos pins s1 O _ _ J h) fun us s2 ⟨vs,R,o,r,⟨g,q,b,c,d,cl,pm,j,f,n⟩,fF⟩=>⟨⟨g,q,b,c,d,cl,pm,j,f,(o.hok _ _ n).1⟩,QC F z y .nil zcZ o r (by rw [bG];exact fF)⟩
 rw [E] at key ⊢
 refine callWith_of (P:=fun h=>∃ g q b c d cl pm j f,h.get? a=some (kla_obj g q b c d cl pm j f)) (by show ((false || (backTo pos (starEach es X.env)).any (·.1)) || false)=false;rw [m];rfl) (fun h ⟨g,q,b,c,d,cl,pm,j,f,n⟩=>⟨.frame,.inl rfl,(Looks.ld (part:=none) n).andThen .now⟩) (Calls.evalArgs_plain key)
end
end L2
namespace PD
open PySem L2 PySem.W
section
variable {P:Program} {w:World} {K:aA} {mg:Str->Option Value} {base:Heap} {S S':Sx} {U U':Bool} {Y Y' Y'':Ctx}
def LamD (P:Program) (w:World) (K:aA) (mg:Str->Option Value) (base:Heap) (kk:Nat) (p1:PyData->PyData->Prop) (F:Hp) (a:Addr):Prop:=∃ fd x spl nm q params body lsc cl pm c' ctv,FnOk P w K mg base CX0 kk a fd [x] spl/\xg K fd [x] []/\F a=some (knw (kla_obj nm q params body lsc cl pm c' ctv)) /\
 ∀ (H' F':Hp) (v:V) (d r:PyData) (Q:VK),Same F F'->Same F' H'->Dp K F' v d->p1 d r->(∀ v' H'' F'',Gr H' F' H'' F''->Rp K false .fresh H' F'' v' r->Q v' H'')->spl [v] H' Q E0
def spG (P:Program) (w:World) (K:aA) (mg:Str->Option Value) (base:Heap) (kk:Nat) (pre:List PyData->(PyData->PyData->Prop)->PyData->Prop):Sp:=fun vs H Q _=>∃ F ds d us a p1,vs=us ++ [.ref a]/\Same F H/\zO K F us ds/\LamD P w K mg base kk p1 F a/\pre ds p1 d/\∀ v H' F',Gr H F H' F'->Rp K true .fresh H F' v d->Q v H'
theorem zbs (h:∀ ds b d,pre ds b d->ds.length=n) (s:spG P w K mg base kk pre vs H Q E):vs.length=n + 1:=by
 obtain ⟨F,ds,d,us,a,b,rfl,_,k,_,p,_⟩:=s
 rw [aG,zO.length k,h ds b d p]
 rfl
def spLm (K:aA) (f c':Addr) (o:Obj) (q:Str) (ys:List Str) (va:Str->V) (dc:Str->PyData) (cl:List (Str×Addr)) (p1:PyData->PyData->Prop):Sp:=fun vs H Q _=>∃ v F d r,vs=[v]/\H f=some (knw o)/\Yd H c' q/\w9 H ys va cl/\Same F H/\Dp K F v d/\(∀ y∈ys,Dp K F (va y) (dc y))/\p1 d r /\
 ∀ v' H' F',Gr H F H' F'->Rp K false .fresh H F' v' r->Q v' H'
theorem zaW {H F:Hp} {v:V} {d:PyData} {va:Str->V} {dc:Str->PyData} {ys:List Str} (le:Same F H) (hd:Dp K F v d) (b:∀ y∈ys,Dp K F (va y) (dc y)):DEnv K .fresh H F H F (some v :: ys.map fun y=>some (va y)) (some (.fz false d) :: ys.map fun y=>some (.fz false (dc y))):=by
 have no:∀ (i:Nat) (x:DV),(some (.fz false d) :: ys.map fun y=>some (.fz false (dc y)):Ctx)[i]?=some (some x)->∃ u e,(some v :: ys.map fun y=>some (va y):St)[i]?=some (some u)/\x=.fz false e/\Dp K F u e:=fun i x h=>by
  cases i with
  | zero=>exact ⟨v,d,rfl,by simpa using h.symm,hd⟩
  | succ i =>
   have h:(ys.map fun y=>some (DV.fz false (dc y)))[i]?=some (some x):=by simpa using h
   rw [aU] at h
   cases e:ys[i]? with
   | none=>rw [e] at h;cases h
   | some y =>
    rw [e] at h
    refine ⟨va y,dc y,by simp [e],by simpa using h.symm,b y (List.mem_of_getElem? e)⟩
 refine ⟨.refl le,le,fun a h=>?_,fun T z=>(nomatch z),by simp,fun i x h=>?_,fun i j x y v w a c l _ _ f _=>?_⟩
 ·cases e:H a with
  | none=>exact absurd e h
  | some o=>exact ⟨o,rfl⟩
 ·obtain ⟨u,e,g,rfl,k⟩:=no i x h
  exact ⟨u,g,uc k⟩
 ·obtain ⟨u,e,_,rfl,_⟩:=no i x c
  exact f.elim
theorem zdP {k:Nat} (S:wL x ys lsc)
  (b:∀ (A:Around) (outer:List Env) (s:Shared) (H:Hp),Room k (A.deeper (envX qual lsc s.heap.objs.size f (.ref c') cl))->PE (cxL P w K mg base (x :: ys) qual lsc f (.ref c') cl A outer s H) body te)
  (c:∀ d r,p1 d r->EvE K .fresh false te (some (.fz false d) :: ys.map fun y=>some (.fz false (dc y))) r) :
  FnOk P w K mg base CX0 (k + 1) f (kla_fn "<lambda>" qual params body lsc cl pm (.ref c') ctv) [x] (spLm K f c' (kla_obj "<lambda>" qual params body lsc cl pm c' ctv) qual ys va dc cl p1):=by
 refine zat (va:=va) S (fun vs H Q E h=>?_) (fun vs H Q E h=>?_) fun A outer s H v Q E e h=>?_
 ·obtain ⟨v,_,_,_,rfl,_⟩:=h
  rfl
 ·obtain ⟨v,_,_,_,_,i,j,l,_⟩:=h
  exact ⟨i,j,l⟩
 ·obtain ⟨n,F,d,r,ev,_,_,_,le,hd,m,a,q⟩:=h
  cases ev
  refine ⟨te,b A outer s H e,c d r a H F H F _ (zaW le hd m) _ fun u H' F' g p=>q u H' F' g p⟩
theorem UE {R:Str×Nat->V->Prop}:∀ (a:List (Str×Nat)),(a.map (·.1)).Nodup->(∀ p∈a,∃ u,R p u)->∃ va:Str->V,∀ p∈a,R p (va p.1)
 | [],_,_=>⟨fun _=>.non,fun _ h=>(nomatch h)⟩
 | p :: r,nd,h=>by
  obtain ⟨c,d⟩:=bV.mp nd
  obtain ⟨va,e⟩:=UE r d fun q b=>h q (bA _ b)
  obtain ⟨u,f⟩:=h p aK
  refine ⟨fun y=>if y=p.1 then u else va y,fun q b=>?_⟩
  rcases aT.mp b with rfl | b
  ·show R q (if q.1=q.1 then u else _)
   rw [if_pos rfl];exact f
  ·show R q (if q.1=p.1 then u else _)
   rw [if_neg (show ¬ q.1=p.1 from fun z=>c (show p.1∈r.map (·.1) by rw [<- z];exact aF.mpr ⟨q,b,rfl⟩))]
   exact e q b
theorem ut {kk:Nat} {pre:List PyData->(PyData->PyData->Prop)->PyData->Prop} {t1:TE} {d1 d:PyData} {g:Arguments} {B:Expr} {C:Scope} {q:Str} {caps:List (Str×Nat)} {dc:Str->PyData} {p1:PyData->PyData->Prop} {x:Str} {te:TE}
  (h1:EvE K S false t1 Y d1) (hc:∀ p∈caps,∃ U,Y[p.2]?=some (some (.fz U (dc p.1)))) (SL:wL x (caps.map (·.1)) C) (hb:∀ cl pm G I,xg K (kla_fn "<lambda>" q g B C cl pm (.ref G) I) [x] [])
  (W:∀ (f G:Addr) (cl:List (Str×Addr)),(∀ y∈caps.map (·.1),(cl.lookup y).isSome=true)->∀ (A:Around) (outer:List Env) (s:Shared) (H:Hp),Room kk (A.deeper (envX q C s.heap.objs.size f (.ref G) cl))->PE (cxL P w K mg base (x :: caps.map (·.1)) q C f (.ref G) cl A outer s H) B te)
  (hE:∀ d r,p1 d r->EvE K .fresh false te (some (.fz false d) :: (caps.map (·.1)).map fun y=>some (.fz false (dc y))) r) (X:pre [d1] p1 d) :
  EvE K S U (tGL t1 g B C q caps (spG P w K mg base (kk + 1) pre)) Y d:=fun H0 F0 H F O e Q qq =>
 h1 H0 F0 H F O e _ fun v1 H1 j fE r1=>by
  classical
  have e1:=e.mono fE
  obtain ⟨va,Z⟩:=UE (R:=fun p u=>O[p.2]?=some (some u)/\Dp K j u (dc p.1)) caps (bV.mp SL.nd).2 fun p W=>by
   obtain ⟨a9,z⟩:=hc p W
   obtain ⟨u,z1,M⟩:=e1.has _ _ z
   exact ⟨u,z1,yW M⟩
  refine ⟨va,fun p W=>(Z p W).1,fun cl f G pm I l a3 frf hf a0 D=>?_⟩
  have E:Same H1 l:=fun b o z=>by
   rcases a3 b with y | ⟨y,_⟩
   ·rw [y];exact z
   ·rw [y] at z;cases z
  let i:Addr->Prop:=fun b=>b=f\/b=G\/∃ y,cl.lookup y=some b
  have a4:∀ {b:Addr},i b->∃ o,l b=some (knw o):=fun {b} z=>by
   rcases z with rfl | rfl | ⟨y,z⟩
   ·exact ⟨_,hf⟩
   ·obtain ⟨o,_,_,z,_⟩:=a0;exact ⟨o,z⟩
   ·obtain ⟨o,_,z,_⟩:=(D.cel y b z).2;exact ⟨o,z⟩
  let N:Hp:=fun b=>if j b=none/\i b then l b else j b
  have J:Same j N:=fun b o z=>by
   show (if j b=none/\i b then _ else _)=_
   rw [if_neg fun c=>by rw [c.1] at z;cases z];exact z
  have a5:Same N l:=fun b o z=>by
   have z:(if j b=none/\i b then l b else j b)=some o:=z
   split at z
   ·exact z
   ·exact E _ _ (fE.le _ _ z)
  have fF:∀ {b:Addr},i b->N b=l b:=fun {b} T=>by
   cases z:j b with
   | none=>show (if j b=none/\i b then _ else _)=_;rw [if_pos ⟨z,T⟩]
   | some o=>rw [J _ _ z,E _ _ (fE.le _ _ z)]
  have a1:∀ {b:Addr},j b=none->(∃ o,N b=some (knw o))\/N b=none:=fun {b} z=>by
   by_cases T:i b
   ·obtain ⟨o,y⟩:=a4 T
    exact .inl ⟨o,by rw [fF T];exact y⟩
   ·exact .inr (by show (if j b=none/\i b then _ else _)=_;rw [if_neg fun c=>T c.2];exact z)
  have a6:LamD P w K mg base (kk + 1) p1 N f:=by
   refine ⟨_,x,_, "<lambda>", q,g,B,C,cl,pm,G,I,zdP (va:=va) (dc:=dc) SL (W f G cl fun y hy=>by obtain ⟨c,z⟩:=D.has y hy;rw [z];rfl) hE,hb cl pm G I,by rw [fF (.inl rfl)];exact hf,fun H' F' v d0 r0 Q0 s1 s2 hd a7 k=>?_⟩
   have at':∀ {b:Addr} {o:Obj},i b->l b=some (knw o)->H' b=some (knw o):=fun {b o} T z=>s2 _ _ (s1 _ _ (by rw [fF T];exact z))
   refine ⟨v,F',d0,r0,rfl,at' (.inl rfl) hf,?_,⟨D.has,fun y b z=>?_,D.inj⟩,s2,hd,fun y hy=>?_,a7,k⟩
   ·obtain ⟨o,fs,t,z,M⟩:=a0
    exact ⟨o,fs,t,at' (.inr (.inl rfl)) z,M⟩
   ·obtain ⟨m,o,u,z1,M⟩:=D.cel y b z
    exact ⟨m,o,u,at' (.inr (.inr ⟨y,z⟩)) z1,M⟩
   ·obtain ⟨pp,a2,rfl⟩:=aF.mp hy
    exact yT (J.trans s1) (Z pp a2).2
  refine ⟨N,[d1],d,[v1],f,p1,rfl,a5,.cons (yT J (yW r1)) .nil,a6,X,fun v H3 L g3 p3 H4 h4=>?_⟩
  let V:Hp:=fun b=>if l b≠none/\j b=none then none else L b
  have f4:∀ {b:Addr} {o:HO},V b=some o->L b=some o/\¬ (l b≠none/\j b=none):=fun {b o} z=>by
   have z:(if l b≠none/\j b=none then none else L b)=some o:=z
   split at z
   ·cases z
   ·rename_i c;exact ⟨z,c⟩
  have fG:∀ {b:Addr} {o:HO},L b=some o->¬ (l b≠none/\j b=none)->V b=some o:=fun {b o} z c=>by
   show (if l b≠none/\j b=none then none else L b)=some o
   rw [if_neg c];exact z
  have g4:Gr H1 j H4 V:=by
   refine ⟨fun b o z=>?_,fun b o z=>fG (g3.f _ _ (J _ _ z)) (fun c=>by rw [c.2] at z;cases z),fun b o z=>?_,fun b o z n=>?_⟩
   ·rcases h4 b with y | ⟨_,y,_⟩
    ·rw [y];exact g3.h _ _ (E _ _ z)
    ·rw [y] at z;cases z
   ·obtain ⟨z1,M⟩:=f4 z
    rcases h4 b with y | ⟨_,y,o',y'⟩
    ·rw [y];exact g3.le _ _ z1
    ·exact absurd ⟨by rw [y'];simp,fE.le.free y⟩ M
   ·show (if l b≠none/\j b=none then none else L b)=none
    rw [if_pos ⟨by rw [E _ _ z];simp,n⟩]
  have a8:∀ a xs,LN K true .fresh l L a xs->LN K true S H0 V a xs:=fun a xs z=>⟨fG z.1 fun c=>z.2 (show l a≠none from c.1),fun cc=>by
   obtain ⟨u,hu⟩:=e1.sd a cc
   exact z.2 (by show l a≠none;rw [E _ _ hu];simp)⟩
  refine qq v H4 V (fE.trans g4) (uB (U:=true) (fun _=>rfl) (xS (U:=true) (U':=true) a8 (fun a xs z=>?_) p3))
  ·have tp:∀ {o:HO},L a=some o->(∀ ob,o≠knw ob)->V a=some o:=fun {o} y ne=>fG y fun c=>by
    rcases a1 c.2 with ⟨ob,w1⟩ | w1
    ·have:=g3.f _ _ w1
     rw [y] at this;cases this
     exact ne _ rfl
    ·cases w2:l a with
     | none=>exact c.1 w2
     | some o2=>rw [g3.ap _ _ w2 w1] at y;cases y
   rcases z with (z | ⟨o,z⟩) | z
   ·exact .inl (.inl (tp z fun ob y=>by cases y))
   ·exact .inl (.inr ⟨o,tp z fun ob y=>by cases y⟩)
   ·exact .inr z
theorem zaL {kk:Nat} {fd:FuncData} {x:Str} 
  (o:GetC Y i (.xp φ)) (p:∀ l v,φ l v->v=.ref a/\(∃ s q b c j cl pm w k,l a=some (knw (kla_obj s q b c j cl pm w k)))/\∀ (H' F':Hp) (v:V) (Q:VK),Same l F'->Same F' H'->Dp K F' v d->(∀ n g F'',Gr H' F' g F''->Rp K false .fresh H' F'' n r->Q n g)->spl [v] H' Q E0)
  (h:EvE K S false t Y d):EvE K S false (tFnL i a spl (zR t tNil)) Y r:=fun H0 F0 H F O e Q q=>by
 obtain ⟨v,y,l,s1,z⟩:=e.has i _ o.eq
 obtain ⟨rfl,⟨s,A,b,c,j,cl,pm,w,k,B⟩,C⟩:=p l v z
 refine ⟨y,h H0 F0 H F O e _ fun u D E m G=>⟨⟨s,A,b,c,j,cl,pm,w,k,m.le _ _ (m.f _ _ (s1 _ _ B))⟩,C D E u Q (s1.trans m.f) m.le (yW G) fun n g F'' I J=>q n g F'' (m.trans I) (uc (yW J))⟩⟩
end
end PD
namespace L2
open PySem PySem.Spec PyProof.Rows PySem.W
def t5 (K:Frag) (f:Addr) (x:Str):Bool:=match K.lookup f with
 | some ⟨_,_,.func fd,_⟩=>(match fd.code with
  | .ref c=>(match (K.lookup c).bind Qn with
   | some (P,q)=>codeHdIn K c P && decide (q=x ++ ".<locals>.<lambda>")
   | none=>false)
  | _=>false)
 | _=>false
theorem uj [BEq α] [LawfulBEq α]:∀ {l:List (α×β)} {a:α} {b:β},l.lookup a=some b->(a,b)∈l
 | (x,y) :: l,a,b,h=>by
  rw [cU] at h
  split at h
  ·rename_i e
   have:=eq_of_beq e
   cases h
   rw [this]
   exact aK
  ·exact bA _ (uj h)
section
variable {P:Program} {w:World} {K:aA} {mg:Str->Option Value} {base:Heap}
theorem Fun.okL {x qual:Str} {st:Stmt} {f:Addr} {fd:FuncData} {N ps:List Str} {k:Nat} {sp:Sp} (F:Fun K x qual st f fd) (L:t5 K f qual=true) (S:zA N ps (zo st)) (len:∀ vs H Q E,sp vs H Q E->vs.length=ps.length)
  (a:∀ (c T:Addr) (A:Around) (outer:List Env) (s:Shared) (H:Hp) (vs:List V) (Q:VK) (E:XK),codeHdIn K c T=true->(T,qual ++ ".<locals>.<lambda>")∈yg K->Room k (A.deeper (envOfC qual (zo st) s.heap.objs.size f (.ref c)))->sp vs H Q E ->
   ∃ t,PSs (cxOf CX0 P w K mg base N qual (zo st) f (.ref c) A outer s H E).nox (xB st) t/\t { nx:=fun _ H'=>Q .non H',rt:=Q } (start N vs) H):FnOk P w K mg base CX0 (k + 1) f fd ps sp:=by
 obtain ⟨oc,od,kV,doc,pm,an,cdv,ct,osl,rfl,i,d⟩:=F.ex
 unfold t5 at L
 rw [i] at L
 dsimp only at L
 split at L
 ·rename_i c
  split at L
  ·rename_i T q e
   simp only [Bool.and_eq_true,decide_eq_true_eq] at L
   obtain ⟨o,j,m⟩:=eX.mp e
   have b:(T,qual ++ ".<locals>.<lambda>")∈yg K:=by
    rw [<- L.2]
    exact dO.mpr ⟨(c,o),uj j,e⟩
   refine zc5 i d S len fun A outer s H vs Q E l g=>?_
   obtain ⟨t,h,q⟩:=a c T A outer s H vs Q E L.1 b l g
   exact ⟨t,h.nox,q⟩
  ·cases L
 ·cases L
end
end L2
namespace Cm
open PySem L2
structure AtL (K:aA) (x:Str) (st:Stmt) (f:Addr) (fd:FuncData):Prop where
 a:PySem.W.nsIn K mainGlobals x=some (some (.ref f))
 F:Fun K x x st f fd
 L:t5 K f x=true
theorem Xe {K:aA} {x:Str} {st:Stmt} {f:Addr} {oc:Value} {od an:Option Addr} {osl:Array (Option Value)} {kV doc pm cdv ct:Value} (a:PySem.W.nsIn K mainGlobals x=some (some (.ref f)))
  (l:K.lookup f=some ⟨oc,od,.func (PySem.W.fnOf x x (wg st) (xB st) (zo st) .none kV doc pm an cdv ct),osl⟩) (c:PySem.W.codeIn K cdv x=true) (k:PySem.W.keepIn K (.ref f)=true) (m:t5 K f x=true):∃ f fd,AtL K x st f fd:=⟨f,_,a,V9 l c k,m⟩
end Cm
namespace L2
open PySem
theorem zbp {K:aA} {h:Heap} {a:List Addr} (t:∀ P∈a,h.get? P=some (PySem.W.tabObj #[])) (e:((yg K).all fun p=>a.contains p.1)=true):∀ p∈yg K,h.get? p.1=some (PySem.W.tabObj #[]):=fun p b=>t _ (by
 have:=cC.mp e p b
 simpa using this)
def zc0 (x:Str) (ys:List Str) (sc:Scope):Bool:=decide (sc.kind=.function) && !sc.isCoroutine && !sc.isGenerator && decide ((x :: ys).Nodup) && decide (sc.names.lookup x=some .local) && (sc.names.all fun p=>decide (p.2≠.cell) && (decide (p.2≠.free) || decide (p.1∈ys))) && ys.all fun y=>decide (sc.names.lookup y=some .free)
theorem uS (h:zc0 x ys sc=true):wL x ys sc:=by
 unfold zc0 at h
 simp only [Bool.and_eq_true,decide_eq_true_eq,Bool.not_eq_true',List.all_eq_true,Bool.or_eq_true] at h
 obtain ⟨⟨⟨⟨⟨⟨c,d⟩,e⟩,f⟩,g⟩,b⟩,i⟩:=h
 refine ⟨c,d,e,f,g,fun y a=>(b y a).1,fun y a=>?_,i⟩
 rcases (b _ (PySem.mem_of_lookup a)).2 with z | z
 ·exact absurd rfl z
 ·exact z
end L2
namespace PD
open PySem L2
theorem UB (le:Same F H) (k:zO K F vs ds) (q:∀ v H' F',Gr H F H' F'->Rp K U .fresh H F' v d->Q v H') (j:N.length=n) (w:vs.length < n) (b:xf n ds Y) (o:SetC Y ds.length (some (.xp φ)) Y') (c:φ F (.ref a))
  (h:ExS K .fresh t Y' { nx:=fun _=>d=.none,rt:=fun x=>x=d,kr:=U }):t { nx:=fun _ H'=>Q .non H',rt:=Q } (L2.start N (vs ++ [.ref a])) H:=by
 have l:=zO.length k
 have f:=w8 (N:=N) le k
 rw [j,b.eq] at f
 have e:=f.set (i:=ds.length) (v:=.ref a) (x:=.xp φ) ⟨F,.refl _,c⟩ fun _ z=>z.elim
 rw [o.eq] at e
 have r:(L2.start N vs).set ds.length (some (.ref a))=L2.start N (vs ++ [.ref a]):=by
  unfold L2.start
  rw [<- l,List.set_append_right _ _ (by simp),List.length_map,Nat.sub_self]
  obtain ⟨m,s⟩:∃ m,N.length - vs.length=m + 1:=⟨N.length - vs.length - 1,by omega⟩
  rw [s,List.replicate_succ,List.set_cons_zero,aN,aG]
  have:N.length - (vs.length + [V.ref a].length)=m:=by show N.length - (vs.length + 1)=m;omega
  rw [this]
  simp
 rw [r] at e
 exact h H F H F _ F e (.refl _) (.inl rfl) _ ⟨fun _ O' H' F' z _ u=>q .non H' F' u.gr (by rw [z];exact .non),fun x v H' F' z g p=>q v H' F' g (by rw [<- (show x=d from z)];exact p),fun _ _ _ _ z=>z.elim,fun _ _ _ _ z=>z.elim⟩
end PD
namespace L2
open PySem PySem.Spec PyProof.Rows PySem.AutoSeq1
theorem XX (l b:Addr) (xs ys:Array Value) (n f:Nat) (dd:Option Addr) (sl:Array (Option Value)) (i:¬(!xs.isEmpty && Builtin.List.listTooLong (xs.size + ys.size))=true) (a:xs.size<=sizeLine) (c:xs.size + ys.size<=sizeLine + 1) :
  Meets (Builtin.«list.extend» ⟨[.ref l,.ref b],[]⟩) (fun _ R s=>s.heap.get? l=some { cls:=.type "list", data:=.seq xs n }/\s.heap.get? b=some { cls:=.type "list", dict:=dd,data:=.seq ys f,slots:=sl }/\R (.ok (.ret Value.none)) { s with heap:=s.heap.update l (Obj.mapSeq fun x=>x ++ ys),toks:=s.toks }) :=
 .of_wp fun prog w A R s h=>by
  obtain ⟨k,g,d,m,os⟩:=s
  obtain ⟨e,j,h⟩:=h
  have o:=AutoSeq1.idx_int
  have p:=AutoSeq1.sub_tuple_tuple
  have q:=AutoSeq1.sub_list_list
  have r:=AutoSeq1.sub_tuple_list
  have t:=AutoSeq1.sub_list_tuple
  have hz:(xs ++ ys).size<=sizeLine + 1:=by rw [Array.size_append];exact c
  wp_walk using (wpAny_updateSeq e rfl (hz:=a) (_hz':=hz)),wpAny_loadPart' e,wpAny_loadPart' j
  exact ⟨_,rfl,h⟩
section
variable {X:Cx} {K:aA}
def Zx (K:aA):V->List V->Hp->VK->Prop:=fun x vs H Q=>∃ l b xs zs,x=.ref l/\vs=[.ref b]/\H l=some (.lst xs)/\SqL K H b zs/\xs.length + zs.length<=sizeLine/\Q .non (upd H l (.lst (xs ++ zs)))
theorem V2:MtM X "list.extend" (Zx X.K):=by
 intro pins s O H x vs v us Q I m o h
 obtain ⟨l,b,xs,B,rfl,rfl,i,p,C,q⟩:=h
 cases m
 obtain ⟨u,rfl,t⟩:=o.one
 cases t
 obtain ⟨z,d,n,r,D,e⟩:=I.lstM i
 obtain ⟨a,j,pl,_⟩:=I.list p
 have w:=j.length
 obtain ⟨⟨c,dd,E,sl⟩,y,k,A,hd⟩:=pl.isList
 simp only at k hd
 subst k hd
 have g:d.toArray.size + a.toArray.size<=sizeLine:=by rw [bT,bT];omega
 have f:¬ (!d.toArray.isEmpty && Builtin.List.listTooLong (d.toArray.size + a.toArray.size))=true:=by
  rw [zaf g,Bool.and_false]
  exact aY
 refine call_meets F.slot_list_extend ⟨_,e,rfl⟩ F.entry_list_extend (F.args_list_extend_2 _ _) (XX l b d.toArray a.toArray n A dd sl f (by rw [bT];omega) (by omega)) ⟨e,y,?_⟩
 refine ⟨.non,_,I.lset (its':=d ++ a) i e (by simp) (r.append j) ?_,rfl,q⟩
 rw [aG]
 omega
theorem tZ (a:X.K=K):MtM X "list.extend" (Zx K):=by subst a;exact V2
end
end L2
namespace PD
open PySem L2
section
variable {K:aA} {S S':Sx} {U U':Bool} {Y Y' Y'':Ctx} {P:Post}
theorem YQ (h:GetC Y i (.ow U ds)) (m:EvL K S U te Y es) (hz:ds.length + es.length<=sizeLine) (e:SetC Y i (some (.ow U (ds ++ es))) Y') (k:P.nx Y'):ExS K S (v5 (tBM K "list" (Zx K) (tVar i) (zR te tNil))) Y P:=fun H0 F0 H F O B c o vv D I=>by
 obtain ⟨u,d,a,vs,rfl,w,j⟩:=c.has i _ h.eq
 refine ⟨_,d,.inl ⟨rfl,_,SqL.of w.h⟩,m H0 F0 H F O c _ fun b us p q g r l=>?_⟩
 have t:=zw g.f j
 refine ⟨a,b,vs,us,rfl,rfl,g.h _ _ w.h,r,by rw [zv.length j,zv.length l];exact hz,?_⟩
 obtain rfl:=e.eq
 exact I.nx _ _ _ q k (o.trans g.f) ((c.mono g).put (y:=.ow U (ds ++ es)) h.eq d (show Owns p (.ref a) (.ow U ds) a from rfl) ⟨a,_,rfl,⟨zi,(w.mono g).f,w.n,w.s⟩,zv.append t l⟩ fun _ z=>z)
theorem X3 (h:GetC Y i (.ow U (ds ++ [d]))) (o:i≠j) (p:SetC Y i (some (.ow U ds)) Y') (q:SetC Y' j (some (.fz U d)) Y'') (k:P.nx Y''):ExS K S (tAsg (tBM0 K "list" rPop (tVar i)) (yn j)) Y P:=fun H0 F0 H F O B e r vv D I=>by
 obtain ⟨A,g,a,vs,rfl,w,b⟩:=e.has i _ h.eq
 have c:=zv.length b
 rw [aG] at c
 have c:vs.length=ds.length + 1:=c
 obtain ⟨v,t,u⟩:=zv.get b (i:=ds.length) (d:=d) (by rw [List.getElem?_append_right (aC _),Nat.sub_self];rfl)
 have x:zv K U S H0 F vs.dropLast ds:=by
  have:=zv.take ds.length b
  rwa [List.take_append_of_le_length (aC _),cT,show ds.length=vs.length - 1 by omega,<- List.dropLast_eq_take] at this
 refine ⟨_,g,.inl ⟨rfl,_,SqL.of w.h⟩,a,vs,v,rfl,rfl,w.h,by rw [show vs.length - 1=ds.length by omega];exact t,?_⟩
 have l:=e.put (vs:=vs.dropLast) (y:=.ow U ds) h.eq g (show Owns H (.ref a) (.ow U (ds ++ [d])) a from rfl) ⟨a,_,rfl,⟨zi,w.f,w.n,w.s⟩,x⟩ fun _ z=>z
 rw [p.eq] at l
 have m:=l.setF (i:=j) u
 rw [q.eq] at m
 exact I.nx _ _ _ F k r m
end
end PD
namespace L2
open PySem PySem.Spec PyProof.Rows
section
variable {X:Cx} {K:aA}
def rAny (K:aA):List V->Hp->VK->Prop:=fun xs H Q=>∃ p,∃ bs:List Bool,xs=[.ref p]/\SqL K H p (bs.map V.bl)/\Q (.bl (bs.any fun b=>b)) H
theorem fE7:∀ (bs:List Bool) (f:Nat->Bool),(∀ i b,bs[i]?=some b->f i=b)->(List.range bs.length).any f=bs.any fun b=>b
 | [],_,_=>rfl
 | b :: r,f,h=>by
  have a:=fE7 r (fun i=>f (i + 1)) fun i c d=>h (i + 1) c (by simpa using d)
  rw [bS,List.range_succ_eq_map,cF,cZ,cF,h 0 b rfl,<- a]
  rfl
theorem za5 (j:X.calm=true):yq X (.builtin "any") (rAny X.K):=by
 intro pins s O H xs us Q I r h
 obtain ⟨p,bs,rfl,k,q⟩:=h
 obtain ⟨u,rfl,l⟩:=xh r
 cases l
 obtain ⟨m,n,pl,B⟩:=I.list k
 have e:=Xd n
 subst e
 have f:=pl.isList
 refine call_any_walk (wpAny_pyIter_list f ?_)
 have g:p≠s.heap.objs.size:=by
  obtain ⟨o,t,_⟩:=f
  exact aL (aE t)
 refine ⟨s.heap.objs.size,_,_,_,_,_,fun i=>bs.getD i false,rfl,Walks.list (A:=X.A.in1) (I.ok.hd j) _ p g (bs.map Value.bool).toArray,⟨⟨_,bE _ rfl,rfl,rfl⟩,f.push _⟩,fun i v s Q E w x=>?_,fun h' C y=>?_⟩
 ·have a:(bs.map Value.bool)[i]?=some v:=by simpa using w
  rw [aU] at a
  cases c:bs[i]? with
  | none=>rw [c] at a;cases a
  | some b =>
   rw [c] at a
   cases a
   have:bs.getD i false=b:=by rw [aM,c];rfl
   have d:Q (bs.getD i false) s:=x
   rw [this] at d
   exact wpAny_truthy_bool d
 ·have e:(List.range (bs.map Value.bool).toArray.size).any (fun i=>bs.getD i false)=bs.any fun b=>b:=by
   rw [bT,aB]
   exact fE7 bs _ fun i b z=>by rw [aM,z];rfl
  rw [e]
  exact ⟨.bl _,H,I.kept fun b o c=>y b o (by simpa using Nat.ne_of_lt (Heap.lt_size c)) (Heap.get?_push_of_some _ c),rfl,q⟩
theorem xR (a:X.K=K) (b:X.calm=true):yq X (.builtin "any") (rAny K):=by subst a;exact za5 b
end
end L2
namespace PD
open PySem L2
section
variable {K:aA} {S S':Sx} {U U':Bool} {Y Y' Y'':Ctx} {P:Post} {E:XK}
theorem tM {c:TE} {bs:List Bool} (h:EvL K S false c Y (bs.map .bool)):EvE K S U (tCB (rAny K) (zR c tNil)) Y (.bool (bs.any fun b=>b)):=fun H0 F0 H F O e Q q =>
 h H0 F0 H F O e _ fun a vs d f g i j=>by
  cases w4 (zP j)
  exact ⟨a,bs,rfl,i,q _ d f g (.bl _)⟩
end
end PD
namespace L2
open PySem PySem.Spec PyProof.Rows
section
variable {X:Cx} {K:aA}
def zcV:List V->Hp->VK->Prop:=fun xs H Q=>∃ m n:Int,xs=[.int m,.int n]/\∀ l,H l=none->Q (.ref l) (upd H l (.rng m n))
theorem Qc:yq X (.type "range") zcV:=by
 intro pins s O H xs us Q I r h
 obtain ⟨m,n,rfl,q⟩:=h
 obtain ⟨u,w,rfl,a,c⟩:=zes r
 obtain ⟨t,rfl⟩:=a
 obtain ⟨t',rfl⟩:=c
 exact call_range_2 ⟨.ref s.heap.objs.size,_,I.laid (t':=s.toks + 1) (fun b u e=>aR _ e) (aC _) (show yj X.prog X.w _ _ _ (.rng m n) from ⟨_,_,_,bE _ rfl⟩),rfl,q _ (I.hok.fresh (aC _))⟩
def YC:List V->Hp->VK->Prop:=fun xs H Q=>∃ (p:Addr) (a b:Int),xs=[.ref p]/\H p=some (.rng a b)/\-1000000<=a/\a<=1000000/\-1000000<=b/\b<=1000000/\∀ l,H l=none->Q (.ref l) (upd H l (.lst ((List.range (b - a).toNat).map fun i:Nat=>V.int (a + (i:Int)))))
theorem Ys (g:X.calm=true):yq X (.type "list") YC:=by
 intro pins s O H xs us Q I r h
 obtain ⟨p,a,b,rfl,j,B,C,D,E,q⟩:=h
 obtain ⟨u,rfl,k⟩:=xh r
 cases k
 obtain ⟨t,u,v,l⟩:∃ t u v,s.heap.get? p=some { cls:=.type "range", data:=.fields #[.int a t,.int b u,.int 1 v] }:=I.hok p _ j
 have rs:Builtin.Range.rangeSize a b 1=((b - a).toNat:Int):=by
  rw [rangeSize_one]
  split <;> omega
 generalize F:(b - a).toNat=n at rs q
 refine call_list_range (n:=n) (I.ok.hd g) l ?_ rs (by omega) fun h' m c o y z d=>?_
 ·exact small_one (by omega) (by omega) (by omega) (by omega)
 ·have A:c.toList.length=n:=by rw [cO];exact d.1
  refine ⟨.ref s.heap.objs.size,_,I.laid (t':=m) y (aC _) (show yj X.prog X.w _ h' _ (.lst ((List.range n).map fun i:Nat=>V.int (a + (i:Int)))) from ⟨by rw [aB,aV,sizeLine_eq];omega,c.toList,o,Vals.ofGet _ _ (by rw [aB,aV,A]) fun i x u e f=>?_,z⟩),rfl,q _ (I.hok.fresh (aC _))⟩
  have hi:i < n:=by
   have:=(aP.mp f).1
   omega
  rw [aU,cN hi] at e
  cases e
  obtain ⟨t',rfl⟩:=d.2 i u (by rw [<- dJ];exact f)
  exact ⟨t',by rw [Int.mul_one]⟩
end
end L2
namespace PD
open PySem L2
section
variable {K:aA} {S S':Sx} {U U':Bool} {Y Y' Y'':Ctx} {P:Post}
theorem X4 (h:EvA K S false t Y [.int a,.int b]) (j:-1000000<=a) (k:a<=1000000) (m:-1000000<=b) (n:b<=1000000):EvO K S U (tCB YC (zR (tCB zcV t) tNil)) Y ((List.range (b - a).toNat).map fun i:Nat=>.int (a + (i:Int))):=fun H0 F0 H F O e Q q =>
 h H0 F0 H F O e _ fun vs u d g o=>by
  cases zX (ns:=[a,b]) (zP o)
  refine ⟨a,b,rfl,fun p r=>⟨p,a,b,rfl,zi,j,k,m,n,fun l f=>?_⟩⟩
  have c:=g.trans (.newO g.le r (.rng a b))
  have s:zv K U S H0 d ((List.range (b - a).toNat).map fun i:Nat=>V.int (a + (i:Int))) ((List.range (b - a).toNat).map fun i:Nat=>.int (a + (i:Int))):=by
   have:=ug (K:=K) (U:=U) (S:=S) (H0:=H0) (F:=d) ((List.range (b - a).toNat).map fun i:Nat=>a + (i:Int))
   rw [bC,bC] at this
   exact this
  exact q l _ _ d (c.trans (.newO c.le f _)) (c.h.free f) zi (c.le.free f) s
end
end PD
namespace L2
open PySem PySem.Spec PyProof.Rows PySem.Calls
section
variable {U:Type} [DecidableEq U]
def valV (kvs:List (U×V)) (k:U):Option V:=(kvs.find? fun kv=>decide (kv.1=k)).map (·.2)
def putK (kvs:List (U×V)) (k:U) (v:V):List (U×V) :=
 if (kvs.any fun kv=>decide (kv.1=k))=true then kvs.map (fun kv=>if kv.1=k then (kv.1,v) else kv) else kvs ++ [(k,v)]
theorem yH {p:U×V} {r:List (U×V)} {k:U} (e:p.1=k):valV (p :: r) k=some p.2:=by simp [valV,List.find?_cons,e]
theorem yI {p:U×V} {r:List (U×V)} {k:U} (e:¬ p.1=k):valV (p :: r) k=valV r k:=by simp [valV,List.find?_cons,e]
theorem uv (k:U):∀ kvs:List (U×V),(kvs.any fun a=>decide (a.1=k))=(valV kvs k).isSome
 | []=>rfl
 | p :: r=>by
  rw [cF]
  by_cases e:p.1=k
  ·simp only [yH e,decide_eq_true e,Bool.true_or,Option.isSome_some]
  ·rw [yI e,decide_eq_false e,Bool.false_or];exact uv k r
theorem Wm (k j:U) (y:V):∀ kvs:List (U×V),valV (kvs.map fun a=>if a.1=k then (a.1,y) else a) j=(valV kvs j).map fun x=>if j=k then y else x
 | []=>rfl
 | p :: r=>by
  have b:=Wm k j y r
  rw [bB]
  by_cases h:p.1=k
  ·rw [if_pos h]
   by_cases e:p.1=j
   ·rw [yH (p:=(p.1,y)) e,yH e,eS,if_pos (e.symm.trans h)]
   ·rw [yI (p:=(p.1,y)) e,yI e,b]
  ·rw [if_neg h]
   by_cases e:p.1=j
   ·rw [yH (p:=p) e,yH e,eS,if_neg (fun z=>h (e.trans z))]
   ·rw [yI (p:=p) e,yI e,b]
theorem Yw (k j:U) (y:V):∀ kvs:List (U×V),valV kvs k=none->valV (kvs ++ [(k,y)]) j=if j=k then some y else valV kvs j
 | [],_=>by
  by_cases e:k=j
  ·rw [if_pos e.symm];exact yH (p:=(k,y)) e
  ·rw [if_neg (fun z=>e z.symm)];exact yI (p:=(k,y)) e
 | p :: r,hn=>by
  rw [List.cons_append]
  have a:¬ p.1=k:=fun z=>by rw [yH z] at hn;cases hn
  rw [yI a] at hn
  have b:=Yw k j y r hn
  by_cases e:p.1=j
  ·rw [yH e,yH e,if_neg (fun z=>a (e.trans z))]
  ·rw [yI e,yI e,b]
theorem Wl (kvs:List (U×V)) (k j:U) (y:V):valV (putK kvs k y) j=if j=k then some y else valV kvs j:=by
 unfold putK
 by_cases a:(kvs.any fun b=>decide (b.1=k))=true
 ·rw [if_pos a,Wm]
  rw [uv] at a
  by_cases e:j=k
  ·obtain ⟨x,c⟩:=cW.mp a
   rw [if_pos e,e,c,eS,if_pos rfl]
  ·rw [if_neg e]
   cases valV kvs j with
   | none=>rfl
   | some x=>rw [eS,if_neg e]
 ·rw [if_neg a]
  refine Yw k j y kvs ?_
  rw [uv] at a
  cases q:valV kvs k with
  | none=>rfl
  | some x=>rw [q] at a;exact (a rfl).elim
theorem xD (kvs:List (U×V)) (k:U) (v:V):(putK kvs k v).length<=kvs.length + 1:=by
 unfold putK
 split
 ·rw [aB];omega
 ·rw [aG,bS,List.length_nil];omega
theorem RelO.isSome_eq (r:RelO o u):o.isSome=u.isSome:=by
 cases o with
 | none=>cases u with
  | none=>rfl
  | some _=>exact (show False from r).elim
 | some _=>cases u with
  | none=>exact (show False from r).elim
  | some _=>rfl
theorem RelO.getD (r:RelO o u) (rd:RelV d d'):RelV (o.getD d) (u.getD d'):=by
 cases o with
 | none=>cases u with
  | none=>exact rd
  | some _=>exact (show False from r).elim
 | some _=>cases u with
  | none=>exact (show False from r).elim
  | some _=>exact r
theorem KV.val {kvs:List (U×V)} {vs:List (U×Value)} (r:KV kvs vs) (k:U):RelO (valV kvs k) (valueAt vs k):=by
 unfold KV at r
 induction r with
 | nil=>exact True.intro
 | @cons p q ps a h t f =>
  obtain ⟨d,g⟩:=h
  by_cases e:p.1=k
  ·have c:q.1=k:=d.symm.trans e
   have b:valueAt (q :: a) k=some q.2:=by simp [valueAt,List.find?_cons,c]
   rw [yH e,b];exact g
  ·have c:¬ q.1=k:=fun z=>e (d.trans z)
   have b:valueAt (q :: a) k=valueAt a k:=by simp [valueAt,List.find?_cons,c]
   rw [yI e,b];exact f
theorem KV.any (r:KV kvs vs) (k:U):(kvs.any fun a=>decide (a.1=k))=vs.any fun a=>decide (a.1=k):=by
 unfold KV at r
 induction r with
 | nil=>rfl
 | cons h t b=>rw [cF,cF,b,h.1]
theorem KV.repl (r:KV kvs vs) (k:U) (c:RelV y u) :
  KV (kvs.map fun a=>if a.1=k then (a.1,y) else a) (vs.map fun a=>if a.1=k then (a.1,u) else a):=by
 unfold KV at r ⊢
 induction r with
 | nil=>exact .nil
 | @cons p q ps g h t d =>
  rw [bB,bB]
  refine .cons ?_ d
  obtain ⟨b,f⟩:=h
  by_cases e:p.1=k
  ·rw [if_pos e,if_pos (b.symm.trans e)];exact ⟨b,c⟩
  ·rw [if_neg e,if_neg (fun z=>e (b.trans z))];exact ⟨b,f⟩
theorem KV.put (r:KV kvs vs) (k:U) (a:RelV y u):KV (putK kvs k y) (stored vs k u):=by
 unfold putK stored
 rw [r.any k]
 by_cases e:(vs.any fun b=>decide (b.1=k))=true
 ·rw [if_pos e,if_pos e];exact r.repl k a
 ·rw [if_neg e,if_neg e];exact Paired.snoc r ⟨rfl,a⟩
theorem KV.length (r:KV kvs vs):kvs.length=vs.length:=Paired.length r
end
theorem ZR (r:RelV (kV k) u):(yi P w).is k u=true:=by
 cases k with
 | inl i=>obtain ⟨t,e⟩:=(show ∃ t,u=Value.int i t from r);subst e;exact WZ P w i t
 | inr x=>obtain ⟨t,e⟩:=(show ∃ t,u=Value.str x t from r);subst e;exact WY P w x t
theorem YM:∀ {a:List Key} {us:List Value},Vals (a.map kV) us->ItemsAre (yi P w) a us
 | [],_,r=>by rw [List.map_nil] at r;cases r;exact .nil
 | k :: a,_,r=>by
  rw [bB] at r
  cases r with
  | cons h t=>exact .cons (ZR h) (YM t)
abbrev KT (H:Hp):List (List Key×V)->List (List Key×Addr×Value)->Prop:=Paired fun p q=>p.1=q.1/\Zb H q.2.1 (p.1.map kV)/\RelV p.2 q.2.2
theorem KT.val {H:Hp} {kvs:List (List Key×V)} {xs:List (List Key×Addr×Value)} (r:KT H kvs xs) (k:List Key):RelO (valV kvs k) ((atKey xs k).map (·.2)):=by
 induction r with
 | nil=>exact True.intro
 | @cons p q ps a h t f =>
  obtain ⟨d,_,g⟩:=h
  by_cases e:p.1=k
  ·have c:q.1=k:=d.symm.trans e
   have b:atKey (q :: a) k=some q.2:=by simp [atKey,List.find?_cons,c]
   rw [yH e,b];exact g
  ·have c:¬ q.1=k:=fun z=>e (d.trans z)
   have b:atKey (q :: a) k=atKey a k:=by simp [atKey,List.find?_cons,c]
   rw [yI e,b];exact f
theorem KT.repl (r:KT H kvs xs) (k:List Key) (d:RelV y u) :
  KT H (kvs.map fun b=>if b.1=k then (b.1,y) else b) (xs.map (putAt k u)):=by
 induction r with
 | nil=>exact .nil
 | @cons p q ps i h t f =>
  rw [bB,bB]
  refine .cons ?_ f
  obtain ⟨a,c,g⟩:=h
  unfold putAt
  by_cases e:p.1=k
  ·rw [if_pos e,if_pos (a.symm.trans e)];exact ⟨a,c,d⟩
  ·rw [if_neg e,if_neg (fun z=>e (a.trans z))];exact ⟨a,c,g⟩
theorem KT.put (r:KT H kvs xs) (k:List Key) (c:Zb H b (k.map kV)) (a:RelV y u) :
  KT H (putK kvs k y) (storedH xs k b u):=by
 have e:(kvs.any fun d=>decide (d.1=k))=(atKey xs k).isSome:=by
  rw [uv,(r.val k).isSome_eq,Option.isSome_map]
 unfold putK storedH
 rw [e]
 by_cases q:(atKey xs k).isSome=true
 ·rw [if_pos q,if_pos q];exact r.repl k a
 ·rw [if_neg q,if_neg q];exact Paired.snoc r ⟨rfl,c,a⟩
theorem KT.keeps (r:KT H kvs xs) (a:∀ b ys,Zb H b ys->Zb H' b ys):KT H' kvs xs :=
 Paired.mapP r fun _ _ z=>⟨z.1,a _ _ z.2.1,z.2.2⟩
section
variable {P:Program} {w:World} {H:Hp} {h:Heap} {a:Addr}
theorem QM (ok:HOk P w H h) (e:Rd H a u):yj P w H h a u:=e.ok ok
theorem t9 (ok:HOk P w H h) (e:Rd H a (.dK kvs)):kvs.length<=sizeLine/\(a == sysModules)=false/\∃ vs,KV kvs vs/\h.DictOf (yi P w) a vs :=
 show yj P w H h a (.dK kvs) from QM ok e
theorem zeI (ok:HOk P w H h) (e:H a=some (.dK kvs)):kvs.length<=sizeLine/\(a == sysModules)=false/\∃ vs,KV kvs vs/\h.DictOf (yi P w) a vs:=t9 ok (.inl e)
theorem Zr (ok:HOk P w H h) (e:Rd H a (.tup ys)):Zb H a ys:=by
 rcases e with e | ⟨o,e⟩
 ·exact .inl e
 ·obtain ⟨c,_,d,r,ob,b,g,n,f⟩:=(show yj P w H h a (.frz o (.tup ys)) from ok a _ e)
  rw [c] at b
  cases b
  exact .inr ⟨o,fun v z=>(by rw [f] at z;cases z),e⟩
theorem Zb.rd (e:Zb H a ys):Rd H a (.tup ys):=e.imp id fun ⟨o,_,q⟩=>⟨o,q⟩
theorem wY (ok:HOk P w H h) (e:Rd H a (.tup (ks.map kV))):(tupleKind (yi P w)).is h ks a:=by
 obtain ⟨_,b,r,o,c,d,n,f⟩:=(show yj P w H h a (.tup (ks.map kV)) from QM ok e)
 exact ⟨o,b.toArray,n,c,d,f,by simpa using YM r⟩
theorem t8 (ok:HOk P w H h) (e:Rd H a (.dT kvs)):kvs.length<=sizeLine/\(a == sysModules)=false /\
  ∃ xs,KT H kvs xs/\h.DictOfH (tupleKind (yi P w)) a xs:=by
 obtain ⟨z,y,xs,r,o,d,f,g,i,j,k,n⟩:=(show yj P w H h a (.dT kvs) from QM ok e)
 refine ⟨z,y,xs,r,o,d,f,g,i,j,k,fun x b=>?_,n⟩
 have all:∀ {l:List (List Key×V)} {m:List (List Key×Addr×Value)},KT H l m->∀ x∈m,(tupleKind (yi P w)).is h x.1 x.2.1:=by
  intro l m q
  induction q with
  | nil=>intro x b;exact nomatch b
  | @cons p q ps u c t s =>
   intro x b
   rcases aT.mp b with e | b
   ·subst e
    exact wY ok (by rw [<- c.1];exact c.2.1.rd)
   ·exact s x b
 exact all r x b
theorem zaT (ok:HOk P w H h) (e:H a=some (.dT kvs)):kvs.length<=sizeLine/\(a == sysModules)=false /\
  ∃ xs,KT H kvs xs/\h.DictOfH (tupleKind (yi P w)) a xs:=t8 ok (.inl e)
end
def DGet (H:Hp) (a:Addr) (y:V) (r:Option V):Prop :=
 (∃ kvs k,Rd H a (.dK kvs)/\y=kV k/\r=valV kvs k)\/∃ kvs k b,Rd H a (.dT kvs)/\y=.ref b/\Rd H b (.tup (k.map kV))/\r=valV kvs k
def DPut (H:Hp) (a:Addr) (y v:V) (H':Hp):Prop :=
 (∃ kvs k,H a=some (.dK kvs)/\y=kV k/\kvs.length < sizeLine/\H'=upd H a (.dK (putK kvs k v))) \/
 ∃ kvs k b,H a=some (.dT kvs)/\y=.ref b/\Rd H b (.tup (k.map kV))/\kvs.length < sizeLine/\H'=upd H a (.dT (putK kvs k v))
theorem DGet.k {H:Hp} {a:Addr} {kvs:List (Key×V)} {k:Key} (e:H a=some (.dK kvs)):DGet H a (kV k) (valV kvs k):=.inl ⟨kvs,k,.inl e,rfl,rfl⟩
theorem DGet.t {H:Hp} {a b:Addr} {kvs:List (List Key×V)} {k:List Key} (e:H a=some (.dT kvs)) (c:Rd H b (.tup (k.map kV))):DGet H a (.ref b) (valV kvs k):=.inr ⟨kvs,k,b,.inl e,rfl,c,rfl⟩
theorem DPut.k {H:Hp} {a:Addr} {kvs:List (Key×V)} {k:Key} {v:V} (e:H a=some (.dK kvs)) (b:kvs.length < sizeLine):DPut H a (kV k) v (upd H a (.dK (putK kvs k v))):=.inl ⟨kvs,k,e,rfl,b,rfl⟩
section
variable {X:Cx} {pins:List (Addr×Obj)} {O:St} {H:Hp} {s:Shared} {a:Addr} {y v:V} {u r:Value} {o:Option V} {A:Around} {E:Value->Shared->Prop}
theorem Inv.big (I:Inv X pins O H s):sysModules < s.heap.objs.size:=by
 have h:mainGlobals < s.heap.objs.size:=(I.mod.glob.keeps I.bk).lt
 exact Nat.lt_trans (by decide) h
theorem Qb (r:A.units + 1 < cLine) (I:Inv X pins O H s) (g:DGet H a y (some v)) (n:RelV y u) (h:∀ f q,Inv X pins O H q->RelV v f->Q f q) :
  wpAny (model X.prog X.w) A (getItem (.ref a) u) Q E s:=by
 rcases g with ⟨kvs,k,e,i,l⟩ | ⟨kvs,k,b,e,i,t,l⟩
 ·subst i
  obtain ⟨z,hd,vs,c,dd⟩:=t9 I.hok e
  obtain ⟨f,j,d⟩:=RelO.some_of (v:=v) (o:=valueAt vs k) (by rw [l];exact c.val k)
  exact wpAny_getItem_of (ZR n) dd.mapOf j (h f _ (I.tok _) d)
 ·subst i
  cases (show u=Value.ref b from n)
  obtain ⟨z,hd,xs,c,dd⟩:=t8 I.hok e
  obtain ⟨f,j,d⟩:=RelO.some_of (v:=v) (o:=(atKey xs k).map (·.2)) (by rw [l];exact c.val k)
  obtain ⟨p,x,m⟩:=eZ.mp j
  refine wpAny_getItem_heap (tupleKind_room_in1 r) (wY I.hok t) dd x ?_
  rw [m]
  exact h f _ (I.tok _) d
theorem d_in (j:A.units + 1 < cLine) (I:Inv X pins O H s) (g:DGet H a y o) (f:RelV y u) (h:∀ i,Inv X pins O H i->Q (.bool o.isSome) i) :
  wpAny (model X.prog X.w) A (compareOp .In u (.ref a)) Q E s:=by
 rcases g with ⟨kvs,k,e,d,l⟩ | ⟨kvs,k,b,e,d,m,l⟩
 ·subst d
  obtain ⟨z,hd,vs,c,dd⟩:=t9 I.hok e
  refine wpAny_in_of (ZR f) hd dd.mapOf ?_
  rw [<- (c.val k).isSome_eq,<- l]
  exact h _ (I.tok _)
 ·subst d
  cases (show u=Value.ref b from f)
  obtain ⟨z,hd,xs,c,dd⟩:=t8 I.hok e
  refine wpAny_in_heap (tupleKind_room_in1 j) (wY I.hok m) hd dd ?_
  have q:=(c.val k).isSome_eq
  rw [Option.isSome_map] at q
  rw [<- q,<- l]
  exact h _ (I.tok _)
theorem zcA (j:A.units + 1 < cLine) (I:Inv X pins O H s) (g:DGet H a y o) (f:RelV y u) (h:∀ i,Inv X pins O H i->Q (.bool (!o.isSome)) i) :
  wpAny (model X.prog X.w) A (compareOp .NotIn u (.ref a)) Q E s:=by
 rcases g with ⟨kvs,k,e,d,l⟩ | ⟨kvs,k,b,e,d,m,l⟩
 ·subst d
  obtain ⟨z,hd,vs,c,dd⟩:=t9 I.hok e
  refine wpAny_notIn_of (ZR f) hd dd.mapOf ?_
  rw [<- (c.val k).isSome_eq,<- l]
  exact h _ (I.tok _)
 ·subst d
  cases (show u=Value.ref b from f)
  obtain ⟨z,hd,xs,c,dd⟩:=t8 I.hok e
  refine wpAny_notIn_heap (tupleKind_room_in1 j) (wY I.hok m) hd dd ?_
  have q:=(c.val k).isSome_eq
  rw [Option.isSome_map] at q
  rw [<- q,<- l]
  exact h _ (I.tok _)
theorem Zp {t':Nat} (I:Inv X pins O H s) (c:Mut (H a)) (d:Heap.SameBut a s.heap h') (f:∃ q,h'.get? a=some q) (new:yj X.prog X.w (upd H a ob) h' a ob) :
  Inv X pins O (upd H a ob) { s with heap:=h',toks:=t' } :=
 I.write (x:=a) (e:=a) c (.inl rfl) (fun b q g z=>(d.2 b g).trans z) f new
theorem zd6 (z:kvs.length<=sizeLine) (hd:(a == sysModules)=false) (b:KV kvs vs) (dd:h'.DictOf (yi P w) a vs) :
  yj P w H' h' a (.dK kvs):=⟨z,hd,vs,b,dd⟩
theorem Qa (G:A.units + 1 < cLine) (I:Inv X pins O H s) (g:DPut H a y v H') (B:RelV y u) (C:RelV v r) (h:∀ D,Inv X pins O H' D->Q () D) :
  wpAny (model X.prog X.w) A (setItem (.ref a) u r) Q E s:=by
 rcases g with ⟨kvs,k,e,j,l,m⟩ | ⟨kvs,k,b,e,j,F,l,m⟩
 ·subst j m
  obtain ⟨z,hd,vs,d,dd⟩:=zeI I.hok e
  have p:vs.length<=sizeLine:=by rw [<- d.length];exact z
  have t:(putK kvs k v).length<=sizeLine:=by have:=xD kvs k v;omega
  refine wpAny_setItem_pairs (hsz:=p) (ZR B) dd fun h' f x=>h _ ?_
  have J:∃ q,h'.get? a=some q:=let ⟨q,_,_,i,_⟩:=f;⟨q,i⟩
  exact Zp I (by rw [e];exact True.intro) x J (zd6 t hd (d.put k C) f)
 ·subst j m
  cases (show u=Value.ref b from B)
  obtain ⟨z,hd,xs,d,dd⟩:=zaT I.hok e
  have p:xs.length<=sizeLine:=by rw [<- Paired.length d];exact z
  have t:(putK kvs k v).length<=sizeLine:=by have:=xD kvs k v;omega
  refine wpAny_setItem_heap (hsz:=p) (tupleKind_room_in1 G) (wY I.hok F) dd fun h' f x=>h _ ?_
  obtain ⟨q,K,L,i,M,N,fF,_,P⟩:=f
  refine Zp I (by rw [e];exact True.intro) x ⟨q,i⟩ ⟨t,hd,_,(d.put k (Zr I.hok F) C).keeps fun c ys R=>?_,q,K,L,i,M,N,fF,P⟩
  exact R.imp (fun y=>by rw [zp (YI y e (fun z=>nomatch z))];exact y) fun ⟨o,n,y⟩=>⟨o,n,by rw [zp (YI y e (fun z=>nomatch z))];exact y⟩
end
section
variable {X:Cx} {pins:List (Addr×Obj)} {O:St} {H:Hp} {s:Shared} {a:Addr} {kvs:List (Key×V)} {k:Key} {u:Value} {A:Around} {E:Value->Shared->Prop}
end
def NoSl (i:Expr):Prop:=∀ ov iv,subscripted i false ov iv=operate [ov,iv] (getItem ov iv)
theorem zbq {prog:Program} {w:World} {A:Around} {E:Value->Shared->Prop} {s:Shared} {env:Env} {b a:Expr} {pos:Pos} {T id:String} {Q:Value->Shared->Prop}
  (m:typeLookup (.type T) "__getitem__" = pure (some (.builtin id))) (n:NoSl a)
  (h:wpAny (model prog w) A (eval b env) (fun o e=>wpAny (model prog w) A (eval a env) (fun i c=>c.TypeIs o T/\wpAny (model prog w) A (getItem o i) Q E c) E e) E s) :
  wpAny (model prog w) A (eval (.Subscript b a pos) env) Q E s:=by
 refine Subscript_ (wpAny_mono h (fun o e j=>wpAny_mono j (fun i c d=>?_) fun _ _ x=>x) fun _ _ x=>x)
 obtain ⟨l,d⟩:=d
 unfold subscriptTail
 refine wpAny_bind ?_
 rw [getitemInPython_of_ne l.not_modules]
 refine wpAny_bind (wpAny_specialOf l m ?_)
 have g:wpAny (model prog w) A (subscripted a false o i) (fun r f=>wpAny (model prog w) A (letTemporaryGo b o r >>= fun _=>pure r) Q E f) E c:=by
  rw [n o i]
  exact wpAny_operating (wpAny_mono d (fun r f k=>wpAny_bind (wpAny_letTemporaryGo (wpAny_pure k))) fun _ _ x=>x)
 first
  | exact wpAny_pure (wpAny_bind g)
  | exact wpAny_bind (wpAny_pure (wpAny_bind g))
  | exact wpAny_bind g
theorem Vf (I:Inv X pins O H s) (g:DGet H a y o):s.TypeIs (.ref a) "dict" := by
 rcases g with ⟨kvs,k,e,_,_⟩ | ⟨kvs,k,b,e,_,_,_⟩
 ·obtain ⟨_,_,vs,_,dd⟩:=t9 I.hok e
  exact dd.typeIs
 ·obtain ⟨_,_,xs,_,dd⟩:=t8 I.hok e
  exact dd.typeIs
def Ux (td ty:TE):TE:=fun O H Q=>td O H fun x H1=>ty O H1 fun y H2=>∃ a v,x=.ref a/\DGet H2 a y (some v)/\Q v H2
def tDIn (ty td:TE):TE:=fun O H Q=>ty O H fun y H1=>td O H1 fun x H2=>∃ a o,x=.ref a/\DGet H2 a y o/\Q (.bl o.isSome) H2
def Xh (ty td:TE):TE:=fun O H Q=>ty O H fun y H1=>td O H1 fun x H2=>∃ a o,x=.ref a/\DGet H2 a y o/\Q (.bl (!o.isSome)) H2
def zcU (td ty tv:TE):TS:=fun D O H=>tv O H fun v H1=>td O H1 fun x H2=>ty O H2 fun y H3=>∃ a H4,x=.ref a/\DPut H3 a y v H4/\D.nx O H4
section
variable {X:Cx} {o i e value:Expr} {pos pos' tpos:Pos} {td ty tv:TE}
theorem XF (d:X.A.units + 1 < cLine) (e:PE X o td) (hi:PE X i ty) (f:NoSl i):PE X (.Subscript o i pos) (Ux td ty):=by
 intro pins s O H Q I h
 refine zbq PySem.F.slot_dict_getitem.lookup f (thn (e pins s O H _ I h) fun u s1 ⟨x,j,k,l,m⟩=>thn (hi pins s1 O j _ k m) fun t s2 ⟨y,n,c,p,a,v,ex,g,q⟩=>?_)
 subst ex
 obtain rfl:u=Value.ref a:=l
 exact ⟨Vf c g,Qb d c g p fun w z r b=>⟨v,n,r,b,q⟩⟩
theorem zdA (b:X.A.units + 1 < cLine) (hi:PE X i ty) (c:PE X o td):PC X .In i o (tDIn ty td):=by
 intro pins s O H Q I h
 refine thn (hi pins s O H _ I h) fun r s1 ⟨y,d,e,f,j⟩=>thn (c pins s1 O d _ e j) fun u s2 ⟨x,k,l,m,a,n,ex,g,p⟩=>?_
 subst ex
 obtain rfl:u=Value.ref a:=m
 exact d_in b l g f fun t q=>⟨.bl n.isSome,k,q,rfl,p⟩
theorem YF (b:X.A.units + 1 < cLine) (hi:PE X i ty) (c:PE X o td):PC X .NotIn i o (Xh ty td):=by
 intro pins s O H Q I h
 refine thn (hi pins s O H _ I h) fun r s1 ⟨y,d,e,f,j⟩=>thn (c pins s1 O d _ e j) fun u s2 ⟨x,k,l,m,a,n,ex,g,p⟩=>?_
 subst ex
 obtain rfl:u=Value.ref a:=m
 exact zcA b l g f fun t q=>⟨.bl (!n.isSome),k,q,rfl,p⟩
theorem zbF (b:X.A.units + 1 < cLine) (c:PE X o td) (hi:PE X i ty) (d:PE X value tv) (e:swapsWith value (some (.Subscript o i pos')) pos.line X.env=pure false) :
  PS X (.Assign [.Subscript o i pos'] value pos) (zcU td ty tv):=by
 intro pins s O H D I h
 refine wpAny_Assign_Subscript (thn (d pins s O H _ I h) fun r s1 ⟨v,f,j,k,l⟩=>thn (c pins s1 O f _ j l) fun u s2 ⟨x,m,n,p,q⟩=>thn (hi pins s2 O m _ n q) fun E F ⟨y,G,t,w,a,z,ex,g,B⟩=>?_) e
 subst ex
 obtain rfl:u=Value.ref a:=p
 exact Qa b t g w k fun J C=>⟨O,z,C,B⟩
end
theorem zaV (h:Heap) (a:sysModules < h.objs.size):yj P w H (h.push { cls:=.type "dict", data:=.dict #[] }) h.objs.size (.dK []) :=
 ⟨aW _,beq_eq_false_iff_ne.mpr (Ne.symm (aL a)),[],.nil,Heap.DictOf.new h⟩
theorem zaU (h:Heap) (a:sysModules < h.objs.size):yj P w H (h.push { cls:=.type "dict", data:=.dict #[] }) h.objs.size (.dT []) :=
 ⟨aW _,beq_eq_false_iff_ne.mpr (Ne.symm (aL a)),[],.nil,_,#[],0,bE _ rfl,⟨rfl,rfl,rfl⟩,rfl,rfl,cE⟩
def Qs:TE:=fun _ H Q=>∀ p,H p=none->Q (.ref p) (upd H p (.dK []))
section
variable {X:Cx} {pos:Pos}
theorem Q3:PE X (.Dict [] [] pos) Qs:=fun pins s O H Q I h =>
 wpAny_Dict_empty ⟨.ref s.heap.objs.size,_,I.laid (a:=s.heap.objs.size) (o:=.dK []) (t':=s.toks) (fun _ _ q=>aR _ q) (aC _) (zaV s.heap I.big),rfl,h _ (I.hok.fresh (aC _))⟩
end
def Vu:List (TE×TE)->St->Hp->(List (V×V)->Hp->Prop)->Prop
 | [],_,H,Q=>Q [] H
 | (tk,tv) :: r,O,H,Q=>tk O H fun x H1=>tv O H1 fun y H2=>Vu r O H2 fun ps H3=>Q ((x,y) :: ps) H3
abbrev VV:List (V×V)->List (Value×Value)->Prop:=Paired fun p q=>RelV p.1 q.1/\RelV p.2 q.2
def PPs (X:Cx) (pos:Pos) (keys:List (Option Expr)) (values:List Expr) (trs:List (TE×TE)):Prop :=
 ∀ (pins:List (Addr×Obj)) (s:Shared) (O:St) (H:Hp) (Q:List (V×V)->Hp->Prop),Inv X pins O H s->Vu trs O H Q ->
  wpAny (model X.prog X.w) X.A (evalPairs (pairTrees keys values X.env pos)) (fun vs s'=>∃ ps H',Inv X pins O H' s'/\VV ps vs/\Q ps H') X.xe s
theorem zbI:PPs X pos [] [] []:=fun pins s O H Q I h=>pairTrees_nil_walk ⟨[],H,I,.nil,h⟩
theorem QV (b:PE X k tk) (c:PE X v tv) (d:PPs X pos ks vs trs) :
  PPs X pos (some k :: ks) (v :: vs) ((tk,tv) :: trs):=fun pins s O H Q I h =>
 pairTrees_cons_walk (thn (b pins s O H _ I h) fun u s1 ⟨x,e,f,g,i⟩=>thn (c pins s1 O e _ f i) fun r s2 ⟨y,j,l,m,n⟩ =>
  thn (d pins s2 O j _ l n) fun ws t ⟨ps,o,p,a,q⟩=>⟨(x,y) :: ps,o,p,.cons ⟨g,m⟩ a,q⟩)
structure M1 (X:Cx) (o:Expr) (m:Str) (apos:Pos) (e:Expr) (cpos:Pos):Prop where
 base:attributeBase o m X.env (eval o X.env)=eval o X.env
 few:((backTo cpos (starEach [e] X.env)).all (fun x=>!x.1) && (backToKw cpos (keywordEach [] X.env)).all (fun x=>x.1.isSome)
  && decide (([e]:List Expr).length + ([]:List Keyword).length + (if ([]:List Keyword).isEmpty then 0 else 1) < 30))=true
 line:(apos.endLine == cpos.line)=true
 trees:backTo cpos (starEach [e] X.env)=[(false,eval e X.env)]
structure M2 (X:Cx) (o:Expr) (m:Str) (apos:Pos) (e f:Expr) (cpos:Pos):Prop where
 base:attributeBase o m X.env (eval o X.env)=eval o X.env
 few:((backTo cpos (starEach [e,f] X.env)).all (fun x=>!x.1) && (backToKw cpos (keywordEach [] X.env)).all (fun x=>x.1.isSome)
  && decide (([e,f]:List Expr).length + ([]:List Keyword).length + (if ([]:List Keyword).isEmpty then 0 else 1) < 30))=true
 line:(apos.endLine == cpos.line)=true
 trees:backTo cpos (starEach [e,f] X.env)=[(false,eval e X.env),(false,eval f X.env)]
def IsD (H:Hp) (a:Addr):Prop:=(∃ kvs,Rd H a (.dK kvs))\/∃ kvs,Rd H a (.dT kvs)
theorem V8 (I:Inv X pins O H s) (d:IsD H a) :
  s.TypeIs (.ref a) "dict" /\ (∀ b,Value.ref a=.ref b->∃ ob,s.heap.get? b=some ob/\ob.dict=none)/\(a == sysModules)=false:=by
 rcases d with ⟨kvs,e⟩ | ⟨kvs,e⟩
 ·obtain ⟨_,hd,vs,_,dd⟩:=t9 I.hok e
  refine ⟨dd.typeIs,fun b q=>?_,hd⟩
  cases q
  obtain ⟨ob,_,_,c,f,_⟩:=dd
  exact ⟨ob,c,f.2.1⟩
 ·obtain ⟨_,hd,xs,_,dd⟩:=t8 I.hok e
  refine ⟨dd.typeIs,fun b q=>?_,hd⟩
  cases q
  obtain ⟨ob,_,_,c,f,_⟩:=dd
  exact ⟨ob,c,f.2.1⟩
section
variable {X:Cx} {pins:List (Addr×Obj)} {O:St} {H:Hp} {s:Shared} {a:Addr} {y d:V} {u r:Value} {o:Option V} {A:Around} {E:Value->Shared->Prop}
theorem zd8 (m:A.units + 1 < cLine) (I:Inv X pins O H s) (g:DGet H a y o) (f:RelV y u) (h:∀ i j,Inv X pins O H j->RelV (o.getD .non) i->Q i j) :
  wpAny (model X.prog X.w) A (call (.builtin "dict.get") [.ref a,u]) Q E s:=by
 rcases g with ⟨kvs,k,e,d,l⟩ | ⟨kvs,k,b,e,d,n,l⟩
 ·subst d
  obtain ⟨z,hd,vs,c,dd⟩:=t9 I.hok e
  refine call_meetsIn dI dd.typeIs eK (PySem.F.args_dict_get_2 _ _) (meets_dict_get (yi X.prog X.w) a (ZR f) hd) ⟨_,dd.mapOf,h _ _ (I.tok _) ?_⟩
  rw [l]
  exact (c.val k).getD rfl
 ·subst d
  cases (show u=Value.ref b from f)
  obtain ⟨z,hd,xs,c,dd⟩:=t8 I.hok e
  refine call_meetsIn dI dd.typeIs eK (PySem.F.args_dict_get_2 _ _) (meetsH_dict_get (tupleKind (yi X.prog X.w)) a b hd) ⟨tupleKind_room_in1 m,k,xs,wY I.hok n,dd,h _ _ (I.tok _) ?_⟩
  rw [l]
  exact (c.val k).getD rfl
theorem zd7 (n:A.units + 1 < cLine) (I:Inv X pins O H s) (g:DGet H a y o) (i:RelV y u) (rd:RelV d r) (h:∀ j m,Inv X pins O H m->RelV (o.getD d) j->Q j m) :
  wpAny (model X.prog X.w) A (call (.builtin "dict.get") [.ref a,u,r]) Q E s:=by
 rcases g with ⟨kvs,k,e,f,l⟩ | ⟨kvs,k,b,e,f,p,l⟩
 ·subst f
  obtain ⟨z,hd,vs,c,dd⟩:=t9 I.hok e
  refine call_meetsIn dI dd.typeIs eK (PySem.F.args_dict_get_3 _ _ _) (meets_dict_get_default (yi X.prog X.w) a (ZR i) hd r) ⟨_,dd.mapOf,h _ _ (I.tok _) ?_⟩
  rw [l]
  exact (c.val k).getD rd
 ·subst f
  cases (show u=Value.ref b from i)
  obtain ⟨z,hd,xs,c,dd⟩:=t8 I.hok e
  refine call_meetsIn dI dd.typeIs eK (PySem.F.args_dict_get_3 _ _ _) (meetsH_dict_get_default (tupleKind (yi X.prog X.w)) a b hd r) ⟨tupleKind_room_in1 n,k,xs,wY I.hok p,dd,h _ _ (I.tok _) ?_⟩
  rw [l]
  exact (c.val k).getD rd
end
def Qu (td ty:TE):TE:=fun O H Q=>td O H fun x H1=>∃ a,x=.ref a/\IsD H1 a/\ty O H1 fun y H2=>∃ o,DGet H2 a y o/\Q (o.getD .non) H2
def Qt (td ty tx:TE):TE:=fun O H Q=>td O H fun x H1=>∃ a,x=.ref a/\IsD H1 a/\ty O H1 fun y H2=>tx O H2 fun z H3=>∃ o,DGet H3 a y o/\Q (o.getD z) H3
section
variable {X:Cx} {o e f:Expr} {apos cpos:Pos} {td ty tx:TE}
theorem Q6 (f:X.A.units + 1 < cLine) (i:PE X o td) (j:PE X e ty) (m:M1 X o "get" apos e cpos):PE X (.Call (.Attribute o "get" apos) [e] [] cpos) (Qu td ty):=by
 intro pins s O H Q I h
 refine wpAny_Call_method m.base m.few m.line eW dI PySem.F.type_dict_get (thn (i pins s O H _ I h) fun u s1 ⟨x,k,c,l,a,ex,d,n⟩=>?_)
 subst ex
 obtain rfl:u=Value.ref a:=l
 obtain ⟨p,q,_⟩:=V8 c d
 refine ⟨p,q,?_⟩
 rw [m.trees]
 refine Calls.callWith_builtin rfl (Calls.evalArgs_plain (Calls.spliced_cons (thn (j pins s1 O k _ c n) fun B s2 ⟨y,r,t,v,C,g,w⟩=>Calls.spliced_nil ?_)))
 exact zd8 f t g v fun D E z b=>⟨_,r,z,b,w⟩
theorem Q5 (i:X.A.units + 1 < cLine) (j:PE X o td) (k:PE X e ty) (l:PE X f tx) (m:M2 X o "get" apos e f cpos):PE X (.Call (.Attribute o "get" apos) [e,f] [] cpos) (Qt td ty tx):=by
 intro pins s O H Q I h
 refine wpAny_Call_method m.base m.few m.line eW dI PySem.F.type_dict_get (thn (j pins s O H _ I h) fun u s1 ⟨x,n,c,p,a,ex,d,q⟩=>?_)
 subst ex
 obtain rfl:u=Value.ref a:=p
 obtain ⟨r,t,_⟩:=V8 c d
 refine ⟨r,t,?_⟩
 rw [m.trees]
 refine Calls.callWith_builtin rfl (Calls.evalArgs_plain (Calls.spliced_cons (thn (k pins s1 O n _ c q) fun L s2 ⟨y,v,w,B,C⟩ =>
  Calls.spliced_cons (thn (l pins s2 O v _ w C) fun M N ⟨z,D,E,G,fF,g,J⟩=>Calls.spliced_nil ?_))))
 exact zd7 i E g B G fun P R K b=>⟨_,D,K,b,J⟩
end
section
variable {X:Cx} {pins:List (Addr×Obj)} {O:St} {H:Hp} {s:Shared} {a:Addr} {kvs:List (Key×V)} {A:Around} {E:Value->Shared->Prop}
end
section
variable {X:Cx} {pins:List (Addr×Obj)} {O:St} {H:Hp} {s:Shared} {a:Addr} {y:V} {u:Value} {A:Around} {E:Value->Shared->Prop}
end
end L2
namespace PD
open PySem L2
section
variable {K:aA} {S S':Sx} {U U':Bool} {Y Y' Y'':Ctx} {P:Post} {E:XK}
abbrev DTab:=List (Key×V)
def dGet (m:DTab) (k:Int):Option V:=valV m (.inl k)
def dPut (m:DTab) (k:Int) (v:V):DTab:=putK m (.inl k) v
theorem za1 (k:Int):dGet [] k=none:=rfl
theorem za0 (m:DTab) (k j:Int) (v:V):dGet (dPut m k v) j=if j=k then some v else dGet m j:=by
 unfold dGet dPut
 rw [Wl]
 by_cases h:j=k
 ·rw [if_pos h,if_pos (by rw [h])]
 ·rw [if_neg h,if_neg (fun z=>h (Sum.inl.inj z))]
theorem zaZ (m:DTab) (k:Int) (v:V):(dPut m k v).length<=m.length + 1:=xD m _ v
def toV:PyData->Option V
 | .int i=>some (.int i)
 | .bool b=>some (.bl b)
 | _=>none
theorem zdm (p:Rp K U S H0 F v d) (h:toV d=some w):v=w:=by
 cases d with
 | int i=>cases ym p;exact bI h
 | bool b=>cases uC p;exact bI h
 | _=>cases h
theorem Qm (h:toV d=some w):Rp K U S H0 F w d:=by
 cases d with
 | int i=>cases h;exact .int i
 | bool b=>cases h;exact .bl b
 | _=>cases h
theorem zch (es:SetC Y i (some (.od (.dK []))) Y') (k:ExT K S S' u Y' P):ExT K S S' (tSeq (tAsg Qs (yn i)) u) Y P:=fun H0 F0 H F O B e d vv D I=>by
 refine fun p a=>?_
 have g:Gr H F (upd H p (.dK [])) F:=.newO e.le a _
 have b:=(e.mono g).set (i:=i) (v:=.ref p) (x:=.od (.dK [])) ⟨p,rfl,⟨zi,e.le.free a,e.gr.h.free a,e.out a⟩⟩ fun c oc j y w l z f o=>by
  cases (show V.ref p=.ref c from oc)
  exact e.newOwn g a j y w z f o
 rw [es.eq] at b
 exact k H0 F0 _ F _ B b d vv D I
theorem T8 (h:GetC Y i (.od (.dK m))) (c:EvE K S false ta Y (.int k)):EvE K S U (Xh ta (tVar i)) Y (.bool (!(dGet m k).isSome)):=fun H0 F0 H F O e Q q=>c H0 F0 H F O e _ fun v d f b g=>by
 cases ym g
 obtain ⟨l,j,a,rfl,w⟩:=(e.mono b).has i _ h.eq
 exact ⟨_,j,a,_,rfl,DGet.k (k:=.inl k) w.h,q _ d f b (.bl _)⟩
theorem zcg (h:GetC Y i (.od (.dK m))) (l:EvE K S false tv Y d) (p:EvE K S false tk Y (.int k)) (q:toV d=some w) (hz:m.length < sizeLine) (es:SetC Y i (some (.od (.dK (dPut m k w)))) Y') (kk:P.nx Y'):ExS K S (zcU (tVar i) tk tv) Y P:=fun H0 F0 H F O B e r vv D I =>
 l H0 F0 H F O e _ fun v t u b x=>by
  cases zdm x q
  obtain ⟨J,g,a,rfl,o⟩:=(e.mono b).has i _ h.eq
  refine ⟨_,g,p H0 F0 t u O (e.mono b) _ fun L A C c E=>?_⟩
  cases ym E
  have G:=(e.mono b).mono c
  have o2:=o.mono c
  refine ⟨a,_,rfl,DPut.k (k:=.inl k) o2.h hz,?_⟩
  have j:=G.putO (oo:=.dK (dPut m k w)) (y:=.od (.dK (dPut m k w))) h.eq g (show Owns A (.ref a) (.od (.dK m)) a from rfl) ⟨a,rfl,⟨zi,o2.f,o2.n,o2.s⟩⟩ fun _ z=>z
  rw [es.eq] at j
  exact I.nx _ _ _ C kk ((r.trans b.f).trans c.f) j
abbrev zeo (K:aA) (m:DTab):Hp->Hp->Hp->Hp->V->Prop:=fun H0 F0 H F v=>Gr H0 F0 H F/\HasV K .fresh H0 H F v (.od (.dK m))
abbrev Wh (K:aA) (G:DTab->Prop):Hp->Hp->Hp->Hp->V->Prop:=fun H0 F0 H F v=>∃ m,G m/\zeo K m H0 F0 H F v
theorem T4 (h:GetC Y i (.od (.dK m))) (a:G m):ExM K (tRet (tVar i)) Y (Wh K G):=fun H0 F0 H F O e D q=>by
 obtain ⟨v,b,w⟩:=e.has i _ h.eq
 exact ⟨_,b,q _ H F ⟨m,a,e.gr,w⟩⟩
def spDW (K:aA) (pre:List PyData->(DTab->Prop)->Prop):Sp:=fun vs H Q _=>∃ F ds G,Same F H/\zO K F vs ds/\pre ds G/\∀ v H' F',Wh K G H F H' F' v->Q v H'
theorem Qx (h:∀ ds G,pre ds G->ds.length=n) (s:spDW K pre vs H Q E):vs.length=n:=by
 obtain ⟨F,ds,m,_,k,p,_⟩:=s
 rw [zO.length k]
 exact h ds m p
def dkO (m:DTab):Addr->HO:=fun _=>.dK m
theorem YN {pre:List PyData->(DTab->Prop)->Prop} {l:TA} {ds:List PyData} {G:DTab->Prop} {i:Nat} {u:TS} {b:DTab->Ctx} (h:EvA K .fresh false l Y ds) (A:pre ds G) (es:∀ m,SetC Y i (some (.xn (dkO m))) (b m)) (k:∀ m,G m->ExT K .fresh S' u (b m) P) :
  ExT K .fresh S' (tSeq (tAsg (v6 (spDW K pre) [] E l) (yn i)) u) Y P:=fun H0 F0 H F O B e C vv D I =>
 h H0 F0 H F O e _ fun vs J p g L=>⟨p,ds,G,g.le,by rw [bG];exact zP L,A,fun v q j ⟨m,M,d,a,ev,w⟩=>by
  have N:=e.mono g
  have s2:Same j (upd j a (.dK m)):=Same.new w.f _
  have r:Gr J p q (upd j a (.dK m)):=⟨d.h,d.f.trans s2,fun c o z=>by
   by_cases s:c=a
   ·subst s;rw [zi] at z;rw [<- z];exact w.h
   ·rw [zp s] at z;exact d.le _ _ z,fun c o z y=>by
   rw [zp (zB z w.n)];exact d.ap _ _ z y⟩
  have t:=(N.mono r).set (i:=i) (v:=v) (x:=.xn (dkO m)) ⟨a,ev,zi⟩ fun _ z=>z.elim
  rw [(es m).eq] at t
  exact k m M H0 F0 q _ _ B t (C.trans (g.f.trans r.f)) vv D I⟩
theorem zcu (h:GetC Y i (.xn (dkO m))) (c:EvE K S false ta Y (.int k)):EvE K S U (tDIn ta (tVar i)) Y (.bool (dGet m k).isSome):=fun H0 F0 H F O e Q q=>c H0 F0 H F O e _ fun v d f b g=>by
 cases ym g
 obtain ⟨l,j,a,rfl,w⟩:=(e.mono b).has i _ h.eq
 exact ⟨_,j,a,_,rfl,DGet.k (k:=.inl k) ((e.mono b).le _ _ w),q _ d f b (.bl _)⟩
theorem Z1 (h:GetC Y i (.xn (dkO m))) (c:EvE K S false ta Y (.int k)):EvE K S U (Xh ta (tVar i)) Y (.bool (!(dGet m k).isSome)):=fun H0 F0 H F O e Q q=>c H0 F0 H F O e _ fun v d f b g=>by
 cases ym g
 obtain ⟨l,j,a,rfl,w⟩:=(e.mono b).has i _ h.eq
 exact ⟨_,j,a,_,rfl,DGet.k (k:=.inl k) ((e.mono b).le _ _ w),q _ d f b (.bl _)⟩
theorem Vb (h:GetC Y i (.xn (dkO m))) (c:EvE K S false ta Y (.int k)) (f:dGet m k=some w) (g:toV d=some w):EvE K S U (Ux (tVar i) ta) Y d:=fun H0 F0 H F O e Q q=>by
 obtain ⟨r,j,a,rfl,o⟩:=e.has i _ h.eq
 refine ⟨_,j,c H0 F0 H F O e _ fun v l n b p=>?_⟩
 cases ym p
 refine ⟨a,w,rfl,?_,q w l n b (Qm g)⟩
 have:=DGet.k (k:=.inl k) (b.h _ _ (e.le _ _ o))
 rwa [show valV m (.inl k)=some w from f] at this
theorem YW (h:GetC Y i (.xn (dkO m))) (j:EvE K S false ta Y (.int k)) (hd:(dGet m k=none/\d=.none)\/∃ w,dGet m k=some w/\toV d=some w):EvE K S U (Qu (tVar i) ta) Y d:=fun H0 F0 H F O e Q q=>by
 obtain ⟨r,l,a,rfl,o⟩:=e.has i _ h.eq
 refine ⟨_,l,a,rfl,.inl ⟨m,.inl (e.le _ _ o)⟩,j H0 F0 H F O e _ fun v f g b n=>?_⟩
 cases ym n
 refine ⟨_,DGet.k (k:=.inl k) (b.h _ _ (e.le _ _ o)),?_⟩
 rcases hd with ⟨c,rfl⟩ | ⟨w,c,p⟩
 ·rw [show valV m (.inl k)=none from c]
  exact q _ f g b .non
 ·rw [show valV m (.inl k)=some w from c]
  exact q _ f g b (Qm p)
end
end PD
namespace So
open PySem PySem.W PyProof.Rows
section
variable {α β:Type} {lt:Nat->Nat->Bool} {n:Nat} {key:Nat->Int}
def ev (lt:Nat->Nat->Bool):KasT α->α
 | .ret a=>a
 | .ask i j k=>ev lt (k (lt i j))
theorem vV (f:α->KasT β):∀ t:KasT α,ev lt (t.bind f)=ev lt (f (ev lt t))
 | .ret _=>rfl
 | .ask i j k=>vV f (k (lt i j))
def Asks (n:Nat):KasT α->Prop
 | .ret _=>True
 | .ask i j k=>i < n/\j < n/\∀ b,Asks n (k b)
theorem vY:∀ {t:KasT α},Asks n t->(∀ a,Asks n (f a))->Asks n (t.bind f)
 | .ret a,_,h=>h a
 | .ask _ _ _,h,g=>⟨h.1,h.2.1,fun b=>vY (h.2.2 b) g⟩
theorem zcK (b:∀ i j C,i < n->j < n->C (lt i j) s->cmp i j C s):∀ (t:KasT α),Asks n t->Q (ev lt t) s->t.kasWp cmp Q s
 | .ret _,_,h=>h
 | .ask i j k,a,h=>b i j _ a.1 a.2.1 (zcK b (k (lt i j)) (a.2.2 _) h)
abbrev at' (p:Array Nat) (i:Nat):Nat:=p.getD i 0
theorem Wf (h:i < p.size):p[i]?=some (at' p i):=by simp [at',h]
theorem fG9 (h:p[i]?=q[j]?):at' p i=at' q j:=by
 show p.getD i 0=q.getD j 0
 rw [eT,eT,h]
structure PO (n:Nat) (p:Array Nat):Prop where
 z:p.size=n
 nd:p.toList.Nodup
 lt:∀ x∈p.toList,x < n
theorem PO.perm (h:PO n p) (e:q.Perm p):PO n q:=⟨e.size_eq.trans h.z,(Array.perm_iff_toList_perm.mp e).nodup_iff.mpr h.nd,fun x a=>h.lt x ((Array.perm_iff_toList_perm.mp e).mem_iff.mp a)⟩
theorem PO.at (h:PO n p) (i:Nat) (a:0 < n):at' p i < n:=by
 by_cases c:i < p.size
 ·refine h.lt _ (aS (i:=i) ?_)
  rw [dJ]
  exact Wf c
 ·show p.getD i 0 < n
  rw [eT,Array.getElem?_eq_none (by omega)]
  exact a
theorem PO.ne (h:PO n p) (hi:i < n) (d:j < n) (a:i≠j):at' p i≠at' p j:=fun e=>by
 have c:=Wf (p:=p) (i:=i) (by rw [h.z];exact hi)
 have b:=Wf (p:=p) (i:=j) (by rw [h.z];exact d)
 rw [<- e] at b
 rw [<- dJ] at c b
 obtain ⟨k,f⟩:=aP.mp c
 obtain ⟨l,g⟩:=aP.mp b
 exact a ((eC h.nd).mp (f.trans g.symm))
theorem yZ (p:Array Nat) (i j:Nat):(kas_rev p i j).Perm p:=mirror_perm ..
theorem Z9 (h:PO n p) (a:0 < n):∀ f m,Asks n (kas_asc p f m)
 | 0,_=>trivial
 | f + 1,m=>⟨h.at _ a,h.at _ a,fun b=>by cases b <;> first | exact trivial | exact Z9 h a f (m + 1)⟩
theorem Yx (h:PO n p) (a:0 < n) (m r:Nat):Asks n (kas_tail3 m r p):=vY (Z9 (h.perm (yZ ..)) a _ _) fun _=>trivial
theorem vW (a:0 < n):∀ (f:Nat) (p:Array Nat) (m q:Nat),PO n p->Asks n (kas_desc f p m q)
 | 0,_,_,_,_=>trivial
 | f + 1,p,m,q,h=>⟨h.at _ a,h.at _ a,fun b=>by
  cases b with
  | true =>
   show Asks n (if q > 0 then _ else _)
   split
   ·exact vW a f _ _ _ (h.perm (yZ ..))
   ·exact vW a f _ _ _ h
  | false=>exact ⟨h.at _ a,h.at _ a,fun d=>by cases d <;> first | exact trivial | exact vW a f _ _ _ h⟩⟩
def All (φ:α->Prop):KasT α->Prop
 | .ret a=>φ a
 | .ask _ _ k=>∀ b,All φ (k b)
theorem tj:∀ {t:KasT α},All φ t->(∀ a,φ a->All ψ (f a))->All ψ (t.bind f)
 | .ret a,h,g=>g a h
 | .ask _ _ _,h,g=>fun b=>tj (h b) g
theorem Z8:∀ {t:KasT α},Asks n t->All φ t->(∀ a,φ a->Asks n (f a))->Asks n (t.bind f)
 | .ret a,_,h,g=>g a h
 | .ask _ _ _,h,k,g=>⟨h.1,h.2.1,fun b=>Z8 (h.2.2 b) (k b) g⟩
theorem vH:∀ (f:Nat) (p:Array Nat) (m q:Nat),PO n p->All (fun r:Array Nat×Nat×Nat=>PO n r.1) (kas_desc f p m q)
 | 0,_,_,_,h=>h
 | f + 1,p,m,q,h=>fun b=>by
  cases b with
  | true =>
   show All _ (if q > 0 then _ else _)
   split
   ·exact vH f _ _ _ (h.perm (yZ ..))
   ·exact vH f _ _ _ h
  | false=>exact fun d=>by cases d <;> first | exact h | exact vH f _ _ _ h
theorem Yb (h:∀ a,φ a):∀ t:KasT α,All φ t
 | .ret a=>h a
 | .ask _ _ k=>fun b=>Yb h (k b)
theorem Wn (h:PO n p) (m r:Nat):All (fun r:Nat×Array Nat=>PO n r.2) (kas_tail3 m r p):=tj (Yb (φ:=fun _=>True) (fun _=>trivial) _) fun _ _=>h.perm (yZ ..)
theorem vQ (h:PO n p) (c:0 < n) (m r:Nat):Asks n (kas_descPart m r p)/\All (fun r:Nat×Array Nat=>PO n r.2) (kas_descPart m r p):=by
 refine ⟨Z8 (vW c _ _ _ _ h) (vH _ _ _ _ h) fun a b=>?_,tj (vH _ _ _ _ h) fun a b=>?_⟩
 ·split
  ·exact Yx (b.perm (yZ ..)) c _ _
  ·exact Yx b c _ _
 ·split
  ·exact Wn (b.perm (yZ ..)) _ _
  ·exact Wn b _ _
theorem Z4 (h:PO n p) (c:0 < n) (r:Nat):Asks n (kas_count r p)/\All (fun r:Nat×Array Nat=>PO n r.2) (kas_count r p):=by
 refine ⟨vY (Z9 h c _ _) fun a=>?_,tj (Yb (φ:=fun _=>True) (fun _=>trivial) _) fun a _=>?_⟩
 ·split
  ·exact trivial
  ·split
   ·exact ⟨h.at _ c,h.at _ c,fun b=>by cases b <;> first | exact trivial | exact (vQ (h.perm (yZ ..)) c _ _).1⟩
   ·exact (vQ h c _ _).1
 ·split
  ·exact h
  ·split
   ·exact fun b=>by cases b <;> first | exact h | exact (vQ (h.perm (yZ ..)) c _ _).2
   ·exact (vQ h c _ _).2
theorem ZD (h:PO n p) (a:0 < n) (k:Nat):∀ f l r,Asks n (kas_place p k f l r)
 | 0,_,_=>trivial
 | f + 1,l,r=>by
  show Asks n (if l>=r then _ else _)
  split
  ·exact trivial
  ·exact ⟨h.at _ a,h.at _ a,fun b=>by cases b <;> first | exact ZD h a k f _ _⟩
theorem Vl (a:0 < n):∀ (f:Nat) (p:Array Nat) (k:Nat),PO n p->Asks n (kas_bin f p k)
 | 0,_,_,_=>trivial
 | f + 1,p,k,h=>vY (ZD h a k _ _ _) fun l=>Vl a f _ _ (h.perm (bubble_perm ..))
theorem uF (n:Nat):PO n (List.toArray (List.range n)):=⟨by simp,List.nodup_range,fun x a=>List.mem_range.mp a⟩
theorem Tm (b:0 < n):Asks n (kas_sort n):=Z8 (Z4 (uF n) b n).1 (Z4 (uF n) b n).2 fun a c=>by
 split
 ·exact Vl b _ _ _ c
 ·exact trivial
end
section
variable {n:Nat} {key:Nat->Int}
def ltK (key:Nat->Int) (i j:Nat):Bool:=decide (key i < key j)
theorem ZP (h:key a < key b):ltK key a b=true:=decide_eq_true h
theorem zan (h:¬ key a < key b):¬ ltK key a b=true:=by unfold ltK;rw [decide_eq_false h];simp
structure Inj (n:Nat) (key:Nat->Int):Prop where
 i:∀ i j,i < n->j < n->key i=key j->i=j
def Up (key:Nat->Int) (p:Array Nat) (k:Nat):Prop:=∀ i j,i < j->j < k->key (at' p i) < key (at' p j)
def Dn (key:Nat->Int) (p:Array Nat) (k:Nat):Prop:=∀ i j,i < j->j < k->key (at' p j) < key (at' p i)
theorem PO.kne (h:PO n p) (hi:Inj n key) (a:i < n) (b:j < n) (c:i≠j):key (at' p i)≠key (at' p j):=fun e=>h.ne a b c (hi.i _ _ (h.at _ (by omega)) (h.at _ (by omega)) e)
theorem Um (h:PO n p) (hi:Inj n key):∀ f m,1<=m->m + f<=n->Up key p m->m<=ev (ltK key) (kas_asc p f m)/\ev (ltK key) (kas_asc p f m)<=m + f/\Up key p (ev (ltK key) (kas_asc p f m))/\(ev (ltK key) (kas_asc p f m) < m + f->key (at' p (ev (ltK key) (kas_asc p f m))) < key (at' p (ev (ltK key) (kas_asc p f m) - 1)))
 | 0,m,_,_,u=>⟨aC _,aC _,u,fun z=>absurd z (bN _)⟩
 | f + 1,m,m1,ml,u=>by
  have e:ev (ltK key) (kas_asc p (f + 1) m)=ev (ltK key) (if ltK key (at' p m) (at' p (m - 1))=true then .ret m else kas_asc p f (m + 1)):=rfl
  rw [e]
  by_cases c:key (at' p m) < key (at' p (m - 1))
  ·rw [if_pos (ZP c)]
   exact ⟨aC _,by show m<=_;omega,u,fun _=>c⟩
  ·rw [if_neg (zan c)]
   have ne:=h.kne hi (i:=m - 1) (j:=m) (by omega) (by omega) (by omega)
   have a:=Um h hi f (m + 1) (by omega) (by omega) fun i j b d=>by
    by_cases y:j=m
    ·subst y
     by_cases x:i=j - 1
     ·subst x;omega
     ·have:=u i (j - 1) (by omega) (by omega)
      omega
    ·exact u i j b (by omega)
   refine ⟨by omega,by omega,a.2.2.1,fun z=>a.2.2.2 (by omega)⟩
theorem fG3 (h:PO n p) (hi:Inj n key):∀ f m,1<=m->m + f<=n->Dn key p m->∃ r,ev (ltK key) (kas_desc f p m 0)=(p,r,0)/\m<=r/\r<=m + f/\Dn key p r
 | 0,m,_,_,u=>⟨m,rfl,aC _,aC _,u⟩
 | f + 1,m,m1,ml,u=>by
  have e:ev (ltK key) (kas_desc (f + 1) p m 0)=ev (ltK key) (if ltK key (at' p m) (at' p (m - 1))=true then kas_desc f p (m + 1) 0 else .ask (at' p (m - 1)) (at' p m) fun d=>if d=true then .ret (p,m,0) else kas_desc f p (m + 1) (0 + 1)):=rfl
  rw [e]
  have ne:=h.kne hi (i:=m - 1) (j:=m) (by omega) (by omega) (by omega)
  by_cases c:key (at' p m) < key (at' p (m - 1))
  ·rw [if_pos (ZP c)]
   obtain ⟨r,a,k,l,b⟩:=fG3 h hi f (m + 1) (by omega) (by omega) fun i j g o=>by
    by_cases y:j=m
    ·subst y
     by_cases x:i=j - 1
     ·subst x;omega
     ·have:=u i (j - 1) (by omega) (by omega)
      omega
    ·exact u i j g (by omega)
   exact ⟨r,a,by omega,by omega,b⟩
  ·rw [if_neg (zan c)]
   refine ⟨m,?_,aC _,by omega,u⟩
   show ev (ltK key) (if ltK key (at' p (m - 1)) (at' p m)=true then .ret (p,m,0) else _)=_
   rw [if_pos (ZP (by omega))]
   rfl
theorem QL (a:m<=p.size) (b:k < m):at' (kas_rev p 0 m) k=at' p (m - 1 - k):=by
 refine fG9 ?_
 show (mirror p 0 m ((m - 0) / 2))[k]?=_
 rw [getElem?_mirror_all a,if_pos ⟨aW _,b⟩,Nat.zero_add]
theorem zdq (a:m<=p.size) (u:Dn key p m):Up key (kas_rev p 0 m) m:=fun i j c b=>by
 rw [QL a (by omega),QL a b]
 exact u _ _ (by omega) (by omega)
structure CR (n:Nat) (key:Nat->Int) (r:Nat×Array Nat):Prop where
 p:PO n r.2
 u:Up key r.2 r.1
 l:r.1<=n
 o:1<=r.1
theorem zbo (h:PO n p) (hi:Inj n key) (c:1<=m) (d:m<=n) (u:Dn key p m):CR n key (ev (ltK key) (kas_tail3 m n p)):=by
 have b:=h.perm (yZ p 0 m)
 have a:=Um b hi (n - m) m c (by omega) (zdq (by rw [h.z];exact d) u)
 unfold kas_tail3
 rw [vV]
 exact ⟨b,a.2.2.1,by have:=a.2.1;show ev _ _<=n;omega,by show 1<=ev _ _;omega⟩
theorem za2 (h:PO n p) (hi:Inj n key) (l:1<=n):CR n key (ev (ltK key) (kas_count n p)):=by
 have a:=Um h hi (n - 1) 1 (aC _) (by omega) (fun i j f e=>absurd e (by omega))
 unfold kas_count
 rw [vV]
 generalize ev (ltK key) (kas_asc p (n - 1) 1)=m at a
 by_cases c:m=n
 ·rw [if_pos (by simp [c])]
  exact ⟨h,a.2.2.1,by show m<=n;omega,a.1⟩
 ·rw [if_neg (by simpa using c)]
  by_cases d:m > 1
  ·rw [if_pos d]
   have:key (at' p 0) < key (at' p (m - 1)):=a.2.2.1 0 (m - 1) (by omega) (by omega)
   show CR n key (ev (ltK key) (if ltK key (at' p 0) (at' p (m - 1))=true then .ret (m,p) else _))
   rw [if_pos (ZP this)]
   exact ⟨h,a.2.2.1,by show m<=n;omega,a.1⟩
  ·rw [if_neg d]
   obtain rfl:m=1:=by omega
   have b:=a.2.2.2 (by omega)
   unfold kas_descPart
   rw [vV]
   obtain ⟨r,g,o,q,k⟩:=fG3 h hi (n - (1 + 1)) (1 + 1) (by omega) (by omega) fun i j f e=>by
    obtain rfl:j=1:=by omega
    obtain rfl:i=0:=by omega
    exact b
   rw [g]
   show CR n key (ev (ltK key) (if 0 > 0 then _ else kas_tail3 r n p))
   rw [if_neg (bN 0)]
   exact zbo h hi (by omega) (by omega) k
structure PL (key:Nat->Int) (p:Array Nat) (k l:Nat):Prop where
 c:l<=k
 a:∀ i,i < l->key (at' p i) < key (at' p k)
 b:∀ i,l<=i->i < k->key (at' p k) < key (at' p i)
theorem ZC (h:PO n p) (hi:Inj n key) (kn:k < n) (u:Up key p k):∀ f l r,r - l<=f->l<=r->r<=k->(∀ i,i < l->key (at' p i) < key (at' p k))->(∀ i,r<=i->i < k->key (at' p k) < key (at' p i))->PL key p k (ev (ltK key) (kas_place p k f l r))
 | 0,l,r,hf,lr,rk,ha,hb=>⟨by show l<=k;omega,ha,fun i (b:l<=i) a=>hb i (by omega) a⟩
 | f + 1,l,r,hf,lr,rk,ha,hb=>by
  show PL key p k (ev (ltK key) (if l>=r then _ else _))
  by_cases c:l>=r
  ·rw [if_pos c]
   exact ⟨by show l<=k;omega,ha,fun i (b:l<=i) a=>hb i (by omega) a⟩
  ·rw [if_neg c]
   show PL key p k (ev (ltK key) (if ltK key (at' p k) (at' p ((l + r) / 2))=true then _ else _))
   have ne:=h.kne hi (i:=k) (j:=(l + r) / 2) (by omega) (by omega) (by omega)
   by_cases d:key (at' p k) < key (at' p ((l + r) / 2))
   ·rw [if_pos (ZP d)]
    refine ZC h hi kn u f l _ (by omega) (by omega) (by omega) ha fun i b a=>?_
    by_cases y:i=(l + r) / 2
    ·rw [y];exact d
    ·have:=u ((l + r) / 2) i (by omega) a
     omega
   ·rw [if_neg (zan d)]
    refine ZC h hi kn u f _ r (by omega) (by omega) rk (fun i b=>?_) hb
    by_cases y:i=(l + r) / 2
    ·rw [y];omega
    ·have:=u i ((l + r) / 2) (by omega) (by omega)
     omega
theorem za8 (a:k < p.size) (b:l<=k) (j:Nat):at' (bubble p k (k - l)) j=if j=l then at' p k else if l < j/\j<=k then at' p (j - 1) else at' p j:=by
 have:=getElem?_bubble a (k - l) (by omega) j
 rw [show k - (k - l)=l by omega] at this
 by_cases c:j=l
 ·rw [if_pos c] at this ⊢
  exact fG9 this
 ·rw [if_neg c] at this ⊢
  by_cases d:l < j/\j<=k
  ·rw [if_pos d] at this ⊢
   exact fG9 this
  ·rw [if_neg d] at this ⊢
   exact fG9 this
theorem zef (m:k < p.size) (u:Up key p k) (h:PL key p k l):Up key (bubble p k (k - l)) (k + 1):=fun i j o q=>by
 have n:=h.c
 rw [za8 m n i,za8 m n j]
 by_cases c:i=l
 ·rw [if_pos c,if_neg (by omega),if_pos (by omega)]
  exact h.b _ (by omega) (by omega)
 ·rw [if_neg c]
  by_cases d:l < i/\i<=k
  ·rw [if_pos d,if_neg (by omega),if_pos (by omega)]
   exact u _ _ (by omega) (by omega)
  ·rw [if_neg d]
   by_cases e:j=l
   ·rw [if_pos e]
    exact h.a i (by omega)
   ·rw [if_neg e]
    by_cases f:l < j/\j<=k
    ·rw [if_pos f]
     by_cases g:j - 1=i
     ·omega
     ·exact u _ _ (by omega) (by omega)
    ·rw [if_neg f]
     exact u _ _ o (by omega)
theorem zbc (hi:Inj n key):∀ (f:Nat) (p:Array Nat) (k:Nat),PO n p->k + f<=n->Up key p k->PO n (ev (ltK key) (kas_bin f p k))/\Up key (ev (ltK key) (kas_bin f p k)) (k + f)
 | 0,_,_,h,_,u=>⟨h,u⟩
 | f + 1,p,k,h,hk,u=>by
  have pl:=ZC h hi (k:=k) (by omega) u k 0 k (by omega) (aW _) (aC _) (fun i z=>absurd z (bW i)) fun i b a=>absurd a (by omega)
  have e:ev (ltK key) (kas_bin (f + 1) p k)=ev (ltK key) (kas_bin f (bubble p k (k - ev (ltK key) (kas_place p k k 0 k))) (k + 1)):=vV _ _
  rw [e]
  have:=zbc hi f _ (k + 1) (h.perm (bubble_perm p k (k - ev (ltK key) (kas_place p k k 0 k)))) (by omega) (zef (by rw [h.z];omega) u pl)
  rw [show k + (f + 1)=k + 1 + f by omega]
  exact this
theorem zbt (hi:Inj n key) (a:1<=n):PO n (ev (ltK key) (kas_sort n))/\Up key (ev (ltK key) (kas_sort n)) n:=by
 have c:=za2 (uF n) hi a
 unfold kas_sort
 rw [vV]
 generalize ev (ltK key) (kas_count n (List.toArray (List.range n)))=r at c
 by_cases d:r.1 < n
 ·rw [if_pos d]
  have m:=c.o
  have:=zbc hi (n - max r.1 1) r.2 (max r.1 1) c.p (by omega) (by rw [Nat.max_eq_left m];exact c.u)
  rw [show max r.1 1 + (n - max r.1 1)=n by omega] at this
  exact this
 ·rw [if_neg d]
  have:=c.l
  exact ⟨c.p,by rw [show n=r.1 by omega];exact c.u⟩
end
end So
namespace L2
open PySem PySem.Spec PySem.W PyProof.Rows
inductive Prs (h:Heap):List Value->List (Int×Int)->Prop
 | nil:Prs h [] []
 | cons {a:Addr} {o:Obj} {n:Nat} {x y:Int} {t u:Tok} {vs:List Value} {ps:List (Int×Int)}:h.get? a=some o->o.cls=.type "tuple" -> o.data=.seq #[.int x t,.int y u] n->Prs h vs ps->Prs h (.ref a :: vs) ((x,y) :: ps)
theorem Prs.keep (k:∀ b o,h.get? b=some o->o.cls=.type "tuple" -> h'.get? b=some o):∀ {vs:List Value} {ps:List (Int×Int)},Prs h vs ps->Prs h' vs ps
 | _,_,.nil=>.nil
 | _,_,.cons h1 h2 h3 r=>.cons (k _ _ h1 h2) h2 h3 (r.keep k)
theorem Prs.len:∀ {vs:List Value} {ps:List (Int×Int)},Prs h vs ps->vs.length=ps.length
 | _,_,.nil=>rfl
 | _,_,.cons _ _ _ r=>congrArg (· + 1) r.len
theorem Prs.get:∀ {vs:List Value} {ps:List (Int×Int)} {i:Nat},Prs h vs ps->i < vs.length->∃ a o n t u,vs.getD i .none=.ref a/\h.get? a=some o/\o.data=.seq #[.int (ps.getD i (0,0)).1 t,.int (ps.getD i (0,0)).2 u] n
 | _,_,_,.nil,hi=>absurd hi (bW _)
 | _,_,0,.cons h1 _ h3 _,_=>⟨_,_,_,_,_,rfl,h1,h3⟩
 | _,_,i + 1,.cons _ _ _ r,hi=>r.get (i:=i) (eL hi)
theorem Prs.tups:∀ {vs:List Value} {ps:List (Int×Int)},Prs h vs ps->∃ fs,KatTups h vs fs/\fs.length=vs.length/\∀ v∈fs,∃ x t,v=.int x t
 | _,_,.nil=>⟨[],.nil,rfl,fun _ z=>by cases z⟩
 | _,_,.cons h1 h2 h3 r=>by
  obtain ⟨fs,t,l,e⟩:=r.tups
  exact ⟨_ :: fs,.cons h1 h2 h3 rfl t,congrArg (· + 1) l,bJ.mpr ⟨⟨_,_,rfl⟩,e⟩⟩
def pk (q:Int×Int):Int:=q.1 * 1000 + q.2
def pkAt (ps:List (Int×Int)) (i:Nat):Int:=pk (ps.getD i (0,0))
structure vK (ps:List (Int×Int)):Prop where
 s:∀ q∈ps,0<=q.2/\q.2 < 1000
theorem vK.at (h:vK ps) (hi:i < ps.length):0<=(ps.getD i (0,0)).2/\(ps.getD i (0,0)).2 < 1000:=by
 rw [aM,bD hi]
 exact h.s _ (eB hi)
theorem zew (e:0<=b/\b < 1000) (f:0<=d/\d < 1000):pk (a,b) < pk (c,d)↔a < c\/a=c/\b < d:=by
 unfold pk
 show a * 1000 + b < c * 1000 + d↔_
 omega
section
variable {prog:Program} {w:World} {A:Around} {E:Value->Shared->Prop} {s:Shared} {vs:List Value} {ps:List (Int×Int)}
theorem zbH (T:Prs s.heap vs ps) (sm:vK ps) (hi:i < vs.length) (l:j < vs.length) (h:C (So.ltK (pkAt ps) i j) s):kas_ask prog w A (tuples' true) vs i j C s:=by
 obtain ⟨a,o,n,t,u,m,p,v⟩:=T.get hi
 obtain ⟨B,o',D,E,F,x,y,z⟩:=T.get l
 have s1:=sm.at (i:=i) (by rw [<- T.len];exact hi)
 have s2:=sm.at (i:=j) (by rw [<- T.len];exact l)
 unfold So.ltK pkAt at h
 unfold kas_ask
 rw [m,x]
 generalize ps.getD i (0,0)=q at *
 generalize ps.getD j (0,0)=r at *
 obtain ⟨b,f⟩:=q
 obtain ⟨e,g⟩:=r
 have k:=zew (a:=b) (c:=e) s1 s2
 refine kat_lt p v y z (kat_cons (wpAny_eqBool_int ?_))
 by_cases c:b=e
 ·rw [show (b == e)=true by simp [c]]
  refine kat_yes (kat_cons (wpAny_eqBool_int ?_))
  by_cases d:f=g
  ·rw [show (f == g)=true by simp [d]]
   refine kat_yes (kat_nil ?_)
   rw [decide_eq_false (by rw [k];omega)] at h
   exact h
  ·rw [show (f == g)=false by simp [d]]
   refine kat_no (kat_one _ _ (wpAny_lt_int (show C _ s from ?_)))
   rw [show decide (pk (b,f) < pk (e,g))=decide (f < g) from decide_eq_decide.mpr (by rw [k];omega)] at h
   exact h
 ·rw [show (b == e)=false by simp [c]]
  refine kat_no (oneLt_int ?_)
  rw [show decide (pk (b,f) < pk (e,g))=decide (b < e) from decide_eq_decide.mpr (by rw [k];omega)] at h
  exact h
theorem zdw (sm:vK ps) (nd:ps.Nodup):So.Inj ps.length (pkAt ps):=⟨fun i j hi a e=>by
 have s1:=sm.at hi
 have s2:=sm.at a
 unfold pkAt pk at e
 have b:ps.getD i (0,0)=ps.getD j (0,0):=Prod.ext (by omega) (by omega)
 rw [aM,aM,bD hi,bD a] at b
 exact (eC nd).mp b⟩
def outP (vs:List Value) (p:Array Nat):Array Value:=List.toArray (p.toList.map fun i=>vs.getD i .none)
theorem TN (k:s.heap.get? a=some (seqObj "list" vs.toArray n)) (T:Prs s.heap vs ps) (sm:vK ps) (nd:ps.Nodup) (u:vs.length < 64)
  (l:∀ p:Array Nat,So.PO vs.length p->So.Up (pkAt ps) p vs.length->P (.done (.ret .none)) { s with heap:=sortedHeap s.heap a vs (outP vs p) }):wpAny (model prog w) A (Builtin.«list.sort» ⟨[.ref a],[]⟩) P E s:=by
 have m:=aE k
 rw [list_sort_plain]
 refine wpAny_bind (listItems_at k rfl (wpAny_bind (listUpdate_at k rfl ?_)))
 obtain ⟨y,F⟩:∃ y,(s.heap.update a (Obj.mapSeq fun _=>#[])).get? a=some (seqObj "list" #[] y):=⟨_,get?_update_seq k _⟩
 refine wpAny_bind (seqEpoch_at F rfl (wpAny_bind (wpAny_newTuple (wpAny_bind (wpAny_newList (wpAny_holding ?_))))))
 generalize B:((s.heap.update a (Obj.mapSeq fun _=>#[])).push (seqObj "tuple" vs.toArray 0)).push (seqObj "list" #[] 0)=H
 have d:H.get? a=some (seqObj "list" #[] y):=by
  rw [<- B,Heap.get?_push_ne _ _ _ (by rw [size_push',Heap.size_update];exact aL (cX m))]
  rw [Heap.get?_push_ne _ _ _ (by rw [Heap.size_update];exact aL m)]
  exact F
 have I:Prs H vs ps:=T.keep fun b o z q=>by
  have M:b≠a:=by
   rintro rfl
   rw [k] at z
   cases z
   have q:Value.type "list" = Value.type "tuple" := q
   injection q with q
   exact absurd q (by decide)
  rw [<- B]
  refine aR _ (aR _ ?_)
  rw [Heap.get?_update_ne _ _ _ _ M]
  exact z
 have J:∀ out,sortedHeap s.heap a vs out=H.update a (Obj.mapSeq fun _=>out):=fun out=>by rw [<- B];rfl
 show wpAny (model prog w) A _ P E { s with heap:=H }
 dsimp only
 have N:vs.toArray.size=vs.length:=by simp
 by_cases f:vs.toArray.size < 2
 ·rw [if_pos f,if_pos f]
  refine wpAny_bind (wpAny_pure ?_)
  rw [StateT.run_pure]
  refine wpAny_bind (wpAny_pure ?_)
  dsimp only
  have r:(Array.map (fun x:c=>x.2) (vs.toArray.zip vs.toArray))=outP vs (List.toArray (List.range vs.length)):=by
   unfold outP
   match vs,f with
   | [],_=>simp
   | [v],_=>simp
   | _ :: _ :: _,f=>exact absurd f (by simp)
  refine wpAny_bind (seqEpoch_at d rfl (wpAny_bind (listUpdate_at d rfl ?_ (hsz2:=?_))))
  ·simp only [bne_self_eq_false,Bool.false_eq_true,if_false]
   refine wpAny_pure ?_
   have:=l _ (So.uF vs.length) fun i j K fF=>absurd fF (by omega)
   rw [J,<- r] at this
   exact this
  ·show (Array.map (fun x:c=>x.2) (vs.toArray.zip vs.toArray)).size<=_
   rw [r]
   unfold outP
   simp [sizeLine_eq]
   omega
 ·rw [if_neg f,if_neg f]
  obtain ⟨fs,t,fl,R⟩:=I.tups
  have S:wpAny (model prog w) A (keyKind' vs.toArray) (fun U g=>U=tuples' true/\g={ s with heap:=H }) (fun _ _=>False) { s with heap:=H } :=
   kat_kind (T:=.type "int") t (by omega) (fun v fG=>by
    obtain ⟨x,tk,rfl⟩:=R v fG
    exact Looks.of_pure rfl) (by decide) ⟨rfl,rfl⟩
  refine wpAny_bind (wpAny_mono S (fun U s0 V=>?_) fun _ _ z=>z.elim)
  obtain ⟨rfl,rfl⟩:=V
  have W:=kat_run (prog:=prog) (w:=w) (A:=A) (E:=E) (s:={ s with heap:=H }) (U:=tuples' true) (vs:=vs) (ks:=vs) (Q:=fun h g=>g={ s with heap:=H }/\failedOf h=none/\∃ p,arrOf h=p.map (kas_item (vs.toArray.zip vs.toArray))/\So.PO vs.length p/\So.Up (pkAt ps) p vs.length) (G:=fun p g=>g={ s with heap:=H }/\p=So.ev (So.ltK (pkAt ps)) (kas_sort vs.length)) rfl (by omega) u (fun p h g _ X fE ⟨Z,b4⟩=>by
    have so:=So.zbt (n:=vs.length) (by rw [T.len];exact zdw sm nd) (by omega)
    rw [<- b4] at so
    exact ⟨Z,fE,p,X,so.1,so.2⟩) (So.zcK (n:=vs.length) (lt:=So.ltK (pkAt ps)) (fun i j C K f hC=>zbH I sm K f hC) _ (So.Tm (by omega)) ⟨rfl,rfl⟩)
  refine wpAny_bind (wpAny_mono W ?_ fun _ _ e=>e)
  rintro ⟨⟨⟩,st⟩ g ⟨rfl,hf,p,D,L,up⟩
  dsimp only
  have r:(arrOf st).map (fun x:c=>x.2)=outP vs p:=kat_snds rfl D
  refine wpAny_bind (seqEpoch_at d rfl (wpAny_bind (listUpdate_at d rfl ?_ (hsz2:=?_))))
  ·rw [hf]
   simp only [bne_self_eq_false,Bool.false_eq_true,if_false]
   refine wpAny_pure ?_
   have:=l p L up
   rw [J,<- r] at this
   exact this
  ·show ((arrOf st).map (fun x:c=>x.2)).size<=_
   rw [r]
   unfold outP
   have:=L.z
   simp [sizeLine_eq]
   omega
theorem Vx (g:s.heap.IsList l vs.toArray) (T:Prs s.heap vs ps) (sm:vK ps) (nd:ps.Nodup) (d:vs.length < 64)
  (e:∀ p:Array Nat,So.PO vs.length p->So.Up (pkAt ps) p vs.length->Q (.ref (s.heap.objs.size + 1)) { s with heap:=sortedAll s.heap vs (outP vs p) }):wpAny (model prog w) A (call (.builtin "sorted") [.ref l]) Q E s:=by
 refine Calls.call_function_entry kind_sorted plain_sorted entry_sorted (args_sorted1 _) ?_
 unfold Builtin.«sorted»
 refine wpAny_bind (m:=checkCount "sorted" 1 1 _) (wpAny_pure (wpAny_bind (collect_list g (wpAny_bind (wpAny_newList ?_)))))
 generalize f:(s.heap.push (seqObj "list" #[] 0)).update s.heap.objs.size (Obj.mapSeq (· ++ vs.toArray))=H
 have a:H.objs.size=s.heap.objs.size + 1:=by rw [<- f,Heap.size_update,size_push']
 have c:(H.push (seqObj "list" vs.toArray 0)).get? (s.heap.objs.size + 1)=some (seqObj "list" vs.toArray 0):=by
  rw [<- a]
  exact bE _ rfl
 have h:Prs (H.push (seqObj "list" vs.toArray 0)) vs ps:=T.keep fun b o z _=>by
  have i:=aE z
  refine aR _ ?_
  rw [<- f,Heap.get?_update_ne _ _ _ _ (aL i)]
  exact aR _ z
 show wpAny _ _ _ _ _ { s with heap:=H.push (seqObj "list" vs.toArray 0) }
 rw [a]
 refine wpAny_bind (wpAny_holding (wpAny_call_entry slot_list_sort ⟨_,c,rfl⟩ entry_list_sort (TN (s:={ s with heap:=H.push (seqObj "list" vs.toArray 0) }) c h sm nd d fun p j up=>⟨_,rfl,?_⟩) (args_list_sort _)))
 have:=e p j up
 unfold sortedAll at this
 rw [f] at this
 exact wpAny_pure ⟨_,rfl,this⟩
end
inductive PsV (K:aA) (H:Hp):List V->List (Int×Int)->Prop
 | nil:PsV K H [] []
 | cons {a:Addr} {x y:Int} {ws:List V} {ps:List (Int×Int)}:SqT K H a [.int x,.int y]->PsV K H ws ps->PsV K H (.ref a :: ws) ((x,y) :: ps)
theorem PsV.len {K:aA} {H:Hp}:∀ {ws:List V} {ps:List (Int×Int)},PsV K H ws ps->ws.length=ps.length
 | _,_,.nil=>rfl
 | _,_,.cons _ r=>congrArg (· + 1) r.len
theorem QU (I:Inv X pins O H s):∀ {ws:List V} {ps:List (Int×Int)} {a:List Value},PsV X.K H ws ps->Vals ws a->Prs s.heap a ps
 | _,_,_,.nil,.nil=>.nil
 | _,_,_,.cons h r,.cons rx rs=>by
  cases rx
  obtain ⟨js,v,⟨o,b,c,n,d⟩,_⟩:=I.tuple h
  cases v with
  | cons e v =>
   cases v with
   | cons f v =>
    cases v
    obtain ⟨t,rfl⟩:=e
    obtain ⟨u,rfl⟩:=f
    exact .cons b c d (QU I r rs)
theorem Uu:∀ {ws:List V} {a:List Value} {i:Nat},Vals ws a->i < ws.length->RelV (ws.getD i .non) (a.getD i .none)
 | _,_,_,.nil,h=>absurd h (bW _)
 | _,_,0,.cons r _,_=>r
 | _,_,i + 1,.cons _ t,h=>Uu (i:=i) t (eL h)
theorem Yu (v:Vals ws its):∀ l:List Nat,(∀ i∈l,i < ws.length)->Vals (l.map fun i=>ws.getD i .non) (l.map fun i=>its.getD i .none)
 | [],_=>.nil
 | i :: l,h=>.cons (Uu v (h i aK)) (Yu v l fun j a=>h j (bA _ a))
def Zw (K:aA):List V->Hp->VK->Prop:=fun xs H Q=>∃ p ws ps,xs=[.ref p]/\SqL K H p ws/\PsV K H ws ps/\vK ps/\ps.Nodup/\ws.length < 64/\∀ q,So.PO ws.length q->So.Up (pkAt ps) q ws.length->∀ l,H l=none->Q (.ref l) (upd H l (.lst (q.toList.map fun i=>ws.getD i .non)))
section
variable {X:Cx} {K:aA}
theorem Wc:yq X (.builtin "sorted") (Zw X.K):=by
 intro pins s O H xs us Q I r h
 obtain ⟨p,ws,ps,rfl,e,pv,sm,nd,f,q⟩:=h
 obtain ⟨u,rfl,g⟩:=xh r
 cases g
 obtain ⟨a,d,pl,j⟩:=I.list e
 have k:=d.length
 refine Vx (vs:=a) pl.isList (QU I pv d) sm nd (by omega) fun y b up=>?_
 rw [<- k] at b up
 obtain ⟨c,l⟩:=sortedAll_at s.heap a (outP a y)
 have m:=Yu d y.toList b.lt
 have n:(y.toList.map fun i=>ws.getD i V.non).length<=sizeLine:=by
  rw [aB,cO,b.z]
  exact j
 exact ⟨.ref (s.heap.objs.size + 1),_,I.laid (t':=s.toks) (fun _ _=>sortedAll_old) (cK _) (show yj X.prog X.w _ _ _ (.lst (y.toList.map fun i=>ws.getD i V.non)) from ⟨n,_,c,m,l⟩),rfl,q y b up _ (I.hok.fresh (cK _))⟩
theorem Yr (a:X.K=K):yq X (.builtin "sorted") (Zw K):=by subst a;exact Wc
end
end L2
namespace PD
open PySem L2
def prD (q:Int×Int):PyData:=.tuple [.int q.1,.int q.2]
def srtP (ps:List (Int×Int)):List (Int×Int):=ps.mergeSort fun a b=>decide (pk a<=pk b)
theorem Yz (ps:List (Int×Int)):(srtP ps).Perm ps:=List.mergeSort_perm ps _
theorem tQ (ps:List (Int×Int)):(srtP ps).Pairwise fun a b=>pk a<=pk b:=by
 have:=List.pairwise_mergeSort (le:=fun a b:Int×Int=>decide (pk a<=pk b)) (fun a b c d e=>by simp at *;omega) (fun a b=>by simp;omega) ps
 exact this.imp fun h=>by simpa using h
theorem wU:∀ {a b:List (Int×Int)},vK a->a.Perm b->(a.Pairwise fun x y=>pk x<=pk y)->(b.Pairwise fun x y=>pk x<=pk y)->a=b
 | [],b,_,p,_,_=>p.nil_eq
 | x :: r,[],_,p,_,_=>absurd p.length_eq (by simp)
 | x :: r,y :: t,sm,p,h1,h2=>by
  have f:=dE.mp h1
  have g:=dE.mp h2
  have d:x∈y :: t:=p.mem_iff.mp aK
  have c:y∈x :: r:=p.mem_iff.mpr aK
  have s1:=sm.s x aK
  have s2:=sm.s y c
  have e:x=y:=by
   rcases aT.mp d with e | d
   ·exact e
   ·rcases aT.mp c with e | c
    ·exact e.symm
    ·have h:=g.1 x d
     have i:=f.1 y c
     unfold pk at h i
     exact Prod.ext (by omega) (by omega)
  subst e
  rw [wU ⟨fun q j=>sm.s q (bA _ j)⟩ p.cons_inv f.2 g.2]
theorem QX (d:α) (l:List α):(List.range l.length).map (fun i=>l.getD i d)=l:=by
 refine List.ext_getElem (by simp) fun i b a=>?_
 rw [List.getElem_map,List.getElem_range,aM,bD a]
 rfl
theorem zbZ {l:List Nat} {n:Nat} (nd:l.Nodup) (lt:∀ x∈l,x < n) (i:l.length=n):l.Perm (List.range n):=by
 refine (List.perm_ext_iff_of_nodup nd dZ).mpr fun x=>⟨fun h=>aZ.mpr (lt x h),fun h=>?_⟩
 have b:=aZ.mp h
 by_cases c:x∈l
 ·exact c
 ·exfalso
  have d:∀ (m:Nat) (l:List Nat),l.Nodup->(∀ x∈l,x < m)->l.length<=m:=fun m=>by
   induction m with
   | zero=>intro l _ h;cases l with
    | nil=>exact aC _
    | cons a t=>exact absurd (h a aK) (bW _)
   | succ m g =>
    intro l nd h
    have e:=g (l.erase m) (nd.erase m) fun x b=>by
     have j:=h x (List.mem_of_mem_erase b)
     have k:x≠m:=fun z=>by subst z;exact (List.Nodup.not_mem_erase nd) b
     omega
    have:=List.length_erase (a:=m) (l:=l)
    split at this <;> omega
  have:=d n (x :: l) (bV.mpr ⟨c,nd⟩) fun y f=>by
   rcases aT.mp f with rfl | f
   ·exact b
   ·exact lt y f
  have:l.length + 1<=n:=this
  omega
theorem Tv {ps:List (Int×Int)} {y:Array Nat} (sm:vK ps) (a:So.PO ps.length y) (up:So.Up (pkAt ps) y ps.length):(y.toList.map fun i=>ps.getD i (0,0))=srtP ps:=by
 have pm:(y.toList.map fun i=>ps.getD i (0,0)).Perm ps:=by
  have:=(zbZ a.nd a.lt (by rw [cO];exact a.z)).map fun i=>ps.getD i ((0:Int),(0:Int))
  rwa [QX] at this
 refine wU ⟨fun q c=>sm.s q (pm.mem_iff.mp c)⟩ (pm.trans (Yz ps).symm) ?_ (tQ ps)
 rw [List.pairwise_iff_getElem]
 intro i j hi b d
 rw [aB,cO,a.z] at hi b
 rw [List.getElem_map,List.getElem_map]
 have h:=up i j d b
 have e:So.at' y i=y.toList[i]'(by rw [Array.length_toList,a.z];exact hi):=by simp [So.at',a.z,hi]
 have f:So.at' y j=y.toList[j]'(by rw [Array.length_toList,a.z];exact b):=by simp [So.at',a.z,b]
 rw [e,f] at h
 exact Int.le_of_lt h
section
variable {K:aA} {S S':Sx} {U U':Bool} {Y Y':Ctx}
theorem QF:∀ {vs:List V} {ps:List (Int×Int)},zv K U S H0 F vs (ps.map prD)->PsV K F vs ps
 | _,[],.nil=>.nil
 | _,q :: ps,.cons h t=>by
  obtain ⟨a,xs,rfl,c,b⟩:=uf h
  cases b with
  | cons d b =>
   cases b with
   | cons e b =>
    cases b
    cases ym d
    cases ym e
    exact .cons c (QF t)
theorem WL (s:Same F H):∀ {vs:List V} {ps:List (Int×Int)},PsV K F vs ps->PsV K H vs ps
 | _,_,.nil=>.nil
 | _,_,.cons h t=>.cons (Same.seqT s h) (WL s t)
theorem QS:∀ {vs:List V} {ps:List (Int×Int)} {i:Nat},PsV K F vs ps->i < vs.length->Dp K F (vs.getD i .non) (prD (ps.getD i (0,0)))
 | _,_,_,.nil,h=>absurd h (bW _)
 | _,_,0,.cons h _,_=>.tup h (.cons (.int _) (.cons (.int _) .nil))
 | _,_,i + 1,.cons _ t,h=>QS (i:=i) t (eL h)
theorem WM (h:PsV K F vs ps):∀ l:List Nat,(∀ i∈l,i < vs.length)->zO K F (l.map fun i=>vs.getD i .non) ((l.map fun i=>ps.getD i (0,0)).map prD)
 | [],_=>.nil
 | i :: l,g=>.cons (QS h (g i aK)) (WM h l fun j a=>g j (bA _ a))
theorem Va (h:EvL K S false ta Y (ps.map prD)) (sm:vK ps) (nd:ps.Nodup) (i:ps.length < 64):EvO K S U (tCB (Zw K) (zR ta tNil)) Y ((srtP ps).map prD):=fun H0 F0 H F O e Q q =>
 h H0 F0 H F O e _ fun a vs o j b k m=>by
  have pv:=QF m
  have n:=pv.len
  refine ⟨a,vs,ps,rfl,k,WL b.le pv,sm,nd,by omega,fun y f up l g=>?_⟩
  have c:=WM pv y.toList f.lt
  rw [n] at f up
  rw [Tv sm f up] at c
  refine q l _ _ j (b.trans (.newO b.le g _)) (b.h.free g) zi (b.le.free g) (x6 (fun d hd=>?_) c)
  obtain ⟨z,_,rfl⟩:=aF.mp hd
  rfl
end
end PD
namespace Dsp
inductive Anc (pa:Nat->Nat->Prop):Nat->Nat->Prop
 | refl (v:Nat):Anc pa v v
 | step {a b c:Nat}:pa a b->Anc pa b c->Anc pa a c
def Hi (pa:Nat->Nat->Prop) (Z:Nat->Prop) (v:Nat):Prop:=∃ z,Z z/\Anc pa v z
inductive Bb (pa:Nat->Nat->Prop) (Z:Nat->Prop) (x:Nat):Nat->Bool->Prop
 | start:Bb pa Z x x false
 | up {v u:Nat} {w:Bool}:Bb pa Z x v w->pa u v->(w=true↔Z v)->Bb pa Z x u false
 | down {v u:Nat} {w:Bool}:Bb pa Z x v w->pa v u->¬ Z v->Bb pa Z x u true
def Cd (pa:Nat->Nat->Prop) (Z:Nat->Prop) (t v u:Nat):Prop:=(pa t v/\pa u v->Hi pa Z v)/\(¬ (pa t v/\pa u v)->¬ Z v)
def Adj (pa:Nat->Nat->Prop) (a b:Nat):Prop:=pa a b\/pa b a
def Ok (pa:Nat->Nat->Prop) (Z:Nat->Prop):List Nat->Prop
 | []=>True
 | u :: r=>match r with
  | []=>True
  | v :: s=>Adj pa v u/\(∀ t,s.head?=some t->Cd pa Z t v u)/\Ok pa Z r
section
variable {pa:Nat->Nat->Prop} {Z:Nat->Prop} {x y:Nat} {rk:Nat->Nat}
theorem yh:Ok pa Z (u :: v :: s)↔Adj pa v u/\(∀ t,s.head?=some t->Cd pa Z t v u)/\Ok pa Z (v :: s):=by
 rw [Ok]
theorem XN:Ok pa Z [u]:=by rw [Ok];trivial
theorem Ok.tail (h:Ok pa Z (u :: r)):Ok pa Z r:=by
 cases r with
 | nil=>rw [Ok];trivial
 | cons v s=>exact (yh.mp h).2.2
theorem Ok.suf:∀ {A:List Nat},Ok pa Z (A ++ B)->Ok pa Z B
 | [],h=>h
 | _ :: A,h=>Ok.suf (A:=A) (Ok.tail h)
theorem Ok.pre:∀ {A:List Nat},Ok pa Z (A ++ B)->Ok pa Z A
 | [],_=>by rw [Ok];trivial
 | [u],_=>XN
 | u :: v :: s,h=>by
  have h':=yh.mp h
  refine yh.mpr ⟨h'.1,fun t a=>h'.2.1 t ?_,Ok.pre (A:=v :: s) h'.2.2⟩
  cases s with
  | nil=>cases a
  | cons c s=>exact a
theorem Ok.at (d:T.head?=some t):∀ {A:List Nat},Ok pa Z (A ++ v :: T)->A.getLast?=some a->Cd pa Z t v a
 | [],_,e=>by cases e
 | [b],h,e=>by cases e;exact (yh.mp h).2.1 t d
 | b :: c :: A,h,e=>Ok.at d (A:=c :: A) (Ok.tail h) (by rw [List.getLast?_cons_cons] at e;exact e)
theorem Ok.splice (g:Ok pa Z (v :: D)):∀ {A:List Nat},Ok pa Z (A ++ v :: B)->(∀ a d,A.getLast?=some a->D.head?=some d->Cd pa Z d v a)->Ok pa Z (A ++ v :: D)
 | [],_,_=>g
 | [b],h,j=>yh.mpr ⟨(yh.mp h).1,fun t f=>j b t rfl f,g⟩
 | b :: c :: A,h,j=>by
  have h':=(yh (s:=A ++ v :: B)).mp h
  have i:=Ok.splice g (A:=c :: A) h'.2.2 fun a d k hd=>j a d (by rw [List.getLast?_cons_cons];exact k) hd
  refine (yh (s:=A ++ v :: D)).mpr ⟨h'.1,fun t f=>h'.2.1 t ?_,i⟩
  cases A with
  | nil=>exact f
  | cons e A=>exact f
theorem Hi.up (h:Hi pa Z b) (p:pa a b):Hi pa Z a:=let ⟨z,c,q⟩:=h;⟨z,c,.step p q⟩
theorem fG2 (f:∀ a b,pa a b->rk a < rk b):∀ (d:List Nat) (s0 s1 e:Nat),Ok pa Z (s0 :: s1 :: d)->pa s0 s1->(s1 :: d).getLast?=some e->Hi pa Z s0\/rk s0 < rk e
 | [],s0,s1,e,_,p,he=>by cases he;exact .inr (f _ _ p)
 | s2 :: d,s0,s1,e,h,p,he=>by
  obtain ⟨_,i,g⟩:=yh.mp h
  by_cases c:pa s2 s1
  ·exact .inl (Hi.up ((i s2 rfl).1 ⟨c,p⟩) p)
  ·have q:pa s1 s2:=by
    rcases (yh.mp g).1 with q | q
    ·exact absurd q c
    ·exact q
   rcases fG2 f d s1 s2 e g q (by rw [List.getLast?_cons_cons] at he;exact he) with z | z
   ·exact .inl (Hi.up z p)
   ·have:=f _ _ p
    exact .inr (by omega)
theorem zcN:∀ {l:List Nat},¬ l.Nodup->∃ A v B D,l=A ++ v :: (B ++ v :: D)
 | [],h=>absurd cE h
 | a :: r,h=>by
  by_cases c:a∈r
  ·obtain ⟨B,D,rfl⟩:=List.append_of_mem c
   exact ⟨[],a,B,D,rfl⟩
  ·obtain ⟨A,v,B,D,rfl⟩:=zcN (l:=r) fun z=>h (bV.mpr ⟨c,z⟩)
   exact ⟨a :: A,v,B,D,rfl⟩
theorem zbw (g:∀ a b,pa a b->rk a < rk b) (h:Ok pa Z (A ++ v :: (B ++ v :: D))):Ok pa Z (A ++ v :: D):=by
 have f:Ok pa Z (v :: (B ++ v :: D)):=h.suf
 have o:Ok pa Z (v :: D):=Ok.suf (A:=v :: B) f
 refine Ok.splice o h fun a d p hd=>?_
 obtain ⟨t,c⟩:∃ t,(B ++ v :: D).head?=some t:=by cases B with
  | nil=>exact ⟨_,rfl⟩
  | cons b B=>exact ⟨_,rfl⟩
 have l:Cd pa Z t v a:=Ok.at c h p
 have i:Adj pa t v:=by
  cases B with
  | nil=>cases c;exact (yh.mp f).1
  | cons b B=>cases c;exact (yh.mp f).1
 refine ⟨fun j=>?_,fun j=>?_⟩
 ·by_cases q:pa t v
  ·exact l.1 ⟨q,j.2⟩
  ·have r:pa v t:=i.resolve_left q
   have m:Ok pa Z (v :: (B ++ [v])):=by
    refine Ok.pre (B:=D) ?_
    rw [List.cons_append,cR]
    exact f
   obtain ⟨s,n⟩:∃ s,B ++ [v]=t :: s:=by cases B with
    | nil=>cases c;exact ⟨[],rfl⟩
    | cons b B=>cases c;exact ⟨B ++ [v],rfl⟩
   rw [n] at m
   rcases fG2 g s v t v m r (by rw [<- n,List.getLast?_append];rfl) with z | z
   ·exact z
   ·omega
 ·by_cases q:pa t v/\pa a v
  ·have nd:¬ pa d v:=fun z=>j ⟨z,q.2⟩
   obtain ⟨k,u⟩:∃ k,(A ++ v :: B).getLast?=some k:=by
    cases e:(A ++ v :: B).getLast? with
    | none=>rw [List.getLast?_eq_none_iff] at e;cases A <;> cases e
    | some k=>exact ⟨k,rfl⟩
   have w:Cd pa Z d v k:=Ok.at (A:=A ++ v :: B) hd (by rw [cR];exact h) u
   exact w.2 fun z=>nd z.1
  ·exact l.2 q
theorem Qz (c:∀ a b,pa a b->rk a < rk b):∀ (n:Nat) (l:List Nat),l.length<=n->Ok pa Z l->∃ l',Ok pa Z l'/\l'.Nodup/\l'.head?=l.head?/\l'.getLast?=l.getLast?
 | 0,l,hl,h=>⟨l,h,by rw [dH.mp (Nat.le_zero.mp hl)];exact cE,rfl,rfl⟩
 | n + 1,l,hl,h=>by
  by_cases nd:l.Nodup
  ·exact ⟨l,h,nd,rfl,rfl⟩
  ·obtain ⟨A,v,B,D,rfl⟩:=zcN nd
   obtain ⟨l',d,e,f,g⟩:=Qz c n (A ++ v :: D) (by simp only [List.length_append,List.length_cons] at hl ⊢;omega) (zbw c h)
   refine ⟨l',d,e,f.trans ?_,g.trans ?_⟩
   ·cases A <;> rfl
   ·rw [List.getLast?_append,List.getLast?_append,List.getLast?_cons,List.getLast?_cons,List.getLast?_append,List.getLast?_cons]
    rfl
theorem zeg (f:Anc pa v z) (hz:Z z):Bb pa Z x v true->¬ Z v->Bb pa Z x v false:=by
 induction f with
 | refl v=>exact fun _ n=>absurd hz n
 | step p _ g =>
  rename_i a b c _
  intro h n
  have d:Bb pa Z x b true:=.down h p n
  by_cases q:Z b
  ·exact .up d p ⟨fun _=>q,fun _=>rfl⟩
  ·exact .up (g hz d q) p ⟨fun e=>(by cases e),fun e=>absurd e q⟩
theorem zdb (d:∀ a b,pa a b->rk a < rk b) (f:¬ Z x):∀ (r:List Nat) (v:Nat),Ok pa Z (v :: r)->(v :: r).getLast?=some x->(r=[]/\Bb pa Z x v false)\/∃ t s,r=t :: s/\((pa t v/\Bb pa Z x v true)\/(pa v t/\Bb pa Z x v false))
 | [],v,_,e=>by cases e;exact .inl ⟨rfl,.start⟩
 | t :: s,v,h,e=>by
  have as:∀ {a b:Nat},pa a b->¬ pa b a:=fun p q=>by have:=d _ _ p;have:=d _ _ q;omega
  obtain ⟨g,l,m⟩:=yh.mp h
  refine .inr ⟨t,s,rfl,?_⟩
  rcases zdb d f s t m (by rw [List.getLast?_cons_cons] at e;exact e) with ⟨rfl,b⟩ | ⟨q,u,rfl,b⟩
  ·rw [List.getLast?_cons_cons] at e
   cases e
   rcases g with p | p
   ·exact .inl ⟨p,.down b p f⟩
   ·exact .inr ⟨p,.up b p ⟨fun e=>(by cases e),fun e=>absurd e f⟩⟩
  ·have c:=l q rfl
   rcases b with ⟨i,b⟩ | ⟨i,b⟩
   ·rcases g with p | p
    ·exact .inl ⟨p,.down b p (c.2 fun z=>as p z.2)⟩
    ·refine .inr ⟨p,?_⟩
     by_cases j:Z t
     ·exact .up b p ⟨fun _=>j,fun _=>rfl⟩
     ·obtain ⟨z,n,o⟩:=c.1 ⟨i,p⟩
      exact .up (zeg o n b j) p ⟨fun e=>(by cases e),fun e=>absurd e j⟩
   ·have k:¬ Z t:=c.2 fun z=>as i z.1
    rcases g with p | p
    ·exact .inl ⟨p,.down b p k⟩
    ·exact .inr ⟨p,.up b p ⟨fun e=>(by cases e),fun e=>absurd e k⟩⟩
theorem zeC (d:∀ a b,pa a b->rk a < rk b) (b:Bb pa Z x v w):∃ r,Ok pa Z (v :: r)/\(v :: r).getLast?=some x/\(w=true->∃ t s,r=t :: s/\pa t v)/\(w=false->r=[]\/∃ t s,r=t :: s/\pa v t):=by
 have as:∀ {a b:Nat},pa a b->¬ pa b a:=fun p q=>by have:=d _ _ p;have:=d _ _ q;omega
 induction b with
 | start=>exact ⟨[],XN,rfl,fun e=>(by cases e),fun _=>.inl rfl⟩
 | up _ p j f =>
  rename_i v u w _
  obtain ⟨r,g,h,k,l⟩:=f
  refine ⟨v :: r,yh.mpr ⟨.inr p,fun t i=>?_,g⟩,by rw [List.getLast?_cons_cons];exact h,fun e=>(by cases e),fun _=>.inr ⟨v,r,rfl,p⟩⟩
  cases r with
  | nil=>cases i
  | cons n s =>
   cases i
   cases w with
   | true =>
    obtain ⟨_,_,e,q⟩:=k rfl
    cases e
    exact ⟨fun _=>⟨v,j.mp rfl,.refl v⟩,fun c=>absurd ⟨q,p⟩ c⟩
   | false =>
    rcases l rfl with e | ⟨_,_,e,q⟩
    ·cases e
    ·cases e
     exact ⟨fun c=>absurd c.1 (as q),fun _ z=>by have:=j.mpr z;cases this⟩
 | down _ p m f =>
  rename_i v u w _
  obtain ⟨r,g,h,k,l⟩:=f
  exact ⟨v :: r,yh.mpr ⟨.inl p,fun t i=>⟨fun c=>absurd c.2 (as p),fun _=>m⟩,g⟩,by rw [List.getLast?_cons_cons];exact h,fun _=>⟨v,r,rfl,p⟩,fun e=>(by cases e)⟩
theorem vp (c:∀ a b,pa a b->rk a < rk b) (f:¬ Z x):(∃ w,Bb pa Z x y w)↔∃ l,Ok pa Z l/\l.Nodup/\l.head?=some y/\l.getLast?=some x:=by
 constructor
 ·rintro ⟨w,b⟩
  obtain ⟨r,d,g,_⟩:=zeC c b
  obtain ⟨l',h,i,j,k⟩:=Qz c _ _ (aC _) d
  exact ⟨l',h,i,j,k.trans g⟩
 ·rintro ⟨l,d,_,e,m⟩
  cases l with
  | nil=>cases e
  | cons v r =>
   cases e
   rcases zdb c f r _ d m with ⟨_,b⟩ | ⟨_,_,_,⟨_,b⟩ | ⟨_,b⟩⟩
   ·exact ⟨_,b⟩
   ·exact ⟨_,b⟩
   ·exact ⟨_,b⟩
theorem Cd.sy (h:Cd pa Z t v u):Cd pa Z u v t:=⟨fun c=>h.1 ⟨c.2,c.1⟩,fun c=>h.2 fun z=>c ⟨z.2,z.1⟩⟩
theorem Anc.trans (h:Anc pa a b) (k:Anc pa b c):Anc pa a c:=by
 induction h with
 | refl _=>exact k
 | step p _ d=>exact .step p (d k)
end
end Dsp
namespace PD
open PySem L2
section
variable {K:aA} {S S':Sx} {U U':Bool} {Y Y' Y'' Y3 Y4:Ctx} {P:Post}
theorem eg4 (d:SetC Y i (some (.fz U x)) Y') (f:SetC Y' j (some (.fz U y)) Y'') (g:SetC Y'' m (some (.fz U z)) Y3) (o:SetC Y3 l (some (.fz U t)) Y4) (h:k Y4):ExG K S U (gTup K 4 (uT (yn i) (uT (yn j) (uT (yn m) (uT (yn l) gNil))))) [i,j,m,l] (.tuple [x,y,z,t]) Y k:=fun H0 F0 H F O v e p Q q=>by
 obtain rfl:=d.eq
 obtain rfl:=f.eq
 obtain rfl:=g.eq
 obtain rfl:=o.eq
 obtain ⟨a,vs,rfl,r,b⟩:=uf p
 cases b with
 | cons s b=>cases b with
  | cons u b=>cases b with
   | cons w b=>cases b with
    | cons pt b =>
     cases b
     refine ⟨a,_,rfl,Same.seqT e.le r,rfl,_,_,rfl,_,_,rfl,_,_,rfl,_,_,rfl,rfl,?_⟩
     refine q _ _ H F h (.refl e.le) ((((e.setF s).setF u).setF w).setF pt) (by simp) fun n c=>?_
     rw [List.getElem?_set_ne (by intro z;exact c (by simp [z])),List.getElem?_set_ne (by intro z;exact c (by simp [z])),List.getElem?_set_ne (by intro z;exact c (by simp [z])),List.getElem?_set_ne (by intro z;exact c (by simp [z]))]
theorem zaH (l:EvE K S U ta Y a) (m:EvE K S U tb Y b) (n:EvE K S U tc Y c) (hd:EvG K S U td Y G):EvG K S U (tTup (zR ta (zR tb (zR tc (zR td tNil))))) Y (fun d=>∃ x,G x/\d=.tuple [a,b,c,x]):=fun H0 F0 H F O e Q q =>
 l H0 F0 H F O e _ fun va o r h s=>m H0 F0 o r O (e.mono h) _ fun t u v i w=>n H0 F0 u v O ((e.mono h).mono i) _ fun vc y z j A=>hd H0 F0 y z O (((e.mono h).mono i).mono j) _ fun x B I C D g E =>
  ⟨by show 4<=sizeLine;decide,fun p k=>q _ _ _ (upd C p (.tup [va,t,vc,B])) ⟨x,D,rfl⟩ ((((h.trans i).trans j).trans g).trans (.new g.le k _)) (.tup (SqT.of zi) (zw (Same.new (g.le.free k) _) (.cons (yA ((i.f.trans j.f).trans g.f) s) (.cons (yA (j.f.trans g.f) w) (.cons (yA g.f A) (.cons E .nil))))))⟩
end
end PD
namespace L2
open PySem PySem.Spec PyProof.Rows
def Cx.blkC (X:Cx) (y:Str) (N:List Str) (scope:Scope) (cl:List (Str×Addr)) (C:Addr) (s:Shared) (H:Hp) (fp:List Addr):Cx :=
 { X.blk N scope ((y,C + 1) :: cl) C s H fp with fn:=fun z=>z == y }
structure vZ (X:Cx) (y:Str) (N:List Str) (scope:Scope) (cl:List (Str×Addr)) (js:List (Option Nat)):Prop where
 clos:closureFor scope X.env=pure cl
 lay:∀ (n:Nat) (acc:List (Str×Addr)),cellsFrom n scope.names acc=(y,n) :: acc
 own:∀ z∈scope.names,z.2=.cell->z.1=y
 look:scope.names.lookup y=some .cell
 ny:¬ ∃ c,cl.lookup y=some c
 kind:scope.kind=.function
 names:∀ y∈scope.names,y.2=.local->scope.names.lookup y.1=some .local
 cells:∀ p∈cl,X.env.cells.lookup p.1=some p.2
 has:∀ y∈scope.names,y.2=.free->(cl.lookup y.1).isSome=true
 len:js.length=N.length
 cap:∀ (i j:Nat),js[i]?=some (some j)->∃ x,N[i]?=some x/\X.N[j]?=some x/\scope.names.lookup x=some .free/\(X.env.scope.names.lookup x=some .cell\/X.env.scope.names.lookup x=some .free)
theorem v7 {env:Env}:∀ {names:List (Str×NameKind)} {x:Str},
  ((names.map fun (n,k)=>if (k == NameKind.free && env.scope.kind == .function && env.kindOf n == some .cell) then (n,NameKind.cell) else (n,k)).lookup x=some .cell \/
   (names.map fun (n,k)=>if (k == NameKind.free && env.scope.kind == .function && env.kindOf n == some .cell) then (n,NameKind.cell) else (n,k)).lookup x=some .free)->∃ y∈names,y.1=x/\(y.2=.free\/y.2=.cell)
 | [],_,h=>by simp at h
 | (n,k) :: r,x,h=>by
  have d:=@v7 env r x
  have h':List.lookup x ((if (k == NameKind.free && env.scope.kind == .function && env.kindOf n == some .cell)=true then (n,NameKind.cell) else (n,k)) :: (r.map fun (n,k)=>if (k == NameKind.free && env.scope.kind == .function && env.kindOf n == some .cell) then (n,NameKind.cell) else (n,k)))=some .cell \/
   List.lookup x ((if (k == NameKind.free && env.scope.kind == .function && env.kindOf n == some .cell)=true then (n,NameKind.cell) else (n,k)) :: (r.map fun (n,k)=>if (k == NameKind.free && env.scope.kind == .function && env.kindOf n == some .cell) then (n,NameKind.cell) else (n,k)))=some .free:=h
  cases b:x == n with
  | true =>
   have e:x=n:=by simpa using b
   subst e
   by_cases a:(k == NameKind.free && env.scope.kind == .function && env.kindOf x == some .cell)=true
   ·have f:k=.free:=by
     cases k <;> first | rfl | (simp at a)
    exact ⟨(x,k),aK,rfl,.inl f⟩
   ·rw [if_neg a] at h'
    simp only [List.lookup_cons,b] at h'
    rcases h' with q | q
    ·cases q;exact ⟨(x,.cell),aK,rfl,.inr rfl⟩
    ·cases q;exact ⟨(x,.free),aK,rfl,.inl rfl⟩
  | false =>
   by_cases a:(k == NameKind.free && env.scope.kind == .function && env.kindOf n == some .cell)=true
   ·rw [if_pos a] at h'
    simp only [List.lookup_cons,b] at h'
    obtain ⟨y,c,e⟩:=d h'
    exact ⟨y,bA _ c,e⟩
   ·rw [if_neg a] at h'
    simp only [List.lookup_cons,b] at h'
    obtain ⟨y,c,e⟩:=d h'
    exact ⟨y,bA _ c,e⟩
theorem V0 (lay:∀ (n:Nat) (acc:List (Str×Addr)),cellsFrom n scope.names acc=(y,n) :: acc)
  (d:∀ h',h'.Ns s.heap.objs.size (fun _=>none)->h'.IsCell (s.heap.objs.size + 1) none->(∀ b o,s.heap.get? b=some o->h'.get? b=some o) ->
   Q (newEnv scope s.heap.objs.size globals ((y,s.heap.objs.size + 1) :: cl) qual none .none (some env) builtinsNs) { s with heap:=h' }) :
  wpAny M A (newFunctionEnv scope globals cl [] qual none .none (some env)) Q E s:=by
 simp only [newFunctionEnv,Option.isSome_some,if_true]
 refine wpAny_bind (wpAny_alloc ?_)
 refine wpAny_bind (wpAny_layCells _ (fun c kind cells=>by cases a:kind == NameKind.cell <;> simp [a]) _ _ _ _ ?_)
 have sz:({ s with heap:=s.heap.push { cls:=.type "dict", data:=.dict #[] } }:Shared).heap.objs.size=s.heap.objs.size + 1:=dG ..
 have ok:=cellsFrom_ok scope.names (s.heap.push { cls:=.type "dict", data:=.dict #[] }) (s.heap.objs.size + 1) [] ⟨fun _ _ f=>(nomatch f),List.Pairwise.nil⟩ (by rw [dG];exact aC _)
 rw [dG,lay] at ok
 rw [sz,lay,List.forIn_nil]
 refine wpAny_bind (wpAny_pure (wpAny_pure (d _ ?_ ?_ ?_)))
 ·exact (Heap.Ns.new s.heap (.type "dict")).keeps (pushCells_keeps _ _)
 ·exact (ok.empty y _ aK).1
 ·exact fun b o e=>pushCells_keeps _ _ b o (aR _ e)
section
variable {X:Cx} {y:Str} {N:List Str} {scope:Scope} {cl:List (Str×Addr)} {js:List (Option Nat)} {pins:List (Addr×Obj)} {O:St} {H:Hp} {s:Shared} {fp:List Addr}
theorem xt (h:((y,C) :: cl).lookup x=some c):(x=y/\c=C)\/(x≠y/\cl.lookup x=some c):=by
 rw [cU] at h
 cases a:x == y with
 | true=>rw [a] at h;cases h;exact .inl ⟨by simpa using a,rfl⟩
 | false=>rw [a] at h;exact .inr ⟨by simpa using a,h⟩
theorem UP (h:x≠y):((y,C) :: cl).lookup x=cl.lookup x:=by
 rw [cU]
 have:(x == y)=false:=by simpa using h
 rw [this]
theorem Uk (K:vZ X y N scope cl js) (I:Inv X pins O H s) (L:∀ b∈fp,FpOk X pins H b) (C:∀ b∈fp,b < s.heap.objs.size) {M:Heap} {W:Str->Option Value} {tk:Nat} (Z:M.Ns s.heap.objs.size W)
  (P:M.IsCell (s.heap.objs.size + 1) none) (fF:∀ b o,s.heap.get? b=some o->M.get? b=some o) :
  Inv (X.blkC y N scope cl s.heap.objs.size s H fp) [] (capt js O) H { s with heap:=M,toks:=tk }:=by
 have D:∀ b∈fp,b≠s.heap.objs.size:=fun b h=>aL (C b h)
 have t:∀ x c,cl.lookup x=some c->c < s.heap.objs.size:=fun x c e=>by
  obtain ⟨v,q⟩:=I.cell x c (K.cells (x,c) (PySem.mem_of_lookup e))
  exact q.lt
 have Q:∀ c,cl.lookup y≠some c:=fun c e=>by
  exact K.ny ⟨c,e⟩
 have a:∀ x c,cl.lookup x=some c->X.env.cells.lookup x=some c:=fun x c e=>K.cells (x,c) (PySem.mem_of_lookup e)
 refine ⟨⟨I.ok.mod,K.kind,I.ok.glob,I.ok.blt,aC _,fun x z c B A=>?_,fun x hx=>?_,fun x c z e=>?_,I.ok.hd,I.ok.frames,.inl rfl,fun b h=>⟨D b h,fun x c e=>?_⟩,
  I.bs,Nat.le_trans I.ok.bsz I.sz,fun b o e h=>?_,fun b h z=>?_,I.stack,I.stkFree,I.ok.tb.un I.base⟩,rfl,I.bare,Un.kept fF,⟨W,Z,fun i x v B A e3=>?_⟩,fun x c e=>?_,I.hok.fresh (Nat.le_refl _),fun x c e=>?_,fun p hp=>absurd (show p∈([]:List (Addr×Obj)) from hp) (by simp),I.hok.kept fF,?_⟩
 ·rcases xt B with ⟨q1,q2⟩ | ⟨n1,R⟩ <;> rcases xt A with ⟨q3,q4⟩ | ⟨n2,S⟩
  ·exact q1.trans q3.symm
  ·rw [q2] at S
   exact absurd (t z _ S) (Nat.not_lt.mpr (cK _))
  ·rw [q4] at R
   exact absurd (t x _ R) (Nat.not_lt.mpr (cK _))
  ·exact I.ok.inj x z c (a x c R) (a z c S)
 ·obtain ⟨z,fE,B,A | A⟩:=v7 hx
  ·have q:=K.has z fE A
   rw [B] at q
   obtain ⟨c,E⟩:=cW.mp q
   have ne:x≠y:=fun e=>by
    have:=K.names
    rw [e] at E
    exact Q c E
   exact ⟨c,by show ((y,s.heap.objs.size + 1) :: cl).lookup x=some c;rw [UP ne];exact E⟩
  ·have e:=K.own z fE A
   rw [B] at e
   refine ⟨s.heap.objs.size + 1,?_⟩
   show ((y,s.heap.objs.size + 1) :: cl).lookup x=_
   rw [e,cU,beq_self_eq_true]
 ·have z:(x == y)=true:=z
  rcases xt e with ⟨_,rfl⟩ | ⟨n,_⟩
  ·show s.heap.objs.size<=s.heap.objs.size + 1;omega
  ·exact absurd (by simpa using z) n
 ·rcases xt e with ⟨_,rfl⟩ | ⟨n,e⟩
  ·exact fun z=>absurd (z ▸ C b h) (Nat.not_lt.mpr (cK _))
  ·exact (L b h).2.2.2.2.1 x c (a x c e)
 ·rcases (L b h).2.2.2.1 with z | z
  ·exact I.ok.noex b o e z
  ·exact absurd (bF (aE e) (bO I.ok.bsz z)) (bN _)
 ·rcases aT.mp (I.stkSub b z) with q | q
  ·exact (L b h).2.1 q
  ·exact (L b h).2.2.1 q
 ·
  have hi:(capt js O)[i]?=some (some v):=A
  unfold capt at hi
  rw [aU] at hi
  cases T:js[i]? with
  | none=>rw [T] at hi;cases hi
  | some o =>
   rw [T] at hi
   cases o with
   | none=>cases hi
   | some j =>
    obtain ⟨y,fG,V,g,d⟩:=K.cap i j T
    have F:N[i]?=some x:=B
    rw [fG] at F
    cases F
    have hj:O[j]?=some (some v):=by
     cases q:O[j]? with
     | none=>have f:(Option.join O[j]?)=some v:=bI hi;rw [q] at f;cases f
     | some w=>have f:(Option.join O[j]?)=some v:=bI hi;rw [q] at f;cases w with
      | none=>cases f
      | some w=>exact congrArg some f
    obtain ⟨m,_,hl⟩:=I.loc
    obtain ⟨u,r,l⟩:=hl j x v V hj (.inr d)
    refine ⟨u,r,.inr ⟨d.imp (fun z=>wO I.ok.kind g z) (fun z=>wN g z),?_⟩⟩
    rcases l with ⟨k,_⟩ | ⟨_,c,ec,E⟩
    ·rcases d with d | d <;> exact absurd (k.symm.trans d) (by intro z;cases z)
    ·obtain ⟨c',G⟩:=cW.mp (K.has (x,.free) (PySem.mem_of_lookup g) rfl)
     have J:=a x c' G
     rw [ec] at J
     cases J
     have ne:x≠y:=fun e=>by
      rw [e,K.look] at g
      cases g
     exact ⟨c,by show ((y,s.heap.objs.size + 1) :: cl).lookup x=some c;rw [UP ne];exact G,E.keeps fF⟩
 ·rcases xt e with ⟨_,rfl⟩ | ⟨_,e⟩
  ·exact ⟨none,P⟩
  ·obtain ⟨v,hv⟩:=I.cell x c (a x c e)
   exact ⟨v,hv.keeps fF⟩
 ·rcases xt e with ⟨_,rfl⟩ | ⟨n,e⟩
  ·exact .inl (I.hok.fresh (cK _))
  ·exact (I.freeC x c (a x c e)).imp id fun z=>⟨(by show (x == y)=false;simpa using n),z.2⟩
 ·show (capt js O).length=N.length
  unfold capt
  rw [aB]
  exact K.len
theorem zbb (I:Inv X pins O H s) (k:∀ b∈fp,FpOk X pins H b) (J:Inv (X.blkC y N scope cl s.heap.objs.size s H fp) [] O' H' s') (i:Heap.SameBut s.heap.objs.size s'.heap h') :
  Inv X pins O H' { s' with heap:=h' }:=by
 have d:∀ b o,s.heap.get? b=some o->b≠s.heap.objs.size:=fun b o e=>aL (aE e)
 have u:=J.base
 have f:Un (frs X.stack) fp H H' s.heap s'.heap:=u
 refine I.call' (s':={ s' with heap:=h' }) (ch:=fp) J.os ⟨fun b o e n g h=>?_,fun b o e n g h=>?_,f.free,fun b o e h=>?_,f.tups,f.frzs,f.tbls⟩ (fun b ob e=>?_) J.bare fun b g=>?_
 ·exact (i.2 b (d b o e)).trans (f.keep b o e n g h)
 ·obtain ⟨sl,q⟩:=f.slot b o e n g h
  exact ⟨sl,(i.2 b (d b o e)).trans q⟩
 ·obtain ⟨o',q⟩:=f.there b o e h
  exact ⟨o',(i.2 b (d b o e)).trans q⟩
 ·have a:H' s.heap.objs.size=none:=J.free
  refine (J.hok b ob e).stay (fun c t j q=>(i.2 c ?_).trans q) (fun _ q=>q) fun _ _ q=>q
  rintro rfl
  rcases j with rfl | j
  ·rw [a] at e;cases e
  ·rw [a] at j;cases j
 ·obtain ⟨v,l,w,m,p,r⟩:=k b g
  exact ⟨m,l,p,r⟩
end
section
variable {X:Cx} {y:Str} {N:List Str} {scope:Scope} {cl:List (Str×Addr)} {js:List (Option Nat)} {pins:List (Addr×Obj)} {O:St} {H:Hp} {s:Shared}
theorem Ug {k tg f:Expr} {l:List Expr} {pos:Pos} {J:It} {fp:List Addr} {it:Addr} {tn:Nat->Heap->Prop} {g:TG} {tt:TT} {te:TE} {Q:VK} {E:Value->Shared->Prop} {RR:Value->Addr->Result->Shared->Prop}
  (hc:X.calm=true) (K:vZ X y N scope cl js) (I:Inv X pins O H s) (T:Turn X.prog X.w X.K tg J fp it tn) (st:tn 0 s.heap) (hf:∀ b∈fp,FpOk X pins H b)
  (hg:∀ C s H fp,PG (X.blkC y N scope cl C s H fp) tg g) (ht:∀ C s H fp,PIf (X.blkC y N scope cl C s H fp) l tt) (he:∀ C s H fp,PE (X.blkC y N scope cl C s H fp) k te)
  (hq:za3 J g tt te (capt js O) Q H)
  (a0:∀ (D:Addr) (a s':Shared) (H':Hp) (O':St),Inv X pins O (upd H D (.lst [])) a->(∀ b∈fp,FpOk X pins (upd H D (.lst [])) b)->Inv (X.blkC y N scope cl a.heap.objs.size a (upd H D (.lst [])) fp) [] O' H' s'->Q (.ref D) H'->RR (.ref D) a.heap.objs.size (.ok .next) s') :
  wpAny (model X.prog X.w) X.A (newList []) (fun acc a=>wpAny (model X.prog X.w) X.A (newFunctionEnv scope X.env.globals cl [] X.env.qual none .none (some X.env)) (fun h s4 =>
   codeAny (model X.prog X.w) X.A (.compStart (.ListComp k [⟨tg,f,l,0⟩] scope pos) 0 (.ref it) acc { h with scope:=relabel scope X.env }) (RR acc h.locals) s4) E a) E s:=by
 have fresh:H s.heap.objs.size=none:=I.fresh
 have lt:∀ b∈fp,b < s.heap.objs.size:=fun b d=>by
  obtain ⟨o,e,_⟩:=T.obj _ _ st b d
  exact aE e
 obtain ⟨W,⟨m0,w0⟩,step⟩:=hq _ fresh
 refine wpAny_newObj_type ?_
 have S:=I.lnew (ys:=[]) (its:=[]) (t':=s.toks) .nil (aW _)
 have F:∀ b∈fp,FpOk X pins (upd H s.heap.objs.size (.lst [])) b:=fun b d=>⟨by rw [zp (aL (lt b d))];exact (hf b d).1,(hf b d).2⟩
 generalize e3:({ s with heap:=s.heap.push { cls:=.type "list", data:=.seq ([]:List Value).toArray },toks:=s.toks }:Shared)=a at S
 have G:tn 0 a.heap:=by
  rw [<- e3]
  exact T.keep _ _ _ st fun b _ o e=>aR _ e
 have m:∀ b∈fp,b < a.heap.objs.size:=fun b d=>by
  obtain ⟨o,e,_⟩:=T.obj _ _ G b d
  exact aE e
 refine V0 K.lay (fun h4 n4 c4 old=>?_)
 have I4:=Uk K S F m (tk:=a.toks) n4 c4 old
 have L:tn 0 h4:=T.keep _ _ _ G fun b _ o e=>old b o e
 have q:∀ {H':Hp},(∀ b∈fp,H' b=none)->∀ b∈fp,FpOk (X.blkC y N scope cl a.heap.objs.size a (upd H s.heap.objs.size (.lst [])) fp) [] H' b:=fun hn b d =>
  ⟨hn b d,Nat.ne_of_lt (m b d),fun z=>(List.mem_cons.mp (S.stkSub b z)).elim (F b d).2.1 (F b d).2.2.1,.inl d,fun x c e=>(xt e).elim (fun z w=>absurd (z.2 ▸ w ▸ m b d) (Nat.not_lt.mpr (Nat.le_succ _))) fun z=>(F b d).2.2.2.2.1 x c (K.cells (x,c) (PySem.mem_of_lookup z.2)),fun p hp=>absurd (show p∈([]:List (Addr×Obj)) from hp) (by simp)⟩
 have j:codeAny (model X.prog X.w) X.A (.compLoop (.ListComp k [⟨tg,f,l,0⟩] scope pos) 0 (.ref it) (.ref s.heap.objs.size) (compEnvC scope ((y,a.heap.objs.size + 1) :: cl) a.heap.objs.size X.env)) (RR (.ref s.heap.objs.size) a.heap.objs.size)
   ({ a with heap:=h4,toks:=a.toks }:Shared):=by
  refine YX (fun n s'=>∃ i ys H',Inv (X.blkC y N scope cl a.heap.objs.size a (upd H s.heap.objs.size (.lst [])) fp) [] (capt js O) H' s'/\tn i s'.heap/\(∀ b∈fp,H' b=none)/\W i n ys H') (fun _ _=>False) (fun _ _ z=>z) ?_ m0
   ⟨0,[],_,I4,L,fun b d=>(F b d).1,w0⟩
  rintro n s5 ⟨i,ys,fG,I5,M,fF,w5⟩
  rcases step i n ys fG w5 with ⟨stop,qn⟩ | ⟨go,Nn,hN,a1⟩
  ·refine thn (T.done (X.blkC y N scope cl a.heap.objs.size a (upd H s.heap.objs.size (.lst [])) fp) rfl rfl rfl hc i [] s5 (capt js O) fG _ I5 (q fF) M stop) fun r s6 ⟨fE,I6⟩=>⟨fun _=>?_,fun v e=>?_⟩
   ·exact a0 _ a s6 fG _ S F I6 qn
   ·rw [fE] at e;cases e
  ·refine thn (T.item (X.blkC y N scope cl a.heap.objs.size a (upd H s.heap.objs.size (.lst [])) fp) rfl rfl rfl hc i [] s5 (capt js O) fG _ I5 (q fF) M go) fun r s6 ⟨u,fE,h6⟩=>⟨fun e=>?_,fun v e=>?_⟩
   ·rw [fE] at e;cases e
   rw [fE] at e;cases e
   refine thn h6 fun _ s7 ⟨x,H7,I7,r7,y7,t,a2⟩=>?_
   have a3:=I7.pinned (q a2) (T.obj _ _ t)
   have back:∀ {O':St} {H':Hp} {s':Shared} {i' n':Nat} {zs:List V},Inv (X.blkC y N scope cl a.heap.objs.size a (upd H s.heap.objs.size (.lst [])) fp) ([] ++ tH fp s7.heap) O' H' s'->Sub (capt js O) O'->W (i + 1) n' zs H' ->
     ∃ i ys H',Inv (X.blkC y N scope cl a.heap.objs.size a (upd H s.heap.objs.size (.lst [])) fp) [] (capt js O) H' s'/\tn i s'.heap/\(∀ b∈fp,H' b=none)/\W i n' ys H':=fun {O' H' s' i' n' zs} I' sb P=>by
    refine ⟨i + 1,zs,H',(I'.unpinned).weak sb.1 sb.2,T.keep _ _ _ t fun b d o e=>(I'.pin (b,o) (aO _ (aO _ (xr d e)))).1,fun b d=>?_,P⟩
    obtain ⟨o,e,_⟩:=T.obj _ _ t b d
    exact (I'.pin (b,o) (aO _ (aO _ (xr d e)))).2.1
   refine thn (hg _ _ _ _ _ s7 (capt js O) H7 x _ _ a3 r7 (a1 x H7 y7)) fun _ s8 ⟨B,H8,I8,R,q8⟩=>?_
   refine thn (ht _ _ _ _ _ s8 B H8 _ I8 q8) fun ok s9 ⟨H9,I9,Z⟩=>⟨fun e=>?_,fun e=>?_⟩
   ·rw [e,if_neg aY] at Z
    obtain ⟨m',hm,P⟩:=hN _ _ Z
    exact ⟨m',hm,back (i':=0) I9 R P⟩
   ·rw [e,if_pos rfl] at Z
    refine thn (he _ _ _ _ _ s9 B H9 _ I9 Z) fun xv sa ⟨v,Ha,Ia,ra,qa,za,nn⟩=>?_
    obtain ⟨m',hm,P⟩:=hN _ _ nn
    refine thn (yf (X:=X.blkC y N scope cl a.heap.objs.size a (upd H s.heap.objs.size (.lst [])) fp) _ sa B Ha (.ref s.heap.objs.size) [v] (.ref s.heap.objs.size) [xv] (fun y H'=>H'=upd Ha s.heap.objs.size (.lst (ys ++ [v]))) Ia rfl (.cons ra .nil) ⟨_,ys,v,rfl,rfl,qa,za,rfl⟩) fun y sb ⟨z,Hb,Ib,_,eb⟩=>?_
    rw [eb] at Ib
    exact ⟨m',hm,back (i':=0) Ib R P⟩
 exact codeAny_compStart_list j (T.self _ 0 _ _ _ L j)
theorem Q7 (d:X.calm=true) (K:vZ X y N scope cl js) (hi:PI X tg iter wi)
  (f:∀ C s H fp,PG (X.blkC y N scope cl C s H fp) tg g) (i:∀ C s H fp,PIf (X.blkC y N scope cl C s H fp) ifs tt) (j:∀ C s H fp,PE (X.blkC y N scope cl C s H fp) elt te)
  (k:∀ x,foldedSetIterable iter X.env x=pure x:=by intro _;rfl):PE X (.ListComp elt [⟨tg,iter,ifs,0⟩] scope pos) (ve js wi g tt te):=by
 intro pins s O H Q I h
 rw [eval_ListComp]
 refine wpAny_comprehension_free (use:=none) rfl k K.clos K.kind K.names (thn (hi pins s O H _ I h) fun v s1 l=>thn l fun n s2 o=>?_)
 obtain ⟨it,fp,tn,J,F,e,p,T,b,r,t⟩:=o
 subst e
 refine Ug (RR:=fun acc C=>compPost (model X.prog X.w) X.A X.xe none (EP X pins O Q) acc C) d K p T b r f i j t ?_
 intro D G L H' O' u z c q
 obtain ⟨m,B,_⟩:=c.loc
 exact ⟨m,B,fun E a=>⟨.ref D,H',zbb u z c a,rfl,q⟩⟩
end
theorem vZ.of (clos:closureFor scope X.env=pure cl) (lay:∀ (n:Nat) (acc:List (Str×Addr)),cellsFrom n scope.names acc=(y,n) :: acc) (own:(scope.names.all fun z=>z.2 != .cell || z.1 == y)=true) (look:scope.names.lookup y=some .cell) (ny:cl.lookup y=none) (kind:scope.kind=.function)
  (d:(scope.names.all fun y=>y.2 != .local || (scope.names.lookup y.1 == some .local))=true) (cells:∀ p∈cl,X.env.cells.lookup p.1=some p.2) (has:(scope.names.all fun y=>y.2 != .free || (cl.lookup y.1).isSome)=true)
  (len:js.length=N.length) (cap:((js.zip N).all fun p=>match p.1 with | none=>true | some j=>(X.N[j]? == some p.2) && (scope.names.lookup p.2 == some .free) && (X.env.scope.names.lookup p.2 == some .cell || X.env.scope.names.lookup p.2 == some .free))=true):vZ X y N scope cl js:=by
 rw [cC] at own d has cap
 refine ⟨clos,lay,fun z a e=>?_,look,fun ⟨c,e⟩=>(by rw [ny] at e;cases e),kind,fun y b e=>?_,cells,fun y b e=>?_,len,fun i j e=>?_⟩
 ·have q:=own z a
  rw [e] at q
  simpa using q
 ·have q:=d y b
  rw [e] at q
  simpa using q
 ·have q:=has y b
  rw [e] at q
  simpa using q
 ·have hi:i < js.length:=(aP.mp e).1
  have f:N[i]?=some (N[i]'(by omega)):=bD (by omega)
  have a:(js.zip N)[i]?=some (some j,N[i]'(by omega)):=by
   rw [List.getElem?_zip_eq_some]
   exact ⟨e,f⟩
  have q:=cap _ (aS a)
  simp only [Bool.and_eq_true,Bool.or_eq_true,beq_iff_eq] at q
  exact ⟨_,f,q.1.1,q.1.2,q.2⟩
end L2
namespace L2
open PySem PySem.Spec PyProof.Rows PySem.Calls
def VZ (o:Obj):Bool:=match o.cls,o.data with
 | .type "tuple", .seq its _=>(match its.toList with
  | [.int _ _,.int _ _]=>false
  | _=>true)
 | _,_=>true
def tY (K:aA):Bool:=K.all fun p=>VZ p.2
theorem zbX {K:aA} (h:tY K=true) {a:Addr} {o:Obj} (e:K.lookup a=some o):VZ o=true:=cC.mp h (a,o) (uj e)
theorem zdf {K:aA} (nt:tY K=true) {H:Hp} {a:Addr} {i j:Int} (h:SqT K H a [.int i,.int j]):Rd H a (.tup [.int i,.int j]):=by
 rcases h with h | ⟨o,d,n,e,g,k,_,b⟩
 ·exact h
 ·have c:=zbX nt e
  exfalso
  cases f:d.toList with
  | nil=>rw [f] at b;cases b
  | cons u r =>
   rw [f] at b
   cases b with
   | cons l b =>
    cases b with
    | cons m b =>
     cases b
     obtain ⟨s,p⟩:=l
     obtain ⟨t,q⟩:=m
     subst p q
     unfold VZ at c
     rw [g,k] at c
     simp only [f] at c
     cases c
abbrev pkey (i j:Int):List Key:=[.inl i,.inl j]
def Qr (tk tv:TE):TE:=fun O H Q=>∀ p,H p=none->Vu [(tk,tv)] O (upd H p (.dT [])) fun ps H2=>∃ x y b ks,ps=[(x,y)]/\x=.ref b/\Rd H2 b (.tup (ks.map kV))/\H2 p=some (.dT [])/\Q (.ref p) (upd H2 p (.dT [(ks,y)]))
theorem Q4 (r:X.A.units + 1 < cLine) (t:PE X k tk) (u:PE X v tv):PE X (.Dict [some k] [v] pos) (Qr tk tv):=by
 intro pins s O H Q I q
 have B:=I.hok.fresh (aC s.heap.objs.size)
 have C:=I.laid (a:=s.heap.objs.size) (o:=.dT []) (h':=s.heap.push { cls:=.type "dict", data:=.dict #[] }) (t':=s.toks) (fun _ _ q=>aR _ q) (aC _) (zaU s.heap I.big)
 refine wpAny_Dict_any rfl rfl (fun z=>nomatch z) (by show 1<=15;decide) (thn ((QV t u zbI) pins _ O _ _ C (q _ B)) fun ws s2 ⟨ps,D,f,g,x,y,b,E,h,ex,l,e,F⟩=>?_)
 subst h ex
 cases g with
 | @cons Z G J K L i =>
  cases i
  obtain ⟨M,vv⟩:=G
  obtain ⟨N,fF⟩:=L
  cases (show M=Value.ref b from N)
  obtain ⟨z,hd,xs,P,dd⟩:=zaT f.hok e
  cases P
  unfold storeAll
  rw [List.forIn_cons]
  refine wpAny_bind (wpAny_bind (wpAny_dictSet_heap (hsz:=aW _) (knd:=tupleKind (yi X.prog X.w)) (Nat.lt_of_succ_lt r) (wY f.hok l) dd fun h' j R=>wpAny_pure ?_))
  show wpAny _ _ (forIn ([]:List (Value×Value)) PUnit.unit _) _ _ _
  rw [List.forIn_nil]
  refine wpAny_pure ⟨.ref s.heap.objs.size,_,?_,rfl,F⟩
  obtain ⟨m,S,h,p,T,fG,V,_,W⟩:=j
  refine Zp f (by rw [e];exact True.intro) R ⟨m,p⟩ ⟨by show 1<=d;rw [sizeLine_eq];omega,hd,_,?_,m,S,h,p,T,fG,V,W⟩
  refine KT.keeps (H:=D) (KT.put (kvs:=[]) .nil E (Zr f.hok l) fF) fun c ys fE=>?_
  exact fE.imp (fun y=>by rw [zp (YI y e (fun z=>nomatch z))];exact y) fun ⟨o,n,y⟩=>⟨o,n,by rw [zp (YI y e (fun z=>nomatch z))];exact y⟩
end L2
namespace PD
open PySem L2
section
variable {K:aA} {S S':Sx} {U U':Bool} {Y Y' Y'':Ctx} {P:Post}
abbrev PTab:=List (List Key×V)
def tGet (m:PTab) (i j:Int):Option V:=valV m (pkey i j)
def tPut (m:PTab) (i j:Int) (v:V):PTab:=putK m (pkey i j) v
theorem Wp (m:PTab) (i j k l:Int) (v:V):tGet (tPut m i j v) k l=if k=i/\l=j then some v else tGet m k l:=by
 unfold tGet tPut
 rw [Wl]
 by_cases c:k=i/\l=j
 ·rw [if_pos c,c.1,c.2,if_pos rfl]
 ·rw [if_neg c,if_neg fun e=>c ?_]
  injection e with e1 e2
  injection e2 with e2 _
  injection e1 with e1
  injection e2 with e2
  exact ⟨e1,e2⟩
theorem Xs (nt:tY K=true) (le:Same F H) (p:Rp K U S H0 F v (.tuple [.int i,.int j])):∃ b,v=.ref b/\Rd H b (.tup ((pkey i j).map kV)):=by
 obtain ⟨b,vs,rfl,c,a⟩:=uf p
 cases a with
 | cons d a=>cases a with
  | cons e a =>
   cases a
   cases ym d
   cases ym e
   refine ⟨b,rfl,?_⟩
   rcases zdf nt c with z | ⟨o,z⟩
   ·exact .inl (le _ _ z)
   ·exact .inr ⟨o,le _ _ z⟩
theorem Qq (i j k l:Int) (v:V):tGet [(pkey i j,v)] k l=if k=i/\l=j then some v else none:=Wp [] i j k l v
end
end PD
namespace L2
open PySem PySem.Spec PyProof.Rows PySem.Calls
section
variable {prog:Program} {w:World} {U:Type} [DecidableEq U] {kd:HeapKind prog w U} {A:Around} {E:Value->Shared->Prop} {s:Shared}
theorem sdH (room:kd.room A) (a:kd.is s.heap k b) (l:s.heap.DictOfH kd D xs) (z:xs.length<=sizeLine)
  (m:∀ p,atKey xs k=some p->Q p.2 { s with toks:=s.toks + kd.draws k })
  (o:atKey xs k=none->∀ h',h'.DictOfH kd D (storedH xs k b r)->Heap.SameBut D s.heap h'->Q r { s with heap:=h',toks:=s.toks + kd.draws k }) :
  wpAny (model prog w) A (dictSetDefault D (.ref b) r) Q E s:=by
 obtain ⟨ob,t,n,g,cl,dd,en,f,nd⟩:=l
 unfold dictSetDefault
 refine wpAny_holding (wpAny_bind (kd.pyHash room a (wpAny_bind (wpAny_dictFind_heap (s:={ s with toks:=s.toks + kd.draws k }) room a g dd en f nd (fun no=>?_) fun j p h=>?_))))
 ·have i:=atKey_none_of_get no
  have u:=not_mem_keys_of_get no
  have sz:t.size<=sizeLine:=by have e:=size_of_entries en;omega
  refine wpAny_bind (wpAny_rule (wpAny_bind ?_))
  refine wpAny_updateDictKeys (hz:=sz) (s:={ s with toks:=s.toks + kd.draws k }) g dd (wpAny_pure (o i _ ?_ (Heap.SameBut.update ..)))
  rw [storedH_new i]
  refine ⟨_,_,n + 1,Heap.get?_update_self _ g (Obj.isFreed_of_dict (Obj.data_mapDictKeys dd _)),cl.mapDictKeys _,Obj.data_mapDictKeys dd _,by simp [en,entryOfKey],fun x c=>?_,?_⟩
  ·rcases aQ.mp c with y | y
   ·exact kd.keeps (f x y) g dd (Heap.SameBut.update ..)
   ·cases aD.mp y
    exact kd.keeps a g dd (Heap.SameBut.update ..)
  ·rw [aN,bU]
   refine ⟨nd,by simp,fun x c y d q=>u ?_⟩
   have d:y=k:=by simpa using d
   rw [<- d,<- q]
   exact c
 ·refine wpAny_bind (wpAny_dictEntries (s:={ s with toks:=s.toks + kd.draws k }) g dd ?_)
  rw [entry_at en j,h]
  exact wpAny_bind (wpAny_rule (wpAny_pure (m p (atKey_of_get nd h))))
theorem TL (D b:Addr) (ns:(D == sysModules)=false) (r:Value):MeetsIn prog w (Builtin.«dict.setdefault» ⟨[.ref D,.ref b,r],[]⟩) (fun A R s=>kd.room A.in1/\∃ k xs,kd.is s.heap k b/\s.heap.DictOfH kd D xs/\xs.length<=sizeLine /\
   (∀ p,atKey xs k=some p->R (.ok (.ret p.2)) { s with toks:=s.toks + kd.draws k }) /\
   (atKey xs k=none->∀ h',h'.DictOfH kd D (storedH xs k b r)->Heap.SameBut D s.heap h'->R (.ok (.ret r)) { s with heap:=h',toks:=s.toks + kd.draws k })) :=
 .of_wp fun A R s ⟨room,k,xs,a,c,z,d,f⟩=>by
  unfold Builtin.«dict.setdefault»
  refine wpAny_bind ?_
  unfold Builtin.Dict.keyAndDefault
  refine wpAny_bind (wpAny_notOrdered_dict c.typeIs (wpAny_pure ?_))
  show wpAny _ _ (if (D == sysModules)=true then _ else (dictSetDefault D (.ref b) r >>= _)) _ _ s
  rw [if_neg (by rw [ns];exact aY)]
  exact wpAny_bind (sdH room a c z (fun p e=>wpAny_pure ⟨_,rfl,d p e⟩) fun e h' g h=>wpAny_pure ⟨_,rfl,f e h' g h⟩)
end
def tDSd (td ty tx:TE):TE:=fun O H Q=>td O H fun x H1=>∃ a,x=.ref a/\IsD H1 a/\ty O H1 fun y H2=>tx O H2 fun z H3=>∃ b ks kvs,y=.ref b/\Rd H3 b (.tup (ks.map kV))/\H3 a=some (.dT kvs)/\kvs.length < sizeLine /\
 (∀ v,valV kvs ks=some v->Q v H3)/\(valV kvs ks=none->Q z (upd H3 a (.dT (putK kvs ks z))))
section
variable {X:Cx} {o e f:Expr} {apos cpos:Pos} {td ty tx:TE}
theorem zdy (G:X.A.units + 1 < cLine) (J:PE X o td) (K:PE X e ty) (L:PE X f tx) (m:M2 X o "setdefault" apos e f cpos):PE X (.Call (.Attribute o "setdefault" apos) [e,f] [] cpos) (tDSd td ty tx):=by
 intro pins s O H Q I h
 refine wpAny_Call_method m.base m.few m.line eW PySem.F.slot_dict_setdefault PySem.F.type_dict_setdefault (thn (J pins s O H _ I h) fun u s1 ⟨x,M,t,N,a,ex,d,fF⟩=>?_)
 subst ex
 obtain rfl:u=Value.ref a:=N
 obtain ⟨P,R,_⟩:=V8 t d
 refine ⟨P,R,?_⟩
 rw [m.trees]
 refine Calls.callWith_builtin rfl (Calls.evalArgs_plain (Calls.spliced_cons (thn (K pins s1 O M _ t fF) fun S s2 ⟨y,T,fG,V,W⟩ =>
  Calls.spliced_cons (thn (L pins s2 O T _ fG W) fun fE s3 ⟨z,r,l,B,b,j,kvs,Z,C,q,zl,p1,p2⟩=>Calls.spliced_nil ?_))))
 subst Z
 cases (show S=Value.ref b from V)
 obtain ⟨z',hd,xs,g,dd⟩:=zaT l.hok q
 have hl:xs.length=kvs.length:=g.length.symm
 refine call_meetsIn PySem.F.slot_dict_setdefault dd.typeIs PySem.F.entry_dict_setdefault (PySem.F.args_dict_setdefault_3 _ _ _) (TL (kd:=tupleKind (yi X.prog X.w)) a b hd fE) ⟨tupleKind_room_in1 G,j,xs,wY l.hok C,dd,by omega,fun p e=>?_,fun e h' d' sb=>?_⟩
 ·have i:=g.val j
  rw [e] at i
  cases k:valV kvs j with
  | none=>rw [k] at i;exact i.elim
  | some v =>
   rw [k] at i
   exact ⟨v,r,l.tok _,i,p1 v k⟩
 ·have i:=g.val j
  rw [e] at i
  cases k:valV kvs j with
  | some v=>rw [k] at i;exact i.elim
  | none =>
   obtain ⟨D,es,ep,E,h2,h3,h4,_,h5⟩:=d'
   refine ⟨z,upd r a (.dT (putK kvs j z)),?_,B,p2 k⟩
   refine Zp l (by rw [q];exact True.intro) sb ⟨D,E⟩ ⟨by have:=xD kvs j z;omega,hd,_,?_,D,es,ep,E,h2,h3,h4,h5⟩
   refine KT.keeps (H:=r) (KT.put g j (Zr l.hok C) B) fun c ys ec=>?_
   exact ec.imp (fun y=>by rw [zp (YI y q (fun z=>nomatch z))];exact y) fun ⟨o,n,y⟩=>⟨o,n,by rw [zp (YI y q (fun z=>nomatch z))];exact y⟩
end
end L2
namespace PD
open PySem L2
section
variable {K:aA} {S S':Sx} {U U':Bool} {Y Y' Y'':Ctx} {P:Post} {E:XK}
theorem DEnv.putNO (e:DEnv K S H0 F0 H F O Y) (h:Y[i]?=some (some x)) (t:O[i]?=some (some v)) (G:Owns H v x a)
  (k:HasV K S H0 (upd H a oo) F v y) (X:∀ c,Owns (upd H a oo) v y c->Owns H v x c\/c=b) (I:∀ (j:Nat) (f:DV) (u:V),Y[j]?=some (some f)->O[j]?=some (some u)->¬ Owns H u f b):DEnv K S H0 F0 (upd H a oo) F O (Y.set i (some y)):=by
 obtain ⟨v',J,fE⟩:=e.has i x h
 rw [t] at J
 cases J
 obtain ⟨ws,w⟩:=fE.owns G
 have Z:Same F (upd H a oo):=fun b u z=>by
  have:b≠a:=by rintro rfl;rw [w.f] at z;cases z
  rw [zp this];exact e.le _ _ z
 have L:=(aP.mp h).1
 have m:∀ {j:Nat} {f:DV} {u:V},j≠i->Y[j]?=some (some f)->O[j]?=some (some u)->¬ Owns H u f a:=fun {j f u} d z r o=>d (e.ne j i f x u v a z h r t o G)
 refine ⟨⟨fun b u z=>?_,e.gr.f,Z,e.gr.ap⟩,e.l0,fun b c=>?_,e.s0,by simp [e.len],fun j f z=>?_,fun j M x1 y1 N fF c g1 P B A o1 o2=>?_⟩
 ·rw [zp (zB z w.n)];exact e.gr.h _ _ z
 ·obtain ⟨o,q⟩:=e.sd b c
  by_cases Q:b=a
  ·subst Q;exact ⟨_,zi⟩
  ·exact ⟨o,by rw [zp Q];exact q⟩
 ·by_cases d:j=i
  ·subst d
   rw [bH L] at z
   cases z
   exact ⟨_,t,k⟩
  ·rw [bM (Ne.symm d)] at z
   obtain ⟨u,p,C⟩:=e.has j f z
   exact ⟨u,p,C.other (m d z p)⟩
 ·have bk:∀ {j:Nat} {f:DV} {u:V},(Y.set i (some y))[j]?=some (some f)->O[j]?=some (some u)->Owns (upd H a oo) u f c->(∃ g,Y[j]?=some (some g)/\Owns H u g c)\/(j=i/\c=b):=fun {j f u} z r o=>by
   by_cases d:j=i
   ·subst d
    rw [bH L] at z
    cases z
    rw [t] at r
    cases r
    rcases X c o with o | o
    ·exact .inl ⟨x,h,o⟩
    ·exact .inr ⟨rfl,o⟩
   ·rw [bM (Ne.symm d)] at z
    obtain ⟨u',p,C⟩:=e.has j f z
    rw [r] at p
    cases p
    exact .inl ⟨f,z,o.other C (m d z r)⟩
  rcases bk g1 B o1 with ⟨R,T,s⟩ | ⟨j1,c1⟩
  ·rcases bk P A o2 with ⟨D,E,l⟩ | ⟨fG,W⟩
   ·exact e.ne j M R D N fF c T E B A s l
   ·subst W
    exact absurd s (I j R N T B)
  ·rcases bk P A o2 with ⟨D,E,l⟩ | ⟨fG,W⟩
   ·subst c1
    exact absurd l (I M D fF E A)
   ·rw [j1,fG]
abbrev LTab:=Int->Int->Option (Bool×List PyData)
def LTab.put (T:LTab) (i j:Int) (e:Bool×List PyData):LTab:=fun k l=>if k=i/\l=j then some e else T k l
def LTab.frz (T:LTab) (i j:Int):LTab:=fun k l=>if k=i/\l=j then (T i j).map (fun e=>(false,e.2)) else T k l
def LTab.at (T:LTab) (i j:Int):List PyData:=match T i j with | some e=>e.2 | none=>[]
theorem LTab.put_eq (T:LTab) (i j:Int) (e:Bool×List PyData):T.put i j e i j=some e:=if_pos ⟨rfl,rfl⟩
theorem LTab.put_ne {T:LTab} {i j k l:Int} {e:Bool×List PyData} (h:¬ (k=i/\l=j)):T.put i j e k l=T k l:=if_neg h
theorem LTab.frz_ne {T:LTab} {i j k l:Int} (h:¬ (k=i/\l=j)):T.frz i j k l=T k l:=if_neg h
def adP (T:LTab) (H:Hp) (v:V) (a:Addr):Prop:=v=.ref a\/∃ p tab i j ds,v=.ref p/\H p=some (.dT tab)/\T i j=some (true,ds)/\tGet tab i j=some (.ref a)
def EnP (K:aA) (S:Sx) (H0 H F:Hp) (b:Addr):Bool×List PyData->Prop
 | (true,ds)=>∃ us,H b=some (.lst us)/\zv K true S H0 F us ds
 | (false,ds)=>Rp K true S H0 F (.ref b) (.list ds)
structure LtOk (K:aA) (T:LTab) (n:Nat) (S:Sx) (H0 H F:Hp) (p:Addr) (tab:PTab):Prop where
 h:H p=some (.dT tab)
 l:tab.length<=n
 no:∀ i j,T i j=none->tGet tab i j=none
 en:∀ i j e,T i j=some e->∃ b,tGet tab i j=some (.ref b)/\EnP K S H0 H F b e
 ap:∀ i j k l d1 d2 b,T i j=some (true,d1)->T k l=some (true,d2)->tGet tab i j=some (.ref b)->tGet tab k l=some (.ref b)->k=i/\l=j
def psP (K:aA) (T:LTab) (n:Nat):Sx->Hp->Hp->Hp->V->Prop:=fun S H0 H F v=>∃ p tab,v=.ref p/\LtOk K T n S H0 H F p tab
theorem EnP.mono (h:EnP K S H0 H F b e) (s:Same F F') (q:e.1=true->H' b=H b):EnP K S H0 H' F' b e:=by
 obtain ⟨fl,ds⟩:=e
 cases fl with
 | true =>
  obtain ⟨us,a,c⟩:=h
  exact ⟨us,by rw [q rfl];exact a,zw s c⟩
 | false=>exact yA s h
theorem gokP (K:aA) (T:LTab) (n:Nat):GOk (adP T) (psP K T n):=by
 refine ⟨fun H H' v c a=>⟨fun z=>?_,fun z=>?_⟩,fun S H0 H H' F F' v c s ⟨p,tab,ev,o⟩=>⟨p,tab,ev,?_⟩⟩
 ·rcases z with z | ⟨p,tab,i,j,ds,ev,d,f,g⟩
  ·exact .inl z
  ·rw [c p (.inl ev)] at d
   exact .inr ⟨p,tab,i,j,ds,ev,d,f,g⟩
 ·rcases z with z | ⟨p,tab,i,j,ds,ev,d,f,g⟩
  ·exact .inl z
  ·rw [<- c p (.inl ev)] at d
   exact .inr ⟨p,tab,i,j,ds,ev,d,f,g⟩
 ·refine ⟨by rw [c p (.inl ev)];exact o.h,o.l,o.no,fun i j e m=>?_,o.ap⟩
  obtain ⟨b,r,k⟩:=o.en i j e m
  refine ⟨b,r,k.mono s fun q=>c b (.inr ⟨p,tab,i,j,e.2,ev,o.h,?_,r⟩)⟩
  rw [m,<- q]
abbrev pT (K:aA) (T:LTab) (n:Nat):DV:=.og (adP T) (psP K T n)
theorem zcm (nt:tY K=true) {i:Nat} {tk fF:TE} {u:TS} {k l:Int} {ds:List PyData} (fE:EvE K S false tk Y (.tuple [.int k,.int l])) (Z:EvO K S true fF Y ds) (es:SetC Y i (some (pT K (LTab.put (fun _ _=>none) k l (true,ds)) 1)) Y') (kk:ExT K S S' u Y' P):ExT K S S' (tSeq (tAsg (Qr tk fF) (yn i)) u) Y P:=fun H0 F0 H F O B e bb vv D I=>by
 refine fun p r=>?_
 have Q:Gr H F (upd H p (.dT [])) F:=.newO e.le r _
 refine fE H0 F0 _ F O (e.mono Q) _ fun v1 H1 F1 a p1=>Z H0 F0 H1 F1 O ((e.mono Q).mono a) _ fun b us G J d L A fb kb=>?_
 obtain ⟨c,rfl,eb⟩:=Xs nt d.le (yA d.f p1)
 have N:G p=some (.dT []):=d.h _ _ (a.h _ _ zi)
 have C:J p=none:=d.ap p _ (a.h _ _ zi) (a.ap p _ zi (e.le.free r))
 refine ⟨_,_,c,pkey k l,rfl,rfl,eb,N,?_⟩
 have g:Gr H F (upd G p (.dT [(pkey k l,.ref b)])) J:=by
  refine ⟨fun c o z=>?_,a.f.trans d.f,fun c o z=>?_,fun c o z y=>?_⟩
  ·have ne:c≠p:=zB z r
   rw [zp ne]
   exact d.h _ _ (a.h _ _ (by rw [zp ne];exact z))
  ·have ne:c≠p:=fun q=>by rw [q,C] at z;cases z
   rw [zp ne]
   exact d.le _ _ z
  ·have ne:c≠p:=zB z r
   have E:upd H p (.dT []) c=some o:=by rw [zp ne];exact z
   exact d.ap c _ (a.h _ _ E) (a.ap c _ E y)
 have s:b≠p:=by rintro rfl;rw [a.h _ _ zi] at L;cases L
 have t:H b=none:=by
  cases q:H b with
  | none=>rfl
  | some o =>
   have:upd H p (.dT []) b=some o:=by rw [zp s];exact q
   rw [a.h _ _ this] at L
   cases L
 have tg:∀ m n:Int,tGet [(pkey k l,.ref b)] m n=if m=k/\n=l then some (.ref b) else none:=fun m n=>Qq k l m n _
 have lt:LtOk K (LTab.put (fun _ _=>none) k l (true,ds)) 1 S H0 (upd G p (.dT [(pkey k l,.ref b)])) J p [(pkey k l,.ref b)]:=by
  refine ⟨zi,aC _,fun m n z=>?_,fun m n e' z=>?_,fun i1 j1 i2 j2 d1 d2 b' E R _ _=>?_⟩
  ·rw [tg]
   by_cases q:m=k/\n=l
   ·rw [q.1,q.2,LTab.put_eq] at z
    cases z
   ·exact if_neg q
  ·by_cases q:m=k/\n=l
   ·rw [q.1,q.2,LTab.put_eq] at z
    cases z
    refine ⟨b,by rw [tg,if_pos q],us,by rw [zp s];exact A,kb⟩
   ·rw [LTab.put_ne q] at z
    cases z
  ·have T:i1=k/\j1=l:=Classical.byContradiction fun q=>by rw [LTab.put_ne q] at E;cases E
   have fG:i2=k/\j2=l:=Classical.byContradiction fun q=>by rw [LTab.put_ne q] at R;cases R
   exact ⟨fG.1.trans T.1.symm,fG.2.trans T.2.symm⟩
 have pl:∀ {c:Addr},adP (LTab.put (fun _ _=>none) k l (true,ds)) (upd G p (.dT [(pkey k l,.ref b)])) (.ref p) c->c=p\/c=b:=fun {c} z=>by
  rcases z with z | ⟨q,tab,m,n,a0,ev,V,_,M⟩
  ·cases z;exact .inl rfl
  ·cases ev
   rw [zi] at V
   cases V
   rw [tg] at M
   split at M
   ·cases M;exact .inr rfl
   ·cases M
 have W:=(e.mono g).set (i:=i) (v:=.ref p) (x:=pT K (LTab.put (fun _ _=>none) k l (true,ds)) 1) ⟨gokP K _ _,fun c z=>by
  rcases pl z with rfl | rfl
  ·exact ⟨_,⟨zi,C,e.gr.h.free r,e.out r⟩⟩
  ·exact ⟨_,⟨by rw [zp s];exact A,fb,e.gr.h.free t,e.out t⟩⟩,p,_,rfl,lt⟩ fun c oc j y w hj z X o=>by
  rcases pl oc with rfl | rfl
  ·exact e.newOwn g r j y w z X o
  ·exact e.newOwn g t j y w z X o
 rw [es.eq] at W
 exact kk H0 F0 _ J _ B W (bb.trans (a.f.trans d.f)) vv D I
theorem Xk {a:Type} {l:List a} {i:Nat} {x:a} (h:l[i]?=some x):l.set i x=l:=by
 obtain ⟨hi,rfl⟩:=aP.mp h
 exact List.set_getElem_self hi
theorem W8 {T:LTab} {i j:Int} (h:∀ ds,T i j≠some (true,ds)):T.frz i j=T:=by
 funext k l
 unfold LTab.frz
 by_cases q:k=i/\l=j
 ·rw [if_pos q,q.1,q.2]
  cases e:T i j with
  | none=>rfl
  | some p =>
   obtain ⟨fl,ds⟩:=p
   cases fl with
   | true=>exact absurd e (h ds)
   | false=>rfl
 ·rw [if_neg q]
theorem zcn (nt:tY K=true) {T:LTab} {n i j:Nat} {tk:TE} {u:TS} {c l:Int} {L M:Ctx} (h:GetC Y i (pT K T n)) (hk:EvE K S false tk Y (.tuple [.int c,.int l])) (fE:SetC Y i (some (pT K (T.frz c l) n)) L) (Z:SetC L j (some (.fz true (.list (T.at c l)))) M) (kk:ExT K S S' u M P) :
  ExT K S S' (tSeq (tAsg (Qt (tVar i) tk (tLst tNil)) (yn j)) u) Y P:=fun H0 F0 H F O B e bb vv D I=>by
 obtain ⟨v0,q1,ok,own,p,tab,rfl,lt⟩:=e.has i _ h.eq
 refine ⟨_,q1,p,rfl,.inr ⟨tab,.inl lt.h⟩,hk H0 F0 H F O e _ fun v1 E J R p1=>⟨aW _,fun z hz=>?_⟩⟩
 have fG:Gr E J (upd E z (.lst [])) (upd J z (.lst [])):=.new R.le hz _
 have W:=(e.mono R).mono fG
 have nz:=(e.mono R).out hz
 obtain ⟨kb,rfl,eb⟩:=Xs nt fG.le (yA fG.f p1)
 obtain ⟨v0,q2,a4,C,p2,x,ev,d⟩:=W.has i _ h.eq
 rw [q1] at q2
 cases q2
 cases ev
 refine ⟨tGet x c l,DGet.t (k:=pkey c l) d.h eb,?_⟩
 have a0:Same B (upd J z (.lst [])):=bb.trans (R.f.trans fG.f)
 have G:∀ (N:Hp) (v:V),Same (upd J z (.lst [])) N->DEnv K S H0 F0 (upd E z (.lst [])) N O (Y.set i (some (pT K (T.frz c l) n)))->Rp K true S H0 N v (.list (T.at c l))->u D (O.set j (some v)) (upd E z (.lst [])):=fun N v s e3 pv=>by
  have e4:=e3.setF (i:=j) pv
  rw [fE.eq,Z.eq] at e4
  exact kk H0 F0 _ N _ B e4 (a0.trans s) vv D I
 cases A:T c l with
 | none =>
  rw [d.no c l A]
  refine G _ _ (.refl _) ?_ ?_
  ·rw [W8 fun ds q=>(by rw [A] at q;cases q),Xk h.eq]
   exact W
  ·unfold LTab.at
   rw [A]
   exact .lst (LN.new nz) .nil
 | some en =>
  obtain ⟨b,X,he⟩:=d.en c l _ A
  rw [X]
  obtain ⟨fl,ds⟩:=en
  have ea:T.at c l=ds:=by unfold LTab.at;rw [A]
  cases fl with
  | false =>
   refine G _ _ (.refl _) ?_ (by rw [ea];exact he)
   rw [W8 fun ds q=>(by rw [A] at q;cases q),Xk h.eq]
   exact W
  | true =>
   obtain ⟨us,hu,fF⟩:=he
   have ob:Owns (upd E z (.lst [])) (.ref p) (pT K T n) b:=.inr ⟨p,x,c,l,ds,rfl,d.h,A,X⟩
   obtain ⟨o,w⟩:=C b ob
   have:=w.h
   rw [hu] at this
   cases this
   have np:b≠p:=by rintro rfl;rw [d.h] at hu;cases hu
   have sm:Same (upd J z (.lst [])) (upd (upd J z (.lst [])) b (.lst us)):=Same.new w.f _
   have back:∀ {g m:Int} {r:List PyData},T.frz c l g m=some (true,r)->T g m=some (true,r)/\¬ (g=c/\m=l):=fun {g m r} q=>by
    by_cases y:g=c/\m=l
    ·unfold LTab.frz at q
     rw [if_pos y,A] at q
     cases q
    ·rw [LTab.frz_ne y] at q
     exact ⟨q,y⟩
   have ko:∀ a,adP (T.frz c l) (upd E z (.lst [])) (.ref p) a->adP T (upd E z (.lst [])) (.ref p) a/\a≠b:=fun a q=>by
    rcases q with q | ⟨p',Q,g,m,r,ev,hp,a1,hg⟩
    ·exact ⟨.inl q,by cases q;exact np.symm⟩
    ·have bk:=back a1
     refine ⟨.inr ⟨p',Q,g,m,r,ev,hp,bk.1,hg⟩,fun y=>bk.2 ?_⟩
     cases ev
     rw [d.h] at hp
     cases hp
     subst y
     exact d.ap c l g m ds r _ A bk.1 X hg
   obtain ⟨_,e3⟩:=W.froz (y:=pT K (T.frz c l) n) h.eq q1 ob w ⟨gokP K _ _,fun a q=>by
     obtain ⟨o,w'⟩:=C a (ko a q).1
     exact ⟨o,w'.frz (ko a q).2⟩,p,x,rfl,d.h,d.l,fun g m q=>d.no g m (by
      by_cases y:g=c/\m=l
      ·unfold LTab.frz at q
       rw [if_pos y,A] at q
       cases q
      ·rwa [LTab.frz_ne y] at q),fun g m e' q=>by
      by_cases y:g=c/\m=l
      ·unfold LTab.frz at q
       rw [if_pos y,A] at q
       cases q
       refine ⟨b,by rw [y.1,y.2];exact X,?_⟩
       exact .lst (LN.new w.s) (zw sm fF)
      ·rw [LTab.frz_ne y] at q
       obtain ⟨b',a2,a3⟩:=d.en g m e' q
       exact ⟨b',a2,a3.mono sm fun _=>rfl⟩,fun i1 j1 i2 j2 d1 d2 b' z1 z2=>d.ap i1 j1 i2 j2 d1 d2 b' (back z1).1 (back z2).1⟩ fun a q=>(ko a q).1
   exact G _ _ sm e3 (by rw [ea];exact .lst (LN.new w.s) (zw sm fF))
theorem DEnv.forget (i:Nat) (e:DEnv K S H0 F0 H F O Y):DEnv K S H0 F0 H F O (Y.set i none):=by
 have bk:∀ (j:Nat) (d:DV),(Y.set i none)[j]?=some (some d)->Y[j]?=some (some d):=fun j d h=>by
  by_cases b:j=i
  ·subst b;rw [List.getElem?_set] at h;simp at h
  ·rw [bM (Ne.symm b)] at h;exact h
 exact ⟨e.gr,e.l0,e.sd,e.s0,by simp [e.len],fun j d h=>e.has j d (bk j _ h),fun m n x y v w a c f=>e.ne m n x y v w a (bk m _ c) (bk n _ f)⟩
theorem zbD {T:LTab} {i j:Int} {e f:Bool×List PyData}:(T.put i j e).put i j f=T.put i j f:=by
 funext k l
 by_cases q:k=i/\l=j
 ·rw [q.1,q.2,LTab.put_eq,LTab.put_eq]
 ·rw [LTab.put_ne q,LTab.put_ne q,LTab.put_ne q]
theorem zdY (nt:tY K=true) {T:LTab} {n i:Nat} {tk te:TE} {c l:Int} {d:PyData} {a4:Ctx} (h:GetC Y i (pT K T n)) (hk:EvE K S false tk Y (.tuple [.int c,.int l])) (hT:∀ ds,T c l≠some (false,ds)) (en:SetC Y i none a4) (he:EvE K S true te a4 d) (hn:n < sizeLine) (hz:(T.at c l).length < sizeLine)
  (es:SetC Y i (some (pT K (T.put c l (true,T.at c l ++ [d])) (n + 1))) Y') (k:P.nx Y'):ExS K S (v5 (tBM K "list" we (tDSd (tVar i) tk (tLst tNil)) (zR te tNil))) Y P:=fun H0 F0 H F O B e bb _ D I=>by
 obtain ⟨v0,N,ok,own,p,tab,rfl,lt⟩:=e.has i _ h.eq
 refine ⟨_,N,p,rfl,.inr ⟨tab,.inl lt.h⟩,hk H0 F0 H F O e _ fun v1 H1 F1 W p1=>⟨aW _,fun z J=>?_⟩⟩
 have g2:Gr H1 F1 (upd H1 z (.lst [])) F1:=.newO W.le J _
 have e2:=(e.mono W).mono g2
 have nz:=(e.mono W).out J
 have z0:H z=none:=W.h.free J
 obtain ⟨kb,rfl,eb⟩:=Xs nt g2.le p1
 obtain ⟨v0,q2,ai,X,p2,g,ev,t⟩:=e2.has i _ h.eq
 rw [N] at q2
 cases q2
 cases ev
 have l2:=t.l
 have li:=(aP.mp h.eq).1
 have a5:∀ (E:LTab) (H3:Hp) (b:Addr) (A:PTab),DEnv K S H0 F0 H3 F1 O (Y.set i (some (pT K E (n + 1))))->E c l=some (true,T.at c l)->E.put c l (true,T.at c l ++ [d])=T.put c l (true,T.at c l ++ [d])->H3 p=some (.dT A)->tGet A c l=some (.ref b) ->
   tyV K "list" (.ref b) H3/\(zR te tNil) O H3 fun xs H4=>we (.ref b) xs H4 fun _ H5=>D.nx O H5:=fun E H3 b A e3 t1 tp a6 fF=>by
  have L:(Y.set i (some (pT K E (n + 1))))[i]?=some (some (pT K E (n + 1))):=bH li
  obtain ⟨v0,q3,aj,ag,p3,af,ev,a7⟩:=e3.has i _ L
  rw [N] at q3
  cases q3
  cases ev
  have:=a7.h
  rw [a6] at this
  cases this
  obtain ⟨b',a8,us,hu,a9⟩:=a7.en c l _ t1
  rw [fF] at a8
  cases a8
  have eN:=e3.forget i
  rw [List.set_set,en.eq] at eN
  refine ⟨.inl ⟨rfl,_,SqL.of hu⟩,he H0 F0 H3 F1 O eN _ fun v H4 F4 g4 p4=>?_⟩
  have a0:=g4.h _ _ hu
  have Q:=g4.h _ _ a6
  refine ⟨b,us,v,rfl,rfl,a0,by rw [zv.length a9];exact hz,?_⟩
  have e4:=e3.mono g4
  obtain ⟨v0,q4,ak,aa,al,ah,ev,G⟩:=e4.has i _ L
  rw [N] at q4
  cases q4
  cases ev
  have:=G.h
  rw [Q] at this
  cases this
  have ob:Owns H4 (.ref p) (pT K E (n + 1)) b:=.inr ⟨p,A,c,l,_,rfl,Q,t1,fF⟩
  have np:b≠p:=by rintro rfl;rw [Q] at a0;cases a0
  have back:∀ {m r:Int} {x:List PyData},E.put c l (true,T.at c l ++ [d]) m r=some (true,x)->∃ a1,E m r=some (true,a1):=fun {m r x} q=>by
   by_cases y:m=c/\r=l
   ·rw [y.1,y.2]
    exact ⟨_,t1⟩
   ·rw [LTab.put_ne y] at q
    exact ⟨_,q⟩
  have ko:∀ a,adP (E.put c l (true,T.at c l ++ [d])) (upd H4 b (.lst (us ++ [v]))) (.ref p) a->adP E H4 (.ref p) a:=fun a q=>by
   rcases q with q | ⟨p',fE,m,r,x,ev,hp,a2,L⟩
   ·exact .inl q
   ·cases ev
    rw [zp np.symm] at hp
    obtain ⟨a1,t0⟩:=back a2
    exact .inr ⟨p,fE,m,r,a1,rfl,hp,t0,L⟩
  have e5:=e4.put (vs:=us ++ [v]) (y:=pT K (E.put c l (true,T.at c l ++ [d])) (n + 1)) L N ob ⟨gokP K _ _,fun a q=>by
    obtain ⟨o,w⟩:=aa a (ko a q)
    by_cases ab:a=b
    ·subst ab
     exact ⟨_,⟨zi,w.f,w.n,w.s⟩⟩
    ·exact ⟨o,w.other ab⟩,p,A,rfl,by rw [zp np.symm];exact Q,G.l,fun m r q=>G.no m r (by
     by_cases y:m=c/\r=l
     ·rw [y.1,y.2,LTab.put_eq] at q
      cases q
     ·rwa [LTab.put_ne y] at q),fun m r Z q=>by
     by_cases y:m=c/\r=l
     ·rw [y.1,y.2,LTab.put_eq] at q
      cases q
      exact ⟨b,by rw [y.1,y.2];exact fF,us ++ [v],zi,zv.append (zw g4.f a9) (.cons p4 .nil)⟩
     ·rw [LTab.put_ne y] at q
      obtain ⟨b2,R,fG⟩:=G.en m r Z q
      refine ⟨b2,R,fG.mono (.refl _) fun et=>zp fun z=>y ?_⟩
      subst z
      have q:E m r=some (true,Z.2):=by rw [q,<- et]
      exact G.ap c l m r _ _ _ t1 q fF R,fun i1 j1 i2 j2 d1 d2 b' z1 z2=>by
     obtain ⟨_,w1⟩:=back z1
     obtain ⟨_,w2⟩:=back z2
     exact G.ap i1 j1 i2 j2 _ _ b' w1 w2⟩ ko
  rw [List.set_set,tp,es.eq] at e5
  exact I.nx _ _ _ F4 k (bb.trans (W.f.trans g4.f)) e5
 refine ⟨kb,pkey c l,g,rfl,eb,t.h,by omega,fun v M=>?_,fun M=>?_⟩
 ·have M:tGet g c l=some v:=M
  cases C:T c l with
  | none=>rw [t.no c l C] at M;cases M
  | some ac =>
   obtain ⟨fl,ds⟩:=ac
   cases fl with
   | false=>exact absurd C (hT ds)
   | true =>
    obtain ⟨b,hb,_⟩:=t.en c l _ C
    rw [hb] at M
    cases M
    have ea:T.at c l=ds:=by unfold LTab.at;rw [C]
    refine a5 T _ b g ?_ (by rw [ea];exact C) rfl t.h hb
    have hh:HasV K S H0 (upd H1 z (.lst [])) F1 (.ref p) (pT K T (n + 1)):=⟨gokP K _ _,X,p,g,rfl,t.h,by omega,t.no,t.en,t.ap⟩
    have e6:=e2.set (i:=i) hh fun a oa j y w hj zj hw o=>hj (e2.ne j i y _ w _ a zj h.eq hw N o oa)
    rw [Xk N] at e6
    exact e6
 ·have M:tGet g c l=none:=M
  have C:T c l=none:=by
   cases q:T c l with
   | none=>rfl
   | some ac =>
    obtain ⟨b,hb,_⟩:=t.en c l _ q
    rw [M] at hb
    cases hb
  have ea:T.at c l=[]:=by unfold LTab.at;rw [C]
  have a3:upd H1 z (.lst []) z=some (.lst []):=zi
  have ae:z≠p:=fun q=>by
   have:=t.h
   rw [<- q,a3] at this
   cases this
  have tg:∀ m r:Int,tGet (putK g (pkey c l) (.ref z)) m r=if m=c/\r=l then some (.ref z) else tGet g m r:=fun m r=>Wp g c l m r _
  have back:∀ {m r:Int} {Z:Bool×List PyData},¬ (m=c/\r=l)->T.put c l (true,[]) m r=some Z->T m r=some Z:=fun y q=>by rwa [LTab.put_ne y] at q
  have pl:∀ a,adP (T.put c l (true,[])) (upd (upd H1 z (.lst [])) p (.dT (putK g (pkey c l) (.ref z)))) (.ref p) a->adP T (upd H1 z (.lst [])) (.ref p) a\/a=z:=fun a q=>by
   rcases q with q | ⟨p',fE,m,r,x,ev,hp,a2,L⟩
   ·exact .inl (.inl q)
   ·cases ev
    rw [zi] at hp
    cases hp
    rw [tg] at L
    by_cases y:m=c/\r=l
    ·rw [if_pos y] at L
     cases L
     exact .inr rfl
    ·rw [if_neg y] at L
     exact .inl (.inr ⟨p,g,m,r,x,rfl,t.h,back y a2,L⟩)
  have own:∀ (j:Nat) (f:DV) (u:V),Y[j]?=some (some f)->O[j]?=some (some u)->¬ Owns (upd H1 z (.lst [])) u f z:=fun j f u zj hw=>e.newOwn (W.trans g2) z0 j f u zj hw
  have old:∀ {m r:Int} {b:Addr} {x:List PyData},T m r=some (true,x)->tGet g m r=some (.ref b)->b≠z:=fun {m r b x} t1 hb y=>by
   subst y
   exact own i _ _ h.eq N (.inr ⟨p,g,m,r,x,rfl,t.h,t1,hb⟩)
  have e7:=e2.putNO (b:=z) (a:=p) (oo:=.dT (putK g (pkey c l) (.ref z))) (y:=pT K (T.put c l (true,[])) (n + 1)) h.eq N (.inl rfl) ⟨gokP K _ _,fun a q=>by
    rcases pl a q with q | rfl
    ·obtain ⟨o,w⟩:=X a q
     by_cases ap:a=p
     ·subst ap
      exact ⟨_,⟨zi,w.f,w.n,w.s⟩⟩
     ·exact ⟨o,w.other ap⟩
    ·exact ⟨_,⟨by rw [zp ae];exact a3,W.le.free J,(e.mono W).gr.h.free J,nz⟩⟩,p,_,rfl,zi,by have:=xD g (pkey c l) (.ref z);omega,fun m r q=>by
    by_cases y:m=c/\r=l
    ·rw [y.1,y.2,LTab.put_eq] at q
     cases q
    ·rw [LTab.put_ne y] at q
     rw [tg,if_neg y]
     exact t.no m r q,fun m r Z q=>by
    by_cases y:m=c/\r=l
    ·rw [y.1,y.2,LTab.put_eq] at q
     cases q
     exact ⟨z,by rw [tg,if_pos y],[],by rw [zp ae];exact a3,.nil⟩
    ·obtain ⟨b2,R,fG⟩:=t.en m r Z (back y q)
     refine ⟨b2,by rw [tg,if_neg y];exact R,fG.mono (.refl _) fun et=>zp ?_⟩
     rintro rfl
     obtain ⟨fl,x⟩:=Z
     cases et
     obtain ⟨us,hu,_⟩:=fG
     exact absurd hu (by rw [t.h];exact fun z=>nomatch z),fun i1 j1 i2 j2 d1 d2 b' z1 z2 h1 h2=>by
    rw [tg] at h1 h2
    by_cases y1:i1=c/\j1=l
    ·by_cases y2:i2=c/\j2=l
     ·exact ⟨y2.1.trans y1.1.symm,y2.2.trans y1.2.symm⟩
     ·rw [if_pos y1] at h1
      cases h1
      rw [if_neg y2] at h2
      exact absurd rfl (old (back y2 z2) h2)
    ·by_cases y2:i2=c/\j2=l
     ·rw [if_pos y2] at h2
      cases h2
      rw [if_neg y1] at h1
      exact absurd rfl (old (back y1 z1) h1)
     ·rw [if_neg y1] at h1
      rw [if_neg y2] at h2
      exact t.ap i1 j1 i2 j2 _ _ b' (back y1 z1) (back y2 z2) h1 h2⟩ (fun a q=>pl a q) own
  exact a5 _ _ z _ e7 (by rw [ea];exact LTab.put_eq ..) zbD zi (by rw [tg,if_pos ⟨rfl,rfl⟩])
end
end PD
namespace L2
open PySem PySem.Spec PyProof.Rows PySem.SeqAt PySem.MeetsSeq PySem.MeetsSeq2 PySem.MeetsSeq3
open AutoSeq1 (wpAny_loadPart')
def zT:List Int->List Int->Bool
 | [],[]=>false
 | [],_ :: _=>true
 | _ :: _,[]=>false
 | x :: xs,y :: ys=>if x=y then zT xs ys else decide (x < y)
theorem zb4 (ns ms:List Int) (h:ns=[]\/ms=[]):zT ns ms=decide (ns.length < ms.length):=by
 rcases h with rfl | rfl
 ·cases ms <;> simp [zT]
 ·cases ns <;> simp [zT]
theorem ZS:∀ {us:List Value} {ns:List Int} {i:Nat},IntsAre us ns->(h:i < us.length)->∃ n t,us[i]?=some (.int n t)/\ns[i]?=some n
 | _,_,_,.nil,h=>absurd h (bW _)
 | _,_,0,.cons n t _,_=>⟨n,t,rfl,rfl⟩
 | _,_,i + 1,.cons _ _ r,h=>ZS (i:=i) r (eL h)
theorem zb2 (l b:Addr) (xs ys:Array Value) (n m:Nat) (dx r:Option Addr) (sx sy:Array (Option Value)) (ns ms:List Int) (p:IntsAre xs.toList ns) (q:IntsAre ys.toList ms) :
  ∀ (k i:Nat),min xs.size ys.size - i=k->i<=min xs.size ys.size->Meets (Builtin.«list.__eq__.loop» ⟨[.ref l,.ref b,rawInt i,rawInt 0],[]⟩)
   (fun _ R s=>s.heap.get? l=some { cls:=.type "list", dict:=dx,data:=.seq xs n,slots:=sx }/\s.heap.get? b=some { cls:=.type "list", dict:=r,data:=.seq ys m,slots:=sy } /\
    R (.ok (.ret (.bool (zT (ns.drop i) (ms.drop i))))) s):=by
 have J:xs.size=ns.length:=by rw [<- IntsAre.length p];simp
 have K:ys.size=ms.length:=by rw [<- IntsAre.length q];simp
 intro k
 induction k with
 | zero =>
  intro i t hi prog w A R s h
  obtain ⟨u,g,d,v,os⟩:=s;obtain ⟨a,f,h⟩:=h
  wp_walk using wpAny_loadPart' a,wpAny_loadPart' f
  have e:zT (ns.drop i) (ms.drop i)=decide (xs.size < ys.size):=by
   rw [zb4 _ _ (by
    rcases Nat.le_total xs.size ys.size with z | z
    ·exact .inl (List.drop_eq_nil_of_le (by omega))
    ·exact .inr (List.drop_eq_nil_of_le (by omega)))]
   rw [cA,cA]
   exact decide_eq_decide.mpr (by omega)
  rw [e] at h
  by_cases c:i < xs.size
  ·have j:xs[((i:Nat):Int).toNat]?=some xs[i]:=by simp [c]
   have o:ys[((i:Nat):Int).toNat]?=none:=by simp;omega
   rw [j,o]
   wp_walk using wpAny_loadPart' a,wpAny_loadPart' f
   exact h
  ·have j:xs[((i:Nat):Int).toNat]?=none:=by simp;omega
   rw [j]
   wp_walk using wpAny_loadPart' a,wpAny_loadPart' f
   exact h
 | succ k B =>
  intro i t hi prog w A R s h
  obtain ⟨u,g,d,v,os⟩:=s;obtain ⟨a,f,h⟩:=h
  wp_walk using wpAny_loadPart' a,wpAny_loadPart' f
  have C:i < xs.size:=by omega
  have D:i < ys.size:=by omega
  obtain ⟨x,E,ex,F⟩:=ZS (i:=i) p (by simpa using C)
  obtain ⟨y,ty,G,H⟩:=ZS (i:=i) q (by simpa using D)
  have j:xs[((i:Nat):Int).toNat]?=some (.int x E):=by rw [<- ex];simp
  have o:ys[((i:Nat):Int).toNat]?=some (.int y ty):=by rw [<- G];simp
  have I:((i:Int) + 1)=((i + 1:Nat):Int):=by push_cast;rfl
  have d1:ns.drop i=x :: ns.drop (i + 1):=by
   obtain ⟨z,rfl⟩:=aP.mp F
   exact eI z
  have d2:ms.drop i=y :: ms.drop (i + 1):=by
   obtain ⟨z,rfl⟩:=aP.mp H
   exact eI z
  rw [d1,d2] at h
  rw [j,o]
  refine wpAny_bind (wpAny_eqBool_int ?_)
  by_cases c:x=y
  ·rw [show (x == y)=true by simp [c]]
   rw [show zT (x :: ns.drop (i + 1)) (y :: ms.drop (i + 1))=zT (ns.drop (i + 1)) (ms.drop (i + 1)) from if_pos c] at h
   wp_walk
   rw [I]
   exact ⟨plainId_quiet plain_eq_loop _,codeAny_builtin entry_eq_loop (by
    rw [Around.under_plainId plain_eq_loop _]
    exact B (i + 1) (by omega) (by omega) prog w A R _ ⟨a,f,h⟩)⟩
  ·rw [show (x == y)=false by simp [c]]
   rw [show zT (x :: ns.drop (i + 1)) (y :: ms.drop (i + 1))=decide (x < y) from if_neg c] at h
   wp_walk using wpAny_loadPart' a,wpAny_loadPart' f
   rw [j,o]
   refine wpAny_bind (wpAny_lt_int ?_)
   exact wpAny_pure h
theorem TR (l b:Addr) (xs ys:Array Value) (n m:Nat) (dx a:Option Addr) (sx sy:Array (Option Value)) (ns ms:List Int) (f:IntsAre xs.toList ns) (i:IntsAre ys.toList ms):Meets (Builtin.«list.__lt__» ⟨[.ref l,.ref b],[]⟩)
   (fun _ R s=>s.heap.get? l=some { cls:=.type "list", dict:=dx,data:=.seq xs n,slots:=sx }/\s.heap.get? b=some { cls:=.type "list", dict:=a,data:=.seq ys m,slots:=sy } /\
    R (.ok (.ret (.bool (zT ns ms)))) s):=by
 intro prog w A R s h
 obtain ⟨j,g,d,k,os⟩:=s;obtain ⟨c,e,h⟩:=h
 have o:=AutoSeq1.sub_list_list
 wp_walk using wpAny_loadPart' c,wpAny_loadPart' e
 exact ⟨plainId_quiet plain_eq_loop _,codeAny_builtin entry_eq_loop (by
  rw [Around.under_plainId plain_eq_loop _]
  exact zb2 l b xs ys n m dx a sx sy ns ms f i _ 0 rfl (aW _) prog w A R _ ⟨c,e,h⟩)⟩
section
variable {prog:Program} {w:World} {A:Around} {E:Value->Shared->Prop} {s:Shared}
theorem W0 (g:s.heap.IsList l xs) (i:s.heap.IsList b ys) (j:IntsAre xs.toList ns) (k:IntsAre ys.toList ms) (m:A.units < cLine) (h:Q (.bool (zT ns ms)) s) :
  wpAny (model prog w) A (richCompare .Lt (.ref l) (.ref b)) Q E s:=by
 obtain ⟨⟨p,d1,q,s1⟩,a,c,n,d⟩:=id g
 obtain ⟨⟨r,d2,t,s2⟩,o2,e,o,f⟩:=id i
 simp only at c d e f
 subst c d e f
 exact richCompare_meets_room (op:=.Lt) ⟨_,a,rfl⟩ ⟨_,o2,rfl⟩ F.slot_list_lt F.entry_list_lt (F.args_list_lt_2 _ _) (TR l b xs ys n o d1 d2 s1 s2 ns ms j k)
  ⟨a,o2,show Value.bool (zT ns ms)≠Value.notImplemented/\Q (.bool (zT ns ms)) s from ⟨(fun x=>nomatch x),h⟩⟩ m
end
theorem QN (h:Q (.bool (decide (x < y))) s):wpAny (model prog w) A (richCompare .Lt (.int x t) (.int y u)) Q E s:=wpAny_lt_int h
def wC (a b:Int) (ns:List Int) (c d:Int) (ms:List Int):Bool:=if a=c then (if b=d then (if ns=ms then false else zT ns ms) else decide (b < d)) else decide (a < c)
theorem Vs (l b:Addr) (a f i j:Int) (B C D F:Tok) (u v:Value) (n m:Nat) (dx G:Option Addr) (sx sy:Array (Option Value)) (e:Bool) (k:Bool):Meets (Builtin.«tuple.__lt__» ⟨[.ref l,.ref b],[]⟩)
   (fun A R s=>s.heap.get? l=some { cls:=.type "tuple", dict:=dx,data:=.seq #[.int a B,.int f C,u] n,slots:=sx }/\s.heap.get? b=some { cls:=.type "tuple", dict:=G,data:=.seq #[.int i D,.int j F,v] m,slots:=sy } /\
    EqAt A.in1 s u v e/\(∀ (prog:Program) (w:World) (E:Value->Shared->Prop) (Q:Value->Shared->Prop),Q (.bool k) s->wpAny (model prog w) A.in1 (richCompare .Lt u v) Q E s) /\
    R (.ok (.ret (.bool (if a=i then (if f=j then (if e then false else k) else decide (f < j)) else decide (a < i))))) s) :=
 .of_wp fun prog w A R s h=>by
  obtain ⟨o,g,d,p,os⟩:=s;obtain ⟨H,I,x,y,h⟩:=h
  have J:=AutoSeq1.sub_tuple_tuple
  have r:∀ {E:Value->Shared->Prop} {Q:Bool->Shared->Prop},Q e ⟨o,g,d,p,os⟩->wpAny (model prog w) A.in1 (eqBool u v) Q E ⟨o,g,d,p,os⟩:=fun {E Q} z=>x prog w E Q z
  have t:∀ {E:Value->Shared->Prop} {Q:Value->Shared->Prop},Q (.bool k) ⟨o,g,d,p,os⟩->wpAny (model prog w) A.in1 (richCompare .Lt u v) Q E ⟨o,g,d,p,os⟩:=fun {E Q} z=>y prog w E Q z
  clear x y
  wp_walk using wpAny_loadPart' H,wpAny_loadPart' I,wpAny_eqBool_int
  by_cases c:a=i
  ·rw [show (a == i)=true by simp [c]]
   rw [if_pos c] at h
   wp_walk using wpAny_eqBool_int
   by_cases q:f=j
   ·rw [show (f == j)=true by simp [q]]
    rw [if_pos q] at h
    wp_walk using r
    cases e with
    | true =>
     wp_walk
     exact ⟨_,rfl,h⟩
    | false =>
     wp_walk using t
     exact ⟨_,rfl,h⟩
   ·rw [show (f == j)=false by simp [q]]
    rw [if_neg q] at h
    wp_walk using QN
    exact ⟨_,rfl,h⟩
  ·rw [show (a == i)=false by simp [c]]
   rw [if_neg c] at h
   wp_walk using QN
   exact ⟨_,rfl,h⟩
section
variable {prog:Program} {w:World} {A:Around} {E:Value->Shared->Prop} {s:Shared}
theorem TM (i:s.heap.IsTuple l #[.int x1 t1,.int x2 t2,u]) (j:s.heap.IsTuple b #[.int y1 t3,.int y2 t4,v]) (m:A.units < cLine) (n:EqAt A.in1 s u v e)
  (o:∀ (prog:Program) (w:World) (E:Value->Shared->Prop) (Q:Value->Shared->Prop),Q (.bool k) s->wpAny (model prog w) A.in1 (richCompare .Lt u v) Q E s)
  (h:Q (.bool (if x1=y1 then (if x2=y2 then (if e then false else k) else decide (x2 < y2)) else decide (x1 < y1))) s):wpAny (model prog w) A (richCompare .Lt (.ref l) (.ref b)) Q E s:=by
 obtain ⟨⟨r,d1,t,s1⟩,a,c,p,d⟩:=id i
 obtain ⟨⟨y,d2,z,s2⟩,o2,f,q,g⟩:=id j
 simp only at c d f g
 subst c d f g
 exact richCompare_meets_room (op:=.Lt) ⟨_,a,rfl⟩ ⟨_,o2,rfl⟩ F.slot_tuple_lt F.entry_tuple_lt (F.args_tuple_lt_2 _ _) (Vs l b x1 x2 y1 y2 t1 t2 t3 t4 u v p q d1 d2 s1 s2 e k)
  ⟨a,o2,n,o,(show (Value.bool _≠Value.notImplemented/\Q (.bool _) s) from ⟨(fun x=>nomatch x),h⟩)⟩ m
end
section
variable {prog:Program} {w:World} {A:Around} {R:Result->Shared->Prop} {T S l:Addr} {xs:Array Value} {bt:Nat->Nat->Bool} {h0:Heap}
def xO (T S:Addr) (h0 h:Heap):Prop:=∀ b o,b≠T->b≠S->h0.get? b=some o->h.get? b=some o
def CmpH (prog:Program) (w:World) (A:Around) (xs:Array Value) (bt:Nat->Nat->Bool) (h0:Heap) (T S:Addr):Prop :=
 ∀ i j x y (s:Shared) (Q:Value->Shared->Prop) (E:Value->Shared->Prop),xs[i]?=some x->xs[j]?=some y->xO T S h0 s.heap->Q (.bool (bt i j)) s->wpAny (model prog w) A (richCompare .Lt x y) Q E s
theorem V3 (Q:A.handled=none) (nl:l≠T) (K:S≠T) (fG:S≠l) (V:CmpH prog w A.in1 xs bt h0 T S) :
  ∀ (k j:Nat) (s:Shared) (y:Value) (c:Nat),xs.size - (j + 1)=k->j + 1<=xs.size->(s.heap.IsListIter T l (j + 1)/\s.heap.IsList l xs)->xs[argBest bt j]?=some y->xO T S h0 s.heap ->
  s.heap.get? S=some (seqObj "list" #[y,y] c) ->
  (∀ v h u,xs[argBest bt (xs.size - 1)]?=some v->xO T S h0 h->R (.ok (.ret v)) { s with heap:=h,toks:=u }) ->
  codeAny (model prog w) A (.builtin "min.loop" ⟨[.ref T,.none,.ref S],[]⟩) R s:=by
 have W:=Walks.list (prog:=prog) (w:=w) (A:=A.in1) Q T l nl xs
 have sw:S∉[T]:=fun z=>K (aD.mp z)
 have X:S∉[T,l]:=fun z=>by
  rcases aT.mp z with z | z
  ·exact K z
  ·exact fG (aD.mp z)
 have L:(toString "min" ++ toString ".loop" : String) = "min.loop" := by decide
 have kp:∀ {h h':Heap},xO T S h0 h->(∀ b o,b∉[T]->h.get? b=some o->h'.get? b=some o)->xO T S h0 h':=fun E a b o x B e=>a b o (fun z=>x (aD.mp z)) (E b o x B e)
 have M:∀ {h:Heap} (f:Obj->Obj),xO T S h0 h->xO T S h0 (h.update S f):=fun f E b o x B e=>(dW _ _ (Ne.symm B)).trans (E b o x B e)
 intro k
 induction k with
 | zero =>
  intro j s y c fE Z st C p q D
  have r:j + 1=xs.size:=by omega
  rw [r] at st
  refine codeAny_builtin F.entry_min_loop ?_
  rw [Around.under_plainId F.plain_min_loop _]
  refine wpAny_bind (m:=seqItems? (.ref S)) (wpAny_seqItems q rfl ?_)
  refine wpAny_bind (m:=tryCatch (pyNext (.ref T)) _) (wpAny_tryCatch (W.done s _ _ st fun h' u a=>?_))
  refine wpAny_bind (m:=updateSeq S (fun _=>#[])) ?_
  refine wpAny_updateSeq (a S _ sw q) rfl (wpAny_bind (wpAny_letGo (wpAny_pure ?_)))
  exact D y _ u (by rw [<- r];exact C) (M _ (kp p a))
 | succ k N =>
  intro j s y c fE Z st C p q D
  have d:j + 1 < xs.size:=by omega
  refine codeAny_builtin F.entry_min_loop ?_
  rw [Around.under_plainId F.plain_min_loop _]
  refine wpAny_bind (m:=seqItems? (.ref S)) (wpAny_seqItems q rfl ?_)
  refine wpAny_bind (m:=tryCatch (pyNext (.ref T)) _) (wpAny_tryCatch (W.item (j + 1) s _ _ d st fun v h' u fF t a=>?_))
  have g:=a S _ sw q
  refine wpAny_bind (m:=tryCatch (holding [v,v] (richCompare .Lt v y >>= _)) _) (wpAny_tryCatch (wpAny_holding (wpAny_bind (V (j + 1) (argBest bt j) v y _ _ _ fF C (kp p a) ?_))))
  refine wpAny_bind (wpAny_holding (wpAny_truthy_bool ?_))
  refine wpAny_bind (wpAny_letGo (wpAny_pure ?_))
  cases P:bt (j + 1) (argBest bt j) with
  | true =>
   simp only [if_true]
   refine wpAny_bind (wpAny_updateSeq g rfl (wpAny_bind (wpAny_letGo ?_)))
   rw [L]
   have fr:=W.frame _ _ (h'.update S (Obj.mapSeq fun _=>#[v,v])) t fun b G o e=>(dW _ _ (fun z:S=b=>X (z ▸ G))).trans e
   exact wpAny_pure ⟨plainId_quiet F.plain_min_loop _,N (j + 1) _ v _ (by omega) d fr (by simp only [argBest,P,if_true];exact fF) (M _ (kp p a)) (Heap.get?_update_self _ g rfl) fun H i I n J=>D H i I n J⟩
  | false =>
   simp only [Bool.false_eq_true,if_false]
   refine wpAny_bind (wpAny_letGo ?_)
   rw [L]
   exact wpAny_pure ⟨plainId_quiet F.plain_min_loop _,N (j + 1) _ y c (by omega) d t (by simp only [argBest,P,Bool.false_eq_true,if_false];exact C) (kp p a) g fun H i I n J=>D H i I n J⟩
theorem V5 (k:A.handled=none) (nl:l≠T) (d:S≠T) (n:S≠l) (y:CmpH prog w A.in1 xs bt h0 T S) (p:0 < xs.size) (st:s.heap.IsListIter T l 0/\s.heap.IsList l xs) (B:xO T S h0 s.heap) (q:s.heap.get? S=some (seqObj "list" #[] c))
  (C:∀ v h r,xs[argBest bt (xs.size - 1)]?=some v->xO T S h0 h->R (.ok (.ret v)) { s with heap:=h,toks:=r }) :
  codeAny (model prog w) A (.builtin "min.loop" ⟨[.ref T,.none,.ref S],[]⟩) R s:=by
 have W:=Walks.list (prog:=prog) (w:=w) (A:=A.in1) k T l nl xs
 have sw:S∉[T]:=fun z=>d (aD.mp z)
 have D:S∉[T,l]:=fun z=>by
  rcases aT.mp z with z | z
  ·exact d z
  ·exact n (aD.mp z)
 have E:(toString "min" ++ toString ".loop" : String) = "min.loop" := by decide
 refine codeAny_builtin F.entry_min_loop ?_
 rw [Around.under_plainId F.plain_min_loop _]
 refine wpAny_bind (m:=seqItems? (.ref S)) (wpAny_seqItems q rfl ?_)
 refine wpAny_bind (m:=tryCatch (pyNext (.ref T)) _) (wpAny_tryCatch (W.item 0 s _ _ p st fun v h' r G f t=>?_))
 have a:=t S _ sw q
 refine wpAny_bind (m:=updateSeq S (fun _=>#[v,v])) (wpAny_updateSeq a rfl ?_)
 rw [E]
 have H:=W.frame _ _ (h'.update S (Obj.mapSeq fun _=>#[v,v])) f fun b g o e=>(dW _ _ (fun z:S=b=>D (z ▸ g))).trans e
 refine wpAny_pure ⟨plainId_quiet F.plain_min_loop _,V3 k nl d n y _ 0 _ v _ rfl p H G (fun b o u x e=>?_) (Heap.get?_update_self _ a rfl) fun I i J j K=>C I i J j K⟩
 exact (dW _ _ (Ne.symm x)).trans (t b o (fun z=>u (aD.mp z)) (B b o u x e))
end
section
variable {prog:Program} {w:World} {A:Around} {E:Value->Shared->Prop} {s:Shared}
def IsLs (h:Heap) (v:Value) (ns:List Int):Prop:=∃ a ys,v=.ref a/\h.IsList a ys/\IntsAre ys.toList ns
theorem IsLs.keep (x:IsLs h v ns) (k:∀ b o,h.get? b=some o->h'.get? b=some o):IsLs h' v ns:=by
 obtain ⟨a,ys,rfl,⟨o,e,r⟩,i⟩:=x
 exact ⟨a,ys,rfl,⟨o,k _ _ e,r⟩,i⟩
theorem TH {l:Addr} {xs:Array Value} {nss:List (List Int)} {Q:Value->Shared->Prop} (t:A.handled=none) (u:A.units + 1 < cLine) (d:s.heap.IsList l xs) (n:∀ (i:Nat) v,xs[i]?=some v->IsLs s.heap v (nss.getD i [])) (z:0 < xs.size)
  (h:∀ v h' f,xs[argBest (fun i j=>zT (nss.getD i []) (nss.getD j [])) (xs.size - 1)]?=some v->(∀ b o,s.heap.get? b=some o->h'.get? b=some o)->Q v { s with heap:=h',toks:=f }) :
  wpAny (model prog w) A (call (.builtin "min") [.ref l]) Q E s:=by
 have B:(toString "min" ++ toString ".loop" : String) = "min.loop" := by decide
 refine call_function_tree F.kind_min F.plain_min F.entry_min (F.args_min1 _) ?_
 refine wpAny_bind (m:=Builtin.Builtins.bindParams "min" ["key", "default"] 0 ⟨[],[]⟩) (wpAny_of_eq (a:=[none,none]) rfl ?_)
 refine wpAny_bind (wpAny_pure ?_)
 have c:l < s.heap.objs.size:=by obtain ⟨_,e,_⟩:=d;exact aE e
 refine wpAny_bind (wpAny_pyIter_list d ?_)
 refine wpAny_bind (wpAny_newObj_type ?_)
 rw [B]
 generalize g:({ cls:=.type "list_iterator", data:=.fields #[.ref l,.int 0 0] }:Obj)=it
 have C:(s.heap.push it).get? s.heap.objs.size=some it:=bE _ (by rw [<- g];rfl)
 have sz:(s.heap.push it).objs.size=s.heap.objs.size + 1:=dG ..
 have old:∀ b o,s.heap.get? b=some o->∀ o2,((s.heap.push it).push o2).get? b=some o:=fun b o e o2=>aR _ (aR _ e)
 refine wpAny_pure ⟨plainId_quiet F.plain_min_loop _,V5 (h0:=s.heap) (bt:=fun i j=>zT (nss.getD i []) (nss.getD j [])) (T:=s.heap.objs.size) (l:=l) (xs:=xs) t (aL c) (by rw [sz];exact cV (cH _)) (by rw [sz];exact cV (cX c)) (fun i j x y s1 M N D G k q=>?_) z ⟨⟨it,aR _ C,by rw [<- g],by rw [<- g];rfl⟩,?_⟩ (fun b o _ _ e=>old b o e _) (bE _ rfl) fun v h' f H k=>h v h' f H fun b o e=>k b o ?_ ?_ e⟩
 ·have p:∀ {b o},s.heap.get? b=some o->s1.heap.get? b=some o:=fun {b o} e=>k b o (aL (aE e)) (by rw [sz];exact aL (cX (aE e))) e
  obtain ⟨fF,P,rfl,I,J⟩:=(n i x D).keep fun b o e=>p e
  obtain ⟨R,S,rfl,K,L⟩:=(n j y G).keep fun b o e=>p e
  exact W0 I K J L u q
 ·obtain ⟨o,e,r⟩:=d
  exact ⟨o,old l o e _,r⟩
 ·exact aL (aE e)
 ·rw [sz]
  exact aL (cX (aE e))
end
end L2
namespace L2
open PySem PySem.Spec PyProof.Rows
theorem Zl:∀ a:List Int,zT a a=false
 | []=>rfl
 | x :: a=>by unfold zT;rw [if_pos rfl];exact Zl a
theorem tK:∀ {a b c:List Int},zT a b=true->zT b c=true->zT a c=true
 | [],[],_,h,_=>by unfold zT at h;cases h
 | [],_ :: _,[],_,h=>by unfold zT at h;cases h
 | [],_ :: _,_ :: _,_,_=>by unfold zT;rfl
 | _ :: _,[],_,h,_=>by unfold zT at h;cases h
 | _ :: _,_ :: _,[],_,h=>by unfold zT at h;cases h
 | x :: a,y :: b,z :: c,e,d=>by
  unfold zT at e d ⊢
  by_cases g:x=y
  ·rw [if_pos g] at e
   subst g
   by_cases f:x=z
   ·rw [if_pos f] at d ⊢
    exact tK e d
   ·rw [if_neg f] at d ⊢
    exact d
  ·rw [if_neg g] at e
   have e:=of_decide_eq_true e
   by_cases f:y=z
   ·subst f
    rw [if_neg g]
    exact decide_eq_true e
   ·rw [if_neg f] at d
    have d:=of_decide_eq_true d
    rw [if_neg (by omega)]
    exact decide_eq_true (by omega)
theorem UQ:∀ {a b:List Int},a≠b->zT a b=true\/zT b a=true
 | [],[],h=>absurd rfl h
 | [],_ :: _,_=>.inl (by unfold zT;rfl)
 | _ :: _,[],_=>.inr (by unfold zT;rfl)
 | x :: a,y :: b,h=>by
  unfold zT
  by_cases e:x=y
  ·rw [if_pos e,if_pos e.symm]
   exact UQ fun z=>h (by rw [e,z])
  ·rw [if_neg e,if_neg fun z=>e z.symm]
   rcases Int.lt_or_gt_of_ne e with z | z
   ·exact .inl (decide_eq_true z)
   ·exact .inr (decide_eq_true z)
def minL (nss:List (List Int)):List Int:=nss.getD (argBest (fun i j=>zT (nss.getD i []) (nss.getD j [])) (nss.length - 1)) []
theorem Ya (bt:Nat->Nat->Bool):∀ k,argBest bt k<=k
 | 0=>aC _
 | k + 1=>by
  have:=Ya bt k
  unfold argBest
  split <;> omega
theorem wB (f:Nat->List Int):∀ k i,i<=k->zT (f i) (f (argBest (fun i j=>zT (f i) (f j)) k))=false
 | 0,i,h=>by
  obtain rfl:i=0:=by omega
  exact Zl _
 | k + 1,i,h=>by
  unfold argBest
  cases c:zT (f (k + 1)) (f (argBest (fun i j=>zT (f i) (f j)) k)) with
  | true =>
   rw [if_pos rfl]
   by_cases e:i=k + 1
   ·rw [e];exact Zl _
   ·refine cS.mpr fun z=>?_
    have:=wB f k i (by omega)
    rw [tK z c] at this
    cases this
  | false =>
   rw [if_neg (by simp)]
   by_cases e:i=k + 1
   ·rw [e];exact c
   ·exact wB f k i (by omega)
theorem zah (h:nss≠[]):minL nss∈nss:=by
 have l:=cG.mpr h
 have:=Ya (fun i j=>zT (nss.getD i []) (nss.getD j [])) (nss.length - 1)
 unfold minL
 rw [aM,bD (by omega)]
 exact eB _
theorem V4 (h:ns∈nss):zT ns (minL nss)=false:=by
 obtain ⟨i,hi,rfl⟩:=dL.mp h
 have:=wB (fun i=>nss.getD i []) (nss.length - 1) i (by omega)
 rw [aM,bD hi] at this
 exact this
def QQ (K:aA):R2:=fun x y H Q=>∃ a b ns c d ms,Dp K H x (.tuple [.int a,.int b,.list (ns.map .int)])/\Dp K H y (.tuple [.int c,.int d,.list (ms.map .int)])/\Q (.bl (wC a b ns c d ms)) H
def QP (K:aA):List V->Hp->VK->Prop:=fun xs H Q=>∃ p ws,∃ nss:List (List Int),xs=[.ref p]/\SqL K H p ws/\ws.length=nss.length/\0 < nss.length/\(∀ (i:Nat) v,ws[i]?=some v->∃ a,v=.ref a/\SqL K H a ((nss.getD i []).map V.int)) /\
 ∀ v,ws[argBest (fun i j=>zT (nss.getD i []) (nss.getD j [])) (nss.length - 1)]?=some v->Q v H
theorem xP:∀ {ws:List V} {a:List Value} {i:Nat} {u:Value},Vals ws a->a[i]?=some u->∃ v,ws[i]?=some v/\RelV v u
 | _,_,_,_,.nil,h=>by cases h
 | _,_,0,_,.cons r _,h=>by cases h;exact ⟨_,rfl,r⟩
 | _,_,i + 1,_,.cons _ t,h=>xP (i:=i) t (by simpa using h)
section
variable {X:Cx} {K:aA}
theorem Qd (j:X.calm=true) (k:X.A.units + 1 < cLine):yq X (.builtin "min") (QP X.K):=by
 intro pins s O H xs us Q I r h
 obtain ⟨p,ws,nss,rfl,l,z,B,m,q⟩:=h
 obtain ⟨u,rfl,n⟩:=xh r
 cases n
 obtain ⟨c,d,pl,C⟩:=I.list l
 have o:=d.length
 refine TH (nss:=nss) (I.ok.hd j) k pl.isList (fun i v b=>?_) (by simp;omega) fun v h' D b t=>?_
 ·obtain ⟨y,f,g⟩:=xP (u:=v) d (by simpa using b)
  obtain ⟨a,rfl,sq⟩:=m i y f
  cases g
  obtain ⟨js,w,x,_⟩:=I.list sq
  exact ⟨a,js.toArray,rfl,x.isList,by simpa using x0 w⟩
 ·have e:c.toArray.size - 1=nss.length - 1:=by simp;omega
  rw [e] at b
  obtain ⟨y,f,g⟩:=xP (u:=v) d (by simpa using b)
  exact ⟨y,H,I.kept t,g,q y f⟩
theorem Uh (a:X.K=K) (b:X.calm=true) (c:X.A.units + 1 < cLine):yq X (.builtin "min") (QP K):=by subst a;exact Qd b c
end
end L2
namespace PD
open PySem L2
section
variable {K:aA} {S S':Sx} {U U':Bool} {Y Y' Y'':Ctx} {P:Post}
theorem W4:∀ {ns a:List Int},ns.map V.int=a.map V.int->ns=a
 | [],[],_=>rfl
 | [],_ :: _,h=>by cases h
 | _ :: _,[],h=>by cases h
 | x :: ns,y :: a,h=>by
  rw [bB,bB] at h
  injection h with h1 h2
  injection h1 with h1
  rw [h1,W4 h2]
theorem zcb (a:Room k A):A.units + 65 < cLine:=by have:=a.un;omega
theorem Uv {H:Hp} {x:V} {a b:Int} {ns:List Int} (h:Dp K H x (.tuple [.int a,.int b,.list (ns.map .int)])):∃ p l,x=.ref p/\SqT K H p [.int a,.int b,.ref l]/\SqL K H l (ns.map V.int):=by
 obtain ⟨p,vs,rfl,d,c⟩:=zd4 h
 cases c with
 | cons e c=>cases c with
  | cons f c=>cases c with
   | cons g c =>
    cases c
    cases wA e
    cases wA f
    obtain ⟨l,us,rfl,i,j⟩:=zd5 g
    cases zX j
    exact ⟨p,l,rfl,d,i⟩
theorem zdE (W:X.A.units + 65 < cLine):OpR X (compareOp .Lt) (QQ X.K):=by
 intro pins s O H x y v u Q I m n h
 obtain ⟨a,b,ns,c,d,f,o,p,q⟩:=h
 obtain ⟨fE,j,rfl,r,s1⟩:=Uv o
 obtain ⟨Z,k,rfl,t,s2⟩:=Uv p
 cases m
 cases n
 obtain ⟨i1,g,z,_⟩:=I.tuple r
 obtain ⟨i2,i,B,_⟩:=I.tuple t
 obtain ⟨j1,C,D,_⟩:=I.list s1
 obtain ⟨j2,F,G,_⟩:=I.list s2
 have J:=x0 C
 have L:=x0 F
 cases g with
 | cons M g=>cases g with
  | cons N g=>cases g with
   | cons fF g =>
    cases g
    cases i with
    | cons P i=>cases i with
     | cons R i=>cases i with
      | cons S i =>
       cases i
       obtain ⟨k1,rfl⟩:=M
       obtain ⟨k2,rfl⟩:=N
       cases fF
       obtain ⟨k3,rfl⟩:=P
       obtain ⟨k4,rfl⟩:=R
       cases S
       have T:PySem.SeqAt.EqAt X.A.in1 s (.ref j) (.ref k) (decide (ns=f)):=by
        by_cases e:j=k
        ·subst e
         have:=I.list_inj s1 s2
         have en:ns=f:=W4 this
         rw [decide_eq_true en]
         exact PySem.SeqAt.EqAt.same _
        ·refine PySem.SeqAt.EqAt.of_refs e fun prog w E Q l=>?_
         obtain ⟨as,fG⟩:=Dp.reads I (.lst s1 (w6 ns)) (u:=.ref j) rfl
         obtain ⟨bs,V⟩:=Dp.reads I (.lst s2 (w6 f)) (u:=.ref k) rfl
         exact PyProof.Rows.eq_dataH fG V (Cm.tR ns) (Cm.tR f) (by show X.A.units + 1 + 64 < cLine;omega) (by rw [Ud];exact l)
       refine TM z B (by omega) T (fun prog w E Q l=>W0 D.isList G.isList (by simpa using J) (by simpa using L) (by show X.A.units + 1 < cLine;omega) l) ⟨.bl _,H,I,rfl,?_⟩
       have e:(if a=c then (if b=d then (if decide (ns=f)=true then false else zT ns f) else decide (b < d)) else decide (a < c))=wC a b ns c d f:=by
        unfold wC
        simp only [decide_eq_true_eq]
       rw [e]
       exact q
theorem zbP (a:X.K=K) (b:X.A.units + 65 < cLine):OpR X (compareOp .Lt) (QQ K):=by subst a;exact zdE b
theorem zd1 (i:EvE K S false ta Y (.tuple [.int a,.int b,.list (ns.map .int)])) (j:EvE K S false tb Y (.tuple [.int c,.int d,.list (ms.map .int)])):EvE K S U (tOp (QQ K) ta tb) Y (.bool (wC a b ns c d ms)):=fun H0 F0 H F O e Q q =>
 i H0 F0 H F O e _ fun v k l h m=>j H0 F0 k l O (e.mono h) _ fun w n o g p =>
  ⟨a,b,ns,c,d,ms,yT g.le (yW (yA g.f m)),yT g.le (yW p),q _ n o (h.trans g) (.bl _)⟩
theorem zcs (l:EvL K S U ta Y (nss.map fun ns=>.list (ns.map .int))) (h0:nss≠[]):EvE K S U (tCB (QP K) (zR ta tNil)) Y (.list ((minL nss).map .int)):=fun H0 F0 H F O e Q q =>
 l H0 F0 H F O e _ fun a vs m n h o f=>by
  have k:=zv.length f
  rw [aB] at k
  have l0:=cG.mpr h0
  refine ⟨a,vs,nss,rfl,o,k,l0,fun i v g=>?_,fun v g=>?_⟩
  ·obtain ⟨d,hd,r⟩:=zv.get' f g
   rw [aU] at hd
   cases c:nss[i]? with
   | none=>rw [c] at hd;cases hd
   | some ns =>
    rw [c] at hd
    cases hd
    obtain ⟨b,us,rfl,p,s⟩:=tE r
    cases zX (zP s)
    refine ⟨b,rfl,?_⟩
    rw [aM,c]
    exact h.le.seq p.sq
  ·obtain ⟨d,hd,r⟩:=zv.get' f g
   rw [aU] at hd
   refine q v m n h ?_
   unfold minL
   rw [aM]
   cases c:nss[argBest (fun i j=>zT (nss.getD i []) (nss.getD j [])) (nss.length - 1)]? with
   | none=>rw [c] at hd;cases hd
   | some ns =>
    rw [c] at hd
    cases hd
    exact r
end
end PD
namespace Dsp
variable {pa:Nat->Nat->Prop} {Z:Nat->Prop} {rk:Nat->Nat} {q:Nat->Nat->Nat->Bool} {x y:Nat}
def vv (q:Nat->Nat->Nat->Bool):Option Nat->Nat->Option Nat->Nat
 | some a,v,some b=>if q a v b=true then 1 else 0
 | _,_,_=>0
def vc (q:Nat->Nat->Nat->Bool):List Nat->Nat
 | a :: v :: l=>vv q (some a) v l.head? + vc q (v :: l)
 | _=>0
def Wy (pa:Nat->Nat->Prop) (Z:Nat->Prop):Nat->List Nat->Prop
 | v,[]=>Z v
 | v,d :: T=>¬ Z v/\pa v d/\Wy pa Z d T
section
variable (dag:∀ a b,pa a b->rk a < rk b) (hq:∀ a v b,q a v b=true↔pa a v/\pa b v)
include dag hq
end
end Dsp
namespace L2
open PySem PySem.Spec PyProof.Rows
def mxL (ns:List Int):Int:=ns.getD (argBest (fun i j=>decide (ns.getD i 0 > ns.getD j 0)) (ns.length - 1)) 0
def mnL (ns:List Int):Int:=ns.getD (argBest (fun i j=>decide (ns.getD i 0 < ns.getD j 0)) (ns.length - 1)) 0
theorem vJ (bt:Nat->Nat->Bool):∀ k,argBest bt k<=k
 | 0=>aC _
 | k + 1=>by
  have:=vJ bt k
  unfold argBest
  split <;> omega
theorem vU {ns:List Int} {i:Nat} (h:i < ns.length):ns.getD i 0∈ns:=by
 rw [aM,bD h]
 exact eB _
theorem zb0 {ns:List Int} (h:ns≠[]):mxL ns∈ns:=by
 have l:=cG.mpr h
 have:=vJ (fun i j=>decide (ns.getD i 0 > ns.getD j 0)) (ns.length - 1)
 exact vU (by omega)
theorem zb1 {ns:List Int} (h:ns≠[]):mnL ns∈ns:=by
 have l:=cG.mpr h
 have:=vJ (fun i j=>decide (ns.getD i 0 < ns.getD j 0)) (ns.length - 1)
 exact vU (by omega)
section
variable {X:Cx} {K:aA}
def Zy (K:aA) (f:List Int->Int):List V->Hp->VK->Prop:=fun xs H Q=>∃ p,∃ ns:List Int,xs=[.ref p]/\SqL K H p (ns.map V.int)/\ns≠[]/\Q (.int (f ns)) H
theorem Qf (m:X.calm=true):yq X (.builtin "max") (Zy X.K mxL):=by
 intro pins s O H xs us Q I r h
 obtain ⟨p,ns,rfl,w,x,q⟩:=h
 obtain ⟨u,rfl,z⟩:=xh r
 cases z
 obtain ⟨a,j,pl,F⟩:=I.list w
 have d:=pl.isList
 have hi:=j.length
 rw [aB] at hi
 refine call_max_walk (wpAny_pyIter_list d ?_)
 have f:p≠s.heap.objs.size:=by
  obtain ⟨o,g,_⟩:=d
  exact aL (aE g)
 have val:∀ (i:Nat) (v:Value),a.toArray[i]?=some v->∃ t,v=.int (ns.getD i 0) t:=fun i v B=>by
  obtain ⟨y,c,C⟩:=xP (u:=v) j (by simpa using B)
  rw [aU] at c
  cases e:ns[i]? with
  | none=>rw [e] at c;cases c
  | some n =>
   rw [e] at c
   cases c
   obtain ⟨t,rfl⟩:=C
   exact ⟨t,by rw [aM,e];rfl⟩
 have l0:=cG.mpr x
 refine ⟨s.heap.objs.size,_,_,_,_,_,_,rfl,Walks.list (A:=X.A.in1) (I.ok.hd m) _ p f a.toArray,⟨⟨_,bE _ rfl,rfl,rfl⟩,d.push _⟩,?_,?_,CmpOf.ints_gt (fun i=>ns.getD i 0) val,fun v h' G D E=>?_⟩
 ·intro b k
  simp at k
  rw [dG]
  rcases k with rfl | rfl
  ·exact cH _
  ·obtain ⟨o,g,_⟩:=d
   exact cX (aE g)
 ·simp;omega
 ·obtain ⟨t,rfl⟩:=val _ v D
  refine ⟨.int _,H,I.kept fun b o l=>E b o (by simpa using Nat.ne_of_lt (Heap.lt_size l)) (Heap.get?_push_of_some _ l),⟨t,rfl⟩,?_⟩
  have e:a.toArray.size - 1=ns.length - 1:=by simp;omega
  rw [e]
  exact q
theorem Qe (m:X.calm=true):yq X (.builtin "min") (Zy X.K mnL):=by
 intro pins s O H xs us Q I r h
 obtain ⟨p,ns,rfl,w,x,q⟩:=h
 obtain ⟨u,rfl,z⟩:=xh r
 cases z
 obtain ⟨a,j,pl,F⟩:=I.list w
 have d:=pl.isList
 have hi:=j.length
 rw [aB] at hi
 refine call_min_walk (wpAny_pyIter_list d ?_)
 have f:p≠s.heap.objs.size:=by
  obtain ⟨o,g,_⟩:=d
  exact aL (aE g)
 have val:∀ (i:Nat) (v:Value),a.toArray[i]?=some v->∃ t,v=.int (ns.getD i 0) t:=fun i v B=>by
  obtain ⟨y,c,C⟩:=xP (u:=v) j (by simpa using B)
  rw [aU] at c
  cases e:ns[i]? with
  | none=>rw [e] at c;cases c
  | some n =>
   rw [e] at c
   cases c
   obtain ⟨t,rfl⟩:=C
   exact ⟨t,by rw [aM,e];rfl⟩
 have l0:=cG.mpr x
 refine ⟨s.heap.objs.size,_,_,_,_,_,_,rfl,Walks.list (A:=X.A.in1) (I.ok.hd m) _ p f a.toArray,⟨⟨_,bE _ rfl,rfl,rfl⟩,d.push _⟩,?_,?_,CmpOf.ints_lt (fun i=>ns.getD i 0) val,fun v h' G D E=>?_⟩
 ·intro b k
  simp at k
  rw [dG]
  rcases k with rfl | rfl
  ·exact cH _
  ·obtain ⟨o,g,_⟩:=d
   exact cX (aE g)
 ·simp;omega
 ·obtain ⟨t,rfl⟩:=val _ v D
  refine ⟨.int _,H,I.kept fun b o l=>E b o (by simpa using Nat.ne_of_lt (Heap.lt_size l)) (Heap.get?_push_of_some _ l),⟨t,rfl⟩,?_⟩
  have e:a.toArray.size - 1=ns.length - 1:=by simp;omega
  rw [e]
  exact q
theorem Uj (a:X.K=K) (b:X.calm=true):yq X (.builtin "max") (Zy K mxL):=by subst a;exact Qf b
theorem Ui (a:X.K=K) (b:X.calm=true):yq X (.builtin "min") (Zy K mnL):=by subst a;exact Qe b
end
end L2
namespace PD
open PySem L2
section
variable {K:aA} {S S':Sx} {U U':Bool} {Y Y' Y'':Ctx} {P:Post}
theorem Vd (h:EvL K S false ta Y (ns.map .int)) (h0:ns≠[]):EvE K S U (tCB (Zy K f) (zR ta tNil)) Y (.int (f ns)):=fun H0 F0 H F O e Q q =>
 h H0 F0 H F O e _ fun a vs b c d g i=>by
  cases zX (zP i)
  exact ⟨a,ns,rfl,g,h0,q _ b c d (.int _)⟩
end
end PD
namespace L2
open PySem PySem.Spec PyProof.Rows PySem.Calls PySem.W
section
variable {prog:Program} {w:World} {A:Around} {l q I S:Addr} {n:Nat} {Pv:Nat->Value->Prop} {R:Result->Shared->Prop}
theorem TJ (kf:Nat->Int) (J:Shared->Prop) (hh:A.handled=none) (hl:∀ s,J s->∃ vs:List Value,s.heap.IsList l vs.toArray/\vs.length=n/\∀ i v,vs[i]?=some v->Pv i v) (N:l≠I) (m:S≠I)
  (fF:∀ s h' tk it,it=I\/it=S->J s->(∀ b o,b≠it->s.heap.get? b=some o->h'.get? b=some o)->J { s with heap:=h',toks:=tk })
  (turn:∀ (i:Nat) (v:Value),Pv i v->∀ s oI oS,J s->s.heap.get? I=some oI->s.heap.get? S=some oS->(∀ v,oI.data≠.cell v)->(∀ v,oS.data≠.cell v) ->
   wpAny (model prog w) A.in1 (call (.ref q) [v]) (fun u K=>∃ t,u=.int (kf i) t/\J K/\K.heap.get? I=some oI/\K.heap.get? S=some oS) (fun _ _=>False) s)
  (hR:∀ i v K,Pv i v->(∀ j,j < n->kf i<=kf j/\(j < i->kf i < kf j))->J K->R (.ok (.ret v)) K) :
  ∀ (r j i:Nat) (s:Shared) (L:Value) (tb:Tok) (c:Nat),n - (j + 1)=r->j + 1<=n->J s->s.heap.get? S=some (seqObj "list" #[L,.int (kf i) tb] c)->s.heap.IsListIter I l (j + 1)->Pv i L->i<=j ->
   (∀ d,d<=j->kf i<=kf d/\(d < i->kf i < kf d))->codeAny (model prog w) A (.builtin "min.loop" ⟨[.ref I,.ref q,.ref S],[]⟩) R s:=by
 have f:(toString "min" ++ toString ".loop" : String) = "min.loop" := by decide
 intro r
 induction r with
 | zero =>
  intro j i s L tb c hr hj Q T p y a5 a
  have a6:j + 1=n:=by omega
  obtain ⟨vs,B,C,fG⟩:=hl s Q
  have W:=Walks.list (prog:=prog) (w:=w) (A:=A.in1) hh I l N vs.toArray
  have D:vs.toArray.size=n:=(bT ..).trans C
  refine codeAny_builtin eY ?_
  rw [Around.under_plainId dA _]
  show wpAny _ A.in1 (seqItems? (.ref S) >>= _) _ _ _
  refine wpAny_bind (wpAny_seqItems T rfl ?_)
  show wpAny _ A.in1 (tryCatch (pyNext (.ref I)) _ >>= _) _ _ _
  refine wpAny_bind (wpAny_tryCatch (W.done _ _ _ ⟨by rw [D,<- a6];exact p,B⟩ fun h' g k=>?_))
  have E:=k S _ (by simpa using m) T
  have J1:J { s with heap:=h',toks:=g }:=fF s h' g I (.inl rfl) Q fun b o n1 z=>k b o (by simpa using n1) z
  have s1:=Heap.SameBut.update h' S (Obj.mapSeq fun _=>(#[]:Array Value))
  show wpAny _ A.in1 (updateSeq S (fun _=>#[]) >>= _) _ _ _
  refine wpAny_bind ?_
  refine wpAny_updateSeq E rfl (wpAny_bind (wpAny_letGo (wpAny_pure ?_)))
  exact hR i L _ y (fun d V=>a d (by omega)) (fF _ _ _ S (.inr rfl) J1 fun b o n2 z=>(s1.2 b n2).trans z)
 | succ r ih =>
  intro j i s L tb c hr hj Q T p y a5 a
  have F:j + 1 < n:=by omega
  obtain ⟨vs,B,C,fG⟩:=hl s Q
  have W:=Walks.list (prog:=prog) (w:=w) (A:=A.in1) hh I l N vs.toArray
  have D:vs.toArray.size=n:=(bT ..).trans C
  refine codeAny_builtin eY ?_
  rw [Around.under_plainId dA _]
  show wpAny _ A.in1 (seqItems? (.ref S) >>= _) _ _ _
  refine wpAny_bind (wpAny_seqItems T rfl ?_)
  show wpAny _ A.in1 (tryCatch (pyNext (.ref I)) _ >>= _) _ _ _
  refine wpAny_bind (wpAny_tryCatch (W.item (j + 1) _ _ _ (by rw [D];exact F) ⟨p,B⟩ fun v h' g hP X k=>?_))
  have hv:Pv (j + 1) v:=fG _ _ (by simpa using hP)
  obtain ⟨fE,Z,a0,G⟩:=id X.1
  have E:=k S _ (by simpa using m) T
  have J1:J { s with heap:=h',toks:=g }:=fF s h' g I (.inl rfl) Q fun b o n1 z=>k b o (by simpa using n1) z
  show wpAny _ A.in1 (tryCatch (holding [v] (call (.ref q) [v])) _ >>= _) _ _ _
  refine wpAny_bind (wpAny_tryCatch (wpAny_holding (wpAny_mono (turn (j + 1) v hv _ _ _ J1 Z E (fun v z=>by rw [G] at z;cases z) fun v z=>by cases z) (fun x a1 he=>?_) fun _ _ hF=>hF.elim)))
  obtain ⟨M,rfl,J2,a2,H⟩:=he
  have a3:a1.heap.IsListIter I l (j + 1 + 1):=⟨fE,a2,a0,G⟩
  show wpAny _ A.in1 (tryCatch (holding [v,.int (kf (j + 1)) M] (richCompare .Lt (.int (kf (j + 1)) M) (.int (kf i) tb) >>= _)) _ >>= _) _ _ _
  refine wpAny_bind (wpAny_tryCatch (wpAny_holding (wpAny_bind (CmpOf.ints_lt (prog:=prog) (w:=w) (A:=A.in1) (P:=fun i v=>∃ t,v=.int (kf i) t) kf (fun i v h=>h) (j + 1) i _ _ _ _ _ ⟨M,rfl⟩ ⟨tb,rfl⟩ ?_))))
  refine wpAny_bind (wpAny_holding (wpAny_truthy_bool ?_))
  refine wpAny_bind (wpAny_letGo (wpAny_pure ?_))
  by_cases a4:kf (j + 1) < kf i
  ·have s1:=Heap.SameBut.update a1.heap S (Obj.mapSeq fun _=>#[v,.int (kf (j + 1)) M])
   have a7:=get?_update_seq H fun _=>#[v,.int (kf (j + 1)) M]
   simp only [a4,decide_true,if_true]
   refine wpAny_bind ?_
   refine wpAny_updateSeq H rfl (wpAny_bind (wpAny_letGo ?_))
   rw [f]
   refine wpAny_pure ⟨plainId_quiet dA _,ih (j + 1) (j + 1) _ v M _ (by omega) F (fF _ _ _ S (.inr rfl) J2 fun b o n2 z=>(s1.2 b n2).trans z) a7 ⟨fE,(s1.2 I m.symm).trans a2,a0,G⟩ hv (aC _) fun d V=>?_⟩
   by_cases e:d=j + 1
   ·subst e
    exact ⟨by omega,fun _=>by omega⟩
   ·have a8:=a d (by omega)
    have a9:=a8.1
    exact ⟨by omega,fun _=>by omega⟩
  ·simp only [a4,decide_false,Bool.false_eq_true,if_false]
   refine wpAny_bind (wpAny_letGo ?_)
   rw [f]
   refine wpAny_pure ⟨plainId_quiet dA _,ih (j + 1) i _ L tb c (by omega) F (fF _ _ _ S (.inr rfl) J2 fun b o _ z=>z) H a3 y (by omega) fun d V=>?_⟩
   by_cases e:d=j + 1
   ·subst e
    exact ⟨by omega,fun _=>by omega⟩
   ·exact a d (by omega)
end
section
variable {prog:Program} {w:World} {A:Around} {E:Value->Shared->Prop} {s:Shared} {l q:Addr} {n:Nat} {Pv:Nat->Value->Prop} {vs:List Value} {Q:Value->Shared->Prop}
theorem minK (kf:Nat->Int) (J:Shared->Prop) (Z:A.handled=none) (hl:∀ s,J s->∃ vs:List Value,s.heap.IsList l vs.toArray/\vs.length=n/\∀ i v,vs[i]?=some v->Pv i v) (f:0 < n) (h0:s.heap.IsList l vs.toArray)
  (C:∀ h',(∀ b o,s.heap.get? b=some o->h'.get? b=some o)->s.heap.objs.size + 1 < h'.objs.size->J { s with heap:=h' })
  (D:∀ s1 h' tk it,it=s.heap.objs.size\/it=s.heap.objs.size + 1->J s1->(∀ b o,b≠it->s1.heap.get? b=some o->h'.get? b=some o)->J { s1 with heap:=h',toks:=tk })
  (turn:∀ (i:Nat) (v:Value),Pv i v->∀ s1 G H,J s1->s1.heap.get? s.heap.objs.size=some G->s1.heap.get? (s.heap.objs.size + 1)=some H->(∀ v,G.data≠.cell v)->(∀ v,H.data≠.cell v) ->
   wpAny (model prog w) A.in1 (call (.ref q) [v]) (fun u c=>∃ t,u=.int (kf i) t/\J c/\c.heap.get? s.heap.objs.size=some G/\c.heap.get? (s.heap.objs.size + 1)=some H) (fun _ _=>False) s1)
  (hQ:∀ i v c,Pv i v->(∀ j,j < n->kf i<=kf j/\(j < i->kf i < kf j))->J c->Q v c) :
  wpAny (model prog w) A (call (.builtin "min") [.ref l] [(Str.ofString "key", .ref q)]) Q E s:=by
 have a:(toString "min" ++ toString ".loop" : String) = "min.loop" := by decide
 obtain ⟨ol,I,_⟩:=id h0
 have K:l < s.heap.objs.size:=aE I
 refine kmk_tree PySem.F.kind_min PySem.F.plain_min PySem.F.entry_min (kmk_min_key _ _) ?_
 show wpAny _ A.in1 (Builtin.Builtins.bindParams "min" ["key", "default"] 0 ⟨[],[(Str.ofString "key", .ref q)]⟩ >>= _) _ _ s
 refine wpAny_bind (wpAny_of_eq (show Builtin.Builtins.bindParams "min" ["key", "default"] 0 ⟨[],[(Str.ofString "key", .ref q)]⟩=pure [some (.ref q),none] from rfl) ?_)
 refine wpAny_bind (wpAny_pure ?_)
 refine wpAny_bind (wpAny_pyIter_list h0 ?_)
 refine wpAny_bind (wpAny_newList ?_ (aW _))
 rw [a]
 have L:(s.heap.push { cls:=.type "list_iterator", data:=.fields #[.ref l,.int 0 0] }).objs.size=s.heap.objs.size + 1:=size_push' ..
 have g:l≠s.heap.objs.size:=aL K
 have d:s.heap.objs.size + 1≠s.heap.objs.size:=cV (cH _)
 refine wpAny_pure ⟨plainId_quiet dA _,?_⟩
 have gI:((s.heap.push { cls:=.type "list_iterator", data:=.fields #[.ref l,.int 0 0] }).push (seqObj "list" #[] 0)).get? s.heap.objs.size=some { cls:=.type "list_iterator", data:=.fields #[.ref l,.int 0 0] } :=
  aR _ (bE _ rfl)
 have gS:((s.heap.push { cls:=.type "list_iterator", data:=.fields #[.ref l,.int 0 0] }).push (seqObj "list" #[] 0)).get? (s.heap.objs.size + 1)=some (seqObj "list" #[] 0):=by rw [<- L];exact bE _ rfl
 have J0:J { s with heap:=(s.heap.push { cls:=.type "list_iterator", data:=.fields #[.ref l,.int 0 0] }).push (seqObj "list" #[] 0) }:=C _ (fun b o z=>aR _ (aR _ z)) (by rw [size_push',L];exact cH _)
 obtain ⟨vs,M,N,fF⟩:=hl _ J0
 have W:=Walks.list (prog:=prog) (w:=w) (A:=A.in1) Z s.heap.objs.size l g vs.toArray
 have P:vs.toArray.size=n:=(bT ..).trans N
 rw [L]
 refine codeAny_builtin eY ?_
 rw [Around.under_plainId dA _]
 show wpAny _ A.in1 (seqItems? (.ref _) >>= _) _ _ _
 refine wpAny_bind (wpAny_seqItems gS rfl ?_)
 show wpAny _ A.in1 (tryCatch (pyNext (.ref s.heap.objs.size)) _ >>= _) _ _ _
 refine wpAny_bind (wpAny_tryCatch (W.item 0 _ _ _ (by rw [P];exact f) ⟨⟨_,gI,rfl,rfl⟩,M⟩ fun v h' R hP k m=>?_))
 have hv:Pv 0 v:=fF _ _ (by simpa using hP)
 obtain ⟨S,p,T,r⟩:=id k.1
 have fG:=m _ _ (by simpa using d) gS
 have J1:=D _ h' R _ (.inl rfl) J0 fun b o n1 z=>m b o (by simpa using n1) z
 show wpAny _ A.in1 (tryCatch (holding [v] (call (.ref q) [v])) _ >>= _) _ _ _
 refine wpAny_bind (wpAny_tryCatch (wpAny_holding (wpAny_mono (turn 0 v hv _ _ _ J1 p fG (fun v z=>by rw [r] at z;cases z) fun v z=>by cases z) (fun x V he=>?_) fun _ _ hF=>hF.elim)))
 obtain ⟨B,rfl,J2,X,y⟩:=he
 have s1:=Heap.SameBut.update V.heap (s.heap.objs.size + 1) (Obj.mapSeq fun _=>#[v,.int (kf 0) B])
 have fE:=get?_update_seq y fun _=>#[v,.int (kf 0) B]
 show wpAny _ A.in1 (updateSeq (s.heap.objs.size + 1) (fun _=>#[v,.int (kf 0) B]) >>= _) _ _ _
 refine wpAny_bind ?_
 refine wpAny_updateSeq y rfl ?_
 rw [a]
 refine wpAny_pure ⟨plainId_quiet dA _,TJ kf J Z hl g d D turn (fun i v c h1 h2 h3=>hQ i v c h1 h2 h3) _ 0 0 _ v B _ rfl f (D _ _ _ _ (.inr rfl) J2 fun b o n2 z=>(s1.2 b n2).trans z) fE ⟨S,(s1.2 _ d.symm).trans X,T,r⟩ hv (aC _) fun j' a0=>?_⟩
 have e:j'=0:=by omega
 subst e
 exact ⟨by omega,fun h=>absurd h (bN _)⟩
end
end L2
namespace L2
open PySem PySem.Spec PyProof.Rows PySem.W
section
variable {X:Cx} {pins:List (Addr×Obj)} {O:St} {Ha:Hp} {s:Shared} {f c':Addr} {x q:Str} {kk:Nat} {params:Arguments} {body:Expr} {lsc:Scope} {clos:List (Str×Addr)} {caps:List (Str×Nat)} {va:Str->V} {pm ctv:Value} {spl:Sp} {fd:FuncData}
theorem zau (l:Inv X pins O Ha s) (F:FnOk X.prog X.w X.K X.mg X.base CX0 kk f fd [x] spl) (a:xg X.K fd [x] []) (hr:Room kk X.A.in1) (fE:∀ p∈caps,O[p.2]?=some (some (va p.1)))
  (hN:∀ p∈caps,X.N[p.2]?=some p.1/\X.env.scope.names.lookup p.1=some .cell) (Z:∀ p∈clos,p.1∈caps.map (·.1)/\X.env.cells.lookup p.1=some p.2) (a0:∀ p∈caps,(clos.lookup p.1).isSome=true) (P:∀ y,X.fn y=true)
  (rv:RelV v u) (a1:∀ j:Hp,(∀ b o,Ha b=some o->j b=some o)->w9 j (caps.map (·.1)) va clos->spl [v] j (fun v' H3=>v'=r/\H3=j) E0) :
  wpAny (model X.prog X.w) X.A.in1 (call (.ref f) [u]) (fun u' s'=>RelV r u'/\Inv X pins O Ha s') (fun _ _=>False) s:=by
 have cel:∀ y b,(y,b)∈clos->Ha b=none/\X.env.cells.lookup y=some b/\y∈caps.map (·.1)/\∃ o u,s.heap.get? b=some o/\o.data=.cell (some u)/\RelV (va y) u:=fun y b h=>by
  obtain ⟨W,L⟩:=Z (y,b) h
  obtain ⟨G,M,H⟩:=aF.mp W
  have H:G.1=y:=H
  have n:=hN G M
  have vv:=fE G M
  rw [H] at n vv
  have fr:Ha b=none:=(l.freeC y b L).elim (fun z=>z) fun z=>by rw [P y] at z;cases z.1
  obtain ⟨m,hn,hl⟩:=id l.loc
  obtain ⟨u,ru,lk⟩:=hl G.2 y (va y) n.1 vv (.inr (.inl n.2))
  refine ⟨fr,L,W,?_⟩
  rcases lk with ⟨z,_⟩ | ⟨_,b2,E,o,Q,z4⟩
  ·have z':X.env.scope.names.lookup y=some .local:=z
   rw [n.2] at z';cases z'
  ·rw [L] at E;cases E
   exact ⟨o,u,Q,z4,ru⟩
 let cs:List Addr:=clos.map (·.2)
 have I:∀ {b:Addr},b∈cs->∃ y,(y,b)∈clos:=fun {b} a=>by
  obtain ⟨⟨y,b'⟩,h1,h2⟩:=aF.mp a
  have:b'=b:=h2
  subst this
  exact ⟨y,h1⟩
 have a2:∀ {b:Addr},b∈cs->Ha b=none:=fun a=>let ⟨y,h⟩:=I a;(cel y _ h).1
 let j:Hp:=fun b=>if b∈cs then (s.heap.get? b).map knw else Ha b
 have g:∀ {b:Addr},b∉cs->j b=Ha b:=fun a=>if_neg a
 have q:∀ {b:Addr},b∈cs->∃ y o u,(y,b)∈clos/\s.heap.get? b=some o/\j b=some (knw o)/\o.data=.cell (some u)/\RelV (va y) u:=fun {b} a=>by
  obtain ⟨y,h⟩:=I a
  obtain ⟨_,_,_,o,u,fF,E,Q⟩:=cel y b h
  exact ⟨y,o,u,h,fF,by show (if b∈cs then _ else _)=_;rw [if_pos a,fF];rfl,E,Q⟩
 have nC:∀ {b:Addr} {x:HO},Ha b=some x->b∉cs:=fun {b x} i a=>by rw [a2 a] at i;cases i
 have c:∀ {b:Addr} {x:HO},Ha b=some x->j b=some x:=fun i=>by rw [g (nC i)];exact i
 have R:HOk X.prog X.w j s.heap:=fun b x i=>by
  by_cases a:b∈cs
  ·obtain ⟨_,o,u,_,fF,E,_⟩:=q a
   rw [E] at i;cases i
   exact ZQ fF
  ·rw [g a] at i
   exact (l.hok b x i).stay (fun _ _ _ z=>z) (fun _ z=>c z) (fun _ _ z=>c z) fun _ _ _ z _=>c z
 have big:∀ {b:Addr},b∈cs->X.s₀.heap.objs.size<=b/\b≠X.env.locals:=fun {b} a=>by
  obtain ⟨y,h⟩:=I a
  obtain ⟨_,L,_⟩:=cel y b h
  exact ⟨l.ok.cab y b (P y) L,l.cne y b L⟩
 have e0:Env0 X.prog X.w X.K X.mg X.base X.A X.stack s j:=by
  have e:=l.env0
  refine ⟨e.frames,e.mod,fun b o z=>⟨(e.bs b o z).1,?_⟩,e.bsz,e.funs,fun b a=>?_,R,e.bare,fun p M=>?_⟩
  ·rw [g fun a=>absurd (bF (aE (l.ok.bs b o z).1) (big a).1) (bN _)]
   exact (e.bs b o z).2
  ·rw [g fun k=>?_]
   ·exact e.frf b a
   ·rcases aT.mp (l.stkSub b a) with z | z
    ·exact (big k).2 z
    ·obtain ⟨_,o,ho,_⟩:=l.ok.funs.mem z
     exact absurd (bF (aE ho) (big k).1) (bN _)
  ·obtain ⟨t,m,z⟩:=e.tb p M
   exact ⟨t,m,c z⟩
 have D:∀ {y:Str} {b:Addr},clos.lookup y=some b->(y,b)∈clos:=fun e=>PySem.mem_of_lookup e
 have a3:w9 j (caps.map (·.1)) va clos:=by
  refine ⟨fun y h=>?_,fun y b h=>?_,fun y z b h hz=>?_⟩
  ·obtain ⟨G,M,H⟩:=aF.mp h
   have H:G.1=y:=H
   have:=a0 G M
   rw [H] at this
   exact cW.mp this
  ·obtain ⟨_,_,W,o,u,fF,E,Q⟩:=cel y b (D h)
   have a:b∈cs:=aF.mpr ⟨(y,b),D h,rfl⟩
   refine ⟨W,o,u,?_,E,Q⟩
   show (if b∈cs then _ else _)=_
   rw [if_pos a,fF];rfl
  ·exact l.ok.inj y z b (cel y b (D h)).2.1 (cel z b (D hz)).2.1
 have sq:=a1 j (fun b o z=>c z) a3
 have bt:=a s [u] l.kIn (by rfl)
 rw [bG] at bt
 refine wpAny_call (codeAny_mono (F.run X.A.in1 X.stack s j ⟨[u],[]⟩ [u] [v] _ _ hr e0.in1 bt (.cons rv .nil) sq) fun rs s3 B=>?_)
 cases rs with
 | error e'=>exact False.elim B
 | ok fl =>
  cases fl with
  | next=>exact False.elim B
  | brk=>exact False.elim B
  | cont=>exact False.elim B
  | ret u' =>
   obtain ⟨v',H3,os,bare,un,C,a4,rfl,rfl⟩:=B
   refine ⟨a4,?_⟩
   have a5:Un (frs X.stack) [] Ha Ha s.heap s3.heap:=by
    refine ⟨fun b o z n a _=>?_,fun b o z n a _=>?_,fun b o z n _=>n,fun b o z i=>un.there b o z i,fun b xs z=>z,fun b o u z=>z,fun b a6 z=>⟨#[],by rw [z];simp⟩⟩
    ·by_cases k:b∈cs
     ·obtain ⟨_,o',_,_,S,T,_⟩:=q k
      rw [z] at S;cases S
      exact (C b _ T).1
     ·exact un.keep b o z (by rw [g k];exact n) a (by simp)
    ·by_cases k:b∈cs
     ·obtain ⟨_,o',_,_,S,T,_⟩:=q k
      rw [z] at S;cases S
      exact ⟨o.slots,(C b _ T).1⟩
     ·exact un.slot b o z (by rw [g k];exact n) a (by simp)
   have fG:HOk X.prog X.w Ha s3.heap:=fun b x i=>by
    have a:b∉cs:=nC i
    have V:∀ {d:Addr} {y:HO},j d=some y->(∀ o u,y≠.frz o u)->Ha d=some y:=fun {d y} J hn=>by
     by_cases k:d∈cs
     ·obtain ⟨_,o,_,_,_,z,_⟩:=q k
      rw [J] at z;cases z
      exact absurd rfl (hn _ _)
     ·rw [g k] at J;exact J
    refine (C b x (c i)).stay (fun _ _ _ z=>z) (fun d z=>V z fun _ _ y=>by cases y) (fun d xs z=>V z fun _ _ y=>by cases y) fun d o' u' z nd=>?_
    by_cases k:d∈cs
    ·obtain ⟨_,o,u2,_,_,y,T,_⟩:=q k
     rw [z] at y;cases y
     exact absurd T (nd _)
    ·rw [g k] at z;exact z
   exact l.call' os a5 fG bare (ch:=[]) (fun _ z=>nomatch z)
end
def FstK (kf:Int->Int) (ns:List Int) (i:Nat):Prop:=i < ns.length/\∀ j,j < ns.length->kf (ns.getD i 0)<=kf (ns.getD j 0)/\(j < i->kf (ns.getD i 0) < kf (ns.getD j 0))
theorem FstK.one (a:FstK kf ns i) (b:FstK kf ns j):i=j:=by
 have c:=a.2 j b.1
 have d:=b.2 i a.1
 omega
theorem zcd (kf:Int->Int) (h:ns≠[]):∃ i,FstK kf ns i:=by
 have:∀ k,k < ns.length->∃ i,i<=k/\∀ j,j<=k->kf (ns.getD i 0)<=kf (ns.getD j 0)/\(j < i->kf (ns.getD i 0) < kf (ns.getD j 0)):=by
  intro k
  induction k with
  | zero=>exact fun _=>⟨0,aC _,fun j b=>by rw [show j=0 by omega];exact ⟨Int.le_refl _,fun z=>absurd z (bN _)⟩⟩
  | succ k d =>
   intro f
   obtain ⟨i,hi,a⟩:=d (by omega)
   by_cases c:kf (ns.getD (k + 1) 0) < kf (ns.getD i 0)
   ·refine ⟨k + 1,aC _,fun j b=>?_⟩
    by_cases e:j=k + 1
    ·rw [e];exact ⟨Int.le_refl _,fun z=>absurd z (bN _)⟩
    ·have:=(a j (by omega)).1
     exact ⟨by omega,fun _=>by omega⟩
   ·refine ⟨i,by omega,fun j b=>?_⟩
    by_cases e:j=k + 1
    ·rw [e];exact ⟨by omega,fun z=>by omega⟩
    ·exact a j (by omega)
 have l:=cG.mpr h
 obtain ⟨i,hi,a⟩:=this (ns.length - 1) (by omega)
 exact ⟨i,by omega,fun j b=>a j (by omega)⟩
open Classical in
noncomputable def mnK (kf:Int->Int) (ns:List Int):Int:=if h:∃ i,FstK kf ns i then ns.getD h.choose 0 else 0
theorem zag (h:FstK kf ns i):ns.getD i 0=mnK kf ns:=by
 unfold mnK
 have e:∃ i,FstK kf ns i:=⟨i,h⟩
 rw [dif_pos e,h.one e.choose_spec]
theorem ZN {kf:Int->Int} {ns:List Int} (h:ns≠[]):mnK kf ns∈ns/\∀ n∈ns,kf (mnK kf ns)<=kf n:=by
 obtain ⟨i,hi⟩:=zcd kf h
 rw [<- zag hi]
 refine ⟨vU hi.1,fun n b=>?_⟩
 obtain ⟨j,a,rfl⟩:=dL.mp b
 have:=(hi.2 j a).1
 rw [aM (l:=ns) (i:=j),bD a] at this
 exact this
def tML (P:Program) (w:World) (K:Frag) (mg:Str->Option Value) (base:Heap) (kk:Nat) (ta:TA) (x:Str) (params:Arguments) (body:Expr) (lsc:Scope) (q:Str) (caps:List (Str×Nat)):TE:=fun O H Q=>ta O H fun vs H1=>∃ va:Str->V,(∀ p∈caps,O[p.2]?=some (some (va p.1))) /\
 ∃ (p:Addr) (ns:List Int) (kf:Int->Int),vs=[.ref p]/\SqL K H1 p (ns.map V.int)/\ns≠[] /\
 (∀ (cl:List (Str×Addr)) (f c':Addr) (pm ctv:Value),(∀ y∈caps.map (·.1),(cl.lookup y).isSome=true)->∃ spl:Sp,FnOk P w K mg base CX0 kk f (kla_fn "<lambda>" q params body lsc cl pm (.ref c') ctv) [x] spl/\xg K (kla_fn "<lambda>" q params body lsc cl pm (.ref c') ctv) [x] [] /\
  ∀ n∈ns,∀ H2:Hp,(∀ b o,H1 b=some o->H2 b=some o)->H2 f=some (knw (kla_obj "<lambda>" q params body lsc cl pm c' ctv))->Yd H2 c' q->w9 H2 (caps.map (·.1)) va cl->spl [.int n] H2 (fun v' H3=>v'=.int (kf n)/\H3=H2) E0) /\
 ∀ H4:Hp,Tf H1 H4->Q (.int (mnK kf ns)) H4
section
variable {X:Cx} {kk:Nat} {p pos lpos kp:Pos} {e:Expr} {ta:TA} {x:Str} {params:Arguments} {body:Expr} {lsc:Scope} {q:Str} {c T:Addr} {clos:List (Str×Addr)} {caps:List (Str×Nat)}
theorem Tw (hr:Room (kk + 1) X.A) (hg:Gl X "min") (hm:X.mg "min" = none) (ha:PA X [e] ta) (m:X.env.code=.ref c) (fE:codeHdIn X.K c T=true) (L:(T,q)∈yg X.K) (hq:X.env.qual ++ "<lambda>" = q)
  (Z:closureFor lsc X.env=pure clos) (M:defaultsOf params X.env=([],[])) (hN:∀ p∈caps,X.N[p.2]?=some p.1/\X.env.scope.names.lookup p.1=some .cell) (a0:∀ p∈clos,p.1∈caps.map (·.1)/\X.env.cells.lookup p.1=some p.2) (fF:∀ p∈caps,(clos.lookup p.1).isSome=true) (a1:∀ y,X.fn y=true)
  (he:backTo pos (starEach (e :: []) X.env)=(false,eval e X.env) :: backTo pos (starEach [] X.env):=by rfl) (a2:(backTo pos (starEach (e :: []) X.env)).any (·.1)=false:=by rfl) :
  PE X (.Call (.Name "min" p) [e] [⟨some "key", .Lambda params body lsc lpos,kp⟩] pos) (tML X.prog X.w X.K X.mg X.base kk ta x params body lsc q caps):=by
 intro pins s O H Q I h
 refine wpAny_Call_Name_kw (uk (u:=.builtin "min") I hg hm (by decide +kernel) ?_)
 refine callWith_kw (id := "min") (thn (ha pos pins s O H _ I h) fun us s1 ⟨vs,H1,I1,r1,q1⟩=>kws_cons (W2 I1 m fE L hq Z M fun s2 g f c' pm a3 G up frf hf a4=>kws_nil ?_)) he a2
 obtain ⟨va,a5,a,ns,kf,rfl,a6,a7,hF,hQ⟩:=q1
 obtain ⟨u,rfl,rx⟩:=xh r1
 cases rx
 have P:∀ b o,H1 b=some o->g b=some o:=fun b o z=>by
  rcases up b with y | ⟨y,_⟩
  ·rw [y];exact z
  ·rw [y] at z;cases z
 have j:SqL X.K g a (ns.map V.int):=Same.seq P a6
 obtain ⟨d,r',pl,hz⟩:=G.list j
 obtain ⟨ac,F,hb,a8⟩:=hF clos f c' pm a3 fun y B=>by
  obtain ⟨pp,h1,rfl⟩:=aF.mp B
  exact fF pp h1
 have fI:g s2.heap.objs.size=none:=G.hok.fresh (aC _)
 have fS:g (s2.heap.objs.size + 1)=none:=G.hok.fresh (cK _)
 have k:=G.fpOk (aC _) fI
 have l:=G.fpOk (cK _) fS
 have gt:∀ {d:List Value} {i:Nat} {v:Value},Vals (ns.map V.int) d->d[i]?=some v->∃ t,v=.int (ns.getD i 0) t/\i < ns.length:=fun {d i v} r' C=>by
  obtain ⟨y,B,ry⟩:=xP r' C
  rw [aU] at B
  cases S:ns[i]? with
  | none=>rw [S] at B;cases B
  | some n =>
   rw [S] at B
   cases B
   obtain ⟨t,rfl⟩:=ry
   refine ⟨t,?_,?_⟩
   ·rw [aM,S];rfl
   ·exact (aP.mp S).1
 refine minK (vs:=d) (n:=ns.length) (Pv:=fun i v=>∃ t,v=.int (ns.getD i 0) t/\i < ns.length) (fun i=>kf (ns.getD i 0)) (fun fG=>Inv X pins O g fG) hr.hd (fun fG J=>?_) (cG.mpr a7) pl.isList (fun h' W _=>G.kept (t':=s2.toks) W) (fun s3 h' tk it a9 J W=>?_) (fun i v C s3 o1 o2 J g1 g2 n1 n2=>?_) fun i v fG C D J=>?_
 ·obtain ⟨R,r2,aa,_⟩:=J.list j
  exact ⟨R,aa.isList,by have:=r2.length;rw [aB] at this;exact this.symm,fun i v C=>gt r2 C⟩
 ·rcases a9 with rfl | rfl
  ·exact J.turned W k.1 k.2.1 k.2.2.2.1 k.2.2.2.2.1 k.2.2.2.2.2
  ·exact J.turned W l.1 l.2.1 l.2.2.2.1 l.2.2.2.2.1 l.2.2.2.2.2
 ·obtain ⟨t,rfl,E⟩:=C
  have J':Inv X (pins ++ [(s2.heap.objs.size,o1),(s2.heap.objs.size + 1,o2)]) O g s3:=J.pins_of fun p hp=>by
   rcases aQ.mp hp with z | z
   ·exact J.pin p (aO _ z)
   ·rcases aT.mp z with rfl | z
    ·exact ⟨g1,k.1,k.2.1,k.2.2.1,n1⟩
    ·cases aD.mp z
     exact ⟨g2,l.1,l.2.1,l.2.2.1,n2⟩
  refine wpAny_mono (zau J' F hb hr.in1 a5 hN a0 fF a1 (v:=.int (ns.getD i 0)) (r:=.int (kf (ns.getD i 0))) ⟨t,rfl⟩ fun H2 le ab=>a8 _ (vU E) H2 (fun b o z=>le b o (P b o z)) (le _ _ hf) ?_ ab) (fun u' fG z=>?_) fun _ _ z=>z
  ·obtain ⟨o,fs,t,z1,z2,z3⟩:=a4
   exact ⟨o,fs,t,le _ _ z1,z2,z3⟩
  ·obtain ⟨⟨t',rfl⟩,J2⟩:=z
   exact ⟨t',rfl,J2.unpinned,(J2.pin _ (aO _ (aO _ (.head _)))).1,(J2.pin _ (aO _ (aO _ (.tail _ (.head _))))).1⟩
 ·obtain ⟨t,rfl,E⟩:=C
  exact ⟨.int (mnK kf ns),g,J,⟨t,by rw [zag (i:=i) ⟨E,D⟩]⟩,hQ g up⟩
end
end L2
namespace PD
open PySem L2 PySem.W
section
variable {P:Program} {w:World} {K:aA} {mg:Str->Option Value} {base:Heap} {S:Sx} {U:Bool} {Y:Ctx}
theorem T6 (I:EvL K S false t1 Y (ns.map .int)) (h0:ns≠[]) (hd:GetC Y i (.xn (dkO m))) (J:∀ n∈ns,dGet m n=some (.int (kf n)))
  (L:wL x [y] lsc) (M:∀ cl pm d g,xg K (kla_fn "<lambda>" q params body lsc cl pm (.ref d) g) [x] [])
  (l:∀ (f d:Addr) (cl:List (Str×Addr)),(∀ z∈[y],(cl.lookup z).isSome=true)->∀ (A:Around) (outer:List Env) (s:Shared) (H:Hp),Room kk (A.deeper (envX q lsc s.heap.objs.size f (.ref d) cl))->PE (cxL P w K mg base [x,y] q lsc f (.ref d) cl A outer s H) body (Ux (tVar 1) (tVar 0))) :
  EvE K S U (tML P w K mg base (kk + 1) (zR t1 tNil) x params body lsc q [(y,i)]) Y (.int (mnK kf ns)):=fun H0 F0 H F O e Q N =>
 I H0 F0 H F O e _ fun a vs fF R j T fG=>by
  cases zX (zP fG)
  obtain ⟨u,V,b,rfl,W⟩:=e.has i _ hd.eq
  have r:fF b=some (.dK m):=j.h _ _ (e.le _ _ W)
  refine ⟨fun _=>.ref b,fun p l=>by cases aD.mp l;exact V,a,ns,kf,rfl,T,h0,fun cl f d pm g t=>⟨fun vs c Q _=>∃ n,vs=[.int n]/\n∈ns/\c f=some (knw (kla_obj "<lambda>" q params body lsc cl pm d g))/\Yd c d q/\w9 c [y] (fun _=>.ref b) cl/\c b=some (.dK m)/\Q (.int (kf n)) c,?_,M cl pm d g,fun n B c le X C D=>⟨n,rfl,B,X,C,D,le _ _ r,rfl,rfl⟩⟩,fun fE up=>?_⟩
  ·refine zat (va:=fun _=>.ref b) L (fun vs c Q E h=>?_) (fun vs c Q E h=>?_) fun A outer s c v Q E Z h=>?_
   ·obtain ⟨n,rfl,_⟩:=h
    rfl
   ·obtain ⟨n,_,_,z1,z2,z3,_⟩:=h
    exact ⟨z1,z2,z3⟩
   ·obtain ⟨n,ev,B,_,_,_,G,hq⟩:=h
    cases ev
    refine ⟨_,l f d cl t A outer s c Z,_,rfl,_,rfl,b,_,rfl,?_,hq⟩
    have:=DGet.k (k:=.inl n) G
    rwa [show valV m (.inl n)=some (.int (kf n)) from J n B] at this
  ·refine N _ fE R (j.trans ⟨fun b o z=>?_,.refl _,fun b o z=>?_,fun b o z n=>n⟩) (.int _)
   ·rcases up b with y | ⟨y,_⟩
    ·rw [y];exact z
    ·rw [y] at z;cases z
   ·rcases up b with y | ⟨y,_⟩
    ·rw [y];exact j.le _ _ z
    ·rw [j.le _ _ z] at y;cases y
end
end PD
namespace PD
open PySem L2
section
variable {K:aA} {S S':Sx} {U:Bool} {Y Y':Ctx} {P:Post}
theorem zci (hi:GetC Y i (.tn (.tuple (V :: .list ds1 :: rest)))) (y:GetC Y j (.fz U' (.int m))) (hz:ds1.length < sizeLine) (A:SpC Y Y') (u:OneT Y) (k:P.nx Y') :
  ExT K (.spoil T) .fresh (v5 (tBM K "list" we (tOp (rIxT K) (tVar i) (tC (.int 1))) (zR (tVar j) tNil))) Y P:=fun H0 F0 H F O B e C E D I=>by
 have hi:=hi.eq
 obtain ⟨w,G,W,J,p⟩:=e.has i _ hi
 cases J
 obtain ⟨x,h,X⟩:=e.has j _ y.eq
 obtain ⟨t,vs,rfl,L,M⟩:=uf p
 cases M with
 | cons fE l =>
  cases l with
  | cons N v =>
   obtain ⟨a,us,rfl,f,n⟩:=tE N
   have fF:∀ {b:Addr},¬ Sx.has (.spoil fun a=>¬ T a) (fun _=>none) b->T b:=fun c=>Classical.byContradiction fun z=>c (.inr z)
   have Q:=fF f.2
   have q:=e.le _ _ f.1
   have r:=Same.seqT e.le L
   refine ⟨_,G,t,_,1,_,rfl,rfl,r,atI1,.inl ⟨rfl,_,SqL.of q⟩,_,h,a,us,x,rfl,rfl,q,by rw [zv.length n];exact hz,?_⟩
   refine yr (K:=K) (S:=.fresh) k H0 F0 _ _ O B (e.spoilt (fun d o hd g=>?_) A u fun m Z d R s _ _=>?_) (Ul C (zbe E)) (.inl rfl) D I
   ·have fG:d≠a:=by
     rintro rfl
     rcases g with g | g
     ·rw [q] at hd;cases hd;cases g
     ·exact g Q
    rw [zp fG]
    exact hd
   ·have:=u m i _ _ s hi
    subst this
    rw [hi] at s
    cases s
end
end PD
open PySem L2 PD
local macro_rules | `(tactic| walk_at"comp_ok")=>`(tactic| (refine vM.of (by with_unfolding_all rfl) (by decide +kernel) rfl (by decide +kernel) ?_ (by with_unfolding_all rfl) rfl (by with_unfolding_all rfl);(repeat (with_unfolding_all refine List.forall_mem_cons.mpr ⟨by with_unfolding_all rfl,?_⟩));exact List.forall_mem_nil _))
local macro_rules | `(tactic| walk_at"comp_okC")=>`(tactic| (refine vZ.of (by with_unfolding_all rfl) (fun _ _=>by with_unfolding_all rfl) (by decide +kernel) rfl rfl rfl (by decide +kernel) ?_ (by with_unfolding_all rfl) rfl (by with_unfolding_all rfl);(repeat (with_unfolding_all refine List.forall_mem_cons.mpr ⟨by with_unfolding_all rfl,?_⟩));exact List.forall_mem_nil _))
local macro_rules | `(tactic| walk_at"comp_lam")=>`(tactic| exact vM.lam (by assumption) (by decide +kernel) rfl (by decide +kernel) (by decide +kernel) rfl (by with_unfolding_all rfl))
local macro_rules | `(tactic| walk_at"gc")=>`(tactic| ((repeat ((with_reducible apply GetC.succ))) ;(with_reducible exact GetC.zero)))
local macro_rules | `(tactic| walk_at"sc")=>`(tactic| ((repeat ((with_reducible apply SetC.succ))) ;(with_reducible exact SetC.zero)))
local macro_rules | `(tactic| walk_at"st")=>`(tactic| ((repeat (first | (with_reducible apply xf.got) | ((with_reducible apply xf.no)))) ;(with_reducible exact xf.z)))
local macro_rules | `(tactic| walk_at"cc")=>`(tactic| ((repeat (first | (with_reducible apply xK.no) | ((with_reducible apply xK.got) ;focus walk_at"gc")));(with_reducible exact xK.nil)))
local macro_rules | `(tactic| walk_at"mk")=>`(tactic| ((repeat (first | ((with_reducible apply wm.got);focus (first | exact MkD.fz | exact MkD.ow | exact MkD.im rfl | exact MkD.ox)) | (with_reducible apply wm.no)));(with_reducible exact wm.nil)))
local macro_rules | `(tactic| walk_at"sp")=>`(tactic| ((repeat (first | ((with_reducible apply SpC.got);focus (first | exact SpD.fz | exact SpD.ow | exact SpD.im rfl | exact SpD.ox | exact SpD.tn)) | (with_reducible apply SpC.no)));(with_reducible exact SpC.nil)))
local macro_rules | `(tactic| walk_at"sd")=>`(tactic| first | ((with_reducible apply asm) ;assumption) | decide | omega | skip)
local macro_rules | `(tactic| walk_at"ln")=>`(tactic| (simp only [List.length_cons,List.length_nil];decide))
local macro_rules | `(tactic| walk_at"ev")=>`(tactic| first
 | (with_reducible exact xI)
 | (with_reducible exact zaI)
 | (with_reducible exact zeG)
 | (with_reducible exact ZX)
 | (with_reducible exact zaP)
 | (with_reducible exact zC)
 | (with_reducible exact X8)
 | ((with_reducible apply asm) ;(with_reducible assumption))
 | ((with_reducible apply evv) ;walk_at"gc";decide)
 | ((with_reducible apply evi) ;walk_at"gc";rfl)
 | ((with_reducible apply evtn) ;walk_at"gc";done)
 | ((with_reducible apply evw) ;walk_at"gc";decide)
 | ((with_reducible apply wx) <;> walk_at"ev")
 | ((with_reducible apply ZW) <;> walk_at"ev")
 | ((with_reducible apply YV) <;> walk_at"ev")
 | ((with_reducible apply ev_le) <;> walk_at"ev")
 | ((with_reducible apply t7) <;> walk_at"ev")
 | ((with_reducible apply zc7) <;> walk_at"ev")
 | ((with_reducible apply X6) <;> walk_at"ev")
 | ((with_reducible apply uX) <;> walk_at"ev")
 | ((with_reducible apply ev_fdivB) <;> walk_at"ev")
 | ((with_reducible apply xH) <;> walk_at"ev")
 | ((with_reducible apply ev_pow) <;> walk_at"ev")
 | ((with_reducible apply uo) <;> walk_at"ev")
 | ((with_reducible refine' tL (EvE.toD (U:=false) ?_)) <;> walk_at"ev")
 | ((with_reducible refine' X5 (EvE.toD (U:=false) ?_)) <;> walk_at"ev")
 | ((with_reducible apply zI) <;> walk_at"ev")
 | ((with_reducible apply yP) <;> walk_at"ev")
 | ((with_reducible apply ur) <;> walk_at"ev" <;> done)
 | ((with_reducible apply vG) <;> walk_at"ev" <;> done)
 | ((with_reducible apply ev_eqB) <;> walk_at"ev" <;> done)
 | ((with_reducible apply ev_neB) <;> walk_at"ev" <;> done)
 | ((with_reducible apply zaM) <;> walk_at"ev" <;> done)
 | ((with_reducible apply zaJ) <;> walk_at"ev" <;> done)
 | ((with_reducible apply Ub) <;> (try (with_reducible intro _)) <;> walk_at"ev")
 | ((with_reducible apply zc6) <;> (try (with_reducible intro _)) <;> walk_at"ev")
 | ((with_reducible apply ZY) <;> walk_at"ev")
 | ((with_reducible apply zq) <;> walk_at"ev")
 | ((with_reducible apply et_B) <;> walk_at"ev")
 | ((with_reducible apply xu) <;> (try (with_reducible intro _)) <;> walk_at"ev")
 | ((with_reducible apply yG) <;> (try (with_reducible intro _)) <;> walk_at"ev")
 | ((with_reducible apply xJ) <;> walk_at"ev")
 | ((with_reducible apply zg) <;> walk_at"ev")
 | ((with_reducible apply ww) <;> walk_at"ev")
 | ((with_reducible apply EvO.toE) ;((with_reducible apply zZ)) <;> walk_at"ev")
 | ((with_reducible apply zZ) <;> walk_at"ev")
 | ((with_reducible apply yb) <;> walk_at"ev" <;> done)
 | ((with_reducible apply uW) <;> walk_at"ev")
 | ((with_reducible apply EvO.toE) ;((with_reducible apply x5)) <;> walk_at"ev")
 | ((with_reducible apply x5) <;> walk_at"ev")
 | ((with_reducible apply ev_abs) <;> walk_at"ev")
 | ((with_reducible apply uY) <;> walk_at"ev")
 | ((with_reducible apply EvO.toE) ;((with_reducible apply xQ)) <;> walk_at"ev")
 | ((with_reducible apply xQ) <;> walk_at"ev")
 | ((with_reducible apply EvO.toE) ;((with_reducible apply wZ)) <;> walk_at"ev")
 | ((with_reducible apply wZ) <;> walk_at"ev")
 | ((with_reducible apply EvO.toE) ;((with_reducible apply evo_rep)) <;> walk_at"ev")
 | ((with_reducible apply evo_rep) <;> walk_at"ev")
 | ((with_reducible apply EvO.toE) ;((with_reducible apply evo_listRev)) <;> walk_at"ev")
 | ((with_reducible apply evo_listRev) <;> walk_at"ev")
 | ((with_reducible refine' ZZ (EvE.toD (U:=false) ?_) ?_) <;> walk_at"ev")
 | ((with_reducible apply zk) <;> walk_at"ev")
 | ((with_reducible apply Vc) <;> walk_at"ev")
 | ((with_reducible apply zaG) ;walk_at"ev";done)
 | ((with_reducible apply evl_opts) ;walk_at"ev";done)
 | ((with_reducible apply EvE.toL) ;walk_at"ev";done)
 | ((with_reducible apply EvO.toL) ;walk_at"ev";done)
 | (with_reducible apply isE)
 | (with_reducible apply isL)
 | (with_reducible apply isT)
 | (with_reducible apply isA)
 | (with_reducible apply isO)
 | (with_reducible apply isD)
 | (with_reducible apply isI)
 | (with_reducible exact atI0)
 | (with_reducible exact atI1)
 | ((with_reducible apply asm) ;(with_reducible assumption))
 | ((with_reducible apply zdQ) ;with_unfolding_all rfl)
 | (simp only [List.length_cons,List.length_nil];decide)
 | decide
 | omega
 | skip)
local macro_rules | `(tactic| walk_at"go")=>`(tactic| repeat (first
 | ((with_reducible apply exo (te:=tLst tNil) true) ;(focus (walk_at"ev";done));(focus walk_at"sc"))
 | ((with_reducible apply exs true) ;(focus (walk_at"ev";done));(focus walk_at"sc"))
 | ((with_reducible apply exs false) ;(focus (walk_at"ev";done));(focus walk_at"sc"))
 | ((with_reducible apply exa) ;(focus walk_at"gc");(focus (walk_at"ev";done));(focus walk_at"sc");(focus (walk_at"sd";done)))
 | (with_reducible apply exn)))
local macro_rules | `(tactic| walk_at"run")=>`(tactic| (apply zbz;assumption;assumption;assumption;assumption;focus walk_at"st"))
local macro_rules | `(tactic| walk_at"ot")=>`(tactic| first | exact UG (Nat.le_refl 1) | exact UG (Nat.zero_le 1))
local macro_rules | `(tactic| walk_at"sv")=>`(tactic| ((repeat (first | (with_reducible apply xc.got) | ((with_reducible apply xc.no)))) ;(with_reducible exact xc.z)))
local macro_rules | `(tactic| walk_at"runv")=>`(tactic| (apply QD;assumption;assumption;assumption;assumption;focus walk_at"sv"))
namespace L2
open PySem PySem.Spec PyProof.Rows
theorem pF (C:zz X.prog X.w X.K X.mg X.base CX0 x ps k sp) (c:Room m X.A) (d:PA X (e :: es) t) (h:k<=m:=by decide) (f:Gl X x:=by rfl) (a:(x == ("__debug__" : Str))=false:=by decide) (g:starEach (e :: es) X.env=(false,eval e X.env) :: starEach es X.env:=by rfl) (b:(backTo pos (starEach es X.env)).any (·.1)=false:=by rfl):PE X (.Call (.Name x p) (e :: es) [] pos) (v6 sp [] E0 t):=zez C (c.mono h) f zcZ d a g b
theorem pB {X:Cx} {id:String} {r:List V->Hp->VK->Prop} {x:Str} {e:Expr} {es:List Expr} {t:TA} {p pos:Pos} (c:yq X (.builtin id) r) (d:X.mg x=none) (f:PA X (e :: es) t) (g:Gl X x:=by rfl) (h:bootBuiltins x=some (.builtin id):=by decide +kernel) (i:x ≠ "__name__" := by decide) (a:(x == ("__debug__" : Str))=false:=by decide) (j:starEach (e :: es) X.env=(false,eval e X.env) :: starEach es X.env:=by rfl) (b:(backTo pos (starEach es X.env)).any (·.1)=false:=by rfl):PE X (.Call (.Name x p) (e :: es) [] pos) (tCB r t):=Q8 c g d h f i a j b
theorem pY (c:yq X (.type T) r) (d:X.mg x=none) (f:PA X (e :: es) t) (g:Gl X x:=by rfl) (h:bootBuiltins x=some (.type T):=by decide +kernel) (i:x ≠ "__name__" := by decide) (a:(x == ("__debug__" : Str))=false:=by decide) (j:starEach (e :: es) X.env=(false,eval e X.env) :: starEach es X.env:=by rfl) (b:(backTo pos (starEach es X.env)).any (·.1)=false:=by rfl):PE X (.Call (.Name x p) (e :: es) [] pos) (tCB r t):=Tx c g d h f i a j b
theorem pS (a:X.N.Nodup) (b:PE X e te) (hi:X.N[i]?=some x:=by rfl) (c:Loc X.env.scope x:=by first | exact .inl rfl | exact .inr rfl) (d:swapsWith e (some (.Name x pos')) pos.line X.env=pure false:=by rfl) (f:X.fn x=true\/X.env.scope.names.lookup x=some .local:=by first | exact .inl rfl | exact .inr rfl | assumption):PS X (.Assign [.Name x pos'] e pos) (tAsg te (yn i)):=zdu a hi c b d f
theorem pN (a:X.N.Nodup) (hi:X.N[i]?=some x:=by rfl) (b:Loc X.env.scope x:=by first | exact .inl rfl | exact .inr rfl) (c:X.fn x=true\/X.env.scope.names.lookup x=some .local:=by first | exact .inl rfl | exact .inr rfl | assumption):PG X (.Name x pos) (yn i):=zbL a hi b c
theorem pX (c:IxR X r) (d:PE X a ta) (e:PE X b tb) (f:Te b:=by exact fun _ _=>rfl):PE X (.Subscript a b pos) (tOp r ta tb):=zey c d e f
end L2
namespace K55
open PySem L2 PD Cm
def top (i:Nat):Stmt:=PySem.Challenge.pw_causebook_k55_why_not.main.body.getD i (.Pass ⟨0,0,0,0⟩)
structure Bs (mg:Str->Option Value):Prop where
 len:mg "len" = none
 set:mg "set" = none
 range:mg "range" = none
 list:mg "list" = none
 sorted:mg "sorted" = none
 enumerate:mg "enumerate" = none
 min:mg "min" = none
 isinstance:mg "isinstance" = none
 all:mg "all" = none
 int:mg "int" = none
 bool:mg "bool" = none
 any:mg "any" = none
 max:mg "max" = none
 tuple:mg "tuple" = none
 str:mg "str" = none
structure Cs (K:aA) (mg:Str->Option Value) (aH aI:Tok):Prop where
 n_AGAINST:mg "AGAINST" = some (.int 0 aH)
 n_ALONG:mg "ALONG" = some (.int 1 aI)
 nt:tY K=true
section
variable {P:Program} {w:World} {K:aA} {mg:Str->Option Value} {base:Heap} {f:Addr} {fd:FuncData} {aH aI:Tok}
theorem zD:200000 < sizeLine:=by decide
abbrev nl (ks:List Nat):PyData:=.list (ks.map fun k:Nat=>.int (k:Int))
theorem xY (ks:List Nat):∀ d∈ks.map (fun k:Nat=>PyData.int (k:Int)),imm d=true:=fun d hd=>by
 obtain ⟨n,_,rfl⟩:=aF.mp hd
 rfl
abbrev nls (cs:List (List Nat)):PyData:=.list (cs.map nl)
def zl (ks:List Nat):List Int:=ks.map fun k:Nat=>(k:Int)
theorem ya (ks:List Nat):nl ks=il (zl ks):=by
 unfold zl
 show PyData.list _=.list _
 rw [bC]
 rfl
theorem Ur (ks:List Nat):(srt (zl ks))=zl ((srt (zl ks)).map Int.toNat):=by
 unfold zl
 rw [bC]
 refine ((dX fun x a=>?_).trans (List.map_id _)).symm
 obtain ⟨k,_,rfl⟩:=aF.mp ((uw _).mem_iff.mp a)
 rfl
def srtN (cs:List Nat):List Nat:=(srt (zl cs)).map Int.toNat
theorem xl (cs:List Nat):(srtN cs).Perm cs:=by
 have a:(zl (srtN cs)).Perm (zl cs):=by
  unfold srtN
  rw [<- Ur]
  exact uw _
 have:=a.map Int.toNat
 unfold zl at this
 rw [bC,bC] at this
 have e:(Int.toNat∘fun k:Nat=>(k:Int))=id:=by funext k;rfl
 rw [e,List.map_id,List.map_id] at this
 exact this
theorem zcD (g:α->PyData) (xs:List α) (k:Nat):cutD (xs.map g) none (some (k:Int))=(xs.take k).map g:=by
 unfold cutD
 rw [HT.Xr]
 show ((xs.map g).drop 0).take (min k (xs.map g).length - 0)=_
 rw [List.drop_zero,Nat.sub_zero,aB,<- List.map_take]
 congr 1
 rcases Nat.le_total k xs.length with h | h
 ·rw [Nat.min_eq_left h]
 ·rw [Nat.min_eq_right h,cM (aC _),cM h]
theorem zQ {a:Type} {l:List a} {k:Nat} {d:a} (h:k < l.length):l[k]?=some (l.getD k d):=by
 rw [aM,bD h]
 rfl
def unN:PyData->List Nat
 | .list ds=>ds.map fun d=>match d with | .int i=>i.toNat | _=>0
 | _=>[]
theorem tu (cs:List Nat):unN (nl cs)=cs:=by
 show (cs.map fun k:Nat=>PyData.int (k:Int)).map _=cs
 rw [bC]
 exact List.map_id' _
theorem zV {k:Nat}:decide ((k:Int)∈zl r)=decide (k∈r):=by
 unfold zl
 by_cases h:k∈r
 ·rw [decide_eq_true h,decide_eq_true (aF.mpr ⟨k,h,rfl⟩)]
 ·rw [decide_eq_false h,decide_eq_false fun z=>?_]
  obtain ⟨j,a,e⟩:=aF.mp z
  have:j=k:=by omega
  exact h (this ▸ a)
theorem tD (h:cs.Nodup):(srtN cs).Pairwise (· < ·):=by
 have c:(srtN cs).Nodup:=(xl cs).nodup_iff.mpr h
 have d:(srtN cs).Pairwise (·<=·):=by
  have:=Zs (zl cs)
  unfold srtN
  rw [dY]
  refine this.imp fun {a b} e=>?_
  omega
 rw [List.nodup_iff_pairwise_ne] at c
 exact (c.and d).imp fun {a b} z=>by omega
def kD (ks:List Nat):List PyData:=ks.map fun k:Nat=>.int (k:Int)
theorem zaw (ks:List Nat):(kD ks).length=ks.length:=aB ..
theorem Qw (ks:List Nat):(srt (zl ks)).map PyData.int=kD (srtN ks):=by
 have:=Ur ks
 have e:(srt (zl ks)).map PyData.int=(zl (srtN ks)).map PyData.int:=congrArg (List.map PyData.int) this
 rw [e]
 show (List.map _ (srtN ks)).map PyData.int=_
 rw [bC]
 rfl
def effF (cs:List (List Nat)) (k:Nat):List Nat:=(List.range cs.length).filter fun o=>decide (k∈cs.getD o [])
def yY (ds:List PyData) (d:PyData):Prop:=∃ (cs:List (List Nat)) (k:Nat),ds=[nls cs,.int k]/\cs.length<=1000/\d=nl (effF cs k)
theorem VF:zA ["causes", "k"] ["causes", "k"] (zo (top 2)):={}
theorem VW (F:Fun K "effects" "effects" (top 2) f fd) (B:Bs mg) (Z:Cs K mg aH aI)  : FnOk P w K mg base CX0 1 f fd ["causes", "k"] (spD K true yY):=by
 have sc:=VF
 refine F.ok sc (fun vs H Q E h=>zH (fun _ _⟨_,_,e,_⟩=>by rw [e];rfl) h) (fun cdv A outer s H vs Q E g h=>?_)
 obtain ⟨j,ds,d,le,dp,p,q⟩:=h
 refine ⟨_,(zf (zy (yc rfl (N:=["other", "k", "causes"]) (js:=[none,some 1,some 0]) (by walk_at"comp_ok") (yw rfl B.range (zb (pB (zm (K:=K) rfl) B.len (zb (pv 0) zd)) zd)) (fun _ _ _ _=>(pN (i:=0) (show aX ["other", "k", "causes"] by decide +kernel))) (fun _ _ _ _=>(yS (zr (zG (K:=K) rfl) (pv 1) (pX (zu (K:=K) rfl) (pv 2) (pv 0)) (rfl)))) (fun _ _ _ _=>(pv 0))))),?_⟩
 have l:=sc.n 2
 obtain ⟨cs,k,rfl,m,rfl⟩:=p
 have big:=zD
 have a:(((cs.map nl).length:Nat):Int)=(cs.length:Int):=by rw [aB]
 walk_at"run"
 refine zM true (EvO.toE (YS (is:=[0]) (n:=cs.length) (fun o=>.int (o:Int)) (fun o=>decide (k∈cs.getD o [])) (zg (EvE.eq (yb (ds:=cs.map nl) (by walk_at"ev")) (congrArg PyData.int a)) zC) (by omega) (by walk_at"cc") rfl (by decide) ?_)) rfl (.inl ⟨rfl,rfl⟩)
 intro o b
 have c:atI (cs.map nl) (o:Int)=some (nl (cs.getD o [])):=yt (zQ b)
 refine egn (by walk_at"sc") ⟨EvT.eq (zq (zW (neg:=false) (i:=(k:Int)) (ns:=zl (cs.getD o [])) (by walk_at"ev") (EvE.toL (EvE.eq (zI (U:=false) (ds:=cs.map nl) (by walk_at"ev") (by walk_at"ev") c) (ya _))))) ?_,fun _=>by walk_at"ev"⟩
 show decide _=_
 exact zV
theorem yO {x y:Nat} (h:PyData.int (x:Int)=.int (y:Int)):x=y:=Int.ofNat.inj (PyData.int.inj h)
structure ShOk (n:Nat) (cs:List (List Nat)):Prop where
 l:cs.length=n
 e:∀ r∈cs,(∀ x∈r,x < n)/\r.length<=60
theorem ShOk.at {n:Nat} {cs:List (List Nat)} (h:ShOk n cs) {k:Nat} (a:k < n):cs[k]?=some (cs.getD k [])/\(∀ x∈cs.getD k [],x < n)/\(cs.getD k []).length<=60:=by
 have z:cs[k]?=some (cs.getD k []):=zQ (by rw [h.l];exact a)
 have:=h.e _ (aS z)
 exact ⟨z,this.1,this.2⟩
theorem Ua (h:EvL K S U t Y a) (e:a=b):EvL K S U t Y b:=e ▸ h
inductive Rch (nx:Nat->List Nat) (sm:List Nat):Nat->Prop
 | base {x:Nat}:x∈sm->Rch nx sm x
 | step {x y:Nat}:Rch nx sm x->y∈nx x->Rch nx sm y
open Classical in
noncomputable def rchL (n:Nat) (nx:Nat->List Nat) (sm:List Nat):List Nat:=(List.range n).filter fun x=>decide (Rch nx sm x)
theorem Tt (n:Nat) (nx:Nat->List Nat) (sm:List Nat):(rchL n nx sm).Pairwise (· < ·):=List.Pairwise.sublist dN fA
theorem zY:x∈rchL n nx sm↔x < n/\Rch nx sm x:=by
 unfold rchL
 rw [aJ,aZ]
 simp
structure NxOk (n:Nat) (nx:Nat->List Nat):Prop where
 n12:n<=24
 lt:∀ x,x < n->∀ y∈nx x,y < n
 l:∀ x,x < n->(nx x).length<=80
structure SmOk (n:Nat) (sm:List Nat):Prop where
 lt:∀ x∈sm,x < n
 l:sm.length<=80
theorem Rch.lt (h:NxOk n nx) (a:SmOk n sm) (r:Rch nx sm x):x < n:=by
 induction r with
 | base z=>exact a.lt _ z
 | step _ z b=>exact h.lt _ b _ z
theorem vq (n:Nat) (nx:Nat->List Nat) (sm:List Nat):(rchL n nx sm).length<=n:=by
 have:=bP (fun x=>@decide (Rch nx sm x) (Classical.propDecidable _)) (List.range n)
 rwa [aV] at this
theorem WD:∀ {a b:List Nat},a.Pairwise (· < ·)->b.Pairwise (· < ·)->(∀ x,x∈a↔x∈b)->a=b
 | [],[],_,_,_=>rfl
 | [],y :: b,_,_,h=>by have:=(h y).mpr aK;cases this
 | x :: a,[],_,_,h=>by have:=(h x).mp aK;cases this
 | x :: a,y :: b,ha,hb,h=>by
  obtain ⟨d,g⟩:=dE.mp ha
  obtain ⟨f,i⟩:=dE.mp hb
  have e:x=y:=by
   rcases aT.mp ((h x).mp aK) with z | z
   ·exact z
   ·rcases aT.mp ((h y).mpr aK) with w | w
    ·exact w.symm
    ·have:=f x z
     have:=d y w
     omega
  subst e
  refine congrArg (x :: ·) (WD g i fun z=>⟨fun c=>?_,fun c=>?_⟩)
  ·rcases aT.mp ((h z).mp (bA _ c)) with w | w
   ·subst w
    have:=d z c
    omega
   ·exact w
  ·rcases aT.mp ((h z).mpr (bA _ c)) with w | w
   ·subst w
    have:=f z c
    omega
   ·exact w
theorem yV:∀ (n:Nat) (l:List Nat),l.Nodup->(∀ x∈l,x < n)->l.length<=n
 | 0,[],_,_=>aC _
 | 0,x :: l,_,h=>absurd (h x aK) (bW _)
 | n + 1,l,nd,h=>by
  have e:=yV n (l.erase n) (nd.erase n) fun x b=>by
   have c:=h x (List.mem_of_mem_erase b)
   have d:x≠n:=fun z=>by subst z;exact (List.Nodup.not_mem_erase nd) b
   omega
  have:=List.length_erase (a:=n) (l:=l)
  split at this <;> omega
structure GI (n:Nat) (nx:Nat->List Nat) (sm fo wa:List Nat):Prop where
 nd:fo.Nodup
 fl:∀ x∈fo,Rch nx sm x
 wl:∀ x∈wa,Rch nx sm x
 cl:∀ x∈fo,∀ y∈nx x,y∈fo\/y∈wa
 sm:∀ x∈sm,x∈fo\/x∈wa
 ll:wa.length<=80 + 80 * fo.length
theorem GI.old {n:Nat} {nx:Nat->List Nat} {sm fo wa:List Nat} {k:Nat} (h:GI n nx sm fo (wa ++ [k])) (b:k∈fo):GI n nx sm fo wa:=by
 have out:∀ {x:Nat},x∈fo\/x∈wa ++ [k]->x∈fo\/x∈wa:=fun {x} z=>by
  rcases z with z | z
  ·exact .inl z
  ·rcases aQ.mp z with z | z
   ·exact .inr z
   ·rw [aD.mp z];exact .inl b
 have l:=h.ll
 rw [aG] at l
 exact ⟨h.nd,h.fl,fun x a=>h.wl x (bR _ a),fun x a y c=>out (h.cl x a y c),fun x a=>out (h.sm x a),by omega⟩
theorem GI.new {n:Nat} {nx:Nat->List Nat} {sm fo wa:List Nat} {k:Nat} (h:GI n nx sm fo (wa ++ [k])) (j:(nx k).length<=80) (f:k∉fo):GI n nx sm (fo ++ [k]) (wa ++ nx k):=by
 have e:=h.wl k (aO _ (aD.mpr rfl))
 have out:∀ {x:Nat},x∈fo\/x∈wa ++ [k]->x∈fo ++ [k]\/x∈wa ++ nx k:=fun {x} z=>by
  rcases z with z | z
  ·exact .inl (bR _ z)
  ·rcases aQ.mp z with z | z
   ·exact .inr (bR _ z)
   ·exact .inl (aO _ z)
 have l:=h.ll
 rw [aG] at l
 have l:wa.length + 1<=_:=l
 refine ⟨?_,fun x c=>?_,fun x c=>?_,fun x c y d=>?_,fun x c=>out (h.sm x c),?_⟩
 ·rw [bU]
  exact ⟨h.nd,by simp,fun a g b i=>by rw [List.mem_singleton.mp i];rintro rfl;exact f g⟩
 ·rcases aQ.mp c with c | c
  ·exact h.fl x c
  ·rw [aD.mp c];exact e
 ·rcases aQ.mp c with c | c
  ·exact h.wl x (bR _ c)
  ·exact .step e c
 ·rcases aQ.mp c with c | c
  ·exact out (h.cl x c y d)
  ·rw [aD.mp c] at d
   exact .inr (aO _ d)
 ·rw [aG,aG]
  show _<=80 + 80 * (fo.length + 1)
  omega
theorem GI.end {n:Nat} {nx:Nat->List Nat} {sm fo:List Nat} (no:NxOk n nx) (so:SmOk n sm) (h:GI n nx sm fo []):srtN fo=rchL n nx sm:=by
 refine WD (tD h.nd) (Tt n nx sm) fun x=>?_
 rw [(xl fo).mem_iff,zY]
 refine ⟨fun z=>⟨(h.fl x z).lt no so,h.fl x z⟩,fun z=>?_⟩
 have cl:∀ {y:Nat},y∈fo\/y∈([]:List Nat)->y∈fo:=fun z=>z.elim (fun z=>z) fun z=>nomatch z
 have r:=z.2
 clear z
 induction r with
 | base z=>exact cl (h.sm _ z)
 | step _ z a=>exact cl (h.cl _ a _ z)
def cP (c:Nat):Int×Int:=(((c / 2:Nat):Int),((c % 2:Nat):Int))
def cD (c:Nat):PyData:=.tuple [.int ((c / 2:Nat):Int),.int ((c % 2:Nat):Int)]
abbrev pl (cs:List Nat):PyData:=.list (cs.map cD)
theorem za7 (c:Nat):low (cD c)=true:=rfl
theorem zcF (cs:List Nat):∀ e∈cs.map cD,low e=true:=fun e a=>by
 obtain ⟨c,_,rfl⟩:=aF.mp a
 exact za7 c
theorem QW (cs:List Nat):∀ d∈cs.map cD,imm d=true:=fun d hd=>by
 obtain ⟨c,_,rfl⟩:=aF.mp hd
 rfl
theorem zed (h:cD a=cD b):a=b:=by
 injection h with h
 injection h with h1 h2
 injection h2 with h2 _
 injection h1 with h1
 injection h2 with h2
 omega
theorem zee (a b:Nat):PyData.eqv (cD a) (cD b)=decide (a=b):=by
 have e:PyData.eqv (cD a) (cD b)=((((a / 2:Nat):Int) == ((b / 2:Nat):Int)) && (((a % 2:Nat):Int) == ((b % 2:Nat):Int))):=by
  unfold cD
  simp [PyData.eqv,PyData.eqvAll]
 rw [e]
 by_cases c:a=b
 ·subst c
  rw [decide_eq_true rfl]
  simp
 ·rw [decide_eq_false c]
  refine cS.mpr fun z=>c ?_
  have z:=(eE _ _).mp z
  have d:=eq_of_beq z.1
  have f:=eq_of_beq z.2
  omega
theorem zel (cs:List Nat) (k:Nat):((cs.map cD).any fun e=>PyData.eqv e (cD k))=decide (k∈cs):=by
 induction cs with
 | nil=>rfl
 | cons x r a =>
  rw [bB,cF,a,zee]
  by_cases h:x=k
  ·subst h
   rw [decide_eq_true rfl,decide_eq_true aK]
   rfl
  ·rw [decide_eq_false h]
   refine (Bool.false_or _).trans (decide_eq_decide.mpr ⟨bA _,fun z=>?_⟩)
   rcases aT.mp z with z | z
   ·exact absurd z.symm h
   ·exact z
theorem fG7 (cs:List Nat):cs.map cD=(cs.map cP).map prD:=by rw [bC];rfl
theorem Vk (cs:List Nat):vK (cs.map cP):=⟨fun q a=>by
 obtain ⟨c,_,rfl⟩:=aF.mp a
 show 0<=((c % 2:Nat):Int)/\((c % 2:Nat):Int) < 1000
 omega⟩
theorem zec (h:cP a=cP b):a=b:=by
 have c:((a / 2:Nat):Int)=((b / 2:Nat):Int):=congrArg Prod.fst h
 have d:((a % 2:Nat):Int)=((b % 2:Nat):Int):=congrArg Prod.snd h
 omega
theorem zeK {cs:List Nat} (h:cs.Nodup):(cs.map cP).Nodup:=dY.mpr (h.imp fun z e=>z (zec e))
theorem zdj (nd:cs.Nodup):srtP (cs.map cP)=(srtN cs).map cP:=by
 refine (wU (Vk (srtN cs)) (((xl cs).map cP).trans (Yz _).symm) ?_ (tQ _)).symm
 rw [dY]
 refine (tD nd).imp fun {a b} h=>?_
 show ((a / 2:Nat):Int) * 1000 + ((a % 2:Nat):Int)<=((b / 2:Nat):Int) * 1000 + ((b % 2:Nat):Int)
 omega
theorem Uq (r:List Nat) (k:Nat):(zl (r ++ [k])).map PyData.int=(zl r).map PyData.int ++ [.int (k:Int)]:=by
 unfold zl
 rw [aN,aN]
 rfl
theorem zdc (r t:List Nat):(zl (r ++ t)).map PyData.int=(zl r).map PyData.int ++ (t.map fun k:Nat=>.int (k:Int)):=by
 unfold zl
 rw [aN,aN,bC (l:=t)]
 rfl
theorem tm (r:List Nat):(zl r).length=r.length:=aB ..
def gI (n:Nat) (nx:Nat->List Nat):PyData->PyData->Prop:=fun d r=>∃ k:Nat,k < n/\d=.int (k:Int)/\r=nl (nx k)
def gP (n:Nat) (nx:Nat->List Nat):PyData->PyData->Prop:=fun d r=>∃ k:Nat,k < n/\d=cD k/\r=pl (nx k)
def Yl (ds:List PyData) (p1:PyData->PyData->Prop) (d:PyData):Prop:=∃ (n:Nat) (nx:Nat->List Nat) (sm:List Nat),ds=[nl sm]/\NxOk n nx/\SmOk n sm/\p1=gI n nx/\d=nl (rchL n nx sm)
def Yk (ds:List PyData) (p1:PyData->PyData->Prop) (d:PyData):Prop:=∃ (n:Nat) (nx:Nat->List Nat) (sm:List Nat),ds=[pl sm]/\NxOk n nx/\SmOk n sm/\p1=gP n nx/\d=pl (rchL n nx sm)
def y6 (ds:List PyData) (p1:PyData->PyData->Prop) (d:PyData):Prop:=Yl ds p1 d\/Yk ds p1 d
theorem XY (ds:List PyData) (p1:PyData->PyData->Prop) (d:PyData) (h:y6 ds p1 d):ds.length=1:=by rcases h with ⟨a,b,c,rfl,_⟩ | ⟨a,b,c,rfl,_⟩ <;> rfl
theorem WB:zA ["some", "nexts", "found", "waiting", "k"] ["some", "nexts"] (zo (top 5)):={}
theorem WW (F:Fun K "gathered" "gathered" (top 5) f fd) (B:Bs mg) (Z:Cs K mg aH aI)  : FnOk P w K mg base CX0 4 f fd ["some", "nexts"] (spG P w K mg base 3 y6):=by
 have sc:=WB
 refine F.ok sc (fun vs H Q E h=>zbs XY h) (fun cdv A outer s H vs Q E hr h=>?_)
 obtain ⟨Fh,ds,d,us,a,p1,rfl,le,dp,a2,p,q⟩:=h
 obtain ⟨R,xL,L,a3,qL,pL,bL,lL,a4,a5,cL,a6,FL,S,a0,a1⟩:=a2
 rcases p with p | p
 ·obtain ⟨n,nx,sm,rfl,no,so,rfl,rfl⟩:=p
  refine ⟨_,(ze (pS (i:=2) sc.nd (zU zd))
   (ze (pS (i:=3) sc.nd (pY (yR (K:=K) rfl) B.list (zb (pv 0) zd)))
   (ze (vt PassesOwn.never (zr ZK (pB (zm (K:=K) rfl) B.len (zb (pv 3) zd)) zh (zF _)) (ze (pS (i:=4) sc.nd (XG (K:=K) rfl bK fC fB V1 (pv 3)))
   (zf (ye (zr (yd (K:=K) rfl) (pv 4) (pv 2) (rfl)) (ze (yB (yN (K:=K) rfl bK bY bX yf (pv 2) (zb (pv 4) zd)))
   (zf (yB (yN (K:=K) rfl bK PySem.F.slot_list_extend PySem.F.type_list_extend (tZ (K:=K) rfl) (pv 3) (zb (Q2 1 FL S (hr.mono (by decide)) (zb (pv 4) zd)) zd))))) zL))))
   (zf (zy (pB (u8 (K:=K) rfl) B.sorted (zb (pv 2) zd))))))),?_⟩
  have big:=zD
  have n12:=no.n12
  have sl:=so.l
  have bk:xg K R [xL] []:=S
  refine UB (φ:=fun M v=>v=.ref a/\(∃ fG q g t G cl pm I J,M a=some (knw (PySem.W.kla_obj fG q g t G cl pm I J)))/\∀ (H' F':Hp) (v:V) (d r:PyData) (Q:VK),Same M F'->Same F' H'->Dp K F' v d->gI n nx d r->(∀ N u F'',Gr H' F' u F''->Rp K false .fresh H' F'' N r->Q N u)->L [v] H' Q E0) le dp q (n:=5) rfl (by rw [zO.length dp];show 1 < 5;decide) (by walk_at"st") (by show SetC _ 1 _ _;walk_at"sc") ⟨rfl,⟨_,_,_,_,_,_,_,_,_,a0⟩,a1⟩ ?_
  generalize X:(fun (M:Hp) (v:V)=>v=.ref a/\(∃ fG q g t G cl pm I J,M a=some (knw (PySem.W.kla_obj fG q g t G cl pm I J)))/\∀ (H' F':Hp) (v:V) (d r:PyData) (Q:VK),Same M F'->Same F' H'->Dp K F' v d->gI n nx d r->(∀ N u F'',Gr H' F' u F''->Rp K false .fresh H' F'' N r->Q N u)->L [v] H' Q E0)=φ
  refine exo true (ds:=(zl []).map .int) (zZ (ds:=[]) zC (by decide)) (by walk_at"sc") ?_
  refine exo true (ds:=(zl sm).map .int) (EvO.eq (x5 (EvL.imm (U:=false) (EvE.toL (by walk_at"ev")) (xY sm))) (by unfold zl;rw [List.map_map];rfl)) (by walk_at"sc") ?_
  refine yK (fun Y=>∃ fo x y,GI n nx sm fo []/\Y=[some (.fz false (nl sm)),some (.xp φ),some (.ow true ((zl fo).map .int)),x,y]) (vF (fun m Y=>∃ (fo wa:List Nat) (x:Option DV),GI n nx sm fo wa/\m=(n - fo.length) * 81 + wa.length/\Y=[some (.fz false (nl sm)),some (.xp φ),some (.ow true ((zl fo).map .int)),some (.ow true ((zl wa).map .int)),x]) _ ⟨[],sm,none,⟨cE,fun _ z=>(nomatch z),fun x D=>.base D,fun _ z=>(nomatch z),fun x D=>.inr D,by omega⟩,rfl,rfl⟩ ?_) ?_
  ·rintro m Y' ⟨fo,wa,x,o,rfl,rfl⟩
   have fl:=yV n fo o.nd fun x D=>(o.fl x D).lt no so
   have ll:=o.ll
   refine ⟨decide (0 < (wa.length:Int)),EvT.eq (zq (t7 (i:=(wa.length:Int)) (j:=0) (EvE.eq (yb (ds:=(zl wa).map .int) (by walk_at"ev")) (by rw [aB,tm])) (by walk_at"ev"))) rfl,fun h=>?_,fun h=>?_⟩
   ·have h':0 < (wa.length:Int):=by simpa using h
    obtain ⟨C,k,rfl⟩:∃ C k,wa=C ++ [k]:=by
     rcases dC wa with rfl | ⟨C,k,e⟩
     ·exact absurd h' (by simp)
     ·exact ⟨C,k,by rw [e,dD]⟩
    have rk:=o.wl k (aO _ (aD.mpr rfl))
    have kn:=rk.lt no so
    have fF:=no.l k kn
    rw [Uq]
    rw [aG] at ll ⊢
    refine yK (·=[some (.fz false (nl sm)),some (.xp φ),some (.ow true ((zl fo).map .int)),some (.ow true ((zl C).map .int)),some (.fz true (.int (k:Int)))]) (X3 (i:=3) (j:=4) (by walk_at"gc") (by decide) (by walk_at"sc") (by walk_at"sc") rfl) ?_
    rintro Y' rfl
    refine xj (b:=!decide (k∈fo)) (EvT.eq (zq (zW (neg:=true) (i:=(k:Int)) (ns:=zl fo) (by walk_at"ev") (by walk_at"ev"))) (by show (!decide _)=_;rw [zV])) (fun c=>?_) (fun c=>?_)
    ·have I:k∉fo:=by simpa using c
     have fE:=o.new fF I
     have fn:fo.length + 1<=n:=by
      have:=yV n (fo ++ [k]) fE.nd fun x D=>(fE.fl x D).lt no so
      rwa [aG] at this
     refine exa (d:=.int (k:Int)) (by walk_at"gc") (by walk_at"ev") (by walk_at"sc") (by rw [aB,tm];omega) ?_
     refine YQ (es:=(nx k).map fun k:Nat=>.int (k:Int)) (by walk_at"gc") (EvL.imm (U:=false) (EvE.toL (zaL (kk:=3) (fd:=R) (x:=xL) (by walk_at"gc") (fun M v T=>by
      rw [<- X] at T
      exact ⟨T.1,T.2.1,fun H' F' v Q s1 s2 hd kq=>T.2.2 H' F' v _ _ Q s1 s2 hd ⟨k,kn,rfl,rfl⟩ kq⟩) (by walk_at"ev"))) (xY _)) (by rw [aB,aB,tm];omega) (by walk_at"sc") ?_
     refine ⟨_,?_,fo ++ [k],C ++ nx k,_,fE,rfl,by rw [Uq,zdc]⟩
     rw [aG,aG]
     show (n - (fo.length + 1)) * 81 + _ < (n - fo.length) * 81 + (C.length + 1)
     omega
    ·have I:k∈fo:=by simpa using c
     refine yr ⟨_,?_,fo,C,_,o.old I,rfl,rfl⟩
     show _ < _ + (C.length + 1)
     omega
   ·have h':¬ 0 < (wa.length:Int):=by simpa using h
    have e:wa=[]:=dH.mp (by omega)
    subst e
    exact ⟨fo,_,_,o,rfl⟩
  ·rintro Y' ⟨fo,x,y,o,rfl⟩
   have fl:=yV n fo o.nd fun x D=>(o.fl x D).lt no so
   refine zM true (EvO.toE (EvO.eq (ZU (ns:=zl fo) (by walk_at"ev") (by rw [tm];omega)) (Qw fo))) ?_ (.inl ⟨rfl,rfl⟩)
   show PyData.list (kD (srtN fo))=_
   rw [o.end no so]
   rfl
 ·obtain ⟨n,nx,sm,rfl,no,so,rfl,rfl⟩:=p
  refine ⟨_,(ze (pS (i:=2) sc.nd (zU zd))
   (ze (pS (i:=3) sc.nd (pY (yR (K:=K) rfl) B.list (zb (pv 0) zd)))
   (ze (vt PassesOwn.never (zr ZK (pB (zm (K:=K) rfl) B.len (zb (pv 3) zd)) zh (zF _)) (ze (pS (i:=4) sc.nd (XG (K:=K) rfl bK fC fB V1 (pv 3)))
   (zf (ye (zr (ZJ (K:=K) rfl hr.units) (pv 4) (pv 2) (rfl)) (ze (yB (yN (K:=K) rfl bK bY bX yf (pv 2) (zb (pv 4) zd)))
   (zf (yB (yN (K:=K) rfl bK PySem.F.slot_list_extend PySem.F.type_list_extend (tZ (K:=K) rfl) (pv 3) (zb (Q2 1 FL S (hr.mono (by decide)) (zb (pv 4) zd)) zd))))) zL))))
   (zf (zy (pB (Yr (K:=K) rfl) B.sorted (zb (pv 2) zd))))))),?_⟩
  have big:=zD
  have n12:=no.n12
  have sl:=so.l
  have bk:xg K R [xL] []:=S
  refine UB (φ:=fun M v=>v=.ref a/\(∃ fG q g t G cl pm I J,M a=some (knw (PySem.W.kla_obj fG q g t G cl pm I J)))/\∀ (H' F':Hp) (v:V) (d r:PyData) (Q:VK),Same M F'->Same F' H'->Dp K F' v d->gP n nx d r->(∀ N u F'',Gr H' F' u F''->Rp K false .fresh H' F'' N r->Q N u)->L [v] H' Q E0) le dp q (n:=5) rfl (by rw [zO.length dp];show 1 < 5;decide) (by walk_at"st") (by show SetC _ 1 _ _;walk_at"sc") ⟨rfl,⟨_,_,_,_,_,_,_,_,_,a0⟩,a1⟩ ?_
  generalize X:(fun (M:Hp) (v:V)=>v=.ref a/\(∃ fG q g t G cl pm I J,M a=some (knw (PySem.W.kla_obj fG q g t G cl pm I J)))/\∀ (H' F':Hp) (v:V) (d r:PyData) (Q:VK),Same M F'->Same F' H'->Dp K F' v d->gP n nx d r->(∀ N u F'',Gr H' F' u F''->Rp K false .fresh H' F'' N r->Q N u)->L [v] H' Q E0)=φ
  refine exo true (ds:=([]:List Nat).map cD) (zZ (ds:=[]) zC (by decide)) (by walk_at"sc") ?_
  refine exo true (ds:=sm.map cD) (x5 (EvL.imm (U:=false) (EvE.toL (by walk_at"ev")) (QW sm))) (by walk_at"sc") ?_
  refine yK (fun Y=>∃ fo x y,GI n nx sm fo []/\Y=[some (.fz false (pl sm)),some (.xp φ),some (.ow true (fo.map cD)),x,y]) (vF (fun m Y=>∃ (fo wa:List Nat) (x:Option DV),GI n nx sm fo wa/\m=(n - fo.length) * 81 + wa.length/\Y=[some (.fz false (pl sm)),some (.xp φ),some (.ow true (fo.map cD)),some (.ow true (wa.map cD)),x]) _ ⟨[],sm,none,⟨cE,fun _ z=>(nomatch z),fun x D=>.base D,fun _ z=>(nomatch z),fun x D=>.inr D,by omega⟩,rfl,rfl⟩ ?_) ?_
  ·rintro m Y' ⟨fo,wa,x,o,rfl,rfl⟩
   have fl:=yV n fo o.nd fun x D=>(o.fl x D).lt no so
   have ll:=o.ll
   refine ⟨decide (0 < (wa.length:Int)),EvT.eq (zq (t7 (i:=(wa.length:Int)) (j:=0) (EvE.eq (yb (ds:=wa.map cD) (by walk_at"ev")) (by rw [aB])) (by walk_at"ev"))) rfl,fun h=>?_,fun h=>?_⟩
   ·have h':0 < (wa.length:Int):=by simpa using h
    obtain ⟨C,k,rfl⟩:∃ C k,wa=C ++ [k]:=by
     rcases dC wa with rfl | ⟨C,k,e⟩
     ·exact absurd h' (by simp)
     ·exact ⟨C,k,by rw [e,dD]⟩
    have rk:=o.wl k (aO _ (aD.mpr rfl))
    have kn:=rk.lt no so
    have fF:=no.l k kn
    rw [show (C ++ [k]).map cD=C.map cD ++ [cD k] from by rw [aN];rfl]
    rw [aG] at ll ⊢
    refine yK (·=[some (.fz false (pl sm)),some (.xp φ),some (.ow true (fo.map cD)),some (.ow true (C.map cD)),some (.fz true (cD k))]) (X3 (ds:=C.map cD) (d:=cD k) (i:=3) (j:=4) (by walk_at"gc") (by decide) (by walk_at"sc") (by walk_at"sc") rfl) ?_
    rintro Y' rfl
    refine xj (b:=!decide (k∈fo)) (EvT.eq (zq (zaK (neg:=true) (d:=cD k) (ds:=fo.map cD) (by walk_at"ev") (by walk_at"ev") (za7 k) (zcF fo))) (by show (!List.any _ _)=_;rw [zel])) (fun c=>?_) (fun c=>?_)
    ·have I:k∉fo:=by simpa using c
     have fE:=o.new fF I
     have fn:fo.length + 1<=n:=by
      have:=yV n (fo ++ [k]) fE.nd fun x D=>(fE.fl x D).lt no so
      rwa [aG] at this
     refine exa (d:=cD k) (by walk_at"gc") (by walk_at"ev") (by walk_at"sc") (by rw [aB];omega) ?_
     refine YQ (es:=(nx k).map cD) (by walk_at"gc") (EvL.imm (U:=false) (EvE.toL (zaL (kk:=3) (fd:=R) (x:=xL) (by walk_at"gc") (fun M v T=>by
      rw [<- X] at T
      exact ⟨T.1,T.2.1,fun H' F' v Q s1 s2 hd kq=>T.2.2 H' F' v _ _ Q s1 s2 hd ⟨k,kn,rfl,rfl⟩ kq⟩) (by walk_at"ev"))) (QW _)) (by rw [aB,aB];omega) (by walk_at"sc") ?_
     refine ⟨_,?_,fo ++ [k],C ++ nx k,_,fE,rfl,by rw [aN,aN];rfl⟩
     rw [aG,aG]
     show (n - (fo.length + 1)) * 81 + _ < (n - fo.length) * 81 + (C.length + 1)
     omega
    ·have I:k∈fo:=by simpa using c
     refine yr ⟨_,?_,fo,C,_,o.old I,rfl,rfl⟩
     show _ < _ + (C.length + 1)
     omega
   ·have h':¬ 0 < (wa.length:Int):=by simpa using h
    have e:wa=[]:=dH.mp (by omega)
    subst e
    exact ⟨fo,_,_,o,rfl⟩
  ·rintro Y' ⟨fo,x,y,o,rfl⟩
   have fl:=yV n fo o.nd fun x D=>(o.fl x D).lt no so
   refine zM true (EvO.toE (EvO.eq (Va (ps:=fo.map cP) (Ua (by walk_at"ev") (fG7 fo)) (Vk fo) (zeK o.nd) (by rw [aB];omega)) (by rw [zdj o.nd,<- fG7]))) ?_ (.inl ⟨rfl,rfl⟩)
   show PyData.list ((srtN fo).map cD)=_
   rw [o.end no so]
abbrev pD (p:Nat×Nat):PyData:=.tuple [.int (p.1:Int),.int (p.2:Int)]
abbrev prs (ps:List (Nat×Nat)):PyData:=.list (ps.map pD)
theorem Q9 (p:Nat×Nat):low (pD p)=true:=rfl
theorem zbG (ps:List (Nat×Nat)):∀ e∈ps.map pD,low e=true:=fun e a=>by
 obtain ⟨p,_,rfl⟩:=aF.mp a
 exact Q9 p
theorem zdB (p q:Nat×Nat):PyData.eqv (pD p) (pD q)=decide (p=q):=by
 obtain ⟨a,b⟩:=p
 obtain ⟨c,d⟩:=q
 have e:∀ x y:Nat,((x:Int) == (y:Int))=decide (x=y):=fun x y=>by
  by_cases h:x=y
  ·rw [h,decide_eq_true rfl,beq_self_eq_true]
  ·rw [decide_eq_false h,beq_eq_false_iff_ne]
   omega
 simp [PyData.eqv,PyData.eqvAll,e]
theorem zek (ps:List (Nat×Nat)) (q:Nat×Nat):(ps.map pD).any (PyData.eqv · (pD q))=decide (q∈ps):=by
 induction ps with
 | nil=>rfl
 | cons p r a =>
  rw [bB,cF,a,zdB]
  by_cases h:p=q
  ·subst h;simp
  ·simp [h,Ne.symm h]
def woR (ps:List (Nat×Nat)) (k:Nat) (own:List Nat):List Nat:=own.filter fun c=>!decide ((c,k)∈ps)
def woF (cs:List (List Nat)) (ps:List (Nat×Nat)):List (List Nat):=cs.mapIdx fun k own=>woR ps k own
theorem Xc (h:cs[i]?=some own):(woF cs ps)[i]?=some (woR ps i own):=by
 unfold woF
 rw [eO,h]
 rfl
theorem vO (cs:List (List Nat)) (ps:List (Nat×Nat)):(woF cs ps).length=cs.length:=eQ
def tT (ds:List PyData) (d:PyData):Prop:=∃ (cs:List (List Nat)) (ps:List (Nat×Nat)),ds=[nls cs,prs ps]/\cs.length<=1000/\(∀ r∈cs,r.length<=1000)/\d=nls (woF cs ps)
theorem zcc {cs:List (List Nat)} {i:Nat} {d:PyData} (h:((cs.map nl).mapIdx fun (i:Nat) x=>PyData.tuple [.int (i:Nat),x])[i]?=some d):∃ own,cs[i]?=some own/\d=.tuple [.int i,nl own]:=by
 rw [eO,aU] at h
 cases e:cs[i]? with
 | none=>rw [e] at h;cases h
 | some own =>
  rw [e] at h
  exact ⟨own,rfl,(bI h).symm⟩
theorem Vz:zA ["causes", "pairs", "found", "k", "own"] ["causes", "pairs"] (zo (top 9)):={}
theorem VP (F:Fun K "without" "without" (top 9) f fd) (B:Bs mg) (Z:Cs K mg aH aI)  : FnOk P w K mg base CX0 1 f fd ["causes", "pairs"] (spD K true tT):=by
 have sc:=Vz
 refine F.ok sc (fun vs H Q E h=>zH (fun _ _⟨_,_,e,_⟩=>by rw [e];rfl) h) (fun cdv A outer s H vs Q E a h=>?_)
 obtain ⟨g,ds,d,le,dp,p,q⟩:=h
 refine ⟨_,(ze (pS (i:=2) sc.nd (zU zd))
   (ze (yF PassesOwn.never rfl (QY (K:=K) rfl rfl B.enumerate (zb (pv 0) zd)) (XC (K:=K) (n:=2) rfl rfl (yQ (pN (i:=3) sc.nd) (yQ (pN (i:=4) sc.nd) XB))) (zf (yB (yN (K:=K) rfl bK bY bX yf (pv 2) (zb (yc rfl (N:=["c", "pairs", "k"]) (js:=[none,some 1,some 3]) (by walk_at"comp_ok") (zE (K:=K) rfl (pv 4)) (fun _ _ _ _=>(pN (i:=0) (show aX ["c", "pairs", "k"] by decide +kernel))) (fun _ _ _ _=>(yS (zr (ZJ (K:=K) rfl a.units) (xG (zb (pv 0) (zb (pv 2) zd))) (pv 1) (rfl)))) (fun _ _ _ _=>(pv 0))) zd)))))
   (zf (zy (pv 2))))),?_⟩
 have j:=sc.n 5
 obtain ⟨cs,ps,rfl,l,a,rfl⟩:=p
 have big:=zD
 walk_at"run"
 refine exo true (zZ (ds:=[]) zC (by decide)) (by walk_at"sc") ?_
 refine vi (ds:=(cs.map nl).mapIdx fun (i:Nat) x=>.tuple [.int (i:Nat),x]) false (fun i Y=>∃ x y,Y=[some (.fz false (nls cs)),some (.fz false (prs ps)),some (.ow true (((woF cs ps).take i).map nl)),x,y]) (zcx (by walk_at"ev")) ⟨none,none,by rw [dQ];rfl⟩ ?_ ?_
 ·rintro i d Y' hd ⟨x,y,rfl⟩
  obtain ⟨own,b,rfl⟩:=zcc hd
  have hi:=(aP.mp b).1
  have m:=a own (aS b)
  refine ⟨_,egt (by walk_at"sc") (by walk_at"sc") ?_⟩
  refine exa1 (d:=nl (woR ps i own)) (by walk_at"gc") (EvO.toE (yo (U:=true) (U':=false) (is:=[0]) (xs:=own) (fun k:Nat=>.int (k:Int)) (fun k:Nat=>.int (k:Int)) (fun c=>!decide ((c,i)∈ps)) (fun x _ y _ h=>by cases yO h;exact ⟨rfl,rfl⟩) (zN (by walk_at"ev")) (by walk_at"cc") rfl (by decide) (by omega) ?_)) (by walk_at"sc") (by rw [aB,cJ,vO];omega) ?_
  ·intro c o
   refine egn (by walk_at"sc") ⟨EvT.eq (zq (zaK (neg:=true) (d:=pD (c,i)) (ds:=ps.map pD) (by walk_at"ev") (EvE.toL (by walk_at"ev")) (Q9 _) (zbG ps))) ?_,fun _=>by walk_at"ev"⟩
   show (!(ps.map pD).any _)=_
   rw [zek]
  ·refine ⟨some (.fz false (.int i)),some (.fz false (nl own)),?_⟩
   rw [take_succ (Xc b),aN]
   rfl
 ·rintro Y' ⟨x,y,rfl⟩
  rw [eQ,aB,cM (by rw [vO];exact aC _)]
  exact exro (by walk_at"gc") rfl (.inl ⟨rfl,rfl⟩)
theorem zdd (a b:List Nat):((zl a).any fun k=>decide (k∈zl b))=a.any fun k=>decide (k∈b):=by
 unfold zl
 rw [cZ]
 refine congrArg (fun f=>List.any a f) (funext fun k=>?_)
 exact zV
def ZA (ds:List PyData) (d:PyData):Prop:=∃ a b:List Nat,ds=[nl a,nl b]/\a.length + b.length < 2000/\d=.bool (a.any fun k=>decide (k∈b))
theorem zby:zA ["some", "others"] ["some", "others"] (zo (top 1)):={}
theorem zbV (F:Fun K "meet" "meet" (top 1) f fd) (B:Bs mg) (Z:Cs K mg aH aI)  : FnOk P w K mg base CX0 1 f fd ["some", "others"] (spD K true ZA):=by
 have sc:=zby
 refine F.ok sc (fun vs H Q E h=>zH (fun _ _⟨_,_,e,_⟩=>by rw [e];rfl) h) (fun cdv A outer s H vs Q E g h=>?_)
 obtain ⟨i,ds,d,le,dp,p,q⟩:=h
 refine ⟨_,(zf (zy (yy ZK (pB (Qg (b:=w.params.followText "set-order")) B.len (zb (zJ (zbR rfl rfl) (pY (YZ (K:=K) rfl rfl rfl) B.set (zb (pv 0) zd)) (pY (YZ (K:=K) rfl rfl rfl) B.set (zb (pv 1) zd))) zd)) zh (zF _)))),?_⟩
 have j:=sc.n 2
 obtain ⟨a,b,rfl,c,rfl⟩:=p
 walk_at"run"
 refine zM true (EvE.eq (t7 (T7 (ns:=zl a) (ms:=zl b) (EvE.toL (EvE.eq (U:=false) (by walk_at"ev") (ya a))) (EvE.toL (EvE.eq (U:=false) (by walk_at"ev") (ya b))) (by rw [tm,tm];exact c)) (by walk_at"ev")) ?_) rfl (.inl ⟨rfl,rfl⟩)
 rw [zam,zdd]
def upC (cs:List (List Nat)) (k:Nat):List Nat:=(cs.getD k []).map fun c=>2 * c
def dnC (cs:List (List Nat)) (k:Nat):List Nat:=(effF cs k).map fun e=>2 * e + 1
def stC (cs:List (List Nat)) (kn:List Nat) (c:Nat):List Nat:=if c / 2∈kn then (if c % 2=1 then upC cs (c / 2) else []) else (if c % 2=1 then dnC cs (c / 2) else upC cs (c / 2) ++ dnC cs (c / 2))
def vx (ds:List PyData) (d:PyData):Prop:=∃ (n:Nat) (cs:List (List Nat)) (kn:List Nat) (c:Nat),ds=[nls cs,nl kn,cD c]/\ShOk n cs/\n<=12/\c / 2 < n/\d=pl (stC cs kn c)
theorem Yf:zA ["causes", "known", "pair", "k", "way", "ups", "downs"] ["causes", "known", "pair"] (zo (top 13)):={}
theorem Ym (F:Fun K "steps_from" "steps_from" (top 13) f fd) (B:Bs mg) (Z:Cs K mg aH aI) (g:zz P w K mg base CX0 "effects" ["causes", "k"] 1 (spD K true yY)):FnOk P w K mg base CX0 2 f fd ["causes", "known", "pair"] (spD K true vx):=by
 have sc:=Yf
 refine F.ok sc (fun vs H Q E h=>zH (fun _ _⟨_,_,_,_,e,_⟩=>by rw [e];rfl) h) (fun cdv A outer s H vs Q E m h=>?_)
 obtain ⟨L,ds,d,le,dp,p,q⟩:=h
 refine ⟨_,(ze (pS (i:=3) sc.nd (pX (yE (K:=K) rfl) (pv 2) zh))
   (ze (pS (i:=4) sc.nd (pX (yE (K:=K) rfl) (pv 2) zh))
   (ze (yU (i:=5) rfl sc.nd rfl rfl (N:=["c"]) (js:=[none]) (by walk_at"comp_ok") (zE (K:=K) rfl (pX (zu (K:=K) rfl) (pv 0) (pv 3))) (fun _ _ _ _=>(pN (i:=0) (show aX ["c"] by decide +kernel))) (fun _ _ _ _=>yx) (fun _ _ _ _=>(xG (zb (pv 0) (zb (uL (v:=.int 0) rfl Z.n_AGAINST ⟨_,rfl⟩) zd)))))
   (ze (yU (i:=6) rfl sc.nd rfl rfl (N:=["e"]) (js:=[none]) (by walk_at"comp_ok") (zE (K:=K) rfl (pF g m (zb (pv 0) (zb (pv 3) zd)))) (fun _ _ _ _=>(pN (i:=0) (show aX ["e"] by decide +kernel))) (fun _ _ _ _=>yx) (fun _ _ _ _=>(xG (zb (pv 0) (zb (uL (v:=.int 1) rfl Z.n_ALONG ⟨_,rfl⟩) zd)))))
   (ze (ye (zr (zG (K:=K) rfl) (pv 3) (pv 1) (rfl)) (zf (zy (ZH (zr uP (pv 4) (uL (v:=.int 1) rfl Z.n_ALONG ⟨_,rfl⟩) (zF _)) (pv 5) (zU zd)))) zL)
   (zf (zy (ZH (zr uP (pv 4) (uL (v:=.int 1) rfl Z.n_ALONG ⟨_,rfl⟩) (zF _)) (pv 6) (zJ (wI (K:=K) rfl) (pv 5) (pv 6)))))))))),?_⟩
 have M:=sc.n 7
 obtain ⟨n,cs,kn,c,rfl,ok,n12,r,rfl⟩:=p
 have big:=zD
 have A:=ok.at r
 have t:=A.2.2
 have cl:=ok.l
 have u:atI (cs.map nl) ((c / 2:Nat):Int)=some (nl (cs.getD (c / 2) [])):=yt A.1
 have C:(effF cs (c / 2)).length<=12:=by
  have:=bP (fun o=>decide (c / 2∈cs.getD o [])) (List.range cs.length)
  rw [aV] at this
  unfold effF
  omega
 walk_at"run"
 refine exs false (d:=.int ((c / 2:Nat):Int)) (yP (U:=false) (ds:=[.int ((c / 2:Nat):Int),.int ((c % 2:Nat):Int)]) (i:=0) (EvE.eq (a:=cD c) (by walk_at"ev") rfl) (by walk_at"ev") rfl) (by walk_at"sc") ?_
 refine exs false (d:=.int ((c % 2:Nat):Int)) (yP (U:=false) (ds:=[.int ((c / 2:Nat):Int),.int ((c % 2:Nat):Int)]) (i:=1) (EvE.eq (a:=cD c) (by walk_at"ev") rfl) (by walk_at"ev") rfl) (by walk_at"sc") ?_
 have j:∀ k:Nat,2 * k / 2=k/\2 * k % 2=0/\(2 * k + 1) / 2=k/\(2 * k + 1) % 2=1:=fun k=>by omega
 have D:∀ k:Nat,PyData.tuple [.int (k:Int),.int 0]=cD (2 * k):=fun k=>by unfold cD;rw [(j k).1,(j k).2.1];rfl
 have d1:∀ k:Nat,PyData.tuple [.int (k:Int),.int 1]=cD (2 * k + 1):=fun k=>by unfold cD;rw [(j k).2.2.1,(j k).2.2.2];rfl
 refine exs true (d:=pl (upC cs (c / 2))) (EvO.toE (EvO.eq (yp (U:=true) (is:=[0]) (xs:=cs.getD (c / 2) []) false (fun k:Nat=>.int (k:Int)) (fun k=>cD (2 * k)) (fun x _ y _ h=>by cases yO h;rfl) (zN (zI (U:=false) (by walk_at"ev") (by walk_at"ev") u)) (by walk_at"cc") rfl (by decide) (by omega) ?_) (by unfold upC;rw [List.map_map];rfl))) (by walk_at"sc") ?_
 ·intro k G
  exact egn (by walk_at"sc") (EvE.eq (ww (ds:=[.int (k:Int),.int 0]) (by walk_at"ev") (by show 2<=_;omega)) (D k))
 refine exs true (d:=pl (dnC cs (c / 2))) (EvO.toE (EvO.eq (yp (U:=true) (is:=[0]) (xs:=effF cs (c / 2)) false (fun k:Nat=>.int (k:Int)) (fun k=>cD (2 * k + 1)) (fun x _ y _ h=>by cases yO h;rfl) (zN (zk (by walk_at"ev") ⟨cs,c / 2,rfl,by omega,rfl⟩)) (by walk_at"cc") rfl (by decide) (by omega) ?_) (by unfold dnC;rw [List.map_map];rfl))) (by walk_at"sc") ?_
 ·intro k G
  exact egn (by walk_at"sc") (EvE.eq (ww (ds:=[.int (k:Int),.int 1]) (by walk_at"ev") (by show 2<=_;omega)) (d1 k))
 have I:(upC cs (c / 2)).length<=60:=by unfold upC;rw [List.length_map];exact t
 have dl:(dnC cs (c / 2)).length<=12:=by unfold dnC;rw [List.length_map];exact C
 unfold stC
 generalize upC cs (c / 2)=up at I
 generalize dnC cs (c / 2)=J at dl
 generalize c / 2=k
 refine vE (b:=decide (k∈kn)) (EvT.eq (zq (zW (neg:=false) (i:=(k:Int)) (ns:=zl kn) (by walk_at"ev") (EvE.toL (EvE.eq (U:=false) (by walk_at"ev") (ya _))))) zV) (fun h=>?_) (fun h=>?_)
 ·rw [if_pos (of_decide_eq_true h)]
  refine exrs true (X7 (b:=decide (((c % 2:Nat):Int)=1)) (zq (ur (by walk_at"ev") (by walk_at"ev"))) (fun z=>?_) (fun z=>?_)) rfl (.inl ⟨rfl,rfl⟩)
  ·rw [if_pos (by have:=of_decide_eq_true z;omega)]
   walk_at"ev"
  ·rw [if_neg (by have:=of_decide_eq_false z;omega)]
   exact EvO.toE (zZ (ds:=[]) zC (by decide))
 ·refine exn ?_
  rw [if_neg (of_decide_eq_false h)]
  refine zM true (X7 (b:=decide (((c % 2:Nat):Int)=1)) (zq (ur (by walk_at"ev") (by walk_at"ev"))) (fun z=>?_) (fun z=>?_)) rfl (.inl ⟨rfl,rfl⟩)
  ·rw [if_pos (by have:=of_decide_eq_true z;omega)]
   walk_at"ev"
  ·rw [if_neg (by have:=of_decide_eq_false z;omega)]
   exact EvO.toE (EvO.eq (wZ (xs:=up.map cD) (ys:=J.map cD) (by walk_at"ev") (by walk_at"ev") (by rw [aB,aB];omega)) (by rw [aN]))
theorem zcS (ok:ShOk n cs) (n12:n<=12) (kn:List Nat):NxOk (2 * n) (stC cs kn):=by
 have up:∀ x,x < 2 * n->∀ y∈upC cs (x / 2),y < 2 * n:=fun x g y f=>by
  obtain ⟨c,i,rfl⟩:=aF.mp f
  have:=(ok.at (k:=x / 2) (by omega)).2.1 c i
  omega
 have h:∀ x,∀ y∈dnC cs (x / 2),y < 2 * n:=fun x y f=>by
  obtain ⟨e,j,rfl⟩:=aF.mp f
  have:=aZ.mp (aJ.mp j).1
  rw [ok.l] at this
  omega
 refine ⟨by omega,fun x g y f=>?_,fun x g=>?_⟩
 ·unfold stC at f
  split at f
  ·split at f
   ·exact up x g y f
   ·cases f
  ·split at f
   ·exact h x y f
   ·rcases aQ.mp f with f | f
    ·exact up x g y f
    ·exact h x y f
 ·have a:=(ok.at (k:=x / 2) (by omega)).2.2
  have c:(dnC cs (x / 2)).length<=12:=by
   have b:=bP (fun o=>decide (x / 2∈cs.getD o [])) (List.range cs.length)
   rw [aV] at b
   have:=ok.l
   unfold dnC effF
   rw [aB]
   omega
  have d:(upC cs (x / 2)).length<=60:=by
   unfold upC
   rw [aB]
   exact a
  unfold stC
  split
  ·split
   ·omega
   ·exact aW _
  ·split
   ·omega
   ·rw [aG]
    omega
def YD (ds:List PyData) (d:PyData):Prop:=∃ (n:Nat) (cs:List (List Nat)) (x:Nat) (kn:List Nat),ds=[nls cs,.int x,nl kn]/\ShOk n cs/\n<=12/\x < n/\d=pl (rchL (2 * n) (stC cs kn) [2 * x])
theorem QA:zA ["causes", "x", "known"] ["causes", "x", "known"] (zo (top 14)):={}
theorem zab (F:Fun K "reach" "reach" (top 14) f fd) (L:t5 K f "reach" = true) (B:Bs mg) (Z:Cs K mg aH aI) (b:zz P w K mg base CX0 "gathered" ["some", "nexts"] 4 (spG P w K mg base 3 y6)) (a:zz P w K mg base CX0 "steps_from" ["causes", "known", "pair"] 2 (spD K true vx)):FnOk P w K mg base CX0 5 f fd ["causes", "x", "known"] (spD K true YD):=by
 have sc:=QA
 refine F.okL L sc (fun vs H Q E h=>zH (fun _ _⟨_,_,_,_,e,_⟩=>by rw [e];rfl) h) (fun c T A outer s H vs Q E i g j h=>?_)
 obtain ⟨I,ds,d,le,dp,p,q⟩:=h
 refine ⟨_,(zf (zy (ui (caps:=[("causes", 0),("known", 2)]) b (j.mono (by decide)) rfl (zU (zb (xG (zb (pv 1) (zb (uL (v:=.int 0) rfl Z.n_AGAINST ⟨_,rfl⟩) zd))) zd)) rfl i g rfl rfl rfl (bJ.mpr ⟨⟨rfl,rfl⟩,(bJ.mpr ⟨⟨rfl,rfl⟩,(fun _ z=>nomatch z)⟩)⟩) (bJ.mpr ⟨⟨by first | exact .head _ | exact .tail _ (.head _) | exact .tail _ (.tail _ (.head _)) | exact .tail _ (.tail _ (.tail _ (.head _))),rfl⟩,(bJ.mpr ⟨⟨by first | exact .head _ | exact .tail _ (.head _) | exact .tail _ (.tail _ (.head _)) | exact .tail _ (.tail _ (.tail _ (.head _))),rfl⟩,(fun _ z=>nomatch z)⟩)⟩) (bJ.mpr ⟨rfl,(bJ.mpr ⟨rfl,(fun _ z=>nomatch z)⟩)⟩) (fun _=>rfl)))),?_⟩
 have J:=sc.n 3
 obtain ⟨n,cs,x,kn,rfl,ok,n12,M,rfl⟩:=p
 have big:=zD
 obtain ⟨dc,l,m⟩:∃ dc:Str->PyData,dc "causes" = nls cs/\dc "known" = nl kn:=⟨fun y=>if y = "causes" then nls cs else nl kn,if_pos rfl,if_neg (by decide)⟩
 have o:PyData.tuple [.int (x:Int),.int 0]=cD (2 * x):=by unfold cD;rw [show 2 * x / 2=x by omega,show 2 * x % 2=0 by omega];rfl
 walk_at"run"
 refine zM true (ut (P:=P) (w:=w) (mg:=mg) (base:=base) (kk:=2) (x := "pair") (dc:=dc) (p1:=gP (2 * n) (stC cs kn)) (d1:=pl [2 * x]) (EvO.toE (zZ (ds:=[cD (2 * x)]) (zg (EvE.eq (ww (ds:=[.int (x:Int),.int 0]) (by walk_at"ev") (by show 2<=_;omega)) o) zC) (by show 1<=sizeLine;omega))) (bJ.mpr ⟨⟨false,by show _=some (some (DV.fz false (dc "causes")));rw [l];rfl⟩,bJ.mpr ⟨⟨false,by show _=some (some (DV.fz false (dc "known")));rw [m];rfl⟩,fun _ z=>nomatch z⟩⟩) (uS (by decide +kernel)) (fun cl pm N t=>xg.all fun us u=>match us,u with | [_],_=>rfl) (fun _ _ _ C _ _ _ _ j=>(pF a j (zb (pv 1) (zb (pv 2) (zb (pv 0) zd))))) (fun d r h=>?_) (.inr ⟨2 * n,stC cs kn,[2 * x],rfl,zcS ok n12 kn,⟨fun z D=>by rw [aD.mp D];omega,by show 1<=80;decide⟩,rfl,rfl⟩)) rfl (.inl ⟨rfl,rfl⟩)
 obtain ⟨k,G,rfl,rfl⟩:=h
 show EvE K .fresh false _ [some (.fz false (cD k)),some (.fz false (dc "causes")),some (.fz false (dc "known"))] _
 rw [l,m]
 exact zk (by walk_at"ev") ⟨n,cs,kn,k,rfl,ok,n12,by omega,rfl⟩
theorem zai:b∈upC cs k↔b % 2=0/\b / 2∈cs.getD k []:=by
 unfold upC
 rw [aF]
 constructor
 ·rintro ⟨c,a,rfl⟩
  rw [show 2 * c / 2=c by omega]
  exact ⟨by omega,a⟩
 ·rintro ⟨e,d⟩
  exact ⟨b / 2,d,by omega⟩
theorem zal (ok:ShOk n cs) (a:b / 2 < n):b∈dnC cs k↔b % 2=1/\k∈cs.getD (b / 2) []:=by
 unfold dnC effF
 rw [aF]
 constructor
 ·rintro ⟨c,d,rfl⟩
  rw [show (2 * c + 1) / 2=c by omega]
  exact ⟨by omega,of_decide_eq_true (aJ.mp d).2⟩
 ·rintro ⟨f,e⟩
  exact ⟨b / 2,aJ.mpr ⟨aZ.mpr (by rw [ok.l];exact a),decide_eq_true e⟩,by omega⟩
theorem V6 (ok:ShOk n cs) (e:b / 2 < n):(b % 2=0->(b∈stC cs kn a↔b / 2∈cs.getD (a / 2) []/\(a % 2=1↔a / 2∈kn)))/\(b % 2=1->(b∈stC cs kn a↔a / 2∈cs.getD (b / 2) []/\a / 2∉kn)):=by
 unfold stC
 by_cases c:a / 2∈kn
 ·rw [if_pos c]
  by_cases d:a % 2=1
  ·rw [if_pos d,zai]
   exact ⟨fun z=>⟨fun y=>⟨y.2,fun _=>c,fun _=>d⟩,fun y=>⟨z,y.1⟩⟩,fun z=>⟨fun y=>by omega,fun y=>absurd c y.2⟩⟩
  ·rw [if_neg d]
   exact ⟨fun z=>⟨fun y=>(by cases y),fun y=>absurd (y.2.mpr c) d⟩,fun z=>⟨fun y=>(by cases y),fun y=>absurd c y.2⟩⟩
 ·rw [if_neg c]
  by_cases d:a % 2=1
  ·rw [if_pos d,zal ok e]
   exact ⟨fun z=>⟨fun y=>by omega,fun y=>absurd (y.2.mp d) c⟩,fun z=>⟨fun y=>⟨y.2,c⟩,fun y=>⟨z,y.1⟩⟩⟩
  ·rw [if_neg d,aQ,zai,zal ok e]
   refine ⟨fun z=>⟨fun y=>⟨?_,fun w=>absurd w d,fun w=>absurd w c⟩,fun y=>.inl ⟨z,y.1⟩⟩,fun z=>⟨fun y=>⟨?_,c⟩,fun y=>.inr ⟨z,y.1⟩⟩⟩
   ·rcases y with y | y
    ·exact y.2
    ·omega
   ·rcases y with y | y
    ·omega
    ·exact y.2
def cauF (cs:List (List Nat)) (k:Nat):List Nat:=cs.getD k []
theorem zeb (h:ShOk n cs) (n12:n<=12):NxOk n (cauF cs):=⟨by omega,fun x a y b=>(h.at a).2.1 y b,fun x a=>bO (h.at a).2.2 (by decide)⟩
theorem Ue (h:ShOk n cs) (n12:n<=12):NxOk n (effF cs):=⟨by omega,fun x a y b=>by
 have:=aZ.mp (aJ.mp b).1
 rw [h.l] at this
 exact this,fun x a=>by
 have:=bP (fun o=>decide (x∈cs.getD o [])) (List.range cs.length)
 rw [aV] at this
 have e:=h.l
 show (List.filter (fun o=>decide (x∈cs.getD o [])) (List.range cs.length)).length<=80
 omega⟩
theorem y9 (h:ShOk n cs):y∈effF cs x↔y < n/\x∈cauF cs y:=by
 unfold effF cauF
 rw [aJ,aZ,h.l]
 simp
theorem VO (h:k < n):SmOk n [k]:=⟨fun x a=>by rw [aD.mp a];exact h,by show 1<=80;decide⟩
def YE (ds:List PyData) (d:PyData):Prop:=∃ (n:Nat) (cs:List (List Nat)) (sm:List Nat),ds=[nls cs,nl sm]/\ShOk n cs/\n<=12/\SmOk n sm/\d=nl (rchL n (cauF cs) sm)
theorem QB:zA ["causes", "some"] ["causes", "some"] (zo (top 3)):={}
theorem zad (F:Fun K "above" "above" (top 3) f fd) (L:t5 K f "above" = true) (B:Bs mg) (Z:Cs K mg aH aI) (a:zz P w K mg base CX0 "gathered" ["some", "nexts"] 4 (spG P w K mg base 3 y6)):FnOk P w K mg base CX0 5 f fd ["causes", "some"] (spD K true YE):=by
 have sc:=QB
 refine F.okL L sc (fun vs H Q E h=>zH (fun _ _⟨_,_,_,e,_⟩=>by rw [e];rfl) h) (fun c T A outer s H vs Q E g b i h=>?_)
 obtain ⟨u,ds,d,le,dp,p,q⟩:=h
 refine ⟨_,(zf (zy (ui (caps:=[("causes", 0)]) a (i.mono (by decide)) rfl (pv 1) rfl g b rfl rfl rfl (bJ.mpr ⟨⟨rfl,rfl⟩,(fun _ z=>nomatch z)⟩) (bJ.mpr ⟨⟨by first | exact .head _ | exact .tail _ (.head _) | exact .tail _ (.tail _ (.head _)) | exact .tail _ (.tail _ (.tail _ (.head _))),rfl⟩,(fun _ z=>nomatch z)⟩) (bJ.mpr ⟨rfl,(fun _ z=>nomatch z)⟩) (fun _=>rfl)))),?_⟩
 have v:=sc.n 2
 obtain ⟨n,cs,sm,rfl,ok,n12,so,rfl⟩:=p
 walk_at"run"
 refine zM true (ut (P:=P) (w:=w) (mg:=mg) (base:=base) (kk:=2) (x := "k") (dc:=fun _=>nls cs) (p1:=gI n (cauF cs)) (by walk_at"ev") (bJ.mpr ⟨⟨_,rfl⟩,fun _ z=>nomatch z⟩) (uS (by decide +kernel)) (fun cl pm y j=>xg.all fun us m=>match us,m with | [_],_=>rfl) (fun _ _ _ o _ _ _ _ i=>(pX (zu (K:=K) rfl) (pv 1) (pv 0))) (fun d r h=>?_) (.inl ⟨n,cauF cs,sm,rfl,zeb ok n12,so,rfl,rfl⟩)) rfl (.inl ⟨rfl,rfl⟩)
 obtain ⟨k,kn,rfl,rfl⟩:=h
 have t:atI (cs.map nl) (k:Int)=some (nl (cs.getD k [])):=yt (zQ (by rw [ok.l];exact kn))
 show EvE K .fresh false _ [some (.fz false (.int k)),some (.fz false (nls cs))] _
 exact zI (U:=false) (by walk_at"ev") (by walk_at"ev") t
def vB (ds:List PyData) (d:PyData):Prop:=∃ (n:Nat) (cs:List (List Nat)) (sm:List Nat),ds=[nls cs,nl sm]/\ShOk n cs/\n<=12/\SmOk n sm/\d=nl (rchL n (effF cs) sm)
theorem VG:zA ["causes", "some"] ["causes", "some"] (zo (top 4)):={}
theorem VX (F:Fun K "beneath" "beneath" (top 4) f fd) (L:t5 K f "beneath" = true) (B:Bs mg) (Z:Cs K mg aH aI) (a:zz P w K mg base CX0 "gathered" ["some", "nexts"] 4 (spG P w K mg base 3 y6)) (b:zz P w K mg base CX0 "effects" ["causes", "k"] 1 (spD K true yY)):FnOk P w K mg base CX0 5 f fd ["causes", "some"] (spD K true vB):=by
 have sc:=VG
 refine F.okL L sc (fun vs H Q E h=>zH (fun _ _⟨_,_,_,e,_⟩=>by rw [e];rfl) h) (fun c T A outer s H vs Q E i g j h=>?_)
 obtain ⟨u,ds,d,le,dp,p,q⟩:=h
 refine ⟨_,(zf (zy (ui (caps:=[("causes", 0)]) a (j.mono (by decide)) rfl (pv 1) rfl i g rfl rfl rfl (bJ.mpr ⟨⟨rfl,rfl⟩,(fun _ z=>nomatch z)⟩) (bJ.mpr ⟨⟨by first | exact .head _ | exact .tail _ (.head _) | exact .tail _ (.tail _ (.head _)) | exact .tail _ (.tail _ (.tail _ (.head _))),rfl⟩,(fun _ z=>nomatch z)⟩) (bJ.mpr ⟨rfl,(fun _ z=>nomatch z)⟩) (fun _=>rfl)))),?_⟩
 have v:=sc.n 2
 obtain ⟨n,cs,sm,rfl,ok,n12,so,rfl⟩:=p
 have cl:=ok.l
 walk_at"run"
 refine zM true (ut (P:=P) (w:=w) (mg:=mg) (base:=base) (kk:=2) (x := "k") (dc:=fun _=>nls cs) (p1:=gI n (effF cs)) (by walk_at"ev") (bJ.mpr ⟨⟨_,rfl⟩,fun _ z=>nomatch z⟩) (uS (by decide +kernel)) (fun cl pm y m=>xg.all fun us o=>match us,o with | [_],_=>rfl) (fun _ _ _ t _ _ _ _ j=>(pF b j (zb (pv 1) (zb (pv 0) zd)))) (fun d r h=>?_) (.inl ⟨n,effF cs,sm,rfl,Ue ok n12,so,rfl,rfl⟩)) rfl (.inl ⟨rfl,rfl⟩)
 obtain ⟨k,kn,rfl,rfl⟩:=h
 show EvE K .fresh false _ [some (.fz false (.int k)),some (.fz false (nls cs))] _
 exact zk (by walk_at"ev") ⟨cs,k,rfl,by omega,rfl⟩
noncomputable def onW (n:Nat) (cs:List (List Nat)) (x y:Nat):List Nat:=(rchL n (effF cs) [x]).filter fun k=>decide (k∈rchL n (cauF cs) [y]) && !decide (k=x)
theorem vS:k∈onW n cs x y↔k∈rchL n (effF cs) [x]/\k∈rchL n (cauF cs) [y]/\k≠x:=by
 unfold onW
 rw [aJ]
 simp
theorem zbT (n:Nat) (cs:List (List Nat)) (x y:Nat):(onW n cs x y).length<=n:=bO (bP _ _) (vq ..)
def vz (ds:List PyData) (d:PyData):Prop:=∃ (n:Nat) (cs:List (List Nat)) (x y:Nat),ds=[nls cs,.int x,.int y]/\ShOk n cs/\n<=12/\x < n/\y < n/\d=nl (onW n cs x y)
theorem VB:zA ["causes", "x", "y", "over_y"] ["causes", "x", "y"] (zo (top 27)):={}
theorem VR (F:Fun K "on_ways" "on_ways" (top 27) f fd) (B:Bs mg) (Z:Cs K mg aH aI) (b:zz P w K mg base CX0 "above" ["causes", "some"] 5 (spD K true YE)) (a:zz P w K mg base CX0 "beneath" ["causes", "some"] 5 (spD K true vB)):FnOk P w K mg base CX0 6 f fd ["causes", "x", "y"] (spD K true vz):=by
 have sc:=VB
 refine F.ok sc (fun vs H Q E h=>zH (fun _ _⟨_,_,_,_,e,_⟩=>by rw [e];rfl) h) (fun cdv A outer s H vs Q E c h=>?_)
 obtain ⟨m,ds,d,le,dp,p,q⟩:=h
 refine ⟨_,(ze (pS (i:=3) sc.nd (pF b c (zb (pv 0) (zb (zU (zb (pv 2) zd)) zd))))
   (zf (zy (yc rfl (N:=["k", "over_y", "x"]) (js:=[none,some 3,some 1]) (by walk_at"comp_ok") (zE (K:=K) rfl (pF a c (zb (pv 0) (zb (zU (zb (pv 1) zd)) zd)))) (fun _ _ _ _=>(pN (i:=0) (show aX ["k", "over_y", "x"] by decide +kernel))) (fun _ _ _ _=>(yS (PW.pt (xE (zr (zG (K:=K) rfl) (pv 0) (pv 1) (rfl)) (xy (zr vg (pv 0) (pv 2) (zF _))))))) (fun _ _ _ _=>(pv 0)))))),?_⟩
 have o:=sc.n 4
 obtain ⟨n,cs,x,y,rfl,ok,n12,g,l,rfl⟩:=p
 have big:=zD
 walk_at"run"
 refine exs true (d:=nl (rchL n (cauF cs) [y])) (zk (ds:=[nls cs,.list [.int (y:Int)]]) (by walk_at"ev") ⟨n,cs,[y],rfl,ok,n12,VO l,rfl⟩) (by walk_at"sc") ?_
 have r:=vq n (effF cs) [x]
 refine zM true (EvO.toE (yo (U:=true) (is:=[0]) (xs:=rchL n (effF cs) [x]) false (fun k:Nat=>.int (k:Int)) (fun k:Nat=>.int (k:Int)) (fun k=>decide (k∈rchL n (cauF cs) [y]) && !decide (k=x)) (fun x _ y _ h=>by cases yO h;exact ⟨rfl,rfl⟩) (zN (zk (ds:=[nls cs,.list [.int (x:Int)]]) (d:=nl (rchL n (effF cs) [x])) (by walk_at"ev") ⟨n,cs,[x],rfl,ok,n12,VO g,rfl⟩)) (by walk_at"cc") rfl (by decide) (by omega) ?_)) rfl (.inl ⟨rfl,rfl⟩)
 intro k t
 exact egn (by walk_at"sc") ⟨xu (EvT.eq (zq (zW (neg:=false) (i:=(k:Int)) (ns:=zl (rchL n (cauF cs) [y])) (by walk_at"ev") (EvE.toL (EvE.eq (U:=false) (by walk_at"ev") (ya _))))) zV) fun _=>EvT.eq (zq (vG (i:=(k:Int)) (j:=(x:Int)) (by walk_at"ev") (by walk_at"ev"))) (by rw [show decide ((k:Int)=(x:Int))=decide (k=x) from decide_eq_decide.mpr ⟨fun h=>by omega,fun h=>by omega⟩]),fun _=>by walk_at"ev"⟩
noncomputable def cutP (n:Nat) (cs:List (List Nat)) (x y:Nat):List (Nat×Nat):=(onW n cs x y).map fun k=>(x,k)
noncomputable def cutC (n:Nat) (cs:List (List Nat)) (x y:Nat):List (List Nat):=woF cs (cutP n cs x y)
def wv (ds:List PyData) (d:PyData):Prop:=∃ (n:Nat) (cs:List (List Nat)) (x y:Nat),ds=[nls cs,.int x,.int y]/\ShOk n cs/\n<=12/\x < n/\y < n/\d=nls (cutC n cs x y)
theorem Xq:zA ["causes", "x", "y"] ["causes", "x", "y"] (zo (top 28)):={}
theorem XT (F:Fun K "cut_shape" "cut_shape" (top 28) f fd) (B:Bs mg) (Z:Cs K mg aH aI) (c:zz P w K mg base CX0 "without" ["causes", "pairs"] 1 (spD K true tT)) (g:zz P w K mg base CX0 "on_ways" ["causes", "x", "y"] 6 (spD K true vz)):FnOk P w K mg base CX0 7 f fd ["causes", "x", "y"] (spD K true wv):=by
 have sc:=Xq
 refine F.ok sc (fun vs H Q E h=>zH (fun _ _⟨_,_,_,_,e,_⟩=>by rw [e];rfl) h) (fun cdv A outer s H vs Q E j h=>?_)
 obtain ⟨t,ds,d,le,dp,p,q⟩:=h
 refine ⟨_,(zf (zy (pF c j (zb (pv 0) (zb (yc rfl (N:=["k", "x"]) (js:=[none,some 1]) (by walk_at"comp_ok") (zE (K:=K) rfl (pF g j (zb (pv 0) (zb (pv 1) (zb (pv 2) zd))))) (fun _ _ _ _=>(pN (i:=0) (show aX ["k", "x"] by decide +kernel))) (fun _ _ _ _=>yx) (fun _ _ _ _=>(xG (zb (pv 1) (zb (pv 0) zd))))) zd))))),?_⟩
 have u:=sc.n 3
 obtain ⟨n,cs,x,y,rfl,ok,n12,m,o,rfl⟩:=p
 have big:=zD
 have cl:=ok.l
 have v:=zbT n cs x y
 walk_at"run"
 refine zM true (zk (ds:=[nls cs,prs (cutP n cs x y)]) (zg (by walk_at"ev") (zg (EvE.eq (EvO.toE (yp (U:=false) (is:=[0]) (xs:=onW n cs x y) false (fun k:Nat=>.int (k:Int)) (fun k=>pD (x,k)) (fun a _ b _ h=>by cases yO h;rfl) (zN (zk (d:=nl (onW n cs x y)) (by walk_at"ev") ⟨n,cs,x,y,rfl,ok,n12,m,o,rfl⟩)) (by walk_at"cc") rfl (by decide) (by omega) ?_)) (by unfold cutP;rw [prs,List.map_map];rfl)) zC)) ⟨cs,cutP n cs x y,rfl,by omega,fun r j=>by have:=(ok.e r j).2;omega,rfl⟩) rfl (.inl ⟨rfl,rfl⟩)
 intro k z
 exact egn (by walk_at"sc") (by walk_at"ev")
theorem zcL (ok:ShOk n cs) (ps:List (Nat×Nat)):ShOk n (woF cs ps):=⟨by rw [vO];exact ok.l,fun r b=>by
 obtain ⟨i,hi⟩:=dV.mp b
 have il:i < cs.length:=by have:=(aP.mp hi).1;rwa [vO] at this
 have z:cs[i]?=some (cs.getD i []):=zQ il
 rw [Xc z] at hi
 cases hi
 have e:=ok.e _ (aS z)
 refine ⟨fun x a=>e.1 x ?_,bO ?_ e.2⟩
 ·unfold woR at a
  exact (aJ.mp a).1
 ·unfold woR
  exact bP _ _⟩
noncomputable def unW (n:Nat) (cs:List (List Nat)) (x y:Nat):List Nat:=rchL n (effF cs) (onW n cs x y)
abbrev paC (cs:List (List Nat)) (c v:Nat):Prop:=c∈cs.getD v []
abbrev InL (l:List Nat) (v:Nat):Prop:=v∈l
theorem zdr (ok:ShOk n cs) (n12:n<=12) (i:x < n) (h:Rch (stC cs kn) [2 * x] c):c < 2 * n/\Dsp.Bb (paC cs) (InL kn) x (c / 2) (decide (c % 2=1)):=by
 induction h with
 | base z =>
  rw [aD.mp z,show 2 * x / 2=x by omega,show 2 * x % 2=0 by omega]
  exact ⟨by omega,.start⟩
 | @step a b _ z d =>
  have g:=(zcS ok n12 kn).lt a d.1 b z
  have f:=V6 ok (kn:=kn) (a:=a) (b:=b) (by omega)
  refine ⟨g,?_⟩
  rcases Nat.mod_two_eq_zero_or_one b with e | e
  ·have m:=(f.1 e).mp z
   rw [e]
   exact .up d.2 m.1 ⟨fun w=>m.2.mp (of_decide_eq_true w),fun w=>decide_eq_true (m.2.mpr w)⟩
  ·have m:=(f.2 e).mp z
   rw [e]
   exact .down d.2 m.1 m.2
theorem zeh {n:Nat} {x:Nat} (ok:ShOk n cs) (j:x < n) {v:Nat} {w:Bool} (h:Dsp.Bb (paC cs) (InL kn) x v w):v < n/\Rch (stC cs kn) [2 * x] (2 * v + cond w 1 0):=by
 induction h with
 | start=>exact ⟨j,.base (aD.mpr rfl)⟩
 | @up v u w _ p i d =>
  have f:=(ok.at d.1).2.1 u p
  refine ⟨f,.step d.2 ?_⟩
  have g:=(V6 ok (kn:=kn) (a:=2 * v + cond w 1 0) (b:=2 * u + cond false 1 0) (by show (2 * u + 0) / 2 < n;omega)).1 (by show (2 * u + 0) % 2=0;omega)
  refine g.mpr ?_
  rw [show (2 * u + cond false 1 0) / 2=u by show (2 * u + 0) / 2=u;omega]
  cases w with
  | true =>
   rw [show (2 * v + cond true 1 0) / 2=v by show (2 * v + 1) / 2=v;omega,show (2 * v + cond true 1 0) % 2=1 by show (2 * v + 1) % 2=1;omega]
   exact ⟨p,fun _=>i.mp rfl,fun _=>rfl⟩
  | false =>
   rw [show (2 * v + cond false 1 0) / 2=v by show (2 * v + 0) / 2=v;omega,show (2 * v + cond false 1 0) % 2=0 by show (2 * v + 0) % 2=0;omega]
   exact ⟨p,fun e=>(by cases e),fun e=>(by have:=i.mpr e;cases this)⟩
 | @down v u w _ p k d =>
  have f:u < n:=by
   have:u < cs.length:=Classical.byContradiction fun c=>by
    have e:cs.getD u []=[]:=by rw [aM,cB (by omega)];rfl
    have p:v∈cs.getD u []:=p
    rw [e] at p
    cases p
   rw [<- ok.l];exact this
  refine ⟨f,.step d.2 ?_⟩
  have e:(2 * v + cond w 1 0) / 2=v:=by cases w <;> simp only [cond_true,cond_false] <;> omega
  have g:=(V6 ok (kn:=kn) (a:=2 * v + cond w 1 0) (b:=2 * u + cond true 1 0) (by show (2 * u + 1) / 2 < n;omega)).2 (by show (2 * u + 1) % 2=1;omega)
  refine g.mpr ?_
  rw [e,show (2 * u + cond true 1 0) / 2=u by show (2 * u + 1) / 2=u;omega]
  exact ⟨p,k⟩
open Classical in
noncomputable def brB (cs:List (List Nat)) (kn:List Nat) (x y:Nat):Bool:=decide (¬ ∃ w,Dsp.Bb (paC cs) (InL kn) x y w)
open Classical in
theorem zc9 (h:¬ ∃ w,Dsp.Bb (paC cs) (InL kn) x y w):brB cs kn x y=true:=decide_eq_true h
open Classical in
theorem zba (h:∃ w,Dsp.Bb (paC cs) (InL kn) x y w):brB cs kn x y=false:=decide_eq_false fun z=>z h
noncomputable def reL (n:Nat) (cs:List (List Nat)) (kn:List Nat) (x:Nat):List Nat:=(rchL (2 * n) (stC cs kn) [2 * x]).map fun c=>c / 2
theorem zaj (ok:ShOk n cs) (n12:n<=12) (a:x < n):y∈reL n cs kn x↔∃ w,Dsp.Bb (paC cs) (InL kn) x y w:=by
 unfold reL
 rw [aF]
 constructor
 ·rintro ⟨c,d,rfl⟩
  exact ⟨_,(zdr ok n12 a (zY.mp d).2).2⟩
 ·rintro ⟨w,h⟩
  have b:=zeh ok a h
  refine ⟨2 * y + cond w 1 0,zY.mpr ⟨?_,b.2⟩,?_⟩ <;> cases w <;> simp only [cond_true,cond_false] <;> omega
def xU (ds:List PyData) (d:PyData):Prop:=∃ (n:Nat) (cs:List (List Nat)) (x:Nat) (kn:List Nat),ds=[nls cs,.int x,nl kn]/\ShOk n cs/\n<=12/\x < n/\d=nl (reL n cs kn x)
theorem uy:zA ["causes", "x", "known"] ["causes", "x", "known"] (zo (top 15)):={}
theorem uQ (F:Fun K "reached_things" "reached_things" (top 15) f fd) (B:Bs mg) (Z:Cs K mg aH aI) (g:zz P w K mg base CX0 "reach" ["causes", "x", "known"] 5 (spD K true YD)):FnOk P w K mg base CX0 6 f fd ["causes", "x", "known"] (spD K true xU):=by
 have sc:=uy
 refine F.ok sc (fun vs H Q E h=>zH (fun _ _⟨_,_,_,_,e,_⟩=>by rw [e];rfl) h) (fun cdv A outer s H vs Q E j h=>?_)
 obtain ⟨l,ds,d,le,dp,p,q⟩:=h
 refine ⟨_,(zf (zy (yc rfl (N:=["pair"]) (js:=[none]) (by walk_at"comp_ok") (zE (K:=K) rfl (pF g j (zb (pv 0) (zb (pv 1) (zb (pv 2) zd))))) (fun _ _ _ _=>(pN (i:=0) (show aX ["pair"] by decide +kernel))) (fun _ _ _ _=>yx) (fun _ _ _ _=>(pX (yE (K:=K) rfl) (pv 0) zh))))),?_⟩
 have m:=sc.n 3
 obtain ⟨n,cs,x,kn,rfl,ok,n12,k,rfl⟩:=p
 have big:=zD
 have o:=vq (2 * n) (stC cs kn) [2 * x]
 walk_at"run"
 refine zM true (EvO.toE (EvO.eq (yp (U:=true) (is:=[0]) (xs:=rchL (2 * n) (stC cs kn) [2 * x]) false cD (fun c=>.int ((c / 2:Nat):Int)) (fun a _ b _ h=>by cases zed h;rfl) (zN (zk (by walk_at"ev") ⟨n,cs,x,kn,rfl,ok,n12,k,rfl⟩)) (by walk_at"cc") rfl (by decide) (by omega) ?_) (by unfold reL;rw [List.map_map];rfl))) rfl (.inl ⟨rfl,rfl⟩)
 intro c r
 exact egn (by walk_at"sc") (EvE.imm (U:=false) (yP (U:=false) (ds:=[.int ((c / 2:Nat):Int),.int ((c % 2:Nat):Int)]) (i:=0) (EvE.eq (a:=cD c) (by walk_at"ev") rfl) (by walk_at"ev") rfl) rfl)
def ZB (ds:List PyData) (d:PyData):Prop:=∃ (n:Nat) (cs:List (List Nat)) (x y:Nat) (kn:List Nat),ds=[nls cs,.int x,.int y,nl kn]/\ShOk n cs/\n<=12/\x < n/\d=.bool (brB cs kn x y)
theorem Tr:zA ["causes", "x", "y", "known"] ["causes", "x", "y", "known"] (zo (top 16)):={}
theorem TD (F:Fun K "barred" "barred" (top 16) f fd) (B:Bs mg) (Z:Cs K mg aH aI) (a:zz P w K mg base CX0 "reached_things" ["causes", "x", "known"] 6 (spD K true xU)):FnOk P w K mg base CX0 7 f fd ["causes", "x", "y", "known"] (spD K true ZB):=by
 have sc:=Tr
 refine F.ok sc (fun vs H Q E h=>zH (fun _ _⟨_,_,_,_,_,e,_⟩=>by rw [e];rfl) h) (fun cdv A outer s H vs Q E g h=>?_)
 obtain ⟨j,ds,d,le,dp,p,q⟩:=h
 refine ⟨_,(zf (zy (yy (yd (K:=K) rfl) (pv 2) (pF a g (zb (pv 0) (zb (pv 1) (zb (pv 3) zd)))) (rfl)))),?_⟩
 have k:=sc.n 4
 obtain ⟨n,cs,x,y,kn,rfl,ok,n12,b,rfl⟩:=p
 have e:(!decide (y∈reL n cs kn x))=brB cs kn x y:=by
  by_cases c:y∈reL n cs kn x
  ·rw [decide_eq_true c,zba ((zaj ok n12 b).mp c)];rfl
  ·rw [decide_eq_false c,zc9 fun z=>c ((zaj ok n12 b).mpr z)];rfl
 walk_at"run"
 exact zM true (EvE.eq (zW (neg:=true) (i:=(y:Int)) (ns:=zl (reL n cs kn x)) (by walk_at"ev") (EvE.toL (EvE.eq (U:=false) (zk (by walk_at"ev") ⟨n,cs,x,kn,rfl,ok,n12,b,rfl⟩) (ya _)))) (by show PyData.bool (!decide _)=_;rw [zV,e])) rfl (.inl ⟨rfl,rfl⟩)
noncomputable def doB (n:Nat) (cs:List (List Nat)) (x y:Nat) (sm:List Nat):Bool:=!((unW n cs x y).any fun k=>decide (k∈sm)) && brB (cutC n cs x y) sm x y
theorem ZI (ok:ShOk n cs) (h:paC cs c v):c < n/\v < n:=by
 have a:v < cs.length:=Classical.byContradiction fun z=>by
  have e:cs.getD v []=[]:=by rw [aM,cB (by omega)];rfl
  have h:c∈cs.getD v []:=h
  rw [e] at h
  cases h
 rw [ok.l] at a
 exact ⟨(ok.at a).2.1 c h,a⟩
theorem zaR (g:α->PyData) (l:List α):PyData.eqv (.list (l.map g)) (.list [])=decide (l.length=0):=by cases l <;> rfl
theorem wj (ok:ShOk n cs) (d:k < n):(j < n/\Rch (effF cs) [k] j)↔Dsp.Anc (paC cs) k j:=by
 constructor
 ·rintro ⟨lt,h⟩
  clear lt
  induction h with
  | base z=>rw [aD.mp z];exact .refl _
  | step _ z c=>exact c.trans (.step ((y9 ok).mp z).2 (.refl _))
 ·intro h
  have:∀ {a b:Nat},Dsp.Anc (paC cs) a b->a < n->Rch (effF cs) [k] a->b < n/\Rch (effF cs) [k] b:=fun {a b} h=>by
   induction h with
   | refl _=>exact fun l r=>⟨l,r⟩
   | step p _ c =>
    intro _ r
    have l:=(ZI ok p).2
    exact c l (r.step ((y9 ok).mpr ⟨l,p⟩))
  exact this h d (.base (aD.mpr rfl))
theorem zem (ok:ShOk n cs) (b:y < n):(k < n/\Rch (cauF cs) [y] k)↔Dsp.Anc (paC cs) k y:=by
 constructor
 ·rintro ⟨lt,h⟩
  clear lt
  induction h with
  | base z=>rw [aD.mp z];exact .refl _
  | step _ z a=>exact .step z a
 ·intro h
  induction h with
  | refl _=>exact ⟨b,.base (aD.mpr rfl)⟩
  | step p _ a=>exact ⟨(ZI ok p).1,(a b).2.step p⟩
def veeB (cs:List (List Nat)) (r:List Nat) (k:Nat):Bool:=decide (r.getD (k - 1) 0∈cs.getD (r.getD k 0) []) && decide (r.getD (k + 1) 0∈cs.getD (r.getD k 0) [])
theorem xb {r:List Nat} {k:Nat} (h:k < r.length):atI (r.map fun k:Nat=>PyData.int (k:Int)) (k:Int)=some (.int (r.getD k 0:Nat)):=yt (zQ h)
theorem Vn {n:Nat} {r:List Nat} (h:∀ x∈r,x < n) {k:Nat} (a:k < r.length):r.getD k 0 < n:=h _ (aS (zQ (d:=0) a))
def uh (ds:List PyData) (d:PyData):Prop:=∃ (n:Nat) (cs:List (List Nat)) (r:List Nat) (k:Nat),ds=[nls cs,nl r,.int k]/\ShOk n cs/\(∀ x∈r,x < n)/\1<=k/\k + 1 < r.length/\d=.bool (veeB cs r k)
theorem Tq:zA ["causes", "road", "place", "own"] ["causes", "road", "place"] (zo (top 19)):={}
theorem TC (F:Fun K "is_vee" "is_vee" (top 19) f fd) (B:Bs mg) (Z:Cs K mg aH aI)  : FnOk P w K mg base CX0 1 f fd ["causes", "road", "place"] (spD K true uh):=by
 have sc:=Tq
 refine F.ok sc (fun vs H Q E h=>zH (fun _ _⟨_,_,_,_,e,_⟩=>by rw [e];rfl) h) (fun cdv A outer s H vs Q E a h=>?_)
 obtain ⟨l,ds,d,le,dp,p,q⟩:=h
 refine ⟨_,(ze (pS (i:=3) sc.nd (pX (zu (K:=K) rfl) (pv 0) (pX (zu (K:=K) rfl) (pv 1) (pv 2))))
   (zf (zy (VM (yy (zG (K:=K) rfl) (pX (zu (K:=K) rfl) (pv 1) (zJ vC (pv 2) zh)) (pv 3) (rfl)) (XE (yy (zG (K:=K) rfl) (pX (zu (K:=K) rfl) (pv 1) (zJ yD (pv 2) zh)) (pv 3) (rfl))))))),?_⟩
 have m:=sc.n 4
 obtain ⟨n,cs,r,k,rfl,ok,a,o,c,rfl⟩:=p
 have kn:=Vn a (show k < r.length by omega)
 have g:=xb (r:=r) (show k < r.length by omega)
 have b:=xb (r:=r) (show k - 1 < r.length by omega)
 have ap:=xb (r:=r) c
 rw [show ((k - 1:Nat):Int)=(k:Int) - 1 by omega] at b
 rw [show ((k + 1:Nat):Int)=(k:Int) + 1 by omega] at ap
 have j:atI (cs.map nl) (r.getD k 0:Nat)=some (nl (cs.getD (r.getD k 0) [])):=yt (ok.at kn).1
 walk_at"run"
 refine exs false (d:=nl (cs.getD (r.getD k 0) [])) (zI (U:=false) (by walk_at"ev") (zI (U:=false) (by walk_at"ev") (by walk_at"ev") g) j) (by walk_at"sc") ?_
 exact zM true (Ub (EvE.eq (zW (neg:=false) (i:=(r.getD (k - 1) 0:Nat)) (ns:=zl (cs.getD (r.getD k 0) [])) (zI (U:=false) (by walk_at"ev") (by walk_at"ev") b) (EvE.toL (EvE.eq (U:=false) (by walk_at"ev") (ya _)))) (congrArg PyData.bool zV)) fun _=>EvE.eq (zW (neg:=false) (i:=(r.getD (k + 1) 0:Nat)) (ns:=zl (cs.getD (r.getD k 0) [])) (zI (U:=false) (by walk_at"ev") (by walk_at"ev") ap) (EvE.toL (EvE.eq (U:=false) (by walk_at"ev") (ya _)))) (congrArg PyData.bool zV)) rfl (.inl ⟨rfl,rfl⟩)
abbrev innD (r:List Nat):List PyData:=(List.range (r.length - 2)).map fun i:Nat=>.int (1 + (i:Int))
def wG (ds:List PyData) (d:PyData):Prop:=∃ r:List Nat,ds=[nl r]/\r.length<=1000/\d=.list (innD r)
theorem Zd:zA ["road"] ["road"] (zo (top 20)):={}
theorem Zf (F:Fun K "inner_places" "inner_places" (top 20) f fd) (B:Bs mg) (Z:Cs K mg aH aI)  : FnOk P w K mg base CX0 1 f fd ["road"] (spD K true wG):=by
 have sc:=Zd
 refine F.ok sc (fun vs H Q E h=>zH (fun _ _⟨_,e,_⟩=>by rw [e];rfl) h) (fun cdv A outer s H vs Q E c h=>?_)
 obtain ⟨g,ds,d,le,dp,p,q⟩:=h
 refine ⟨_,(zf (zy (pY (Ys rfl) B.list (zb (pY Qc B.range (zb zh (zb (zJ vC (pB (zm (K:=K) rfl) B.len (zb (pv 0) zd)) zh) zd))) zd)))),?_⟩
 have i:=sc.n 1
 obtain ⟨r,rfl,j,rfl⟩:=p
 walk_at"run"
 refine zM true (EvO.toE (EvO.eq (X4 (a:=1) (b:=(r.length:Int) - 1) (zg (by walk_at"ev") (zg (ZW (EvE.eq (yb (ds:=r.map fun k:Nat=>.int (k:Int)) (by walk_at"ev")) (by rw [aB])) (by walk_at"ev")) zC)) (by omega) (by omega) (by omega) (by omega)) ?_)) rfl (.inl ⟨rfl,rfl⟩)
 rw [show ((r.length:Int) - 1 - 1).toNat=r.length - 2 by omega]
noncomputable def barB (n:Nat) (cs:List (List Nat)) (r kn:List Nat) (k:Nat):Bool:=bif veeB cs r k then !((rchL n (effF cs) [r.getD k 0]).any fun j=>decide (j∈kn)) else decide (r.getD k 0∈kn)
def tW (ds:List PyData) (d:PyData):Prop:=∃ (n:Nat) (cs:List (List Nat)) (r kn:List Nat) (k:Nat),ds=[nls cs,nl r,.int k,nl kn]/\ShOk n cs/\n<=12/\(∀ x∈r,x < n)/\1<=k/\k + 1 < r.length/\kn.length<=1000/\d=.bool (barB n cs r kn k)
theorem VH:zA ["causes", "road", "place", "known", "k"] ["causes", "road", "place", "known"] (zo (top 22)):={}
theorem VY (F:Fun K "bars_at" "bars_at" (top 22) f fd) (B:Bs mg) (Z:Cs K mg aH aI) (c:zz P w K mg base CX0 "is_vee" ["causes", "road", "place"] 1 (spD K true uh)) (g:zz P w K mg base CX0 "meet" ["some", "others"] 1 (spD K true ZA)) (a:zz P w K mg base CX0 "beneath" ["causes", "some"] 5 (spD K true vB)):FnOk P w K mg base CX0 6 f fd ["causes", "road", "place", "known"] (spD K true tW):=by
 have sc:=VH
 refine F.ok sc (fun vs H Q E h=>zH (fun _ _⟨_,_,_,_,_,e,_⟩=>by rw [e];rfl) h) (fun cdv A outer s H vs Q E j h=>?_)
 obtain ⟨t,ds,d,le,dp,p,q⟩:=h
 refine ⟨_,(ze (pS (i:=4) sc.nd (pX (zu (K:=K) rfl) (pv 1) (pv 2)))
   (ze (ye (yC (pF c j (zb (pv 0) (zb (pv 1) (zb (pv 2) zd))))) (zf (zy (ZG (pF g j (zb (pF a j (zb (pv 0) (zb (zU (zb (pv 4) zd)) zd))) (zb (pv 3) zd)))))) zL)
   (zf (zy (yy (zG (K:=K) rfl) (pv 4) (pv 3) (rfl)))))),?_⟩
 have u:=sc.n 5
 obtain ⟨n,cs,r,kn,k,rfl,ok,n12,j,l,m,v,rfl⟩:=p
 have xn:=Vn j (show k < r.length by omega)
 have o:=xb (r:=r) (show k < r.length by omega)
 walk_at"run"
 refine exs false (d:=.int (r.getD k 0:Nat)) (zI (U:=false) (by walk_at"ev") (by walk_at"ev") o) (by walk_at"sc") ?_
 have x:=vq n (effF cs) [r.getD k 0]
 refine vE (b:=veeB cs r k) (et_B (zk (by walk_at"ev") ⟨n,cs,r,k,rfl,ok,j,l,m,rfl⟩)) (fun h=>?_) (fun h=>?_)
 ·refine exrs true (ZY (zk (zg (zk (ds:=[nls cs,.list [.int (r.getD k 0:Nat)]]) (d:=nl (rchL n (effF cs) [r.getD k 0])) (by walk_at"ev") ⟨n,cs,[r.getD k 0],rfl,ok,n12,VO xn,rfl⟩) (zg (by walk_at"ev") zC)) ⟨rchL n (effF cs) [r.getD k 0],kn,rfl,by omega,rfl⟩)) ?_ (.inl ⟨rfl,rfl⟩)
  show _=PyData.bool (barB n cs r kn k)
  unfold barB
  rw [h]
  rfl
 ·refine exn ?_
  refine zM true (EvE.eq (zW (neg:=false) (i:=(r.getD k 0:Nat)) (ns:=zl kn) (by walk_at"ev") (EvE.toL (EvE.eq (U:=false) (by walk_at"ev") (ya _)))) (congrArg PyData.bool zV)) ?_ (.inl ⟨rfl,rfl⟩)
  show _=PyData.bool (barB n cs r kn k)
  unfold barB
  rw [h]
  rfl
theorem zcG {ns:List Int} {k:Nat} (h:k < ns.length):atI (ns.map PyData.int) (k:Int)=some (.int (ns.getD k 0)):=by
 rw [aM,bD h]
 exact yt (bD h)
structure OrdN (n:Nat) (ord:List Nat):Prop where
 l:ord.length=n
 e:∀ x∈ord,x < n
 nd:ord.Nodup
theorem OrdN.at (h:OrdN n ord) {k:Nat} (a:k < n):atI (ord.map fun k:Nat=>PyData.int (k:Int)) (k:Int)=some (.int (ord.getD k 0:Nat))/\ord.getD k 0 < n:=by
 have z:ord[k]?=some (ord.getD k 0):=zQ (by rw [h.l];exact a)
 exact ⟨yt z,h.e _ (aS z)⟩
theorem OrdN.ne (h:OrdN n ord) (hi:i < n) (c:j < n) (a:i≠j):ord.getD i 0≠ord.getD j 0:=by
 have d:ord[i]?=some (ord.getD i 0):=zQ (by rw [h.l];exact hi)
 have b:ord[j]?=some (ord.getD j 0):=zQ (by rw [h.l];exact c)
 intro e
 rw [<- e] at b
 obtain ⟨k,f⟩:=aP.mp d
 obtain ⟨m,g⟩:=aP.mp b
 exact a ((eC h.nd).mp (f.trans g.symm))
theorem OrdN.fresh (h:OrdN n ord) (a:j < n):ord.getD j 0∉ord.take j:=fun z=>by
 obtain ⟨m,b,e⟩:=dL.mp z
 rw [cJ] at b
 rw [List.getElem_take] at e
 refine h.ne (i:=m) (by omega) a (by omega) ?_
 rw [<- e,aM,bD (by omega)]
 rfl
def ud (kin:List (List Nat)) (o x:Nat):List (List Nat):=kin.set o (kin.getD o [] ++ [x])
theorem zcJ (kin:List (List Nat)) {o x:Nat}:(kin.map kD).set o (kD (kin.getD o []) ++ [.int (x:Int)])=(ud kin o x).map kD:=by
 unfold ud
 rw [List.map_set]
 congr 1
 unfold kD
 rw [aN]
 rfl
theorem zev (n:Nat):List.replicate n ([]:List PyData)=(List.replicate n ([]:List Nat)).map kD:=by
 rw [List.map_replicate]
 rfl
theorem Vp (kin:List (List Nat)) (h:p≠o):(ud kin o x).getD p []=kin.getD p []:=by
 unfold ud
 rw [aM,aM (i:=p),bM (Ne.symm h)]
theorem Vq (kin:List (List Nat)) (h:o < kin.length):(ud kin o x).getD o []=kin.getD o [] ++ [x]:=by
 unfold ud
 rw [aM,bH h]
 rfl
theorem W6 (n o:Nat):(List.replicate n ([]:List Nat)).getD o []=[]:=by
 rw [aM,eJ]
 split <;> rfl
theorem OrdN.idx (h:OrdN n ord) (hi:i < n):ord.idxOf (ord.getD i 0)=i:=by
 have z:ord[i]?=some (ord.getD i 0):=zQ (by rw [h.l];exact hi)
 have m:=aS z
 have l:=List.idxOf_lt_length_iff.mpr m
 have e:=List.getElem_idxOf l
 obtain ⟨a,b⟩:=aP.mp z
 exact (eC h.nd).mp (e.trans b.symm)
def Dg (cs:List (List Nat)):Prop:=∃ rk:Nat->Nat,∀ e c,c∈cs.getD e []->rk c < rk e
def UpO (ord:List Nat) (css:List (List Nat)):Prop:=∀ e c,c∈css.getD e []->ord.idxOf c < ord.idxOf e
theorem UpO.nil (ord:List Nat) (n:Nat):UpO ord (List.replicate n []):=fun e c h=>by rw [W6] at h;cases h
theorem UpO.add (h:UpO ord css) (b:o < css.length) (d:ord.idxOf x < ord.idxOf o):UpO ord (ud css o x):=fun e c a=>by
 by_cases q:e=o
 ·subst q
  rw [Vq _ b] at a
  rcases aQ.mp a with a | a
  ·exact h _ _ a
  ·rw [aD.mp a];exact d
 ·rw [Vp _ q] at a
  exact h _ _ a
theorem zay (css:List (List Nat)) (e:Nat):(css.map srtN).getD e []=srtN (css.getD e []):=by
 rw [aM,aM,aU]
 cases css[e]? with
 | none=>exact (List.perm_nil.mp (xl [])).symm
 | some r=>rfl
theorem UpO.sort (h:UpO ord css):∀ e c,c∈(css.map srtN).getD e []->ord.idxOf c < ord.idxOf e:=fun e c a=>by
 rw [zay] at a
 exact h e c ((xl _).mem_iff.mp a)
def tot (cs:List (List Nat)):Nat:=((List.range cs.length).map fun e=>(cs.getD e []).length).sum
theorem Qv {f g:Nat->Nat}:∀ n,(∀ e,f e=g e)->((List.range n).map f).sum=((List.range n).map g).sum:=fun n h=>by rw [show f=g from funext h]
def vL (cs:List (List Nat)):Prop:=∀ e,(cs.getD e []).Nodup
theorem wD (ks:List Nat):SeqAt.shaped (nl ks)=true:=YA (Zm (fun _=>rfl) ks) (by
 have:=vX (g:=fun k:Nat=>PyData.int (k:Int)) (n:=0) (fun _=>aC _) ks
 show PyData.depthAll _ + 1<=50
 omega)
theorem ue (cs:List (List Nat)):SeqAt.shaped (nls cs)=true:=YA (Zm (g:=nl) (fun k=>Zm (g:=fun k:Nat=>PyData.int (k:Int)) (fun _=>rfl) k) cs) (by
 have:=vX (g:=nl) (n:=1) (fun k=>by
  have:=vX (g:=fun k:Nat=>PyData.int (k:Int)) (n:=0) (fun _=>aC _) k
  show PyData.depthAll _ + 1<=1
  omega) cs
 show PyData.depthAll _ + 1<=50
 omega)
theorem ZE (u:Int) {n:Nat} (h:0 < n):∃ m:Nat,u % (n:Int)=(m:Int)/\m < n:=⟨(u % (n:Int)).toNat,by
 have a:=Int.emod_nonneg u (show (n:Int)≠0 by omega)
 have b:=Int.emod_lt_of_pos u (show (0:Int) < (n:Int) by omega)
 omega⟩
theorem zcw (l:List Nat):PyData.eqv (nl l) (.list [])=decide (l=[]):=by cases l <;> rfl
theorem xZ {l:List Nat} (h:l.reverse.Nodup):l.Nodup:=(List.pairwise_reverse.mp h).imp fun a e=>a e.symm
inductive Pth (cs:List (List Nat)) (x:Nat):List Nat->Prop
 | one:Pth cs x [x]
 | more {u v:Nat} {s:List Nat}:Pth cs x (v :: s)->Dsp.Adj (paC cs) v u->u∉v :: s->Pth cs x (u :: v :: s)
theorem Pth.nd (h:Pth cs x l):l.Nodup:=by
 induction h with
 | one=>simp
 | more _ _ n a=>exact bV.mpr ⟨n,a⟩
theorem Pth.last (h:Pth cs x l):l.getLast?=some x:=by
 induction h with
 | one=>rfl
 | more _ _ _ a=>rw [List.getLast?_cons_cons];exact a
theorem Pth.lt (ok:ShOk n cs) (c:x < n) (h:Pth cs x l):∀ y∈l,y < n:=by
 induction h with
 | one=>exact fun y b=>by rw [aD.mp b];exact c
 | more _ a _ d =>
  intro y b
  rcases aT.mp b with rfl | b
  ·rcases a with a | a
   ·exact (ZI ok a).2
   ·exact (ZI ok a).1
  ·exact d y b
def onB (cs:List (List Nat)) (r:List Nat) (k:Nat):Bool:=!decide (k∈r) && (decide (k∈cs.getD (r.getLastD 0) []) || decide (r.getLastD 0∈cs.getD k []))
def onR (cs:List (List Nat)) (r:List Nat) (j:Nat):List (List Nat):=((List.range j).filter (onB cs r)).map fun k=>r ++ [k]
theorem TW {r:List Nat} {v:Nat} {s:List Nat} (h:r.reverse=v :: s):r.getLastD 0=v/\r.getLast?=some v:=by
 have e:r=s.reverse ++ [v]:=by rw [<- List.reverse_reverse r,h,List.reverse_cons]
 rw [e]
 exact ⟨by rw [dR,List.getLast?_append];rfl,by rw [List.getLast?_append];rfl⟩
theorem Xz {cs:List (List Nat)} {x:Nat} {r:List Nat} {k:Nat} (h:Pth cs x r.reverse):Pth cs x (r ++ [k]).reverse↔onB cs r k=true:=by
 rw [List.reverse_append]
 show Pth cs x (k :: r.reverse)↔_
 cases e:r.reverse with
 | nil=>rw [e] at h;cases h
 | cons v s =>
  rw [e] at h
  have lh:=TW e
  have c:k∈r↔k∈v :: s:=by rw [<- e,cI]
  unfold onB
  rw [lh.1]
  constructor
  ·intro p
   cases p with
   | more _ a n =>
    rw [decide_eq_false fun z=>n (c.mp z)]
    rcases a with a | a
    ·rw [decide_eq_true (show v∈cs.getD k [] from a),Bool.or_true];rfl
    ·rw [decide_eq_true (show k∈cs.getD v [] from a),Bool.true_or];rfl
  ·intro b
   obtain ⟨d,f⟩:=bZ.mp b
   refine .more h ?_ fun z=>?_
   ·rcases Bool.or_eq_true_iff.mp f with z | z
    ·exact .inr (of_decide_eq_true z)
    ·exact .inl (of_decide_eq_true z)
   ·rw [decide_eq_true (c.mpr z)] at d
    cases d
theorem UD:∀ {t r:List Nat},Pth cs x (r ++ t).reverse->r≠[]->Pth cs x r.reverse:=by
 intro t
 induction t with
 | nil=>intro r h _;rwa [bG] at h
 | cons k t b =>
  intro r h c
  have a:=b (r:=r ++ [k]) (by rw [List.append_assoc];exact h) (by simp)
  rw [List.reverse_append] at a
  have a:Pth cs x (k :: r.reverse):=a
  cases e:r.reverse with
  | nil=>exact absurd (List.reverse_eq_nil_iff.mp e) c
  | cons v s =>
   rw [e] at a
   cases a with
   | more p _ _=>exact p
theorem zdv (h:a <+: b) (nd:b.Nodup) (c:a.getLast?=b.getLast?) (d:a≠[]):a=b:=by
 obtain ⟨t,rfl⟩:=h
 cases t with
 | nil=>rw [bG]
 | cons k t =>
  exfalso
  rw [List.getLast?_append,List.getLast?_cons] at c
  cases e:a.getLast? with
  | none=>exact d (List.getLast?_eq_none_iff.mp e)
  | some v =>
   rw [e] at c
   have f:v∈k :: t:=by
    have g:(k :: t).getLast?=some v:=by rw [List.getLast?_cons];simpa using c.symm
    exact List.mem_of_getLast? g
   exact ((bU.mp nd).2.2 v (List.mem_of_getLast? e) v f) rfl
theorem UH (cs:List (List Nat)) (r:List Nat) (j:Nat):onR cs r (j + 1)=if onB cs r j=true then onR cs r j ++ [r ++ [j]] else onR cs r j:=by
 unfold onR
 rw [dF,cQ]
 by_cases c:onB cs r j=true
 ·rw [if_pos c,dS c,aN];rfl
 ·rw [if_neg c,dU c,cY,bG]
def arrL (cs:List (List Nat)):List (Nat×Nat):=(List.range cs.length).flatMap fun e=>(cs.getD e []).map fun c=>(c,e)
theorem zcI (cs:List (List Nat)):(arrL cs).length=tot cs:=by
 unfold arrL tot
 rw [List.length_flatMap]
 exact Qv _ fun e=>aB ..
theorem Td (h:c∈cs.getD e []):(c,e)∈arrL cs:=by
 have a:e < cs.length:=Classical.byContradiction fun z=>by
  rw [aM,cB (by omega)] at h
  cases h
 exact eA.mpr ⟨e,aZ.mpr a,aF.mpr ⟨c,h,rfl⟩⟩
def frB (r:List Nat) (a:Nat×Nat):Bool:=!decide (a.1∈r.dropLast) && !decide (a.2∈r.dropLast)
def gW (cs:List (List Nat)) (r:List Nat):Nat:=2 ^ ((arrL cs).filter (frB r)).length
def gS (cs:List (List Nat)) (ls:List (List Nat)):Nat:=(ls.map (gW cs)).sum
theorem zdW (cs:List (List Nat)) (r:List Nat):1<=gW cs r:=Nat.two_pow_pos _
theorem cut2 (p q:α->Bool):∀ l:List α,(l.filter p).length=(l.filter fun a=>p a && q a).length + (l.filter fun a=>p a && !q a).length
 | []=>rfl
 | a :: l=>by
  have b:=cut2 p q l
  rw [eD,eD,eD]
  cases p a <;> cases q a <;> simp only [Bool.true_and,Bool.false_and,Bool.not_true,Bool.not_false,if_true,Bool.false_eq_true,if_false,List.length_cons] <;> omega
theorem Uy:∀ (l p:List Nat),l.Nodup->(∀ k∈l,k∈p)->l.length<=p.length
 | [],_,_,_=>aW _
 | a :: l,p,nd,h=>by
  obtain ⟨c,d⟩:=bV.mp nd
  have ap:=h a aK
  have f:=Uy l (p.erase a) d fun k b=>(List.mem_erase_of_ne (fun e:k=a=>c (e ▸ b))).mpr (h k (bA _ b))
  rw [eU ap] at f
  have:=dB ap
  rw [bS]
  omega
def otE (v:Nat) (a:Nat×Nat):Nat:=if a.1=v then a.2 else a.1
def incB (v:Nat) (a:Nat×Nat):Bool:=decide (a.1=v) || decide (a.2=v)
def outB (r:List Nat) (a:Nat×Nat):Bool:=!decide (a.1∈r) && !decide (a.2∈r)
theorem zdH (nd:(r0 ++ [v]).Nodup) (n:Nat):((List.range n).filter (onB cs (r0 ++ [v]))).length + ((arrL cs).filter (outB (r0 ++ [v]))).length<=((arrL cs).filter (frB (r0 ++ [v]))).length:=by
 have c:v∉r0:=fun z=>(bU.mp nd).2.2 v z v (aD.mpr rfl) rfl
 have dl:(r0 ++ [v]).dropLast=r0:=dM
 have g:(r0 ++ [v]).getLastD 0=v:=by rw [dR,List.getLast?_append];rfl
 rw [cut2 (frB (r0 ++ [v])) (incB v)]
 have e:(arrL cs).filter (fun a=>frB (r0 ++ [v]) a && !incB v a)=(arrL cs).filter (outB (r0 ++ [v])):=by
  refine congrArg (fun p=>(arrL cs).filter p) (funext fun a=>?_)
  unfold frB incB outB
  rw [dl]
  have m:∀ k,decide (k∈r0 ++ [v])=(decide (k∈r0) || decide (k=v)):=fun k=>by
   rw [<- Bool.decide_or]
   exact decide_eq_decide.mpr (by rw [aQ,aD])
  rw [m,m]
  cases decide (a.1∈r0) <;> cases decide (a.2∈r0) <;> cases decide (a.1=v) <;> cases decide (a.2=v) <;> rfl
 rw [e]
 refine Nat.add_le_add_right ?_ _
 rw [<- aB (f:=otE v)]
 refine Uy _ _ (List.nodup_range.filter _) fun k h=>?_
 have b:=(aJ.mp h).2
 unfold onB at b
 rw [g] at b
 obtain ⟨i,j⟩:=bZ.mp b
 have kn:k∉r0 ++ [v]:=by simpa using i
 have d:k∉r0:=fun z=>kn (bR _ z)
 have l:k≠v:=fun z=>kn (aO _ (aD.mpr z))
 rcases Bool.or_eq_true_iff.mp j with z | z
 ·refine aF.mpr ⟨(k,v),aJ.mpr ⟨Td (of_decide_eq_true z),?_⟩,if_neg l⟩
  unfold frB incB
  rw [dl,decide_eq_false d,decide_eq_false c,decide_eq_true (show (k,v).2=v from rfl),Bool.or_true]
  rfl
 ·refine aF.mpr ⟨(v,k),aJ.mpr ⟨Td (of_decide_eq_true z),?_⟩,if_pos rfl⟩
  unfold frB incB
  rw [dl,decide_eq_false d,decide_eq_false c,decide_eq_true (show (v,k).1=v from rfl),Bool.true_or]
  rfl
theorem zbJ (h:d + b<=m):d * 2 ^ b + 1<=2 ^ m:=by
 have a:2 ^ (d + b)<=2 ^ m:=Nat.pow_le_pow_right (by decide) h
 rw [Nat.pow_add] at a
 have c:(d + 1) * 2 ^ b<=2 ^ d * 2 ^ b:=Nat.mul_le_mul_right _ Nat.lt_two_pow_self
 have e:=Nat.two_pow_pos b
 rw [Nat.add_mul,Nat.one_mul] at c
 omega
theorem W7 (cs:List (List Nat)) (c:Nat):∀ le:List (List Nat),(∀ r∈le,gW cs r=c)->gS cs le=le.length * c
 | [],_=>by rw [List.length_nil,Nat.zero_mul];rfl
 | r :: le,h=>by
  have e:gS cs (r :: le)=gW cs r + gS cs le:=rfl
  rw [e,h r aK,W7 cs c le fun q a=>h q (bA _ a),bS,Nat.add_mul,Nat.one_mul,Nat.add_comm]
theorem zdX (cs:List (List Nat)) (a b:List (List Nat)):gS cs (a ++ b)=gS cs a + gS cs b:=by
 unfold gS
 rw [aN,List.sum_append]
theorem zaz (cs:List (List Nat)):∀ le:List (List Nat),le.length<=gS cs le
 | []=>aW _
 | r :: le=>by
  have:=zaz cs le
  have h:=zdW cs r
  show le.length + 1<=gW cs r + gS cs le
  omega
theorem zbS (nd:(r0 ++ [v]).Nodup) (n:Nat):gS cs (onR cs (r0 ++ [v]) n) + 1<=gW cs (r0 ++ [v]):=by
 rw [W7 cs (2 ^ ((arrL cs).filter (outB (r0 ++ [v]))).length) (onR cs (r0 ++ [v]) n) fun q b=>by
  obtain ⟨k,_,rfl⟩:=aF.mp b
  unfold gW
  have:frB (r0 ++ [v] ++ [k])=outB (r0 ++ [v]):=funext fun a=>by
   unfold frB outB
   rw [dM]
  rw [this]]
 unfold onR
 rw [aB]
 exact zbJ (zdH nd n)
theorem wF {r:List Nat} {i:Nat} (h:i < r.length):r.reverse.getD i 0=r.getD (r.length - 1 - i) 0:=by
 rw [aM,aM,List.getElem?_reverse h]
theorem zac:∀ {l:List Nat},Dsp.Ok pa Z l↔(∀ i,i + 1 < l.length->Dsp.Adj pa (l.getD (i + 1) 0) (l.getD i 0))/\∀ i,i + 2 < l.length->Dsp.Cd pa Z (l.getD (i + 2) 0) (l.getD (i + 1) 0) (l.getD i 0)
 | []=>⟨fun _=>⟨fun _ z=>absurd z (bW _),fun _ z=>absurd z (bW _)⟩,fun _=>by rw [Dsp.Ok];trivial⟩
 | [a]=>⟨fun _=>⟨fun _ z=>absurd z (by simp),fun _ z=>absurd z (by simp)⟩,fun _=>Dsp.XN⟩
 | u :: v :: s=>by
  rw [Dsp.yh,zac (l:=v :: s)]
  constructor
  ·rintro ⟨b,c,e,f⟩
   refine ⟨fun i hi=>?_,fun i hi=>?_⟩
   ·cases i with
    | zero=>exact b
    | succ i=>exact e i (by simp only [List.length_cons] at hi ⊢;omega)
   ·cases i with
    | zero =>
     cases s with
     | nil=>simp at hi
     | cons t s=>exact c t rfl
    | succ i=>exact f i (by simp only [List.length_cons] at hi ⊢;omega)
  ·rintro ⟨b,c⟩
   refine ⟨b 0 (by simp),fun t d=>?_,fun i hi=>b (i + 1) (by simp only [List.length_cons] at hi ⊢;omega),fun i hi=>c (i + 1) (by simp only [List.length_cons] at hi ⊢;omega)⟩
   cases s with
   | nil=>cases d
   | cons g s=>cases d;exact c 0 (by simp)
theorem zbE (h:Pth cs x l):∀ i,i + 1 < l.length->Dsp.Adj (paC cs) (l.getD (i + 1) 0) (l.getD i 0):=by
 induction h with
 | one=>exact fun i z=>absurd z (by simp)
 | more _ a _ b =>
  intro i hi
  cases i with
  | zero=>exact a
  | succ i=>exact b i (by simp only [List.length_cons] at hi ⊢;omega)
theorem VJ:∀ {l:List Nat},Dsp.Ok (paC cs) Z l->l.Nodup->l.getLast?=some x->Pth cs x l
 | [],_,_,e=>by cases e
 | [_],_,_,e=>by cases e;exact .one
 | u :: v :: s,h,nd,e=>by
  obtain ⟨a,_,b⟩:=Dsp.yh.mp h
  obtain ⟨c,d⟩:=bV.mp nd
  exact .more (VJ b d (by rw [List.getLast?_cons_cons] at e;exact e)) a c
def nbr (cs:List (List Nat)) (v:Nat):List Nat:=cs.getD v [] ++ effF cs v
def xV (ds:List PyData) (d:PyData):Prop:=∃ (n:Nat) (cs:List (List Nat)) (k:Nat),ds=[nls cs,.int k]/\ShOk n cs/\n<=12/\k < n/\d=nl (nbr cs k)
theorem Yh:zA ["causes", "k"] ["causes", "k"] (zo (top 18)):={}
theorem Yo (F:Fun K "neighbours" "neighbours" (top 18) f fd) (B:Bs mg) (Z:Cs K mg aH aI) (a:zz P w K mg base CX0 "effects" ["causes", "k"] 1 (spD K true yY)):FnOk P w K mg base CX0 2 f fd ["causes", "k"] (spD K true xV):=by
 have sc:=Yh
 refine F.ok sc (fun vs H Q E h=>zH (fun _ _⟨_,_,_,e,_⟩=>by rw [e];rfl) h) (fun cdv A outer s H vs Q E c h=>?_)
 obtain ⟨i,ds,d,le,dp,p,q⟩:=h
 refine ⟨_,(zf (zy (zJ (wI (K:=K) rfl) (pX (zu (K:=K) rfl) (pv 0) (pv 1)) (pF a c (zb (pv 0) (zb (pv 1) zd)))))),?_⟩
 have j:=sc.n 2
 obtain ⟨n,cs,k,rfl,ok,n12,b,rfl⟩:=p
 have big:=zD
 have cl:=ok.l
 have g:atI (cs.map nl) (k:Int)=some (nl (cs.getD k [])):=yt (ok.at b).1
 have m:=(ok.at b).2.2
 have o:=(Ue ok n12).l k b
 walk_at"run"
 refine zM true (EvO.toE (EvO.eq (wZ (xs:=(cs.getD k []).map fun k:Nat=>.int (k:Int)) (ys:=(effF cs k).map fun k:Nat=>.int (k:Int)) (EvL.imm (U:=false) (EvE.toL (zI (U:=false) (by walk_at"ev") (by walk_at"ev") g)) (xY _)) (EvL.imm (U:=false) (EvE.toL (zk (by walk_at"ev") ⟨cs,k,rfl,by omega,rfl⟩)) (xY _)) (by rw [List.length_map,List.length_map];omega)) (by unfold nbr;rw [List.map_append]))) rfl (.inl ⟨rfl,rfl⟩)
def vsI (cs:List (List Nat)) (r:List Nat):List Nat:=(List.range (r.length - 2)).filter fun i=>veeB cs r (1 + i)
def vsF (cs:List (List Nat)) (r:List Nat):List Nat:=(vsI cs r).map fun i=>r.getD (1 + i) 0
def vN (cs:List (List Nat)) (r:List Nat):Nat:=(vsI cs r).length
theorem zbj (cs:List (List Nat)) (r:List Nat):(vsF cs r).length=vN cs r:=aB ..
theorem zet (cs:List (List Nat)) (r:List Nat):vN cs r<=r.length - 2:=by
 have:=bP (fun i=>veeB cs r (1 + i)) (List.range (r.length - 2))
 rwa [aV] at this
def WN (ds:List PyData) (d:PyData):Prop:=∃ (n:Nat) (cs:List (List Nat)) (r:List Nat),ds=[nls cs,nl r]/\ShOk n cs/\(∀ x∈r,x < n)/\r.length<=1000/\d=nl (vsF cs r)
theorem zbx:zA ["causes", "road"] ["causes", "road"] (zo (top 21)):={}
theorem zbU (F:Fun K "vees" "vees" (top 21) f fd) (B:Bs mg) (Z:Cs K mg aH aI) (a:zz P w K mg base CX0 "inner_places" ["road"] 1 (spD K true wG)) (b:zz P w K mg base CX0 "is_vee" ["causes", "road", "place"] 1 (spD K true uh)):FnOk P w K mg base CX0 2 f fd ["causes", "road"] (spD K true WN):=by
 have sc:=zbx
 refine F.ok sc (fun vs H Q E h=>zH (fun _ _⟨_,_,_,e,_⟩=>by rw [e];rfl) h) (fun cdv A outer s H vs Q E c h=>?_)
 obtain ⟨j,ds,d,le,dp,p,q⟩:=h
 refine ⟨_,(zf (zy (yc rfl (N:=["place", "road", "causes"]) (js:=[none,some 1,some 0]) (by walk_at"comp_ok") (zE (K:=K) rfl (pF a c (zb (pv 1) zd))) (fun _ _ _ _=>(pN (i:=0) (show aX ["place", "road", "causes"] by decide +kernel))) (fun _ _ _ _=>(yS (yC (pF b c (zb (pv 2) (zb (pv 1) (zb (pv 0) zd))))))) (fun _ _ _ _=>(pX (zu (K:=K) rfl) (pv 1) (pv 0)))))),?_⟩
 have k:=sc.n 2
 obtain ⟨n,cs,r,rfl,ok,c,g,rfl⟩:=p
 have big:=zD
 walk_at"run"
 refine zM true (EvO.toE (EvO.eq (yo (U:=true) (is:=[0]) (xs:=List.range (r.length - 2)) true (fun i:Nat=>.int (1 + (i:Int))) (fun i=>.int (r.getD (1 + i) 0:Nat)) (fun i=>veeB cs r (1 + i)) (fun x _ y _ h=>?_) (zN (zk (by walk_at"ev") ⟨r,rfl,g,rfl⟩)) (by walk_at"cc") rfl (by decide) (by rw [List.length_range];omega) ?_) (by unfold vsF vsI;rw [List.map_map];rfl))) rfl (.inl ⟨rfl,rfl⟩)
 ·have e:x=y:=by have:=PyData.int.inj h;omega
  subst e
  exact ⟨rfl,rfl⟩
 ·intro i hi
  have hi:=aZ.mp hi
  rw [show (1:Int) + (i:Int)=((1 + i:Nat):Int) by omega]
  exact egn (by walk_at"sc") ⟨et_B (zk (by walk_at"ev") ⟨n,cs,r,1 + i,rfl,ok,c,by omega,by omega,rfl⟩),fun _=>EvE.imm (U:=false) (zI (U:=false) (by walk_at"ev") (by walk_at"ev") (xb (by omega))) rfl⟩
noncomputable def goB (n:Nat) (cs:List (List Nat)) (kn r:List Nat):Bool:=decide (r.length < 3) || !barB n cs r kn (r.length - 2)
def tV (ds:List PyData) (d:PyData):Prop:=∃ (n:Nat) (cs:List (List Nat)) (r kn:List Nat),ds=[nls cs,nl r,nl kn]/\ShOk n cs/\n<=12/\(∀ x∈r,x < n)/\kn.length<=1000/\d=.bool (goB n cs kn r)
theorem VE:zA ["causes", "road", "known"] ["causes", "road", "known"] (zo (top 25)):={}
theorem VU (F:Fun K "goes_on" "goes_on" (top 25) f fd) (B:Bs mg) (Z:Cs K mg aH aI) (c:zz P w K mg base CX0 "bars_at" ["causes", "road", "place", "known"] 6 (spD K true tW)):FnOk P w K mg base CX0 7 f fd ["causes", "road", "known"] (spD K true tV):=by
 have sc:=VE
 refine F.ok sc (fun vs H Q E h=>zH (fun _ _⟨_,_,_,_,e,_⟩=>by rw [e];rfl) h) (fun cdv A outer s H vs Q E g h=>?_)
 obtain ⟨l,ds,d,le,dp,p,q⟩:=h
 refine ⟨_,(zf (zy (zex (yy YH (pB (zm (K:=K) rfl) B.len (zb (pv 1) zd)) zh (zF _)) (XE (ZG (pF c g (zb (pv 0) (zb (pv 1) (zb (zJ vC (pB (zm (K:=K) rfl) B.len (zb (pv 1) zd)) zh) (zb (pv 2) zd)))))))))),?_⟩
 have m:=sc.n 3
 obtain ⟨n,cs,r,kn,rfl,ok,n12,g,j,rfl⟩:=p
 have i:PyData.int (((r.map fun k:Nat=>PyData.int (k:Int)).length:Nat):Int)=.int (r.length:Int):=by rw [aB]
 walk_at"run"
 refine zM true (EvE.eq (zc6 (a:=decide ((r.length:Int) < 3)) (b:=!barB n cs r kn (r.length - 2)) (YV (EvE.eq (yb (ds:=r.map fun k:Nat=>.int (k:Int)) (EvE.toL (by walk_at"ev"))) i) (by walk_at"ev")) (fun h=>?_)) ?_) rfl (.inl ⟨rfl,rfl⟩)
 ·have h:¬ (r.length:Int) < 3:=of_decide_eq_false h
  exact ZY (zk (zg (by walk_at"ev") (zg (by walk_at"ev") (zg (EvE.eq (ZW (EvE.eq (yb (ds:=r.map fun k:Nat=>.int (k:Int)) (EvE.toL (by walk_at"ev"))) i) (by walk_at"ev")) (congrArg PyData.int (show (r.length:Int) - 2=((r.length - 2:Nat):Int) by omega))) (zg (by walk_at"ev") zC)))) ⟨n,cs,r,kn,r.length - 2,rfl,ok,n12,g,by omega,by omega,j,rfl⟩)
 ·unfold goB
  rw [show decide ((r.length:Int) < 3)=decide (r.length < 3) from decide_eq_decide.mpr (by omega)]
noncomputable def lgB (n:Nat) (cs:List (List Nat)) (kn r:List Nat) (k:Nat):Bool:=!decide (k∈r) && goB n cs kn (r ++ [k])
noncomputable def lgR (n:Nat) (cs:List (List Nat)) (kn r:List Nat):List (List Nat):=((nbr cs (r.getLastD 0)).filter (lgB n cs kn r)).map fun k=>r ++ [k]
theorem zce {a b:Type} (f:a->List b) {rs:List a} {i:Nat} {r:a} (h:rs[i]?=some r):∃ t,rs.flatMap f=(rs.take i).flatMap f ++ (f r ++ t):=by
 obtain ⟨hi,rfl⟩:=aP.mp h
 refine ⟨(rs.drop (i + 1)).flatMap f,?_⟩
 have e:rs=rs.take i ++ (rs[i] :: rs.drop (i + 1)):=by rw [<- eI hi,fD]
 conv=>lhs;rw [e]
 rw [List.flatMap_append,eR]
def xX (ds:List PyData) (d:PyData):Prop:=∃ (n:Nat) (cs:List (List Nat)) (kn:List Nat) (rs:List (List Nat)),ds=[nls cs,nls rs,nl kn]/\ShOk n cs/\n<=12/\kn.length<=1000/\(∀ r∈rs,(∀ x∈r,x < n)/\1<=r.length/\r.length<=12)/\(rs.flatMap (lgR n cs kn)).length<=100000/\d=nls (rs.flatMap (lgR n cs kn))
theorem Yj:zA ["causes", "roads", "known", "found", "road", "k"] ["causes", "roads", "known"] (zo (top 24)):={}
theorem Yq (F:Fun K "all_longer" "all_longer" (top 24) f fd) (B:Bs mg) (Z:Cs K mg aH aI) (a:zz P w K mg base CX0 "neighbours" ["causes", "k"] 2 (spD K true xV)) (c:zz P w K mg base CX0 "goes_on" ["causes", "road", "known"] 7 (spD K true tV)):FnOk P w K mg base CX0 8 f fd ["causes", "roads", "known"] (spD K true xX):=by
 have sc:=Yj
 refine F.ok sc (fun vs H Q E h=>zH (fun _ _⟨_,_,_,_,e,_⟩=>by rw [e];rfl) h) (fun cdv A outer s H vs Q E m h=>?_)
 obtain ⟨Fh,ds,d,le,dp,p,q⟩:=h
 refine ⟨_,(ze (pS (i:=3) sc.nd (zU zd))
   (ze (yF PassesOwn.never rfl (zE (K:=K) rfl (pv 1)) (pN (i:=4) sc.nd) (zf (yF PassesOwn.never rfl (zE (K:=K) rfl (pF a m (zb (pv 0) (zb (pX (zu (K:=K) rfl) (pv 4) (ub wq zh)) zd)))) (pN (i:=5) sc.nd) (zf (ye (PW.pt (xE (zr (yd (K:=K) rfl) (pv 5) (pv 4) (rfl)) (xy (yC (pF c m (zb (pv 0) (zb (zJ (wI (K:=K) rfl) (pv 4) (zU (zb (pv 5) zd))) (zb (pv 2) zd)))))))) (zf (yB (yN (K:=K) rfl bK bY bX yf (pv 3) (zb (zJ (wI (K:=K) rfl) (pv 4) (zU (zb (pv 5) zd))) zd)))) zL)))))
   (zf (zy (pv 3))))),?_⟩
 have hN:=sc.n 6
 obtain ⟨n,cs,kn,rs,rfl,ok,n12,I,J,bd,rfl⟩:=p
 have big:=zD
 walk_at"run"
 refine exo true (ds:=([]:List (List Nat)).map nl) (zZ (ds:=[]) zC (by decide)) (by walk_at"sc") ?_
 refine vi (ds:=rs.map nl) false (fun i Y=>∃ u v,Y=[some (.fz false (nls cs)),some (.fz false (nls rs)),some (.fz false (nl kn)),some (.ow true (((rs.take i).flatMap (lgR n cs kn)).map nl)),u,v]) (zN (by walk_at"ev")) ⟨none,none,rfl⟩ ?_ ?_
 ·rintro i d Y' hd ⟨u,v,rfl⟩
  obtain ⟨r,m,rfl⟩:=xN hd
  refine ⟨_,egn (by walk_at"sc") ?_⟩
  obtain ⟨o,R,S⟩:=J r (aS m)
  obtain ⟨tl,T⟩:=zce (lgR n cs kn) m
  have bl:=congrArg List.length T
  rw [aG,aG] at bl
  obtain ⟨fF,w,L⟩:∃ fF w,r=fF ++ [w]:=by
   rcases dC r with rfl | ⟨fG,k,e⟩
   ·exact absurd R (by decide)
   ·exact ⟨fG,k,by rw [e,dD]⟩
  have V:r.getLastD 0=w:=by rw [dR,L,List.getLast?_append];rfl
  have wn:w < n:=o w (by rw [L];exact aO _ (aD.mpr rfl))
  have W:atI (r.map fun k:Nat=>PyData.int (k:Int)) (-1)=some (.int (w:Int)):=by rw [L,aN];exact vI _ _
  have G:(rs.take (i + 1)).flatMap (lgR n cs kn)=(rs.take i).flatMap (lgR n cs kn) ++ lgR n cs kn r:=by
   rw [take_succ m,List.flatMap_append,eR,List.flatMap_nil,bG]
  have X:lgR n cs kn r=((nbr cs w).filter (lgB n cs kn r)).map fun k=>r ++ [k]:=by unfold lgR;rw [V]
  rw [X] at bl G
  rw [aB] at bl
  generalize (rs.take i).flatMap (lgR n cs kn)=fo at bl G
  have t:∀ k∈nbr cs w,k < n:=fun k I=>by
   rcases aQ.mp I with z | z
   ·exact (ok.at wn).2.1 k z
   ·exact ((y9 ok).mp z).1
  have pn:xV [nls cs,.int (w:Int)] (nl (nbr cs w)):=⟨n,cs,w,rfl,ok,n12,wn,rfl⟩
  generalize nbr cs w=g at bl G t pn
  refine um (ds:=g.map fun k:Nat=>.int (k:Int)) true (fun j Y=>∃ v,Y=[some (.fz false (nls cs)),some (.fz false (nls rs)),some (.fz false (nl kn)),some (.ow true ((fo ++ ((g.take j).filter (lgB n cs kn r)).map fun k=>r ++ [k]).map nl)),some (.fz false (nl r)),v]) (zN (zk (zg (by walk_at"ev") (zg (zI (U:=false) (EvE.toL (by walk_at"ev")) (uo (i:=1) (by walk_at"ev")) W) zC)) pn)) ⟨_,by rw [dQ,cY,List.map_nil,bG]⟩ ?_ ?_
  ·rintro j d M hd ⟨v,rfl⟩
   obtain ⟨k,y,rfl⟩:=xN hd
   refine ⟨_,egn (by walk_at"sc") ?_⟩
   have N:=t k (aS y)
   have fE:((g.take j).filter (lgB n cs kn r)).length<=(g.filter (lgB n cs kn r)).length:=((List.take_sublist j g).filter _).length_le
   have C:∀ {U:Bool} {l:PD.Ctx},GetC l 4 (.fz false (nl r))->GetC l 5 (.fz true (.int k))->EvE K .fresh U (tOp (UC K) (tVar 4) (tLst (zR (tVar 5) tNil))) l (nl (r ++ [k])):=fun h4 h5=>EvO.toE (EvO.eq (wZ (xs:=r.map fun k:Nat=>.int (k:Int)) (ys:=[.int (k:Int)]) (EvL.imm (U:=false) (EvE.toL (ZV h4.eq)) (xY _)) (EvL.imm (U:=true) (EvO.toL (zZ (ds:=[.int (k:Int)]) (zg (ZV h5.eq) zC) (by show 1<=sizeLine;omega))) (xY [k])) (by rw [aB];show _ + 1<=_;omega)) (by rw [aN];rfl))
   have rk:∀ x∈r ++ [k],x < n:=fun x D=>by
    rcases aQ.mp D with D | D
    ·exact o x D
    ·rw [aD.mp D];exact N
   rw [take_succ y,cQ]
   refine xj (b:=lgB n cs kn r k) (xu (EvT.eq (zq (zW (neg:=true) (i:=(k:Int)) (ns:=zl r) (by walk_at"ev") (EvE.toL (EvE.eq (U:=false) (by walk_at"ev") (ya _))))) (by show (!decide _)=_;rw [zV])) fun _=>et_B (zk (zg (by walk_at"ev") (zg (C (by walk_at"gc") (by walk_at"gc")) (zg (by walk_at"ev") zC))) ⟨n,cs,r ++ [k],kn,rfl,ok,n12,rk,I,rfl⟩)) (fun h=>?_) (fun h=>?_)
   ·refine exa1 (d:=nl (r ++ [k])) (by walk_at"gc") (C (by walk_at"gc") (by walk_at"gc")) (by walk_at"sc") (by rw [aB,aG,aB];omega) ?_
    refine ⟨some (.fz true (.int k)),?_⟩
    rw [dS h,cY,aN (l₂:=[k]),<- cR,show List.map (fun k=>r ++ [k]) [k]=[r ++ [k]] from rfl,aN (l₂:=[r ++ [k]])]
    rfl
   ·refine yr ⟨some (.fz true (.int k)),?_⟩
    rw [dU (by rw [h];exact fun z=>nomatch z),cY,bG]
  ·rintro M ⟨v,rfl⟩
   rw [show (g.map fun k:Nat=>PyData.int (k:Int)).length=g.length from aB ..,cT,<- G]
   exact ⟨_,_,rfl⟩
 ·rintro Y' ⟨u,v,rfl⟩
  rw [show (rs.map nl).length=rs.length from aB ..,cT]
  exact exro (by walk_at"gc") rfl (.inl ⟨rfl,rfl⟩)
structure Rd (cs:List (List Nat)) (kn:List Nat) (x:Nat) (r:List Nat):Prop where
 ok:Dsp.Ok (paC cs) (InL kn) r.reverse
 nd:r.Nodup
 hd:r.head?=some x
theorem QK {l:List Nat} (h:l.Nodup):l.reverse.Nodup:=xZ (by rw [List.reverse_reverse];exact h)
theorem Rd.pth {x:Nat} (h:Rd cs kn x r):Pth cs x r.reverse:=VJ h.ok (QK h.nd) (by rw [List.getLast?_reverse];exact h.hd)
theorem Rd.lt (ok:ShOk n cs) (a:x < n) (h:Rd cs kn x r):∀ z∈r,z < n:=fun z b=>h.pth.lt ok a z (cI.mpr b)
theorem Rd.len (ok:ShOk n cs) (a:x < n) (h:Rd cs kn x r):r.length<=n:=yV n r h.nd (h.lt ok a)
theorem Rd.ne (h:Rd cs kn x r):r≠[]:=fun e=>by
 have:=h.hd
 rw [e] at this
 cases this
theorem Rd.pos (h:Rd cs kn x r):1<=r.length:=cG.mpr h.ne
theorem Rd.one (cs:List (List Nat)) (kn:List Nat) (x:Nat):Rd cs kn x [x]:=⟨Dsp.XN,by simp,rfl⟩
theorem Rd.only (h:Rd cs kn x r) (l:r.length=1):r=[x]:=by
 match r,l,h.hd with
 | [a],_,e=>cases e;rfl
theorem Xv:Rd cs kn x (r0 ++ [v] ++ [k])↔Rd cs kn x (r0 ++ [v])/\k∉r0 ++ [v]/\Dsp.Adj (paC cs) v k/\∀ t,r0.getLast?=some t->Dsp.Cd (paC cs) (InL kn) t v k:=by
 have h:(r0 ++ [v] ++ [k]).reverse=k :: v :: r0.reverse:=by simp
 have i:(r0 ++ [v]).reverse=v :: r0.reverse:=by simp
 constructor
 ·rintro ⟨a,b,c⟩
  rw [h,Dsp.yh] at a
  have j:=bU.mp b
  refine ⟨⟨by rw [i];exact a.2.2,j.1,?_⟩,fun z=>j.2.2 k z k (aD.mpr rfl) rfl,a.1,fun t g=>a.2.1 t (by rw [List.head?_reverse];exact g)⟩
  cases r0 with
  | nil=>exact c
  | cons _ _=>exact c
 ·rintro ⟨⟨a,b,c⟩,d,e,f⟩
  refine ⟨?_,List.nodup_append.mpr ⟨b,by simp,fun z l y m q=>d (by rw [<- List.mem_singleton.mp m,<- q];exact l)⟩,?_⟩
  ·rw [h,Dsp.yh]
   rw [i] at a
   exact ⟨e,fun t g=>f t (by rw [List.head?_reverse] at g;exact g),a⟩
  ·cases r0 with
   | nil=>exact c
   | cons _ _=>exact c
theorem app3 (a:List Nat) (t v k:Nat):(a ++ [t,v,k]).getD a.length 0=t/\(a ++ [t,v,k]).getD (a.length + 1) 0=v/\(a ++ [t,v,k]).getD (a.length + 2) 0=k:=by
 refine ⟨?_,?_,?_⟩ <;> rw [List.getD_eq_getElem?_getD,List.getElem?_append_right (by omega)] <;> simp
theorem zei (ok:ShOk n cs) (b:v < n) (q:∀ z∈kn,z < n):barB n cs (r0 ++ [t,v,k]) kn (r0.length + 1)=false↔Dsp.Cd (paC cs) (InL kn) t v k:=by
 obtain ⟨f,d,g⟩:=app3 r0 t v k
 have ev:veeB cs (r0 ++ [t,v,k]) (r0.length + 1)=(decide (t∈cs.getD v []) && decide (k∈cs.getD v [])):=by
  unfold veeB
  rw [d,show r0.length + 1 - 1=r0.length by omega,f,show r0.length + 1 + 1=r0.length + 2 by omega,g]
 unfold barB
 rw [ev,d]
 by_cases c:t∈cs.getD v []/\k∈cs.getD v []
 ·rw [decide_eq_true c.1,decide_eq_true c.2]
  show (!((rchL n (effF cs) [v]).any fun j=>decide (j∈kn)))=false↔_
  rw [Bool.not_eq_false',bQ]
  constructor
  ·rintro ⟨j,i,l⟩
   exact ⟨fun _=>⟨j,of_decide_eq_true l,(wj ok b).mp (zY.mp i)⟩,fun w=>absurd c w⟩
  ·intro h
   obtain ⟨z,m,a⟩:=h.1 c
   exact ⟨z,zY.mpr ((wj ok b).mpr a),decide_eq_true m⟩
 ·have e:(decide (t∈cs.getD v []) && decide (k∈cs.getD v []))=false:=cS.mpr fun z=>by
   obtain ⟨o,p⟩:=bZ.mp z
   exact c ⟨of_decide_eq_true o,of_decide_eq_true p⟩
  rw [e]
  show decide (v∈kn)=false↔_
  rw [decide_eq_false_iff_not]
  exact ⟨fun z=>⟨fun w=>absurd w c,fun _=>z⟩,fun z=>z.2 c⟩
theorem zc4 (ok:ShOk n cs) (b:v < n) (c:∀ z∈kn,z < n):goB n cs kn (r0 ++ [v] ++ [k])=true↔∀ t,r0.getLast?=some t->Dsp.Cd (paC cs) (InL kn) t v k:=by
 rcases dC r0 with rfl | ⟨q,t,e⟩
 ·exact ⟨fun _ t d=>(by cases d),fun _=>rfl⟩
 ·rw [dD] at e
  subst e
  have f:q ++ [t] ++ [v] ++ [k]=q ++ [t,v,k]:=by simp
  have g:(q ++ [t,v,k]).length=q.length + 3:=by rw [aG];rfl
  rw [f]
  unfold goB
  rw [g,decide_eq_false (by omega),Bool.false_or,show q.length + 3 - 2=q.length + 1 by omega,Bool.not_eq_true',zei ok b c]
  exact ⟨fun h u a=>by rw [List.getLast?_append] at a;cases a;exact h,fun h=>h t (by rw [List.getLast?_append];rfl)⟩
theorem UK (ok:ShOk n cs):k∈nbr cs v↔Dsp.Adj (paC cs) v k:=by
 unfold nbr
 rw [aQ,y9 ok]
 exact ⟨fun h=>h.elim .inr fun z=>.inl z.2,fun h=>h.elim (fun z=>.inr ⟨(ZI ok z).2,z⟩) .inl⟩
theorem x9 (h:r≠[]):∃ a v,r=a ++ [v]:=by
 rcases dC r with rfl | ⟨b,k,e⟩
 ·exact absurd rfl h
 ·exact ⟨b,k,by rw [e,dD]⟩
theorem TV (a:List Nat) (v:Nat):(a ++ [v]).getLastD 0=v:=by rw [dR,List.getLast?_append];rfl
theorem XV (ok:ShOk n cs) (g:x < n) (e:∀ z∈kn,z < n) (h:Rd cs kn x r):q∈lgR n cs kn r↔Rd cs kn x q/\q.dropLast=r:=by
 obtain ⟨l,v,rfl⟩:=x9 h.ne
 have f:v < n:=h.lt ok g v (aO _ (aD.mpr rfl))
 unfold lgR
 rw [TV,aF]
 constructor
 ·rintro ⟨k,i,rfl⟩
  obtain ⟨a,b⟩:=aJ.mp i
  obtain ⟨c,d⟩:=bZ.mp b
  exact ⟨Xv.mpr ⟨h,by simpa using c,(UK ok).mp a,(zc4 ok f e).mp d⟩,List.dropLast_concat⟩
 ·rintro ⟨a,b⟩
  obtain ⟨m,k,rfl⟩:=x9 a.ne
  rw [dM] at b
  subst b
  obtain ⟨_,c,d,j⟩:=Xv.mp a
  exact ⟨k,List.mem_filter.mpr ⟨(UK ok).mpr d,Bool.and_eq_true_iff.mpr ⟨by simpa using c,(zc4 ok f e).mpr j⟩⟩,rfl⟩
theorem zdM (ok:ShOk n cs) (c:Dg cs) (d:vL cs) (v:Nat):(nbr cs v).Nodup:=by
 obtain ⟨h,c⟩:=c
 refine bU.mpr ⟨d v,List.nodup_range.filter _,fun a f b g e=>?_⟩
 subst e
 have i:=c v a f
 have j:=c a v ((y9 ok).mp g).2
 omega
theorem zdL {a b:Type} {f:a->b} (c:∀ x y,f x=f y->x=y) {l:List a} (h:l.Nodup):(l.map f).Nodup:=dY.mpr (h.imp fun d e=>d (c _ _ e))
theorem zdO {n:Nat} (ok:ShOk n cs) (a:Dg cs) (b:vL cs) (kn r:List Nat):(lgR n cs kn r).Nodup:=zdL (fun x y e=>by simpa using e) ((zdM ok a b _).filter _)
theorem zaq (h:q∈lgR n cs kn r):q.dropLast=r:=by
 obtain ⟨k,_,rfl⟩:=aF.mp h
 exact dM
theorem X1 (ok:ShOk n cs) (d:Dg cs) (f:vL cs) (kn:List Nat):∀ {rs:List (List Nat)},rs.Nodup->(rs.flatMap (lgR n cs kn)).Nodup
 | [],_=>cE
 | r :: rs,h=>by
  obtain ⟨g,i⟩:=bV.mp h
  rw [eR]
  refine bU.mpr ⟨zdO ok d f kn r,X1 ok d f kn i,fun a j b k e=>?_⟩
  subst e
  obtain ⟨l,c,m⟩:=eA.mp k
  have e:l=r:=(zaq m).symm.trans (zaq j)
  exact g (e ▸ c)
theorem zbk (cs:List (List Nat)) (r:List Nat) (k:Nat):vN cs r<=vN cs (r ++ [k]):=by
 have e:∀ i,i < r.length - 2->veeB cs r (1 + i)=veeB cs (r ++ [k]) (1 + i):=fun i hi=>by
  have g:∀ j,j < r.length->(r ++ [k]).getD j 0=r.getD j 0:=fun j a=>by
   rw [aM,List.getElem?_append_left a,<- aM]
  unfold veeB
  rw [g _ (by omega),g _ (by omega),g _ (by omega)]
 have b:vsI cs r=(List.range (r.length - 2)).filter fun i=>veeB cs (r ++ [k]) (1 + i):=List.filter_congr fun i hi=>e i (aZ.mp hi)
 unfold vN
 rw [b]
 unfold vsI
 rw [aG]
 by_cases c:r.length < 2
 ·rw [show r.length - 2=0 by omega]
  exact aW _
 ·rw [show r.length + [k].length - 2=(r.length - 2) + 1 by show r.length + 1 - 2=_;omega,dF,cQ,aG]
  exact Nat.le_add_right _ _
theorem zcM (h:r≠[]):vN cs r.dropLast<=vN cs r:=by
 obtain ⟨a,v,rfl⟩:=x9 h
 rw [dM]
 exact zbk ..
theorem Rd.dl (h:Rd cs kn x r) (l:2<=r.length):Rd cs kn x r.dropLast:=by
 obtain ⟨q,k,rfl⟩:=x9 h.ne
 rw [dM]
 have a:q≠[]:=fun e=>by
  rw [e] at l
  have l:2<=1:=l
  omega
 obtain ⟨b,v,rfl⟩:=x9 a
 exact (Xv.mp h).1
def levF (n:Nat) (cs:List (List Nat)) (x:Nat):Nat->List (List Nat)
 | 0=>[[x]]
 | m + 1=>(levF n cs x m).flatMap fun r=>onR cs r n
theorem US:∀ m,∀ r∈levF n cs x m,Pth cs x r.reverse
 | 0,r,h=>by rw [aD.mp h];exact .one
 | m + 1,r,h=>by
  obtain ⟨q,a,b⟩:=eA.mp h
  obtain ⟨k,c,rfl⟩:=aF.mp b
  exact (Xz (US m q a)).mpr (aJ.mp c).2
theorem UT (ok:ShOk n cs) (b:x < n):∀ m r,Pth cs x r.reverse->r.length=m + 1->r∈levF n cs x m
 | 0,r,h,l=>by
  have c:=h.last
  rw [List.getLast?_reverse] at c
  match r,l,c with
  | [a],_,e=>cases e;exact aD.mpr rfl
 | m + 1,r,h,l=>by
  obtain ⟨q,k,rfl⟩:=x9 (r:=r) (fun e=>by rw [e] at l;cases l)
  rw [aG] at l
  have l:q.length + 1=m + 1 + 1:=l
  have d:Pth cs x q.reverse:=UD (t:=[k]) h fun e=>by rw [e] at l;cases l
  refine List.mem_flatMap.mpr ⟨q,UT ok b m q d (by omega),List.mem_map.mpr ⟨k,List.mem_filter.mpr ⟨List.mem_range.mpr (h.lt ok b k (by simp)),(Xz d).mp h⟩,rfl⟩⟩
theorem UR (n:Nat) (cs:List (List Nat)) (x:Nat):∀ m,gS cs (levF n cs x m)<=2 ^ tot cs
 | 0=>by
  show gW cs [x] + 0<=_
  rw [Nat.add_zero,<- zcI]
  exact Nat.pow_le_pow_right (by decide) (bP _ _)
 | m + 1=>by
  refine bO ?_ (UR n cs x m)
  have a:=US (n:=n) (cs:=cs) (x:=x) m
  show gS cs ((levF n cs x m).flatMap fun r=>onR cs r n)<=_
  generalize levF n cs x m=L at a
  induction L with
  | nil=>exact aC _
  | cons r L c =>
   rw [eR,zdX]
   have e:gS cs (r :: L)=gW cs r + gS cs L:=rfl
   have:=c fun q d=>a q (bA _ d)
   have b:=a r aK
   obtain ⟨f,v,rfl⟩:=x9 (r:=r) (fun e=>by rw [e] at b;cases b)
   have:=zbS (cs:=cs) (xZ b.nd) n
   omega
theorem Wq [DecidableEq α]:∀ (l p:List α),l.Nodup->(∀ k∈l,k∈p)->l.length<=p.length
 | [],_,_,_=>aW _
 | a :: l,p,nd,h=>by
  obtain ⟨c,d⟩:=bV.mp nd
  have ap:=h a aK
  have f:=Wq l (p.erase a) d fun k b=>(List.mem_erase_of_ne (fun e:k=a=>c (e ▸ b))).mpr (h k (bA _ b))
  rw [eU ap] at f
  have:=dB ap
  rw [bS]
  omega
theorem many {n:Nat} {cs:List (List Nat)} (ok:ShOk n cs) {kn:List Nat} {x:Nat} (c:x < n) (a:tot cs<=15) {L:List (List Nat)} (nd:L.Nodup) {m:Nat} (h:∀ r∈L,Rd cs kn x r/\r.length=m):L.length<=32768:=by
 cases m with
 | zero =>
  cases L with
  | nil=>exact aW _
  | cons r L =>
   have:=h r aK
   have:=this.1.pos
   omega
 | succ m =>
  have d:=Wq L (levF n cs x m) nd fun r b=>UT ok c m r (h r b).1.pth (h r b).2
  have e:=zaz cs (levF n cs x m)
  have f:=UR n cs x m
  have g:2 ^ tot cs<=2 ^ 15:=Nat.pow_le_pow_right (by decide) a
  omega
def lexL (a b c d:Nat):Prop:=a < c\/(a=c/\b < d)
structure PI (cs:List (List Nat)) (kn:List Nat) (x c l:Nat) (P:Nat->Nat->List (List Nat)):Prop where
 nd:∀ i j,(P i j).Nodup
 m:∀ i j r,r∈P i j↔Rd cs kn x r/\vN cs r=i/\r.length=j/\(j=1\/lexL (vN cs r.dropLast) (j - 1) c l)
theorem PI.full {cs:List (List Nat)} {kn:List Nat} {x c l:Nat} {P:Nat->Nat->List (List Nat)} (h:PI cs kn x c l P) (a:1<=l) {r:List Nat}:r∈P c l↔Rd cs kn x r/\vN cs r=c/\r.length=l:=by
 rw [h.m]
 refine ⟨fun z=>⟨z.1,z.2.1,z.2.2.1⟩,fun z=>⟨z.1,z.2.1,z.2.2,.inr ?_⟩⟩
 have:=zcM (cs:=cs) z.1.ne
 rw [z.2.1] at this
 rcases Nat.lt_or_eq_of_le this with q | q
 ·exact .inl q
 ·exact .inr ⟨q,by omega⟩
def PX (cs:List (List Nat)) (P:Nat->Nat->List (List Nat)) (l:Nat) (L:List (List Nat)):Nat->Nat->List (List Nat):=fun i j=>if j=l + 1 then P i j ++ L.filter (fun r=>decide (vN cs r=i)) else P i j
theorem PI.next {n:Nat} {cs:List (List Nat)} (ok:ShOk n cs) (C:Dg cs) (D:vL cs) {kn:List Nat} {x:Nat} (s:x < n) (t:∀ z∈kn,z < n) {c l:Nat} {P:Nat->Nat->List (List Nat)} (h:PI cs kn x c l P) (u:1<=l):PI cs kn x c (l + 1) (PX cs P l ((P c l).flatMap (lgR n cs kn))):=by
 have v:∀ {q},q∈(P c l).flatMap (lgR n cs kn)↔Rd cs kn x q/\q.length=l + 1/\vN cs q.dropLast=c:=fun {q}=>by
  rw [eA]
  constructor
  ·rintro ⟨r,E,F⟩
   obtain ⟨k,y,p⟩:=(h.full u).mp E
   obtain ⟨A,B⟩:=(XV ok s t k).mp F
   refine ⟨A,?_,by rw [B];exact y⟩
   have:=eM (xs:=q)
   rw [B] at this
   have:=A.pos
   omega
  ·rintro ⟨k,y,p⟩
   have d:=k.dl (by omega)
   exact ⟨q.dropLast,(h.full u).mpr ⟨d,p,by rw [eM];omega⟩,(XV ok s t d).mpr ⟨k,rfl⟩⟩
 refine ⟨fun i j=>?_,fun i j r=>?_⟩
 ·unfold PX
  by_cases e:j=l + 1
  ·rw [if_pos e]
   refine bU.mpr ⟨h.nd i j,(X1 ok C D kn (h.nd c l)).filter _,fun a G b H q=>?_⟩
   subst q
   obtain ⟨_,_,p,o⟩:=(h.m i j a).mp G
   have g:=v.mp (aJ.mp H).1
   rcases o with o | o | o <;> omega
  ·rw [if_neg e]
   exact h.nd i j
 ·unfold PX
  by_cases e:j=l + 1
  ·rw [if_pos e,aQ,h.m,aJ,v,decide_eq_true_iff]
   subst e
   constructor
   ·rintro (⟨a,b,d,f⟩ | ⟨⟨a,b,d⟩,f⟩)
    ·refine ⟨a,b,d,f.imp id fun z=>z.imp id fun w=>⟨w.1,by omega⟩⟩
    ·exact ⟨a,f,b,.inr (.inr ⟨d,by omega⟩)⟩
   ·rintro ⟨a,b,d,f⟩
    rcases f with f | f | f
    ·omega
    ·exact .inl ⟨a,b,d,.inr (.inl f)⟩
    ·exact .inr ⟨⟨a,d,f.1⟩,b⟩
  ·rw [if_neg e,h.m]
   constructor
   ·rintro ⟨a,b,d,f⟩
    exact ⟨a,b,d,f.imp id fun z=>z.imp id fun w=>⟨w.1,by omega⟩⟩
   ·rintro ⟨a,b,d,f⟩
    refine ⟨a,b,d,f.imp id fun z=>z.imp id fun w=>⟨w.1,by omega⟩⟩
theorem PI.start (cs:List (List Nat)) (kn:List Nat) (x:Nat):PI cs kn x 0 1 fun i j=>if i=0/\j=1 then [[x]] else []:=by
 refine ⟨fun i j=>?_,fun i j r=>?_⟩
 ·show (if i=0/\j=1 then [[x]] else []).Nodup
  split <;> simp
 ·show r∈(if i=0/\j=1 then [[x]] else [])↔_
  have c:vN cs [x]=0:=rfl
  constructor
  ·intro h
   split at h
   ·rename_i e
    rw [aD.mp h]
    exact ⟨.one ..,by rw [c,e.1],e.2.symm,.inl e.2⟩
   ·cases h
  ·rintro ⟨a,b,d,f⟩
   have g:j=1:=by
    have:=a.pos
    rcases f with f | f | f
    ·exact f
    ·omega
    ·omega
   subst g
   have e:=a.only d
   subst e
   rw [if_pos ⟨by rw [<- b];rfl,rfl⟩]
   exact aD.mpr rfl
theorem PI.wrap {n:Nat} {cs:List (List Nat)} (ok:ShOk n cs) {kn:List Nat} {x:Nat} (e:x < n) {c:Nat} {P:Nat->Nat->List (List Nat)} (h:PI cs kn x c (n + 1) P):PI cs kn x (c + 1) 1 P:=by
 refine ⟨h.nd,fun i j r=>?_⟩
 rw [h.m]
 constructor
 ·rintro ⟨a,b,d,f⟩
  refine ⟨a,b,d,f.imp id fun z=>.inl ?_⟩
  rcases z with z | z <;> omega
 ·rintro ⟨a,b,d,f⟩
  have:=a.len ok e
  refine ⟨a,b,d,?_⟩
  rcases f with f | f | f
  ·exact .inl f
  ·rcases Nat.lt_or_eq_of_le (Nat.le_of_lt_succ f) with q | q
   ·exact .inr (.inl q)
   ·exact .inr (.inr ⟨q,by omega⟩)
  ·have:=a.pos
   exact .inl (by omega)
def kLt (cs:List (List Nat)) (q r:List Nat):Bool:=wC (vN cs q:Nat) (q.length:Nat) (zl q) (vN cs r:Nat) (r.length:Nat) (zl r)
theorem fE9:∀ {a b:List Nat},zl a=zl b->a=b
 | [],[],_=>rfl
 | [],_ :: _,h=>by cases h
 | _ :: _,[],h=>by cases h
 | x :: a,y :: b,h=>by
  unfold zl at h
  rw [bB,bB] at h
  injection h with h1 h2
  rw [fE9 h2,Int.ofNat.inj h1]
structure IsL (cs:List (List Nat)) (kn:List Nat) (x y:Nat) (r:List Nat):Prop where
 rd:Rd cs kn x r
 en:r.getLast?=some y
 ls:∀ q,Rd cs kn x q->q.getLast?=some y->kLt cs q r=false
theorem zb5 (c:kLt cs q r=false) (d:kLt cs r q=false):q=r:=by
 refine Classical.byContradiction fun ne=>?_
 unfold kLt wC at c d
 by_cases e:(vN cs q:Int)=(vN cs r:Int)
 ·rw [if_pos e] at c
  rw [if_pos e.symm] at d
  by_cases f:(q.length:Int)=(r.length:Int)
  ·rw [if_pos f,if_neg fun z=>ne (fE9 z)] at c
   rw [if_pos f.symm,if_neg fun z=>ne (fE9 z).symm] at d
   rcases UQ (a:=zl q) (b:=zl r) fun z=>ne (fE9 z) with z | z
   ·rw [c] at z;cases z
   ·rw [d] at z;cases z
  ·rw [if_neg f] at c
   rw [if_neg fun z=>f z.symm] at d
   have c:=of_decide_eq_false c
   have d:=of_decide_eq_false d
   omega
 ·rw [if_neg e] at c
  rw [if_neg fun z=>e z.symm] at d
  have c:=of_decide_eq_false c
  have d:=of_decide_eq_false d
  omega
theorem IsL.one (h:IsL cs kn x y q) (k:IsL cs kn x y r):q=r:=zb5 (k.ls q h.rd h.en) (h.ls r k.rd k.en)
open Classical in
noncomputable def ordF (cs:List (List Nat)) (kn:List Nat) (x y:Nat):Option (List Nat):=if h:∃ r,IsL cs kn x y r then some h.choose else none
theorem YG (h:IsL cs kn x y r):ordF cs kn x y=some r:=by
 have ex:∃ r,IsL cs kn x y r:=⟨r,h⟩
 unfold ordF
 rw [dif_pos ex,ex.choose_spec.one h]
theorem wH (h:∀ r,Rd cs kn x r->r.getLast?≠some y):ordF cs kn x y=none:=by
 unfold ordF
 exact dif_neg fun ⟨r,a⟩=>h r a.rd a.en
abbrev rdD:Option (List Nat)->PyData
 | some r=>nl r
 | none=>.none
theorem za9 (c:Dg cs) (e:x∉kn) (h:brB cs kn x y=true):∀ r,Rd cs kn x r->r.getLast?≠some y:=fun r d f=>by
 obtain ⟨rk,c⟩:=c
 have:=(Dsp.vp (pa:=paC cs) (Z:=InL kn) (x:=x) (y:=y) (rk:=rk) (fun a b p=>c b a p) e).mpr ⟨r.reverse,d.ok,QK d.nd,by rw [List.head?_reverse];exact f,by rw [List.getLast?_reverse];exact d.hd⟩
 rw [zba this] at h
 cases h
theorem zar {cs:List (List Nat)} {kn:List Nat} {x y c l:Nat} {P:Nat->Nat->List (List Nat)} (h:PI cs kn x c l P) (b:1<=l) (k:∀ r,Rd cs kn x r->r.getLast?=some y->¬ lexL (vN cs r) r.length c l) {a:List (List Nat)} (d:∀ r,r∈a↔r∈P c l/\r.getLast?=some y) (h0:a≠[]):∃ r,ordF cs kn x y=some r/\zl r=minL (a.map zl):=by
 have m:=zah (nss:=a.map zl) (by simpa using h0)
 obtain ⟨r,n,e⟩:=aF.mp m
 refine ⟨r,YG ?_,e⟩
 obtain ⟨o,p⟩:=(d r).mp n
 obtain ⟨s,t,u⟩:=(h.full b).mp o
 refine ⟨s,p,fun q f g=>?_⟩
 have nl:=k q f g
 unfold kLt wC
 by_cases i:(vN cs q:Int)=(vN cs r:Int)
 ·rw [if_pos i]
  by_cases j:(q.length:Int)=(r.length:Int)
  ·rw [if_pos j]
   split
   ·rfl
   ·rw [e]
    exact V4 (aF.mpr ⟨q,(d q).mpr ⟨(h.full b).mpr ⟨f,by omega,by omega⟩,g⟩,rfl⟩)
  ·rw [if_neg j]
   exact decide_eq_false fun z=>nl (.inr ⟨by omega,by omega⟩)
 ·rw [if_neg i]
  exact decide_eq_false fun z=>nl (.inl (by omega))
theorem zbf (T:LTab) (i j k l:Int) (ds:List PyData):(T.put i j (true,ds)).at k l=if k=i/\l=j then ds else T.at k l:=by
 by_cases q:k=i/\l=j
 ·rw [if_pos q,q.1,q.2]
  unfold LTab.at
  rw [LTab.put_eq]
 ·rw [if_neg q]
  unfold LTab.at
  rw [LTab.put_ne q]
theorem zej (T:LTab) (i j k l:Int):(T.frz i j).at k l=T.at k l:=by
 by_cases q:k=i/\l=j
 ·unfold LTab.at LTab.frz
  rw [if_pos q,q.1,q.2]
  cases T i j <;> rfl
 ·unfold LTab.at
  rw [LTab.frz_ne q]
structure TP (T:LTab) (P:Nat->Nat->List (List Nat)) (c l:Nat):Prop where
 a:∀ i j:Nat,T.at (i:Int) (j:Int)=(P i j).map nl
 z:∀ (i j:Nat) (ds:List PyData),T (i:Int) (j:Int)=some (false,ds)->lexL i j c l
theorem TP.get {T:LTab} {P:Nat->Nat->List (List Nat)} {c l:Nat} (h:TP T P c l):TP (T.frz (c:Int) (l:Int)) P c (l + 1):=by
 refine ⟨fun i j=>by rw [zej];exact h.a i j,fun i j ds e=>?_⟩
 by_cases q:(i:Int)=c/\(j:Int)=l
 ·exact .inr ⟨by omega,by omega⟩
 ·rw [LTab.frz_ne q] at e
  rcases h.z i j ds e with z | z
  ·exact .inl z
  ·exact .inr ⟨z.1,by omega⟩
theorem TP.put {cs:List (List Nat)} {T:LTab} {P:Nat->Nat->List (List Nat)} {c l:Nat} {L:List (List Nat)} (h:TP T (PX cs P l L) c (l + 1)) (r:List Nat):TP (T.put (vN cs r:Int) ((l + 1:Nat):Int) (true,T.at (vN cs r:Int) ((l + 1:Nat):Int) ++ [nl r])) (PX cs P l (L ++ [r])) c (l + 1):=by
 refine ⟨fun i j=>?_,fun i j ds e=>?_⟩
 ·rw [zbf]
  by_cases q:(i:Int)=(vN cs r:Int)/\(j:Int)=((l + 1:Nat):Int)
  ·rw [if_pos q,h.a]
   obtain rfl:i=vN cs r:=by omega
   obtain rfl:j=l + 1:=by omega
   unfold PX
   rw [if_pos rfl,if_pos rfl,cQ,dS (by exact decide_eq_true rfl),cY,<- cR,aN (l₂:=[r])]
   rfl
  ·rw [if_neg q,h.a]
   unfold PX
   by_cases e:j=l + 1
   ·rw [if_pos e,if_pos e,cQ,dU (fun z=>q ⟨by have:=of_decide_eq_true z;omega,by omega⟩),cY,bG]
   ·rw [if_neg e,if_neg e]
 ·by_cases q:(i:Int)=(vN cs r:Int)/\(j:Int)=((l + 1:Nat):Int)
  ·rw [q.1,q.2,LTab.put_eq] at e
   cases e
  ·rw [LTab.put_ne q] at e
   exact h.z i j ds e
theorem TP.wrap {T:LTab} {P:Nat->Nat->List (List Nat)} {c l:Nat} (h:TP T P c l):TP T P (c + 1) 1:=⟨h.a,fun i j ds e=>by
 rcases h.z i j ds e with z | z
 ·exact .inl (by omega)
 ·exact .inl (by omega)⟩
theorem zep (cs:List (List Nat)) (P:Nat->Nat->List (List Nat)) (l:Nat):PX cs P l []=P:=by
 funext i j
 unfold PX
 split
 ·rw [cY,bG]
 ·rfl
def NaI (cs:List (List Nat)) (kn:List Nat) (x y c l:Nat):Prop:=∀ r,Rd cs kn x r->r.getLast?=some y->¬ lexL (vN cs r) r.length c l
def endB (y:Nat) (r:List Nat):Bool:=decide (r.getLast?=some y)
theorem zbm (h:nl x=nl y):x=y:=by rw [<- tu x,h,tu]
theorem zdJ (a:List (List Nat)):a.map nl=(a.map zl).map fun ns=>PyData.list (ns.map .int):=by
 rw [bC]
 exact dX fun r _=>ya r
def wt (ds:List PyData) (d:PyData):Prop:=∃ (n:Nat) (cs:List (List Nat)) (x y:Nat) (kn:List Nat),ds=[nls cs,.int x,.int y,nl kn]/\ShOk n cs/\Dg cs/\vL cs/\n<=12/\tot cs<=15/\x < n/\x∉kn/\(∀ z∈kn,z < n)/\kn.length<=1000/\d=rdD (ordF cs kn x y)
theorem Xl:zA ["causes", "x", "y", "known", "piles", "count", "length", "pile", "arrived", "longer"] ["causes", "x", "y", "known"] (zo (top 23)):={}
set_option maxHeartbeats 4000000 in
theorem XM (F:Fun K "open_road" "open_road" (top 23) f fd) (B:Bs mg) (Z:Cs K mg aH aI) (C:zz P w K mg base CX0 "barred" ["causes", "x", "y", "known"] 7 (spD K true ZB)) (o:zz P w K mg base CX0 "all_longer" ["causes", "roads", "known"] 8 (spD K true xX)) (J:zz P w K mg base CX0 "vees" ["causes", "road"] 2 (spD K true WN)):FnOk P w K mg base CX0 9 f fd ["causes", "x", "y", "known"] (spD K true wt):=by
 have sc:=Xl
 refine F.ok sc (fun vs H Q E h=>zH (fun _ _⟨_,_,_,_,_,e,_⟩=>by rw [e];rfl) h) (fun cdv A outer s H vs Q E g h=>?_)
 obtain ⟨Fh,ds,d,le,dp,p,q⟩:=h
 refine ⟨_,(ze (ye (yC (pF C g (zb (pv 0) (zb (pv 1) (zb (pv 2) (zb (pv 3) zd)))))) (zf (zy wV)) zL)
   (ze (pS (i:=4) sc.nd (Q4 (vh g) (xG (zb zh (zb zh zd))) (zU (zb (zU (zb (pv 1) zd)) zd))))
   (ze (yF PassesOwn.never rfl (yw rfl B.range (zb (pB (zm (K:=K) rfl) B.len (zb (pv 0) zd)) zd)) (pN (i:=5) sc.nd) (zf (yF PassesOwn.never rfl (tI rfl B.range (zb zh (zb (zJ yD (pB (zm (K:=K) rfl) B.len (zb (pv 0) zd)) zh) zd))) (pN (i:=6) sc.nd) (ze (pS (i:=7) sc.nd (Q5 (vh g) (pv 4) (xG (zb (pv 5) (zb (pv 6) zd))) (zU zd) ⟨rfl,rfl,rfl,rfl⟩))
   (ze (yU (i:=8) rfl sc.nd rfl rfl (N:=["road", "y"]) (js:=[none,some 2]) (by walk_at"comp_ok") (zE (K:=K) rfl (pv 7)) (fun _ _ _ _=>(pN (i:=0) (show aX ["road", "y"] by decide +kernel))) (fun _ _ _ _=>(yS (zr uP (pX (zu (K:=K) rfl) (pv 0) (ub wq zh)) (pv 1) (zF _)))) (fun _ _ _ _=>(pv 0)))
   (ze (ye (zr ZK (pB (zm (K:=K) rfl) B.len (zb (pv 8) zd)) zh (zF _)) (zf (zy (pB (Uh (K:=K) rfl rfl (vh g)) B.min (zb (pv 8) zd)))) zL)
   (zf (yF PassesOwn.never rfl (zE (K:=K) rfl (pF o g (zb (pv 0) (zb (pv 7) (zb (pv 3) zd))))) (pN (i:=9) sc.nd) (zf (yB (yN (K:=K) rfl bK bY bX yf (zdy (vh g) (pv 4) (xG (zb (pB (zm (K:=K) rfl) B.len (zb (pF J g (zb (pv 0) (zb (pv 9) zd))) zd)) (zb (zJ yD (pv 6) zh) zd))) (zU zd) ⟨rfl,rfl,rfl,rfl⟩) (zb (pv 9) zd))))))))))))
   (zf (zy wV))))),?_⟩
 have hN:=sc.n 10
 obtain ⟨n,cs,x,y,kn,rfl,ok,dg,rn,n12,V,D,xk,hk,kl,rfl⟩:=p
 have big:10000000 < sizeLine:=by rw [sizeLine_eq];decide
 have cl:=ok.l
 have el:PyData.int (((cs.map nl).length:Nat):Int)=.int (n:Int):=by rw [aB,cl]
 walk_at"run"
 refine vE (b:=brB cs kn x y) (et_B (zk (by walk_at"ev") ⟨n,cs,x,y,kn,rfl,ok,n12,D,rfl⟩)) (fun h=>?_) (fun h=>?_)
 ·refine exrs true (by walk_at"ev") ?_ (.inl ⟨rfl,rfl⟩)
  show _=rdD (ordF cs kn x y)
  rw [wH (za9 dg xk h)]
 refine exn ?_
 refine zcm Z.nt (k:=0) (l:=1) (ds:=[nl [x]]) (ww (ds:=[.int 0,.int 1]) (by walk_at"ev") (by show 2<=_;omega)) (EvO.eq (zZ (ds:=[.list [.int (x:Int)]]) (zg (EvO.toE (zZ (ds:=[.int (x:Int)]) (zg (by walk_at"ev") zC) (by show 1<=sizeLine;omega))) zC) (by show 1<=sizeLine;omega)) rfl) (by walk_at"sc") ?_
 refine vi (ds:=(List.range n).map fun i:Nat=>.int (i:Int)) true (fun c Y=>∃ (T:LTab) (P:Nat->Nat->List (List Nat)) (m:Nat) (u1 fF R S G:Option DV),PI cs kn x c 1 P/\TP T P c 1/\NaI cs kn x y c 1/\m<=1 + c * 12 * 32768/\Y=[some (.fz false (nls cs)),some (.fz false (.int x)),some (.fz false (.int y)),some (.fz false (nl kn)),some (pT K T m),u1,fF,R,S,G]) (xA (n:=(n:Int)) (zg (EvE.eq (yb (ds:=cs.map nl) (by walk_at"ev")) el) zC) (by omega) (by omega)) ⟨_,fun i j=>if i=0/\j=1 then [[x]] else [],1,none,none,none,none,none,.start cs kn x,⟨fun i j=>?_,fun i j ds e=>?_⟩,fun r g _ hl=>?_,by omega,rfl⟩ ?_ ?_
 ·have e:=zbf (fun _ _=>none) 0 1 (i:Int) (j:Int) [nl [x]]
  rw [e]
  by_cases q:i=0/\j=1
  ·rw [if_pos q,if_pos ⟨by omega,by omega⟩]
   rfl
  ·rw [if_neg q,if_neg fun z=>q ⟨by omega,by omega⟩]
   rfl
 ·exfalso
  by_cases q:(i:Int)=0/\(j:Int)=1
  ·rw [q.1,q.2,LTab.put_eq] at e
   cases e
  ·rw [LTab.put_ne q] at e
   cases e
 ·have:=g.pos
  rcases hl with z | z <;> omega
 ·rintro c d Y' hd ⟨T,P,m,u1,fF,R,S,G,v,u,I,fG,rfl⟩
  obtain ⟨hc,rfl⟩:=xo hd
  refine ⟨_,egn (by walk_at"sc") ?_⟩
  refine um (ds:=(List.range ((n:Int) + 1 - 1).toNat).map fun i:Nat=>.int (1 + (i:Int))) true (fun i Y=>∃ (T:LTab) (P:Nat->Nat->List (List Nat)) (m:Nat) (fF R S G:Option DV),PI cs kn x c (1 + i) P/\TP T P c (1 + i)/\NaI cs kn x y c (1 + i)/\m<=1 + (c * 12 + i) * 32768/\Y=[some (.fz false (nls cs)),some (.fz false (.int x)),some (.fz false (.int y)),some (.fz false (nl kn)),some (pT K T m),some (.fz true (.int c)),fF,R,S,G]) (X9 (m:=1) (n:=(n:Int) + 1) (zg (by walk_at"ev") (zg (wx (EvE.eq (yb (ds:=cs.map nl) (by walk_at"ev")) el) (by walk_at"ev")) zC)) (by omega)) ⟨T,P,m,fF,R,S,G,v,u,I,by omega,rfl⟩ ?_ ?_
  ·clear v u I fG T P m
   rintro i d Y' hd ⟨T,P,m,fF,R,S,G,v,u,I,fG,rfl⟩
   obtain ⟨hi,rfl⟩:=zdo hd
   refine ⟨_,egn (by walk_at"sc") ?_⟩
   obtain ⟨l,hl⟩:∃ l:Nat,1 + i=l:=⟨_,rfl⟩
   rw [show (1:Int) + (i:Int)=(l:Int) by omega]
   rw [hl] at v u I
   have l1:1<=l:=by omega
   refine zcn Z.nt (c:=(c:Int)) (l:=(l:Int)) (by walk_at"gc") (ww (ds:=[.int (c:Int),.int (l:Int)]) (by walk_at"ev") (by show 2<=_;omega)) (by walk_at"sc") (by walk_at"sc") ?_
   rw [u.a]
   have fl:∀ r∈P c l,Rd cs kn x r/\vN cs r=c/\r.length=l:=fun r g=>(v.full l1).mp g
   have pl:=many ok D V (v.nd c l) fun r g=>⟨(fl r g).1,(fl r g).2.2⟩
   have W:∀ r,r∈(P c l).filter (endB y)↔r∈P c l/\r.getLast?=some y:=fun r=>by
    rw [aJ]
    exact ⟨fun z=>⟨z.1,of_decide_eq_true z.2⟩,fun z=>⟨z.1,decide_eq_true z.2⟩⟩
   refine exo true (ds:=((P c l).filter (endB y)).map nl) (yo (U:=true) (is:=[0]) (xs:=P c l) true nl nl (endB y) (fun a _ b _ h=>by cases zbm h;exact ⟨rfl,rfl⟩) (zN (by walk_at"ev")) (by walk_at"cc") rfl (by decide) (by omega) ?_) (by walk_at"sc") ?_
   ·intro r g
    obtain ⟨r0,w,er⟩:=x9 (fl r g).1.ne
    have aw:atI (r.map fun k:Nat=>PyData.int (k:Int)) (-1)=some (.int (w:Int)):=by rw [er,aN];exact vI _ _
    have ew:endB y r=decide ((w:Int)=(y:Int)):=by
     unfold endB
     rw [er,List.getLast?_append]
     exact decide_eq_decide.mpr ⟨fun z=>by cases z;rfl,fun z=>by show some w=some y;rw [show w=y by omega]⟩
    exact egn (by walk_at"sc") ⟨EvT.eq (zq (ur (zI (U:=false) (EvE.toL (by walk_at"ev")) (uo (i:=1) (by walk_at"ev")) aw) (by walk_at"ev"))) ew.symm,fun _=>by walk_at"ev"⟩
   generalize a0:(P c l).filter (endB y)=M at W
   have a3:M.length<=32768:=by rw [<- a0];exact bO (bP _ _) pl
   refine vE (b:=decide ((0:Int) < (M.length:Int))) (zq (t7 (EvE.eq (yb (ds:=M.map nl) (by walk_at"ev")) (by rw [aB])) (by walk_at"ev"))) (fun h=>?_) (fun h=>?_)
   ·have h0:M≠[]:=fun z=>by rw [z] at h;exact absurd h (by decide)
    obtain ⟨r,e1,e2⟩:=zar v l1 I W h0
    refine exrs true (zcs (nss:=M.map zl) (Ua (by walk_at"ev") (zdJ M)) (by simpa using h0)) ?_ (.inl ⟨rfl,rfl⟩)
    show _=rdD (ordF cs kn x y)
    rw [e1,<- e2]
    exact (ya r).symm
   ·have h0:M=[]:=by
     have:=of_decide_eq_false h
     exact dH.mp (by omega)
    refine exn ?_
    have a1:NaI cs kn x y c (l + 1):=fun r g fE z=>by
     have z2:vN cs r=c/\r.length=l:=by
      have:=I r g fE
      rcases z with z | z
      ·exact absurd (.inl z) this
      ·refine ⟨z.1,?_⟩
       have:¬ r.length < l:=fun q=>this (.inr ⟨z.1,q⟩)
       omega
     have:r∈M:=(W r).mpr ⟨(v.full l1).mpr ⟨g,z2⟩,fE⟩
     rw [h0] at this
     cases this
    have nx:=v.next ok dg rn D hk l1
    have Lm:∀ q∈(P c l).flatMap (lgR n cs kn),Rd cs kn x q/\q.length=l + 1/\c<=vN cs q:=fun q hq=>by
     obtain ⟨r,g,h2⟩:=eA.mp hq
     obtain ⟨g1,g2⟩:=(XV ok D hk (fl r g).1).mp h2
     have g3:=zcM (cs:=cs) g1.ne
     have g4:=eM (xs:=q)
     have g5:=g1.pos
     rw [g2] at g3 g4
     have:=(fl r g).2
     exact ⟨g1,by omega,by omega⟩
    have Ll:=many ok D V (X1 ok dg rn kn (v.nd c l)) fun q hq=>⟨(Lm q hq).1,(Lm q hq).2.1⟩
    have po:xX [nls cs,nls (P c l),nl kn] (nls ((P c l).flatMap (lgR n cs kn))):=⟨n,cs,kn,P c l,rfl,ok,n12,kl,fun r g=>⟨(fl r g).1.lt ok D,(fl r g).1.pos,by have:=(fl r g).1.len ok D;omega⟩,by omega,rfl⟩
    have a2:∀ i,(P i (l + 1)).length<=32768:=fun i=>many ok D V (v.nd i (l + 1)) fun r g=>by
     have:=(v.m i (l + 1) r).mp g
     exact ⟨this.1,this.2.2.1⟩
    generalize (P c l).flatMap (lgR n cs kn)=L at nx Lm Ll po
    refine um (ds:=L.map nl) true (fun t Y=>∃ (T:LTab) (m:Nat) (G:Option DV),TP T (PX cs P l (L.take t)) c (l + 1)/\m<=1 + (c * 12 + i) * 32768 + t/\Y=[some (.fz false (nls cs)),some (.fz false (.int x)),some (.fz false (.int y)),some (.fz false (nl kn)),some (pT K T m),some (.fz true (.int c)),some (.fz true (.int (l:Int))),some (.fz true (nls (P c l))),some (.ow true (M.map nl)),G]) (zN (zk (by walk_at"ev") po)) ⟨_,m,G,by rw [dQ,zep];exact u.get,by omega,rfl⟩ ?_ ?_
    ·rintro t d X hd ⟨T,m,G,u,fG,rfl⟩
     obtain ⟨r,g,rfl⟩:=xN hd
     have tl:=(aP.mp g).1
     obtain ⟨q1,q2,q3⟩:=Lm r (aS g)
     have rl:=q1.len ok D
     refine ⟨_,egn (by walk_at"sc") ?_⟩
     have za:(T.at (vN cs r:Int) ((l + 1:Nat):Int)).length < sizeLine:=by
      rw [u.a,aB]
      unfold PX
      rw [if_pos rfl,aG]
      have:=bP (fun q=>decide (vN cs q=vN cs r)) (L.take t)
      rw [cJ] at this
      have:=a2 (vN cs r)
      omega
     refine zdY Z.nt (c:=(vN cs r:Int)) (l:=((l + 1:Nat):Int)) (d:=nl r) (by walk_at"gc") (ww (ds:=[.int (vN cs r:Int),.int ((l + 1:Nat):Int)]) (zg (EvE.eq (yb (ds:=(vsF cs r).map fun k:Nat=>.int (k:Int)) (EvE.toL (zk (d:=nl (vsF cs r)) (by walk_at"ev") ⟨n,cs,r,rfl,ok,q1.lt ok D,by omega,rfl⟩))) (by rw [aB,zbj])) (zg (EvE.eq (wx (i:=(l:Int)) (j:=1) (by walk_at"ev") (by walk_at"ev")) (congrArg PyData.int (show (l:Int) + 1=((l + 1:Nat):Int) by omega))) zC)) (by show 2<=_;omega)) (fun ds e=>?_) (by walk_at"sc") (by walk_at"ev") (by omega) za (by walk_at"sc") ?_
     ·rcases u.z _ _ ds e with z | z <;> omega
     ·refine ⟨_,m + 1,_,?_,by omega,rfl⟩
      rw [take_succ g]
      exact u.put r
    ·rintro X ⟨T,m,G,u,fG,rfl⟩
     rw [show (L.map nl).length=L.length from aB ..,cT] at u
     rw [show (L.map nl).length=L.length from aB ..] at fG
     rw [show 1 + (i + 1)=l + 1 by omega]
     exact ⟨T,_,m,_,_,_,_,nx,u,a1,by omega,rfl⟩
  ·rintro X ⟨T,P,m,fF,R,S,G,v,u,I,fG,rfl⟩
   rw [VI,show 1 + ((n:Int) + 1 - 1).toNat=n + 1 by omega] at v u I
   rw [VI] at fG
   refine ⟨T,P,m,_,_,_,_,_,v.wrap ok D,u.wrap,fun r g fE z=>?_,by omega,rfl⟩
   have:=g.len ok D
   have:=g.pos
   refine I r g fE ?_
   rcases z with z | z
   ·rcases Nat.lt_or_eq_of_le (Nat.le_of_lt_succ z) with q | q
    ·exact .inl q
    ·exact .inr ⟨q,by omega⟩
   ·omega
 ·rintro X ⟨T,P,m,u1,fF,R,S,G,v,u,I,fG,rfl⟩
  rw [yX] at I
  refine zM true (by walk_at"ev") ?_ (.inl ⟨rfl,rfl⟩)
  show _=rdD (ordF cs kn x y)
  rw [wH fun r g fE=>I r g fE (.inl (by have:=zet cs r;have:=g.len ok D;have:=g.pos;omega))]
def rmS (cs:List (List Nat)) (wi f r:List Nat):List Nat:=wi.filter fun k=>!decide (k∈f) && (effF cs k).any fun e=>decide (e∈r)
def rmF (cs:List (List Nat)) (sm wi:List Nat):Nat->List Nat×List Nat
 | 0=>(wi.filter fun k=>decide (k∈sm),[])
 | s + 1=>(rmS cs wi ((rmF cs sm wi s).2 ++ (rmF cs sm wi s).1) (rmF cs sm wi s).1,(rmF cs sm wi s).2 ++ (rmF cs sm wi s).1)
def rim (cs:List (List Nat)) (sm wi:List Nat) (s:Nat):List Nat:=(rmF cs sm wi s).1
def fnd (cs:List (List Nat)) (sm wi:List Nat) (s:Nat):List Nat:=(rmF cs sm wi s).2
theorem wJ (cs:List (List Nat)) (sm wi:List Nat) (s:Nat):fnd cs sm wi (s + 1)=fnd cs sm wi s ++ rim cs sm wi s:=rfl
theorem QI (cs:List (List Nat)) (sm wi:List Nat) (s:Nat):rim cs sm wi (s + 1)=rmS cs wi (fnd cs sm wi (s + 1)) (rim cs sm wi s):=rfl
theorem vR:k∈rim cs sm wi (s + 1)↔k∈wi/\k∉fnd cs sm wi (s + 1)/\∃ e∈effF cs k,e∈rim cs sm wi s:=by
 rw [QI]
 unfold rmS
 rw [aJ,eE,bQ]
 simp
theorem tG:∀ {s k:Nat},k∈rim cs sm wi s->k∈wi
 | 0,_,h=>(aJ.mp h).1
 | _ + 1,_,h=>(vR.mp h).1
theorem wW:∀ {s:Nat},k∈fnd cs sm wi s↔∃ t,t < s/\k∈rim cs sm wi t
 | 0=>⟨fun z=>(by cases z),fun ⟨t,z,_⟩=>absurd z (bW t)⟩
 | s + 1=>by
  rw [wJ,aQ,wW]
  constructor
  ·rintro (⟨t,h,z⟩ | z)
   ·exact ⟨t,by omega,z⟩
   ·exact ⟨s,by omega,z⟩
  ·rintro ⟨t,h,z⟩
   by_cases e:t=s
   ·exact .inr (e ▸ z)
   ·exact .inl ⟨t,by omega,z⟩
theorem Xt:∀ {s k:Nat},k∈rim cs sm wi s->k∉fnd cs sm wi s
 | 0,_,_=>fun z=>(by cases z)
 | _ + 1,_,h=>(vR.mp h).2.1
theorem uD (a:k∈rim cs sm wi s) (b:k∈rim cs sm wi t):s=t:=by
 rcases Nat.lt_trichotomy s t with c | c | c
 ·exact absurd (wW.mpr ⟨s,c,a⟩) (Xt b)
 ·exact c
 ·exact absurd (wW.mpr ⟨t,c,b⟩) (Xt a)
theorem QJ (nd:wi.Nodup):∀ s,(rim cs sm wi s).Nodup
 | 0=>nd.sublist dN
 | _ + 1=>nd.sublist dN
theorem zaA (nd:wi.Nodup):∀ s,(fnd cs sm wi s).Nodup
 | 0=>cE
 | s + 1=>by
  rw [wJ,bU]
  exact ⟨zaA nd s,QJ nd s,fun a c b d e=>Xt d (e ▸ c)⟩
theorem XU:∀ (l sm:List Nat),l.Nodup->(∀ x∈l,x∈sm)->l.length<=sm.length
 | [],_,_,_=>aW _
 | x :: l,sm,nd,h=>by
  obtain ⟨c,d⟩:=bV.mp nd
  have a:=h x aK
  have f:=XU l (sm.erase x) d fun y b=>(List.mem_erase_of_ne (fun e=>c (by rw [<- e];exact b))).mpr (h y (bA _ b))
  rw [eU a] at f
  have:=dB a
  show l.length + 1<=_
  omega
theorem X0 (nd:wi.Nodup) (s:Nat):(fnd cs sm wi s).length<=wi.length:=XU _ _ (zaA nd s) fun x a=>by
 obtain ⟨t,_,z⟩:=wW.mp a
 exact tG z
theorem Xu (h:rim cs sm wi s=[]):∀ t,rim cs sm wi (s + t)=[]
 | 0=>h
 | t + 1=>by
  have b:=Xu h t
  refine List.eq_nil_iff_forall_not_mem.mpr fun k c=>?_
  obtain ⟨_,_,e,_,a⟩:=vR.mp c
  have a:e∈rim cs sm wi (s + t):=a
  rw [b] at a
  cases a
theorem WE (h:k∈rim cs sm wi s):∀ t,t<=s->t<=(fnd cs sm wi t).length
 | 0,_=>aW _
 | t + 1,ht=>by
  have a:=WE h t (by omega)
  have:rim cs sm wi t≠[]:=fun z=>by
   have:=Xu z (s - t)
   rw [show t + (s - t)=s by omega] at this
   rw [this] at h
   cases h
  have:=cG.mpr this
  rw [wJ,aG]
  omega
theorem tF (nd:wi.Nodup) (h:k∈rim cs sm wi s):s < wi.length:=by
 have b:=WE h s (aC _)
 have a:=X0 (cs:=cs) (sm:=sm) nd (s + 1)
 rw [wJ,aG] at a
 have:=dB h
 omega
structure DG (cs:List (List Nat)) (sm wi:List Nat) (m:DTab):Prop where
 i:∀ {k t:Nat},k∈rim cs sm wi t->dGet m (k:Int)=some (.int (t:Nat))
 o:∀ {k:Nat},(∀ t,k∉rim cs sm wi t)->dGet m (k:Int)=none
structure DS (cs:List (List Nat)) (sm wi:List Nat) (s:Nat) (m:DTab):Prop where
 i:∀ {k t:Nat},t < s->k∈rim cs sm wi t->dGet m (k:Int)=some (.int (t:Nat))
 o:∀ {k:Nat},k∉fnd cs sm wi s->dGet m (k:Int)=none
 l:m.length<=(fnd cs sm wi s).length
theorem DS.has (h:DS cs sm wi s m) (k:Nat):(dGet m (k:Int)).isSome=decide (k∈fnd cs sm wi s):=by
 by_cases c:k∈fnd cs sm wi s
 ·obtain ⟨t,a,z⟩:=wW.mp c
  rw [h.i a z,decide_eq_true c]
  rfl
 ·rw [h.o c,decide_eq_false c]
  rfl
theorem DS.end (h:DS cs sm wi s m) (e:rim cs sm wi s=[]):DG cs sm wi m:=by
 refine ⟨fun {k t} z=>?_,fun {k} z=>h.o fun y=>?_⟩
 ·by_cases c:t < s
  ·exact h.i c z
  ·have:=Xu e (t - s)
   rw [show s + (t - s)=t by omega] at this
   rw [this] at z
   cases z
 ·obtain ⟨t,_,w⟩:=wW.mp y
  exact z t w
def xT (ds:List PyData) (G:DTab->Prop):Prop:=∃ (cs:List (List Nat)) (sm wi:List Nat),ds=[nls cs,nl sm,nl wi]/\cs.length<=12/\wi.Nodup/\wi.length<=12/\G=DG cs sm wi
theorem Yg:zA ["causes", "some", "within", "found", "rim", "steps", "k"] ["causes", "some", "within"] (zo (top 6)):={}
theorem Yn (F:Fun K "steps_down" "steps_down" (top 6) f fd) (B:Bs mg) (Z:Cs K mg aH aI) (b:zz P w K mg base CX0 "meet" ["some", "others"] 1 (spD K true ZA)) (a:zz P w K mg base CX0 "effects" ["causes", "k"] 1 (spD K true yY)):FnOk P w K mg base CX0 2 f fd ["causes", "some", "within"] (spDW K xT):=by
 have sc:=Yg
 refine F.ok sc (fun vs H Q E h=>Qx (fun _ _⟨_,_,_,e,_⟩=>by rw [e];rfl) h) (fun cdv A outer s H vs Q E I h=>?_)
 obtain ⟨fE,ds,G,le,dp,p,q⟩:=h
 refine ⟨_,(ze (pS (i:=3) sc.nd Q3)
   (ze (pS (i:=4) sc.nd (yc rfl (N:=["k", "some"]) (js:=[none,some 1]) (by walk_at"comp_ok") (zE (K:=K) rfl (pv 2)) (fun _ _ _ _=>(pN (i:=0) (show aX ["k", "some"] by decide +kernel))) (fun _ _ _ _=>(yS (zr (zG (K:=K) rfl) (pv 0) (pv 1) (rfl)))) (fun _ _ _ _=>(pv 0))))
   (ze (pS (i:=5) sc.nd zh)
   (ze (vt PassesOwn.never (zr ZK (pB (zm (K:=K) rfl) B.len (zb (pv 4) zd)) zh (zF _)) (ze (yF PassesOwn.never rfl (zE (K:=K) rfl (pv 4)) (pN (i:=6) sc.nd) (zf (zbF (vh I) (pv 3) (pv 6) (pv 5) rfl)))
   (ze (pS (i:=4) sc.nd (yc rfl (N:=["k", "found", "rim", "causes"]) (js:=[none,some 3,some 4,some 0]) (by walk_at"comp_ok") (zE (K:=K) rfl (pv 2)) (fun _ _ _ _=>(pN (i:=0) (show aX ["k", "found", "rim", "causes"] by decide +kernel))) (fun _ _ _ _=>(yS (PW.pt (xE (VL (YF (vh I) (pv 0) (pv 1))) (xy (yC (pF b I (zb (pF a I (zb (pv 3) (zb (pv 0) zd))) (zb (pv 2) zd))))))))) (fun _ _ _ _=>(pv 0))))
   (zf (pS (i:=5) sc.nd (zJ yD (pv 5) zh))))))
   (zf (zy (pv 3))))))),?_⟩
 have M:=sc.n 7
 obtain ⟨cs,sm,wi,rfl,cl,nd,wl,rfl⟩:=p
 have big:=zD
 have fF:∀ k,(effF cs k).length<=12:=fun k=>by
  have:=bP (fun o=>decide (k∈cs.getD o [])) (List.range cs.length)
  rw [aV] at this
  unfold effF
  omega
 have R:∀ s,(rim cs sm wi s).length<=12:=fun s=>bO (XU _ wi (QJ nd s) fun x S=>tG S) wl
 refine zeu (G:=Wh K (DG cs sm wi)) le dp q M (by walk_at"st") ?_
 refine Zn (·=[some (.fz false (nls cs)),some (.fz false (nl sm)),some (.fz false (nl wi)),some (.od (.dK [])),none,none,none]) ?_ ?_
 ·exact zch (u:=Wo) (by walk_at"sc") (yr rfl)
 rintro v rfl
 refine Zn (·=[some (.fz false (nls cs)),some (.fz false (nl sm)),some (.fz false (nl wi)),some (.od (.dK [])),some (.fz true (nl (rim cs sm wi 0))),none,none]) (exs1 true (d:=nl (rim cs sm wi 0)) (EvO.toE (yo (U:=true) (is:=[0]) (xs:=wi) false (fun k:Nat=>.int (k:Int)) (fun k:Nat=>.int (k:Int)) (fun k=>decide (k∈sm)) (fun x _ y _ h=>by cases yO h;exact ⟨rfl,rfl⟩) (zN (by walk_at"ev")) (by walk_at"cc") rfl (by decide) (by omega) ?_)) (by walk_at"sc") rfl) ?_
 ·intro k J
  exact egn (by walk_at"sc") ⟨EvT.eq (zq (zW (neg:=false) (i:=(k:Int)) (ns:=zl sm) (by walk_at"ev") (EvE.toL (EvE.eq (U:=false) (by walk_at"ev") (ya _))))) zV,fun _=>by walk_at"ev"⟩
 rintro v rfl
 refine Zn (·=[some (.fz false (nls cs)),some (.fz false (nl sm)),some (.fz false (nl wi)),some (.od (.dK [])),some (.fz true (nl (rim cs sm wi 0))),some (.fz true (.int 0)),none]) (exs1 true (by walk_at"ev") (by walk_at"sc") rfl) ?_
 rintro v rfl
 refine Zn (fun Y=>∃ m x y z,DG cs sm wi m/\Y=[some (.fz false (nls cs)),some (.fz false (nl sm)),some (.fz false (nl wi)),some (.od (.dK m)),x,y,z]) (vF (fun q Y=>∃ (s:Nat) (m:DTab) (x:Option DV),DS cs sm wi s m/\q=wi.length - (fnd cs sm wi s).length/\Y=[some (.fz false (nls cs)),some (.fz false (nl sm)),some (.fz false (nl wi)),some (.od (.dK m)),some (.fz true (nl (rim cs sm wi s))),some (.fz true (.int (s:Nat))),x]) _ ⟨0,[],none,⟨fun z=>absurd z (bW _),fun _=>za1 _,aC _⟩,rfl,rfl⟩ ?_) ?_
 ·rintro q Y' ⟨s,m,x,g,rfl,rfl⟩
  have fl:=X0 (cs:=cs) (sm:=sm) nd s
  have T:=X0 (cs:=cs) (sm:=sm) nd (s + 1)
  have fG:(fnd cs sm wi (s + 1)).length=(fnd cs sm wi s).length + (rim cs sm wi s).length:=by rw [wJ,aG]
  have V:=R s
  have ml:=g.l
  refine ⟨decide (0 < ((rim cs sm wi s).length:Int)),EvT.eq (zq (t7 (i:=((rim cs sm wi s).length:Int)) (j:=0) (EvE.eq (yb (ds:=(rim cs sm wi s).map fun k:Nat=>.int (k:Int)) (by walk_at"ev")) (by rw [aB])) (by walk_at"ev"))) rfl,fun h=>?_,fun h=>?_⟩
  ·have h':0 < ((rim cs sm wi s).length:Int):=by simpa using h
   refine vi (ds:=(rim cs sm wi s).map fun k:Nat=>.int (k:Int)) true (fun i Y=>∃ (r:DTab) (x:Option DV),(∀ k:Nat,dGet r (k:Int)=if k∈(rim cs sm wi s).take i then some (.int (s:Nat)) else dGet m (k:Int))/\r.length<=m.length + i/\Y=[some (.fz false (nls cs)),some (.fz false (nl sm)),some (.fz false (nl wi)),some (.od (.dK r)),some (.fz true (nl (rim cs sm wi s))),some (.fz true (.int (s:Nat))),x]) (zN (by walk_at"ev")) ⟨m,_,fun k=>rfl,aC _,rfl⟩ ?_ ?_
   ·rintro i d Y' hd ⟨r,x,C,L,rfl⟩
    obtain ⟨k,J,rfl⟩:=xN hd
    have il:i < (rim cs sm wi s).length:=(aP.mp J).1
    have pl:=zaZ r (k:Int) (.int (s:Nat))
    refine ⟨_,egn (by walk_at"sc") ?_⟩
    refine zcg (d:=.int (s:Nat)) (w:=.int (s:Nat)) (k:=(k:Int)) (by walk_at"gc") (by walk_at"ev") (by walk_at"ev") rfl (by omega) (by walk_at"sc") ⟨_,_,fun j=>?_,by omega,rfl⟩
    rw [za0,take_succ J]
    by_cases c:j=k
    ·subst c
     rw [if_pos rfl,if_pos (aO _ (aD.mpr rfl))]
    ·rw [if_neg (by omega),C j]
     have:j∈(rim cs sm wi s).take i ++ [k]↔j∈(rim cs sm wi s).take i:=by rw [aQ,aD];exact ⟨fun z=>z.elim id fun y=>absurd y c,.inl⟩
     by_cases d:j∈(rim cs sm wi s).take i
     ·rw [if_pos d,if_pos (this.mpr d)]
     ·rw [if_neg d,if_neg (fun z=>d (this.mp z))]
   rintro Y' ⟨r,x,C,L,rfl⟩
   rw [aB] at L
   rw [aB,cT] at C
   have D:DS cs sm wi (s + 1) r:=⟨fun {k t} ht z=>by
    rw [C k]
    by_cases c:t=s
    ·subst c
     rw [if_pos z]
    ·rw [if_neg fun y=>c (uD z y),g.i (by omega) z],fun {k} z=>by
    rw [wJ] at z
    rw [C k,if_neg fun y=>z (aO _ y),g.o fun y=>z (bR _ y)],by rw [fG];omega⟩
   refine exs true (d:=nl (rim cs sm wi (s + 1))) (EvO.toE (yo (U:=true) (is:=[0]) (xs:=wi) false (fun k:Nat=>.int (k:Int)) (fun k:Nat=>.int (k:Int)) (fun k=>!decide (k∈fnd cs sm wi (s + 1)) && (effF cs k).any fun e=>decide (e∈rim cs sm wi s)) (fun x _ y _ h=>by cases yO h;exact ⟨rfl,rfl⟩) (zN (by walk_at"ev")) (by walk_at"cc") rfl (by decide) (by omega) ?_)) (by walk_at"sc") ?_
   ·intro k J
    have W:=fF k
    exact egn (by walk_at"sc") ⟨xu (EvT.eq (et_B (T8 (k:=(k:Int)) (by walk_at"gc") (by walk_at"ev"))) (by rw [D.has k])) fun _=>et_B (zk (zg (zk (by walk_at"ev") ⟨cs,k,rfl,by omega,rfl⟩) (zg (by walk_at"ev") zC)) ⟨effF cs k,rim cs sm wi s,rfl,by omega,rfl⟩),fun _=>by walk_at"ev"⟩
   refine exs1 true (d:=.int ((s + 1:Nat):Int)) (EvE.eq (by walk_at"ev") (congrArg PyData.int (by omega))) (by walk_at"sc") ⟨_,?_,s + 1,r,_,D,rfl,rfl⟩
   omega
  ·have h':¬ 0 < ((rim cs sm wi s).length:Int):=by simpa using h
   exact ⟨m,_,_,_,g.end (List.length_eq_zero_iff.mp (by omega)),rfl⟩
 rintro v ⟨m,x,y,z,X,rfl⟩
 exact T4 (by walk_at"gc") X
def nrF (cs:List (List Nat)) (sm wi:List Nat) (t k:Nat):Nat:=((effF cs k).filter fun e=>decide (e∈rim cs sm wi t)).getD 0 0
theorem UI (h:k∈rim cs sm wi (t + 1)):((effF cs k).filter fun e=>decide (e∈rim cs sm wi t))[0]?=some (nrF cs sm wi t k)/\nrF cs sm wi t k∈rim cs sm wi t:=by
 obtain ⟨_,_,e,a,b⟩:=vR.mp h
 have c:e∈(effF cs k).filter fun e=>decide (e∈rim cs sm wi t):=aJ.mpr ⟨a,decide_eq_true b⟩
 have g:=zQ (d:=0) (dB c)
 exact ⟨g,of_decide_eq_true (aJ.mp (aS g)).2⟩
def Zz (xs:List DV) (d:PyData):Prop:=∃ (cs:List (List Nat)) (sm wi:List Nat) (m:DTab) (t k:Nat),xs=[.fz false (nls cs),.xn (dkO m),.fz false (.int k)]/\cs.length<=12/\DG cs sm wi m/\k∈rim cs sm wi (t + 1)/\d=.int (nrF cs sm wi t k:Nat)
theorem Tp:zA ["causes", "steps", "k"] ["causes", "steps", "k"] (zo (top 7)):={}
theorem TB (F:Fun K "nearer" "nearer" (top 7) f fd) (B:Bs mg) (Z:Cs K mg aH aI) (a:zz P w K mg base CX0 "effects" ["causes", "k"] 1 (spD K true yY)):FnOk P w K mg base CX0 2 f fd ["causes", "steps", "k"] (spV K true Zz):=by
 have sc:=Tp
 refine F.ok sc (fun vs H Q E h=>zbr (fun _ _⟨_,_,_,_,_,_,e,_⟩=>by rw [e];rfl) h) (fun cdv A outer s H vs Q E b h=>?_)
 obtain ⟨C,xs,d,le,dp,p,q⟩:=h
 refine ⟨_,(zf (zy (pX (zu (K:=K) rfl) (yc rfl (N:=["other", "steps", "k"]) (js:=[none,some 1,some 2]) (by walk_at"comp_ok") (zE (K:=K) rfl (pF a b (zb (pv 0) (zb (pv 2) zd)))) (fun _ _ _ _=>(pN (i:=0) (show aX ["other", "steps", "k"] by decide +kernel))) (fun _ _ _ _=>(yS (zr (XI (K:=K) rfl b.units) (Q6 (vh b) (pv 1) (pv 0) ⟨rfl,rfl,rfl,rfl⟩) (zJ vC (XF (vh b) (pv 1) (pv 2) (fun _ _=>rfl)) zh) (zF _)))) (fun _ _ _ _=>(pv 0))) zh))),?_⟩
 have D:=sc.n 3
 obtain ⟨cs,sm,wi,m,t,k,rfl,cl,g,r,rfl⟩:=p
 have big:=zD
 have G:(effF cs k).length<=12:=by
  have:=bP (fun o=>decide (k∈cs.getD o [])) (List.range cs.length)
  rw [aV] at this
  unfold effF
  omega
 have u:=(UI r).1
 have v:atI (((effF cs k).filter fun e=>decide (e∈rim cs sm wi t)).map fun k:Nat=>PyData.int (k:Int)) (0:Int)=some (.int (nrF cs sm wi t k:Nat)):=yt (i:=0) u
 walk_at"runv"
 refine zM true (zI (U:=true) (EvO.toL (yo (U:=true) (is:=[0]) (xs:=effF cs k) false (fun k:Nat=>.int (k:Int)) (fun k:Nat=>.int (k:Int)) (fun e=>decide (e∈rim cs sm wi t)) (fun x _ y _ h=>by cases yO h;exact ⟨rfl,rfl⟩) (zN (zk (by walk_at"ev") ⟨cs,k,rfl,by omega,rfl⟩)) (by walk_at"cc") rfl (by decide) (by omega) ?_)) (by walk_at"ev") v) rfl (.inl ⟨rfl,rfl⟩)
 intro e I
 have st:EvE K .fresh false (tOp (rI0 fun i j=>.int (i - j)) (Ux (tVar 1) (tVar 2)) (tC (.int 1))) [some (.fz false (.int e)),some (.xn (dkO m)),some (.fz false (.int k))] (.int (t:Nat)):=EvE.eq (ZW (Vb (d:=.int ((t + 1:Nat):Int)) (by walk_at"gc") (by walk_at"ev") (g.i r) rfl) (by walk_at"ev")) (congrArg PyData.int (by omega))
 refine egn (by walk_at"sc") ⟨?_,fun _=>by walk_at"ev"⟩
 by_cases c:∃ s,e∈rim cs sm wi s
 ·obtain ⟨s,l⟩:=c
  refine EvT.eq (zq (Z0 (neg:=false) (d:=.int (s:Nat)) (f:=.int (t:Nat)) (EvE.toD (U:=false) (YW (by walk_at"gc") (by walk_at"ev") (.inr ⟨_,g.i l,rfl⟩))) (EvE.toD (U:=false) st) rfl rfl)) ?_
  show ((s:Int) == (t:Int))=_
  by_cases z:s=t
  ·subst z
   rw [decide_eq_true l]
   simp
  ·rw [decide_eq_false fun y=>z (uD l y)]
   exact beq_eq_false_iff_ne.mpr (by omega)
 ·have c:∀ s,e∉rim cs sm wi s:=fun s z=>c ⟨s,z⟩
  refine EvT.eq (zq (Z0 (neg:=false) (d:=.none) (f:=.int (t:Nat)) (EvE.toD (U:=false) (YW (by walk_at"gc") (by walk_at"ev") (.inl ⟨g.o c,rfl⟩))) (EvE.toD (U:=false) st) rfl rfl)) ?_
  rw [decide_eq_false (c t)]
  rfl
def wyF (cs:List (List Nat)) (sm wi:List Nat):Nat->Nat->List Nat
 | 0,k=>[k]
 | t + 1,k=>k :: wyF cs sm wi t (nrF cs sm wi t k)
theorem vk (cs:List (List Nat)) (sm wi:List Nat):∀ t k,(wyF cs sm wi t k).length=t + 1
 | 0,_=>rfl
 | t + 1,_=>congrArg (· + 1) (vk cs sm wi t _)
def WdD (cs:List (List Nat)) (sm:List Nat) (k:Nat) (d:PyData):Prop:=(∃ t,k∈rim cs sm (List.range cs.length) t/\d=nl (wyF cs sm (List.range cs.length) t k))\/((∀ t,k∉rim cs sm (List.range cs.length) t)/\d=.none)
def wR (ds:List PyData) (d:PyData):Prop:=∃ (cs:List (List Nat)) (k:Nat) (sm:List Nat),ds=[nls cs,.int k,nl sm]/\cs.length<=12/\WdD cs sm k d
theorem Ws:zA ["causes", "k", "some", "steps", "way"] ["causes", "k", "some"] (zo (top 8)):={}
theorem WP (F:Fun K "way_down" "way_down" (top 8) f fd) (B:Bs mg) (Z:Cs K mg aH aI) (a:zz P w K mg base CX0 "steps_down" ["causes", "some", "within"] 2 (spDW K xT)) (c:zz P w K mg base CX0 "nearer" ["causes", "steps", "k"] 2 (spV K true Zz)):FnOk P w K mg base CX0 3 f fd ["causes", "k", "some"] (spD K true wR):=by
 have sc:=Ws
 refine F.ok sc (fun vs H Q E h=>zH (fun _ _⟨_,_,_,e,_⟩=>by rw [e];rfl) h) (fun cdv A outer s H vs Q E r h=>?_)
 obtain ⟨I,ds,d,le,dp,p,q⟩:=h
 refine ⟨_,(ze (pS (i:=3) sc.nd (pF a r (zb (pv 0) (zb (pv 2) (zb (pY (u9 rfl) B.list (zb (pY fE0 B.range (zb (pB (zm (K:=K) rfl) B.len (zb (pv 0) zd)) zd)) zd)) zd)))))
   (ze (ye (VL (YF (vh r) (pv 1) (pv 3))) (zf (zy wV)) zL)
   (ze (pS (i:=4) sc.nd (zU (zb (pv 1) zd)))
   (ze (vt PassesOwn.never (zr ZK (XF (vh r) (pv 3) (pX (zu (K:=K) rfl) (pv 4) (ub wq zh)) (fun _ _=>rfl)) zh (zF _)) (zf (yB (yN (K:=K) rfl bK bY bX yf (pv 4) (zb (pF c r (zb (pv 0) (zb (pv 3) (zb (pX (zu (K:=K) rfl) (pv 4) (ub wq zh)) zd)))) zd)))))
   (zf (zy (pv 4))))))),?_⟩
 have J:=sc.n 5
 obtain ⟨cs,k,sm,rfl,cl,z⟩:=p
 have big:=zD
 have C:PyData.int (((cs.map nl).length:Nat):Int)=.int (cs.length:Int):=by rw [aB]
 have nd:(List.range cs.length).Nodup:=dZ
 walk_at"run"
 refine YN (zg (by walk_at"ev") (zg (by walk_at"ev") (zg (EvO.toE (t6 (EvE.eq (yb (ds:=cs.map nl) (by walk_at"ev")) C) (by omega))) zC))) ⟨cs,sm,List.range cs.length,rfl,cl,nd,by rw [aV];exact cl,rfl⟩ (fun m=>by walk_at"sc") ?_
 intro m l
 rcases z with ⟨t,u,rfl⟩ | ⟨D,rfl⟩
 ·have G:=tF nd u
  rw [aV] at G
  generalize List.range cs.length=wi at l u
  refine wK (b:=!(dGet m (k:Int)).isSome) (et_B (Z1 (by walk_at"gc") (by walk_at"ev"))) (by rw [l.i u];rfl) ?_
  refine exo true (ds:=[k].map fun k:Nat=>.int (k:Int)) (zZ (ds:=[.int (k:Int)]) (zg (by walk_at"ev") zC) (by show 1<=sizeLine;omega)) (by walk_at"sc") ?_
  refine yK (·=[some (.fz false (nls cs)),some (.fz false (.int k)),some (.fz false (nl sm)),some (.xn (dkO m)),some (.ow true ((wyF cs sm wi t k).map fun k:Nat=>.int (k:Int)))]) (vF (fun q Y=>∃ (g:List Nat) (j:Nat),j∈rim cs sm wi q/\g ++ wyF cs sm wi q j=wyF cs sm wi t k/\Y=[some (.fz false (nls cs)),some (.fz false (.int k)),some (.fz false (nl sm)),some (.xn (dkO m)),some (.ow true ((g ++ [j]).map fun k:Nat=>.int (k:Int)))]) t ⟨[],k,u,rfl,rfl⟩ ?_) ?_
  ·rintro q Y' ⟨g,j,v,x,rfl⟩
   have pl:g.length + (q + 1)=t + 1:=by
    have:=congrArg List.length x
    rw [aG,vk,vk] at this
    exact this
   have y:atI ((g ++ [j]).map fun k:Nat=>PyData.int (k:Int)) (-1)=some (.int (j:Int)):=by
    rw [aN]
    exact vI _ _
   refine ⟨decide ((0:Int) < (q:Int)),zq (t7 (Vb (d:=.int (q:Nat)) (by walk_at"gc") (zI (U:=false) (by walk_at"ev") (by walk_at"ev") y) (l.i v) rfl) (by walk_at"ev")),fun h=>?_,fun h=>?_⟩
   ·obtain ⟨p,rfl⟩:∃ p,q=p + 1:=⟨q - 1,by have:=of_decide_eq_true h;omega⟩
    refine exa1 (d:=.int (nrF cs sm wi p j:Nat)) (by walk_at"gc") (zaN (W9 (by walk_at"ev") (zco (by walk_at"gc") (W9 (zI (U:=false) (by walk_at"ev") (by walk_at"ev") y) zcp))) ⟨cs,sm,wi,m,p,j,rfl,cl,l,v,rfl⟩) (by walk_at"sc") (by rw [aB,aG];show _ + 1 < _;omega) ⟨p,cH p,g ++ [j],nrF cs sm wi p j,(UI v).2,?_,by rw [aN (l₁:=g ++ [j])];rfl⟩
    rw [cR]
    exact x
   ·obtain rfl:q=0:=by have:=of_decide_eq_false h;omega
    show _=_
    rw [show g ++ [j]=wyF cs sm wi t k from x]
  rintro Y' rfl
  exact exro (by walk_at"gc") rfl (.inl ⟨rfl,rfl⟩)
 ·refine vE (b:=!(dGet m (k:Int)).isSome) (et_B (Z1 (by walk_at"gc") (by walk_at"ev"))) (fun _=>?_) (fun h=>?_)
  ·exact exrs true (by walk_at"ev") rfl (.inl ⟨rfl,rfl⟩)
  ·rw [l.o D] at h
   cases h
abbrev wiC (cs:List (List Nat)):List Nat:=List.range cs.length
open Classical in
noncomputable def wdF (cs:List (List Nat)) (sm:List Nat) (k:Nat):Option (List Nat):=if h:∃ t,k∈rim cs sm (wiC cs) t then some (wyF cs sm (wiC cs) h.choose k) else none
theorem Yt (h:k∈rim cs sm (wiC cs) t):wdF cs sm k=some (wyF cs sm (wiC cs) t k):=by
 have ex:∃ t,k∈rim cs sm (wiC cs) t:=⟨t,h⟩
 unfold wdF
 rw [dif_pos ex,uD ex.choose_spec h]
def Ch (cs:List (List Nat)):List Nat->Prop
 | a :: l=>(∀ b,l.head?=some b->a∈cs.getD b [])/\Ch cs l
 | []=>True
theorem wM (cs:List (List Nat)) (sm wi:List Nat) (t k:Nat):(wyF cs sm wi t k).head?=some k:=by cases t <;> rfl
theorem Wj (ok:ShOk n cs):∀ {t k:Nat},k∈rim cs kn (wiC cs) t->Ch cs (wyF cs kn (wiC cs) t k)/\(∀ z,(wyF cs kn (wiC cs) t k).getLast?=some z->z∈kn)/\Dsp.Wy (paC cs) (InL kn) k (wyF cs kn (wiC cs) t k).tail
 | 0,k,h=>by
  have c:=of_decide_eq_true (aJ.mp h).2
  exact ⟨⟨fun b z=>(by cases z),trivial⟩,fun z e=>(by cases e;exact c),c⟩
 | t + 1,k,h=>by
  obtain ⟨i,j⟩:=UI h
  have l:nrF cs kn (wiC cs) t k∈effF cs k:=(aJ.mp (aS i)).1
  obtain ⟨m,o,g⟩:=Wj ok j
  have d:=wM cs kn (wiC cs) t (nrF cs kn (wiC cs) t k)
  have pk:=((y9 ok).mp l).2
  have p:¬ k∈kn:=fun z=>by
   have:k∈rim cs kn (wiC cs) 0:=aJ.mpr ⟨tG h,decide_eq_true z⟩
   have:=uD this h
   omega
  obtain ⟨w,e⟩:∃ w,wyF cs kn (wiC cs) t (nrF cs kn (wiC cs) t k)=nrF cs kn (wiC cs) t k :: w:=by
   cases q:wyF cs kn (wiC cs) t (nrF cs kn (wiC cs) t k) with
   | nil=>rw [q] at d;cases d
   | cons a w=>rw [q] at d;cases d;exact ⟨w,rfl⟩
  show Ch cs (k :: wyF cs kn (wiC cs) t (nrF cs kn (wiC cs) t k))/\(∀ z,(k :: wyF cs kn (wiC cs) t (nrF cs kn (wiC cs) t k)).getLast?=some z->z∈kn)/\Dsp.Wy (paC cs) (InL kn) k (wyF cs kn (wiC cs) t (nrF cs kn (wiC cs) t k))
  refine ⟨⟨fun b z=>by rw [d] at z;cases z;exact pk,m⟩,fun z f=>o z ?_,?_⟩
  ·rw [e] at f ⊢
   rw [List.getLast?_cons_cons] at f
   exact f
  ·rw [e] at g ⊢
   exact ⟨p,pk,g⟩
theorem zdK (l:List Nat):l.map (fun k:Nat=>PyData.int (k:Int))=(zl l).map PyData.int:=by
 unfold zl
 rw [bC]
 rfl
theorem QH (ok:ShOk n cs) (a:v < n) (c:b∈effF cs v) (d:b∈rim cs sm (wiC cs) t):∃ s,s<=t + 1/\v∈rim cs sm (wiC cs) s:=by
 by_cases f:v∈fnd cs sm (wiC cs) (t + 1)
 ·obtain ⟨s,g,e⟩:=wW.mp f
  exact ⟨s,by omega,e⟩
 ·exact ⟨t + 1,aC _,vR.mpr ⟨aZ.mpr (by rw [ok.l];exact a),f,b,c,d⟩⟩
theorem Zv (ok:ShOk n cs) (a:v < n) (h:v∈sm):v∈rim cs sm (wiC cs) 0:=aJ.mpr ⟨aZ.mpr (by rw [ok.l];exact a),decide_eq_true h⟩
theorem WF (ok:ShOk n cs) (n12:n<=12) (a:x < n) (h:Rch (effF cs) [x] k):(∃ t,k∈rim cs sm (wiC cs) t)->∃ t,x∈rim cs sm (wiC cs) t:=by
 have lt:∀ {z},Rch (effF cs) [x] z->z < n:=fun r=>r.lt (Ue ok n12) ⟨fun y b=>by rw [aD.mp b];exact a,by show 1<=80;decide⟩
 induction h with
 | base z=>rw [aD.mp z];exact id
 | step r z c =>
  rintro ⟨t,h⟩
  obtain ⟨s,_,d⟩:=QH ok (lt r) z h
  exact c ⟨s,d⟩
theorem Ts (ok:ShOk n cs) (c:y < n) (h:Rch (cauF cs) [y] k):∃ t,k∈rim cs [y] (wiC cs) t:=by
 induction h with
 | base z=>rw [aD.mp z];exact ⟨0,Zv ok c aK⟩
 | @step a b r z d =>
  obtain ⟨t,h⟩:=d
  have an:a < n:=by have:=aZ.mp (tG h);rwa [ok.l] at this
  have e:b < n:=(ok.at an).2.1 b z
  obtain ⟨s,_,f⟩:=QH ok e ((y9 ok).mpr ⟨an,z⟩) h
  exact ⟨s,f⟩
theorem WO (ok:ShOk n cs) (n12:n<=12) (a:x < n) (b:y < n) (h:k∈onW n cs x y):k < n/\(∃ t,x∈rim cs [k] (wiC cs) t)/\∃ t,k∈rim cs [y] (wiC cs) t:=by
 obtain ⟨c,d,_⟩:=vS.mp h
 obtain ⟨kn,e⟩:=zY.mp c
 exact ⟨kn,WF ok n12 a e ⟨0,Zv ok kn aK⟩,Ts ok b (zY.mp d).2⟩
noncomputable def bnW (cs:List (List Nat)) (x y st:Nat):List Nat:=(wdF cs [st] x).getD [] ++ ((wdF cs [y] st).getD []).drop 1
noncomputable def bnD (cs:List (List Nat)) (x y st:Nat) (sm:List Nat):PyData:=.tuple [.str "beneath", nl (bnW cs x y st),nl ((wdF cs sm st).getD [])]
def xW (ds:List PyData) (d:PyData):Prop:=∃ (cs:List (List Nat)) (x y st:Nat) (sm:List Nat),ds=[nls cs,.int x,.int y,nl sm,.int st]/\cs.length<=12/\(∃ t,x∈rim cs [st] (wiC cs) t)/\(∃ t,st∈rim cs [y] (wiC cs) t)/\(∃ t,st∈rim cs sm (wiC cs) t)/\d=bnD cs x y st sm
theorem uz:zA ["causes", "x", "y", "some", "start", "way"] ["causes", "x", "y", "some", "start"] (zo (top 30)):={}
theorem uR (F:Fun K "beneath_reason" "beneath_reason" (top 30) f fd) (B:Bs mg) (Z:Cs K mg aH aI) (a:zz P w K mg base CX0 "way_down" ["causes", "k", "some"] 3 (spD K true wR)):FnOk P w K mg base CX0 4 f fd ["causes", "x", "y", "some", "start"] (spD K true xW):=by
 have sc:=uz
 refine F.ok sc (fun vs H Q E h=>zH (fun _ _⟨_,_,_,_,_,e,_⟩=>by rw [e];rfl) h) (fun cdv A outer s H vs Q E j h=>?_)
 obtain ⟨D,ds,d,le,dp,p,q⟩:=h
 refine ⟨_,(ze (pS (i:=5) sc.nd (zJ (wI (K:=K) rfl) (pF a j (zb (pv 0) (zb (pv 1) (zb (zU (zb (pv 4) zd)) zd)))) (uK (ux (K:=K) rfl) (pF a j (zb (pv 0) (zb (pv 4) (zb (zU (zb (pv 2) zd)) zd)))) (uJ zh) XA)))
   (zf (zy (xG (zb XD (zb (pv 5) (zb (pF a j (zb (pv 0) (zb (pv 4) (zb (pv 3) zd)))) zd))))))),?_⟩
 have G:=sc.n 6
 obtain ⟨cs,x,y,st,sm,rfl,l,⟨g,m⟩,⟨c,o⟩,⟨v,u⟩,rfl⟩:=p
 have big:=zD
 have nd:(List.range cs.length).Nodup:=dZ
 have z:=tF nd m
 have C:=tF nd o
 rw [aV] at z C
 have r:∀ {k:Nat} {sm:List Nat} {t:Nat},k∈rim cs sm (wiC cs) t->wR [nls cs,.int (k:Int),nl sm] (nl (wyF cs sm (wiC cs) t k)):=fun {k sm t} h=>⟨cs,k,sm,rfl,l,.inl ⟨t,h,rfl⟩⟩
 walk_at"run"
 refine exs true (d:=nl (wyF cs [st] (wiC cs) g x ++ (wyF cs [y] (wiC cs) c st).drop 1)) (EvO.toE (EvO.eq (wZ (xs:=(wyF cs [st] (wiC cs) g x).map fun k:Nat=>.int (k:Int)) (ys:=((wyF cs [y] (wiC cs) c st).drop 1).map fun k:Nat=>.int (k:Int)) (EvL.imm (U:=false) (EvE.toL (zk (ds:=[nls cs,.int (x:Int),.list [.int (st:Int)]]) (d:=nl (wyF cs [st] (wiC cs) g x)) (by walk_at"ev") (r m))) (xY _)) (EvO.toL (EvO.eq (xQ (ds:=(wyF cs [y] (wiC cs) c st).map fun k:Nat=>.int (k:Int)) (lo:=some ((1:Nat):Int)) (EvL.imm (U:=false) (EvE.toL (zk (ds:=[nls cs,.int (st:Int),.list [.int (y:Int)]]) (d:=nl (wyF cs [y] (wiC cs) c st)) (by walk_at"ev") (r o))) (xY _)) (uY (EvE.eq (b:=.int ((1:Nat):Int)) (show EvE K .fresh false _ _ (.int 1) by walk_at"ev") rfl)) X8) (cutH _ _ 1))) ?_) (by rw [aN]))) (by walk_at"sc") ?_
 ·rw [aB,aB,cA,vk,vk]
  omega
 exact zM true (ww (ds:=[.str "beneath", nl (wyF cs [st] (wiC cs) g x ++ (wyF cs [y] (wiC cs) c st).drop 1),nl (wyF cs sm (wiC cs) v st)]) (zg ZX (zg (by walk_at"ev") (zg (zk (by walk_at"ev") (r u)) zC))) (by show 3<=_;omega)) (by show _=bnD cs x y st sm;unfold bnD bnW;rw [Yt m,Yt o,Yt u];rfl) (.inl ⟨rfl,rfl⟩)
open Classical in
noncomputable def stF (cs:List (List Nat)) (sm:List Nat) (k:Int):Int:=if h:∃ t,k.toNat∈rim cs sm (wiC cs) t then (h.choose:Int) else 0
theorem Vw {k t:Nat} (h:k∈rim cs sm (wiC cs) t):stF cs sm (k:Int)=(t:Int):=by
 have e:∃ t,((k:Int)).toNat∈rim cs sm (wiC cs) t:=⟨t,h⟩
 unfold stF
 rw [dif_pos e,uD (show k∈rim cs sm (wiC cs) e.choose from e.choose_spec) h]
open Classical in
noncomputable def staF (n:Nat) (cs:List (List Nat)) (x y:Nat) (sm:List Nat):List Nat:=(onW n cs x y).filter fun k=>decide (∃ t,k∈rim cs sm (wiC cs) t)
noncomputable def whyD (n:Nat) (cs:List (List Nat)) (x y:Nat) (sm:List Nat):PyData:=if staF n cs x y sm=[] then (match ordF (cutC n cs x y) sm x y with | none=>.none | some r=>.tuple [.str "road", nl r]) else bnD cs x y (mnK (stF cs sm) (zl (staF n cs x y sm))).toNat sm
def vw (ds:List PyData) (d:PyData):Prop:=∃ (n:Nat) (cs:List (List Nat)) (x y:Nat) (sm:List Nat),ds=[nls cs,.int x,.int y,nl sm]/\ShOk n cs/\n<=12/\x < n/\y < n/\Dg (cutC n cs x y)/\vL (cutC n cs x y)/\tot (cutC n cs x y)<=15/\x∉sm/\(∀ z∈sm,z < n)/\sm.length<=12/\d=whyD n cs x y sm
theorem VA:zA ["causes", "x", "y", "some", "steps", "starts", "road"] ["causes", "x", "y", "some"] (zo (top 29)):={}
theorem VQ (F:Fun K "why_not" "why_not" (top 29) f fd) (L:t5 K f "why_not" = true) (B:Bs mg) (Z:Cs K mg aH aI) (j:zz P w K mg base CX0 "steps_down" ["causes", "some", "within"] 2 (spDW K xT)) (C:zz P w K mg base CX0 "on_ways" ["causes", "x", "y"] 6 (spD K true vz)) (g:zz P w K mg base CX0 "beneath_reason" ["causes", "x", "y", "some", "start"] 4 (spD K true xW)) (u:zz P w K mg base CX0 "open_road" ["causes", "x", "y", "known"] 9 (spD K true wt)) (v:zz P w K mg base CX0 "cut_shape" ["causes", "x", "y"] 7 (spD K true wv)):FnOk P w K mg base CX0 10 f fd ["causes", "x", "y", "some"] (spD K true vw):=by
 have sc:=VA
 refine F.okL L sc (fun vs H Q E h=>zH (fun _ _⟨_,_,_,_,_,e,_⟩=>by rw [e];rfl) h) (fun c T A outer s H vs Q E S J D h=>?_)
 obtain ⟨Fh,ds,d,le,dp,p,q⟩:=h
 refine ⟨_,(ze (pS (i:=4) sc.nd (pF j D (zb (pv 0) (zb (pv 3) (zb (pY (u9 rfl) B.list (zb (pY fE0 B.range (zb (pB (zm (K:=K) rfl) B.len (zb (pv 0) zd)) zd)) zd)) zd)))))
   (ze (yU (i:=5) rfl sc.nd rfl rfl (N:=["k", "steps"]) (js:=[none,some 4]) (by walk_at"comp_ok") (zE (K:=K) rfl (pF C D (zb (pv 0) (zb (pv 1) (zb (pv 2) zd))))) (fun _ _ _ _=>(pN (i:=0) (show aX ["k", "steps"] by decide +kernel))) (fun _ _ _ _=>(yS (VL (zdA (vh D) (pv 0) (pv 1))))) (fun _ _ _ _=>(pv 0)))
   (ze (ye (zr ZK (pB (zm (K:=K) rfl) B.len (zb (pv 5) zd)) zh (zF _)) (zf (zy (pF g D (zb (pv 0) (zb (pv 1) (zb (pv 2) (zb (pv 3) (zb (Tw (kk:=1) (x := "k") (caps:=[("steps", 4)]) (D.mono (by decide)) rfl B.min (zb (pv 5) zd) rfl S J rfl rfl rfl (bJ.mpr ⟨⟨rfl,rfl⟩,(fun _ z=>nomatch z)⟩) (bJ.mpr ⟨⟨by first | exact .head _ | exact .tail _ (.head _) | exact .tail _ (.tail _ (.head _)),rfl⟩,(fun _ z=>nomatch z)⟩) (bJ.mpr ⟨rfl,(fun _ z=>nomatch z)⟩) (fun _=>rfl)) zd)))))))) zL)
   (ze (pS (i:=6) sc.nd (pF u D (zb (pF v D (zb (pv 0) (zb (pv 1) (zb (pv 2) zd)))) (zb (pv 1) (zb (pv 2) (zb (pv 3) zd))))))
   (zf (zy (ZH (zr VN (pv 6) wV (zF _)) wV (xG (zb XD (zb (pv 6) zd)))))))))),?_⟩
 have hN:=sc.n 7
 classical
 obtain ⟨n,cs,x,y,sm,rfl,ok,n12,fF,fG,dg,rn,V,xs,hs,sl,rfl⟩:=p
 have big:=zD
 have cl:=ok.l
 have el:PyData.int (((cs.map nl).length:Nat):Int)=.int (cs.length:Int):=by rw [aB]
 have nd:(List.range cs.length).Nodup:=dZ
 walk_at"run"
 refine YN (zg (by walk_at"ev") (zg (by walk_at"ev") (zg (EvO.toE (t6 (EvE.eq (yb (ds:=cs.map nl) (by walk_at"ev")) el) (by omega))) zC))) ⟨cs,sm,List.range cs.length,rfl,by omega,nd,by rw [aV];omega,rfl⟩ (fun m=>by walk_at"sc") ?_
 intro m G
 have has:∀ k:Nat,(dGet m (k:Int)).isSome=@decide (∃ t,k∈rim cs sm (wiC cs) t) (Classical.propDecidable _):=fun k=>by
  by_cases c:∃ t,k∈rim cs sm (wiC cs) t
  ·obtain ⟨t,h⟩:=c
   rw [G.i h,decide_eq_true ⟨t,h⟩]
   rfl
  ·rw [G.o fun t h=>c ⟨t,h⟩,decide_eq_false c]
   rfl
 have fe:(onW n cs x y).filter (fun k:Nat=>(dGet m (k:Int)).isSome)=staF n cs x y sm:=by
  unfold staF
  exact congrArg (fun p=>List.filter p _) (funext has)
 have ol:(onW n cs x y).length<=n:=bO (bP ..) (vq ..)
 refine exs true (d:=nl (staF n cs x y sm)) (EvO.toE (EvO.eq (yo (U:=true) (is:=[0]) (xs:=onW n cs x y) false (fun k:Nat=>.int (k:Int)) (fun k:Nat=>.int (k:Int)) (fun k=>(dGet m (k:Int)).isSome) (fun x _ y _ h=>by cases yO h;exact ⟨rfl,rfl⟩) (zN (zk (ds:=[nls cs,.int (x:Int),.int (y:Int)]) (d:=nl (onW n cs x y)) (by walk_at"ev") ⟨n,cs,x,y,rfl,ok,n12,fF,fG,rfl⟩)) (by walk_at"cc") rfl (by decide) (by omega) ?_) (by rw [fe]))) (by walk_at"sc") ?_
 ·exact fun k I=>egn (by walk_at"sc") ⟨et_B (zcu (by walk_at"gc") (by walk_at"ev")),fun _=>by walk_at"ev"⟩
 have zn:∀ k:Nat,k∈staF n cs x y sm->k∈onW n cs x y/\∃ t,k∈rim cs sm (wiC cs) t:=fun k I=>by
  unfold staF at I
  rw [aJ] at I
  exact ⟨I.1,of_decide_eq_true I.2⟩
 refine vE (b:=decide ((0:Int) < ((staF n cs x y sm).length:Nat))) (zq (t7 (EvE.eq (yb (ds:=(staF n cs x y sm).map fun k:Nat=>.int (k:Int)) (by walk_at"ev")) (by rw [aB])) (by walk_at"ev"))) (fun h=>?_) (fun h=>?_)
 ·have ne:staF n cs x y sm≠[]:=fun z=>by rw [z] at h;cases h
  have M:zl (staF n cs x y sm)≠[]:=fun z=>ne (eP.mp z)
  obtain ⟨mm,_⟩:=ZN (kf:=stF cs sm) M
  obtain ⟨st,W,R⟩:=aF.mp mm
  have R:((st:Nat):Int)=mnK (stF cs sm) (zl (staF n cs x y sm)):=R
  obtain ⟨z1,z2⟩:=zn st W
  obtain ⟨sn,l1,l2⟩:=WO ok n12 fF fG z1
  refine exrs true (zk (ds:=[nls cs,.int x,.int y,nl sm,.int st]) (d:=bnD cs x y st sm) (zg (by walk_at"ev") (zg (by walk_at"ev") (zg (by walk_at"ev") (zg (by walk_at"ev") (zg (EvE.eq (T6 (P:=P) (w:=w) (mg:=mg) (base:=base) (kk:=0) (x := "k") (y := "steps") (m:=m) (ns:=zl (staF n cs x y sm)) (kf:=stF cs sm) (Ua (EvE.toL (by walk_at"ev")) (zdK _)) M (by walk_at"gc") (fun k I=>?_) (uS (by decide +kernel)) (fun cl pm c' a0=>xg.all fun us hl=>match us,hl with | [_],_=>rfl) (fun _ _ _ a1 _ _ _ _ D=>(XF (vh D) (pv 1) (pv 0) (fun _ _=>rfl)))) (by rw [R])) zC))))) ⟨cs,x,y,st,sm,rfl,by omega,l1,l2,z2,rfl⟩) ?_ (.inl ⟨rfl,rfl⟩)
  ·obtain ⟨k,X,rfl⟩:=aF.mp I
   obtain ⟨_,t,ht⟩:=zn k X
   show dGet m (k:Int)=some (.int (stF cs sm (k:Int)))
   rw [Vw ht,G.i ht]
  ·show bnD cs x y st sm=whyD n cs x y sm
   unfold whyD
   rw [if_neg ne,<- R]
   rfl
 ·have ne:staF n cs x y sm=[]:=by
   cases q:staF n cs x y sm with
   | nil=>rfl
   | cons a l =>
    rw [q] at h
    exact absurd (show (0:Int) < ((l.length + 1:Nat):Int) by omega) (of_decide_eq_false h)
  have fE:ShOk n (cutC n cs x y):=zcL ok _
  have pc:wv [nls cs,.int x,.int y] (nls (cutC n cs x y)):=⟨n,cs,x,y,rfl,ok,n12,fF,fG,rfl⟩
  have po:wt [nls (cutC n cs x y),.int x,.int y,nl sm] (rdD (ordF (cutC n cs x y) sm x y)):=⟨n,cutC n cs x y,x,y,sm,rfl,fE,dg,rn,n12,V,fF,xs,hs,by omega,rfl⟩
  refine exn ?_
  refine exs true (zk (zg (zk (by walk_at"ev") pc) (zg (by walk_at"ev") (zg (by walk_at"ev") (zg (by walk_at"ev") zC)))) po) (by walk_at"sc") ?_
  refine zM true ?_ (show _=whyD n cs x y sm from rfl) (.inl ⟨rfl,rfl⟩)
  unfold whyD
  rw [if_pos ne]
  cases q:ordF (cutC n cs x y) sm x y with
  | none=>exact X7 (b:=true) (zq (tL (d:=rdD none) (EvE.toD (U:=false) (evv (by walk_at"gc") (by decide))))) (fun _=>by walk_at"ev") (fun h=>by cases h)
  | some r=>exact X7 (b:=false) (zq (tL (d:=rdD (some r)) (EvE.toD (U:=false) (evv (by walk_at"gc") (by decide))))) (fun h=>by cases h) (fun _=>ww (ds:=[.str "road", nl r]) (zg ZX (zg (by walk_at"ev") zC)) (by show 2<=_;omega))
theorem Xw (b:Rch nx sm a) (c:Rch nx [a] z):Rch nx sm z:=by
 induction c with
 | base h=>rw [aD.mp h];exact b
 | step _ z d=>exact .step d z
theorem Zi (ok:ShOk n cs):∀ {s z:Nat},z∈rim cs [y] (wiC cs) s->Rch (cauF cs) [y] z
 | 0,_,h=>.base (of_decide_eq_true (aJ.mp h).2)
 | _ + 1,_,h=>by
  obtain ⟨_,_,e,a,b⟩:=vR.mp h
  exact .step (Zi ok b) ((y9 ok).mp a).2
theorem Qj (ok:ShOk n cs):∀ {t k:Nat},k∈rim cs kn (wiC cs) t->∀ z∈(wyF cs kn (wiC cs) t k).drop 1,Rch (effF cs) [k] z/\∃ s,s < t/\z∈rim cs kn (wiC cs) s
 | 0,_,_,z,b=>nomatch b
 | t + 1,k,h,z,b=>by
  obtain ⟨f,c⟩:=UI h
  have g:nrF cs kn (wiC cs) t k∈effF cs k:=(aJ.mp (aS f)).1
  have d:Rch (effF cs) [k] (nrF cs kn (wiC cs) t k):=.step (.base aK) g
  have b:z∈wyF cs kn (wiC cs) t (nrF cs kn (wiC cs) t k):=b
  have e:=wM cs kn (wiC cs) t (nrF cs kn (wiC cs) t k)
  cases q:wyF cs kn (wiC cs) t (nrF cs kn (wiC cs) t k) with
  | nil=>rw [q] at b;cases b
  | cons a l =>
   rw [q] at b e
   cases e
   rcases aT.mp b with rfl | b
   ·exact ⟨d,t,cH _,c⟩
   ·obtain ⟨i,s,m,j⟩:=Qj ok c z (by rw [q];exact b)
    exact ⟨Xw d i,s,by omega,j⟩
theorem Xa (ok:ShOk n cs) (h:k∈rim cs kn (wiC cs) t):∀ z∈wyF cs kn (wiC cs) t k,Rch (effF cs) [k] z/\∃ s,z∈rim cs kn (wiC cs) s:=fun z b=>by
 have c:=wM cs kn (wiC cs) t k
 have hi:=Qj ok h z
 cases q:wyF cs kn (wiC cs) t k with
 | nil=>rw [q] at b;cases b
 | cons a l =>
  rw [q] at b c hi
  cases c
  rcases aT.mp b with rfl | b
  ·exact ⟨.base aK,t,h⟩
  ·obtain ⟨r,s,_,d⟩:=hi b
   exact ⟨r,s,d⟩
theorem za4:∀ {a:List Nat},Ch cs (a ++ [v])->Ch cs (v :: b)->Ch cs (a ++ v :: b)
 | [],_,h=>h
 | x :: a,h1,h2=>by
  refine ⟨fun c d=>h1.1 c ?_,za4 (a:=a) h1.2 h2⟩
  cases a <;> exact d
theorem QG {cs:List (List Nat)} {rk:Nat->Nat} (f:∀ e c,c∈cs.getD e []->rk c < rk e) {n:Nat} (ok:ShOk n cs) {a z:Nat} (h:Rch (effF cs) [a] z):z=a\/rk a < rk z:=by
 induction h with
 | base h=>exact .inl (aD.mp h)
 | @step b c _ z d =>
  have:=f c b ((y9 ok).mp z).2
  rcases d with rfl | d
  ·exact .inr this
  ·exact .inr (by omega)
structure BnOk (n:Nat) (cs:List (List Nat)) (x y st:Nat) (sm w l:List Nat):Prop where
 wc:Ch cs w
 wn:∀ z∈w,z < n
 wh:w.head?=some x
 wl:w.getLast?=some y
 lc:Ch cs l
 ln:∀ z∈l,z < n
 lh:l.head?=some st
 ll:∀ z,l.getLast?=some z->z∈sm
 sw:st∈w
 sx:st≠x
 no:∀ z∈l.drop 1,z∉w
 wz:w.length<=24
 lz:l.length<=12
theorem zda {n:Nat} {cs:List (List Nat)} (ok:ShOk n cs) (n12:n<=12) (H:Dg cs) {x y st:Nat} {sm:List Nat} (I:x < n) (J:y < n) (e:st∈staF n cs x y sm) (K:∀ k∈staF n cs x y sm,stF cs sm (st:Int)<=stF cs sm (k:Int)):BnOk n cs x y st sm (bnW cs x y st) ((wdF cs sm st).getD []):=by
 classical
 have m:∀ {k:Nat},k∈staF n cs x y sm↔k∈onW n cs x y/\∃ t,k∈rim cs sm (wiC cs) t:=fun {k}=>by
  unfold staF
  rw [aJ,decide_eq_true_iff]
 obtain ⟨so,L,i⟩:=m.mp e
 obtain ⟨X,⟨f,u⟩,j,o⟩:=WO ok n12 I J so
 have sx:=(vS.mp so).2.2
 have cl:=ok.l
 have nd:(List.range cs.length).Nodup:=dZ
 have M:=tF nd u
 have N:=tF nd o
 have fF:=tF nd i
 rw [aV] at M N fF
 unfold bnW
 rw [Yt u,Yt o,Yt i]
 show BnOk n cs x y st sm (wyF cs [st] (wiC cs) f x ++ (wyF cs [y] (wiC cs) j st).drop 1) (wyF cs sm (wiC cs) L st)
 obtain ⟨D,P,_⟩:=Wj ok u
 obtain ⟨E,Q,_⟩:=Wj ok o
 obtain ⟨R,S,_⟩:=Wj ok i
 have g:=wM cs [st] (wiC cs) f x
 have d:=wM cs [y] (wiC cs) j st
 have T:=Xa ok u
 have fG:=Xa ok o
 have V:=Xa ok i
 have A:∀ {kn:List Nat} {s z:Nat},z∈rim cs kn (wiC cs) s->z < n:=fun h=>by have:=aZ.mp (tG h);rwa [cl] at this
 have xs:Rch (effF cs) [x] st:=(zY.mp (vS.mp so).1).2
 have sy:Rch (cauF cs) [y] st:=Zi ok o
 have on:∀ z∈wyF cs [st] (wiC cs) f x ++ (wyF cs [y] (wiC cs) j st).drop 1,z < n/\(z=x\/z∈onW n cs x y):=fun z c=>by
  have key:z < n/\Rch (effF cs) [x] z/\Rch (cauF cs) [y] z:=by
   rcases aQ.mp c with c | c
   ·obtain ⟨r,s,e⟩:=T z c
    exact ⟨A e,r,Xw sy (Zi ok e)⟩
   ·obtain ⟨r,s,e⟩:=fG z (List.mem_of_mem_drop c)
    exact ⟨A e,Xw xs r,Zi ok e⟩
  refine ⟨key.1,?_⟩
  by_cases q:z=x
  ·exact .inl q
  ·exact .inr (vS.mpr ⟨zY.mpr ⟨key.1,key.2.1⟩,zY.mpr ⟨key.1,key.2.2⟩,q⟩)
 obtain ⟨b,B⟩:∃ b,wyF cs [y] (wiC cs) j st=st :: b:=by
  cases q:wyF cs [y] (wiC cs) j st with
  | nil=>rw [q] at d;cases d
  | cons a l=>rw [q] at d;cases d;exact ⟨l,rfl⟩
 obtain ⟨a,F⟩:∃ a,wyF cs [st] (wiC cs) f x=a ++ [st]:=by
  have ne:wyF cs [st] (wiC cs) f x≠[]:=fun z=>by rw [z] at g;cases g
  have:=P _ (List.getLast?_eq_some_getLast ne)
  refine ⟨(wyF cs [st] (wiC cs) f x).dropLast,?_⟩
  have q:=List.dropLast_concat_getLast ne
  rw [aD.mp this] at q
  exact q.symm
 have C:wyF cs [st] (wiC cs) f x ++ (wyF cs [y] (wiC cs) j st).drop 1=a ++ st :: b:=by
  rw [F,B,cR]
  rfl
 refine ⟨?_,fun z c=>(on z c).1,?_,?_,R,fun z c=>A (V z c).2.choose_spec,wM ..,S,?_,sx,fun z c W=>?_,?_,?_⟩
 ·rw [C]
  rw [F] at D
  rw [B] at E
  exact za4 D E
 ·rw [List.head?_append,g]
  rfl
 ·rw [C,List.getLast?_append]
  have:(st :: b).getLast?=some y:=by
   have ne:st :: b≠[]:=List.cons_ne_nil _ _
   have:=Q _ (by rw [B];exact List.getLast?_eq_some_getLast ne)
   rw [List.getLast?_eq_some_getLast ne,aD.mp this]
  rw [this]
  rfl
 ·rw [C]
  exact aO _ aK
 ·obtain ⟨r,s,fE,p⟩:=Qj ok i z c
  rcases (on z W).2 with rfl | q
  ·obtain ⟨Z,G⟩:=H
   have v:=QG G ok xs
   have w:=QG G ok r
   rcases v with v | v
   ·exact sx v
   ·rcases w with w | w
    ·exact sx w.symm
    ·omega
  ·have:=K z (m.mpr ⟨q,s,p⟩)
   rw [Vw i,Vw p] at this
   omega
 ·rw [aG,cA,vk,vk]
  omega
 ·rw [vk]
  omega
def yv (ds:List PyData) (d:PyData):Prop:=∃ (ns:List Int) (k:Nat),ds=[il ns,.int k]/\d=.int (ns.getD k 0)
theorem Zu:zA ["_law_script", "_law_k"] ["_law_script", "_law_k"] (zo (top 32)):={}
theorem ZM (F:Fun K "_law_cell_at" "_law_cell_at" (top 32) f fd) (B:Bs mg) (Z:Cs K mg aH aI)  : FnOk P w K mg base CX0 1 f fd ["_law_script", "_law_k"] (spD K true yv):=by
 have sc:=Zu
 refine F.ok sc (fun vs H Q E h=>zH (fun _ _⟨_,_,e,_⟩=>by rw [e];rfl) h) (fun cdv A outer s H vs Q E a h=>?_)
 obtain ⟨c,ds,d,le,dp,p,q⟩:=h
 refine ⟨_,(ze (ye (zr YH (pv 1) (pB (zm (K:=K) rfl) B.len (zb (pv 0) zd)) (zF _)) (zf (zy (pX (zu (K:=K) rfl) (pv 0) (pv 1)))) zL)
   (zf (zy zh))),?_⟩
 have g:=sc.n 2
 obtain ⟨ns,k,rfl,rfl⟩:=p
 walk_at"run"
 refine vE (b:=decide ((k:Int) < ns.length)) (EvT.eq (by walk_at"ev") (by rw [aB])) (fun h=>?_) (fun h=>?_)
 ·have h':(k:Int) < ns.length:=by simpa using h
  exact exrs true (zI (by walk_at"ev") (by walk_at"ev") (zcG (by omega))) rfl (.inl ⟨rfl,rfl⟩)
 ·have h':¬ (k:Int) < ns.length:=by simpa using h
  refine exn ?_
  refine zM true (by walk_at"ev") ?_ (.inl ⟨rfl,rfl⟩)
  rw [aM,cB (by omega)]
  rfl
structure CN (n:Nat) (css:List (List Nat)):Prop where
 l:css.length=n
 e:∀ r∈css,(∀ x∈r,x < n)/\r.length<=5/\r.Nodup
theorem CN.at (h:CN n css) {o:Nat} (a:o < n):(css.map kD)[o]?=some (kD (css.getD o []))/\ixN (css.map kD).length (o:Int)=some o/\(css.getD o []).length<=5/\(css.getD o []).Nodup/\∀ x∈css.getD o [],x < n:=by
 have z:css[o]?=some (css.getD o []):=zQ (by rw [h.l];exact a)
 have g:=h.e _ (aS z)
 exact ⟨by rw [aU,z];rfl,zb8 (by rw [aB,h.l];exact a),g.2.1,g.2.2,g.1⟩
theorem CN.add (h:CN n css) (f:o < n) (i:x < n) (j:(css.getD o []).length < 5) (k:x∉css.getD o []):CN n (ud css o x):=by
 have g:=h.at f
 unfold ud
 refine ⟨by rw [List.length_set];exact h.l,fun r c=>?_⟩
 rcases List.mem_or_eq_of_mem_set c with c | c
 ·exact h.e r c
 ·rw [c]
  refine ⟨fun y d=>?_,by rw [aG];exact j,?_⟩
  ·rcases aQ.mp d with d | d
   ·exact g.2.2.2.2 y d
   ·rw [aD.mp d];exact i
  ·rw [bU]
   refine ⟨g.2.2.2.1,by simp,fun a m b p=>?_⟩
   rw [aD.mp p]
   rintro rfl
   exact k m
structure ShR (n:Nat) (cs:List (List Nat)):Prop where
 l:cs.length=n
 e:∀ r∈cs,(∀ x∈r,x < n)/\r.length<=5/\r.Pairwise (· < ·)
theorem CN.sort (h:CN n css):ShR n (css.map srtN):=by
 refine ⟨by rw [aB];exact h.l,fun r a=>?_⟩
 obtain ⟨q,b,rfl⟩:=aF.mp a
 have:=h.e q b
 exact ⟨fun x c=>this.1 x ((xl q).mem_iff.mp c),by rw [(xl q).length_eq];exact this.2.1,tD this.2.2⟩
theorem CN.nil (n:Nat):CN n (List.replicate n []):=⟨List.length_replicate ..,fun r a=>by
 have:r=[]:=List.eq_of_mem_replicate a
 subst this
 exact ⟨(fun c b=>by cases b),aW _,cE⟩⟩
def wu (ds:List PyData) (G:PyData->Prop):Prop:=∃ (ns:List Int) (f n:Nat),ds=[il ns,.int f,.int n]/\n<=12/\G=fun d=>∃ cs,ShR n cs/\Dg cs/\d=nls cs
theorem Xn:zA ["_law_script", "_law_first", "_law_many", "_law_order", "_law_k", "_law_causes", "_law_at", "_law_number", "_law_dense", "_law_c"] ["_law_script", "_law_first", "_law_many"] (zo (top 33)):={}
theorem XQ (F:Fun K "_law_shape" "_law_shape" (top 33) f fd) (B:Bs mg) (Z:Cs K mg aH aI) (a:zz P w K mg base CX0 "_law_cell_at" ["_law_script", "_law_k"] 1 (spD K true yv)):FnOk P w K mg base CX0 2 f fd ["_law_script", "_law_first", "_law_many"] (spW K true wu):=by
 have sc:=Xn
 refine F.ok sc (fun vs H Q E h=>Zh (fun _ _⟨_,_,_,e,_⟩=>by rw [e];rfl) h) (fun cdv A outer s H vs Q E W h=>?_)
 obtain ⟨Fh,ds,G,le,dp,p,q⟩:=h
 refine ⟨_,(ze (pS (i:=3) sc.nd (zU zd))
   (ze (yF PassesOwn.never rfl (yw rfl B.range (zb (pv 2) zd)) (pN (i:=4) sc.nd) (zf (yB (yN (K:=K) rfl bK PySem.F.slot_list_insert PySem.F.type_list_insert YJ (pv 3) (zb (zJ y8 (pF a W (zb (pv 0) (zb (zJ yD (pv 1) (pv 4)) zd))) (zJ yD (pv 4) zh)) (zb (pv 4) zd))))))
   (ze (yU (i:=5) rfl sc.nd rfl rfl (N:=["_law_k"]) (js:=[none]) (by walk_at"comp_ok") (yw rfl B.range (zb (pv 2) zd)) (fun _ _ _ _=>(pN (i:=0) (show aX ["_law_k"] by decide +kernel))) (fun _ _ _ _=>yx) (fun _ _ _ _=>(zU zd)))
   (ze (yF PassesOwn.never rfl (yw rfl B.range (zb (pv 2) zd)) (pN (i:=6) sc.nd) (ze (pS (i:=7) sc.nd (zJ y8 (zJ yD (zJ Zj (pF a W (zb (pv 0) (zb (zJ yD (pv 1) (pX (zu (K:=K) rfl) (pv 3) (pv 6))) zd))) zh) (zJ Zj zh (zJ yD (pv 6) zh))) zh))
   (ze (pS (i:=8) sc.nd (zJ yD zh (zJ y8 (pv 7) zh)))
   (zf (yF PassesOwn.never rfl (zE (K:=K) rfl (uK (ux (K:=K) rfl) (pv 3) XA (uJ (pv 6)))) (pN (i:=9) sc.nd) (ze (pS (i:=7) sc.nd (zJ y8 (zJ yD (zJ Zj (pv 7) zh) zh) zh))
   (zf (ye (PW.pt (xE (zr YH (zJ y8 (zJ uO (pv 7) zh) zh) (pv 8) (zF _)) (xy (zr YH (pB (zm (K:=K) rfl) B.len (zb (pX (zu (K:=K) rfl) (pv 5) (pX (zu (K:=K) rfl) (pv 3) (pv 6))) zd)) zh (zF _))))) (zf (yB (yN (K:=K) rfl bK bY bX yf (pX (zu (K:=K) rfl) (pv 5) (pX (zu (K:=K) rfl) (pv 3) (pv 6))) (zb (pv 9) zd)))) zL))))))))
   (zf (zy (yc rfl (N:=["_law_row"]) (js:=[none]) (by walk_at"comp_ok") (zE (K:=K) rfl (pv 5)) (fun _ _ _ _=>(pN (i:=0) (show aX ["_law_row"] by decide +kernel))) (fun _ _ _ _=>yx) (fun _ _ _ _=>(pB (u8 (K:=K) rfl) B.sorted (zb (pv 0) zd)))))))))),?_⟩
 have hN:=sc.n 10
 obtain ⟨ns,f,n,rfl,hn,rfl⟩:=p
 have big:=zD
 refine uA le dp q hN (by walk_at"st") ?_
 refine exo true (zZ (ds:=[]) zC (by decide)) (by walk_at"sc") ?_
 refine vi (ds:=(List.range n).map fun i:Nat=>.int (i:Int)) true (fun i Y=>∃ (ord:List Nat) (x:Option DV),OrdN i ord/\Y=[some (.fz false (il ns)),some (.fz false (.int f)),some (.fz false (.int n)),some (.ow true (ord.map fun k:Nat=>.int (k:Int))),x,none,none,none,none,none]) (xA (n:=(n:Int)) (by walk_at"ev") (by omega) (by omega)) ⟨[],none,⟨rfl,(fun x D=>by cases D),cE⟩,rfl⟩ ?_ ?_
 ·rintro i d Y' hd ⟨ord,x,ok,rfl⟩
  obtain ⟨hi,rfl⟩:=xo hd
  have ol:=ok.l
  refine ⟨_,egn (by walk_at"sc") ?_⟩
  generalize X:ns.getD (f + i) 0 % ((i:Int) + 1)=v
  have v0:0<=v:=by rw [<- X];exact Int.emod_nonneg _ (by omega)
  have v1:v < (i:Int) + 1:=by rw [<- X];exact Int.emod_lt_of_pos _ (by omega)
  refine exin (m:=v) (d:=.int i) (by walk_at"gc") (EvE.eq (xH (j:=(i:Int) + 1) (zk (by walk_at"ev") ⟨ns,f + i,by rw [Int.natCast_add],rfl⟩) (by walk_at"ev") (by omega)) (congrArg PyData.int X)) (by walk_at"ev") v0 (by rw [aB];omega) (by rw [aB];omega) (by walk_at"sc") ?_
  have fE:i∉ord:=fun z=>by have:=ok.e i z;omega
  have pm:(ord.take v.toNat ++ i :: ord.drop v.toNat).Perm (i :: ord):=by
   refine List.perm_middle.trans ?_
   rw [fD]
  refine ⟨ord.take v.toNat ++ i :: ord.drop v.toNat,some (.fz true (.int i)),⟨by rw [pm.length_eq,bS,ol],fun y hy=>?_,pm.nodup_iff.mpr (bV.mpr ⟨fE,ok.nd⟩)⟩,?_⟩
  ·rcases aT.mp (pm.mem_iff.mp hy) with h | h
   ·omega
   ·have:=ok.e y h;omega
  ·rw [aN,bB,List.map_take,List.map_drop]
 rintro Y' ⟨ord,x,t,rfl⟩
 rw [yX] at t
 refine exfz 3 (by walk_at"gc") (by walk_at"sc") ?_
 rw [show PyData.list (ord.map fun k:Nat=>.int (k:Int))=nl ord from rfl]
 refine exo2 (ds:=(List.range n).map fun i:Nat=>.int (i:Int)) (U':=true) (xA (n:=(n:Int)) (by walk_at"ev") (by omega) (by omega)) (by rw [yX];omega) (by walk_at"sc") ?_
 rw [yX,zev]
 refine vi (ds:=(List.range n).map fun i:Nat=>.int (i:Int)) true (fun i Y=>∃ (css:List (List Nat)) (x1 x2 x3 I:Option DV),CN n css/\UpO ord css/\(∀ m,i<=m->m < n->css.getD (ord.getD m 0) []=[])/\Y=[some (.fz false (il ns)),some (.fz false (.int f)),some (.fz false (.int n)),some (.fz true (nl ord)),x,some (.o2 none (css.map kD)),x1,x2,x3,I]) (xA (n:=(n:Int)) (by walk_at"ev") (by omega) (by omega)) ⟨_,none,none,none,none,.nil n,.nil ord n,fun m _ _=>W6 n _,rfl⟩ ?_ ?_
 ·rintro i d Y' hd ⟨css,x1,x2,x3,I,co,up,J,rfl⟩
  obtain ⟨hi,rfl⟩:=xo hd
  refine ⟨_,egn (by walk_at"sc") ?_⟩
  have fF:=t.at hi
  have oE:∀ {U:Bool} {R:PD.Ctx},GetC R 3 (.fz true (nl ord))->GetC R 6 (.fz true (.int i))->EvE K .fresh U (tOp (rIxL K) (tVar 3) (tVar 6)) R (.int (ord.getD i 0:Nat)):=fun g1 g2=>EvE.imm (U:=false) (zI (EvE.toL (evv g1 (by decide))) (evv g2 (by decide)) fF.1) rfl
  have m2:IntMulOk (ns.getD (f + ord.getD i 0) 0) 48271:=vP (by decide) (by decide)
  have m3:IntMulOk 15485863 ((i:Int) + 1):=vP (by omega) (by omega)
  generalize u:(ns.getD (f + ord.getD i 0) 0 * 48271 + 15485863 * ((i:Int) + 1)) % 2147483647=g
  refine exs true (d:=.int g) (EvE.eq (xH (wx (X6 (zk (zg (by walk_at"ev") (zg (wx (by walk_at"ev") (oE (by walk_at"gc") (by walk_at"gc"))) zC)) ⟨ns,f + ord.getD i 0,by rw [Int.natCast_add],rfl⟩) (by walk_at"ev") m2) (X6 (by walk_at"ev") (by walk_at"ev") m3)) (by walk_at"ev") (by decide)) (congrArg PyData.int u)) (by walk_at"sc") ?_
  generalize M:1 + g % 4=L
  refine exs true (d:=.int L) (EvE.eq (by walk_at"ev") (congrArg PyData.int M)) (by walk_at"sc") ?_
  have fG:cutD (ord.map fun k:Nat=>PyData.int (k:Int)) none (some (i:Int))=(ord.take i).map fun k:Nat=>PyData.int (k:Int):=zcD _ ord i
  clear u M m2
  refine um (ds:=(ord.take i).map fun k:Nat=>.int (k:Int)) true (fun j Y=>∃ (css:List (List Nat)) (g:Int) (I:Option DV),CN n css/\UpO ord css/\(∀ m,i < m->m < n->css.getD (ord.getD m 0) []=[])/\(∀ x∈css.getD (ord.getD i 0) [],x∈ord.take j)/\Y=[some (.fz false (il ns)),some (.fz false (.int f)),some (.fz false (.int n)),some (.fz true (nl ord)),x,some (.o2 none (css.map kD)),some (.fz true (.int i)),some (.fz true (.int g)),some (.fz true (.int L)),I]) (zN (EvO.toE (EvO.eq (xQ (EvE.toL (by walk_at"ev")) (by walk_at"ev") (by walk_at"ev")) fG))) ⟨css,g,I,co,up,fun m h1 T=>J m (by omega) T,by rw [J i (aC _) hi];exact fun x h=>(nomatch h),rfl⟩ ?_ ?_
  ·clear co up J css g I
   rintro j d Y' hd ⟨css,g,I,co,up,J,cs,rfl⟩
   obtain ⟨c,V,rfl⟩:=xN hd
   have S:j < i:=by have:=(aP.mp V).1;rw [cJ] at this;omega
   have ec:c=ord.getD j 0:=by
    rw [eV S] at V
    rw [aM,V]
    rfl
   have a0:c < n:=by rw [ec];exact (t.at (show j < n by omega)).2
   have C:=co.at fF.2
   refine ⟨_,egn (by walk_at"sc") ?_⟩
   have m4:IntMulOk g 48271:=vP (by decide) (by decide)
   generalize u:(g * 48271 + 11) % 2147483647=o
   refine exs true (d:=.int o) (EvE.eq (by walk_at"ev") (congrArg PyData.int u)) (by walk_at"sc") ?_
   have a1:CDiv o 64:=⟨by decide,by decide⟩
   have ll:PyData.int (((kD (css.getD (ord.getD i 0) [])).length:Nat):Int)=.int ((css.getD (ord.getD i 0) []).length:Int):=by rw [zaw]
   have fr:c∉css.getD (ord.getD i 0) []:=fun z=>t.fresh (show j < n by omega) (ec ▸ cs c z)
   have st:ord.take (j + 1)=ord.take j ++ [c]:=by
    rw [eV S] at V
    exact take_succ V
   refine xj (b:=decide (o / 64 % 5 < L) && decide (((css.getD (ord.getD i 0) []).length:Int) < 5)) (xu (by walk_at"ev") fun _=>zq (YV (EvE.eq (yb (EvL.weak (zdZ (by walk_at"gc") (oE (by walk_at"gc") (by walk_at"gc")) C.2.1 C.1) fun h=>nomatch h)) ll) (by walk_at"ev"))) (fun h=>?_) (fun h=>?_)
   ·have h':(css.getD (ord.getD i 0) []).length < 5:=by
     have:o / 64 % 5 < L/\((css.getD (ord.getD i 0) []).length:Int) < 5:=by simpa using h
     omega
    refine zaD (d:=.int c) (by walk_at"gc") (oE (by walk_at"gc") (by walk_at"gc")) C.2.1 C.1 (by walk_at"ev") (by rw [zaw];omega) (by walk_at"sc") ?_
    refine ⟨ud css (ord.getD i 0) c,o,_,co.add fF.2 a0 h' fr,up.add (by rw [co.l];exact fF.2) (by rw [ec,t.idx (show j < n by omega),t.idx hi];exact S),fun m h1 T=>?_,fun x D=>?_,by rw [zcJ]⟩
    ·rw [Vp _ (t.ne T hi (by omega))]
     exact J m h1 T
    ·rw [Vq _ (by rw [co.l];exact fF.2)] at D
     rw [st]
     rcases aQ.mp D with D | D
     ·exact bR _ (cs x D)
     ·exact aO _ D
   ·exact yr ⟨css,o,_,co,up,J,fun x D=>by rw [st];exact bR _ (cs x D),rfl⟩
  ·rintro Y' ⟨css,g,I,co,up,J,cs,rfl⟩
   exact ⟨css,_,_,_,_,co,up,fun m h1 T=>J m (by omega) T,rfl⟩
 ·rintro Y' ⟨css,x1,x2,x3,I,co,up,J,rfl⟩
  have e5:(css.map kD).map PyData.list=css.map nl:=by rw [bC];rfl
  refine zeF 5 (by walk_at"gc") (by walk_at"sc") ?_
  rw [e5]
  refine zM true (EvO.toE (yp (U:=true) (is:=[0]) (xs:=css) true nl (fun r=>nl (srtN r)) (fun x _ y _ h=>by rw [show x=y from by rw [<- tu x,h,tu]]) (zN (by walk_at"ev")) (by walk_at"cc") rfl (by decide) (by rw [co.l];omega) ?_)) ⟨css.map srtN,co.sort,⟨fun k=>ord.idxOf k,up.sort⟩,by rw [nls,bC];rfl⟩ (.inl ⟨rfl,rfl⟩)
  intro r W
  have k5:=(co.e r W).2.1
  exact egn (by walk_at"sc") (EvE.eq (EvO.toE (ZU (ns:=zl r) (EvE.toL (EvE.eq (U:=false) (by walk_at"ev") (ya r))) (by unfold zl;rw [List.length_map];omega))) (congrArg PyData.list (Qw _)))
theorem ShR.at (h:ShR n cs) (a:k < n):cs[k]?=some (cs.getD k [])/\(∀ x∈cs.getD k [],x < n)/\(cs.getD k []).length<=5/\(cs.getD k []).Pairwise (· < ·):=by
 have z:cs[k]?=some (cs.getD k []):=zQ (by rw [h.l];exact a)
 exact ⟨z,h.e _ (aS z)⟩
def lowS (cs:List (List Nat)) (fs:List Nat) (k:Nat):List Nat:=bif (!decide (k∈fs)) && ((cs.getD k []).map fun c=>decide (c∈fs)).any (fun b=>b) then fs ++ [k] else fs
def lowT (cs:List (List Nat)) (fs:List Nat) (j:Nat):List Nat:=(List.range j).foldl (lowS cs) fs
def lowI (cs:List (List Nat)) (x:List Nat):Nat->List Nat
 | 0=>x
 | i + 1=>lowT cs (lowI cs x i) cs.length
def lowF (cs:List (List Nat)) (x:List Nat):List Nat:=lowI cs x cs.length
theorem vT (cs:List (List Nat)) (fs:List Nat) (j:Nat):lowT cs fs (j + 1)=lowS cs (lowT cs fs j) j:=by
 unfold lowT
 rw [dF,List.foldl_append]
 rfl
theorem Zk (cs:List (List Nat)) (fs:List Nat) (k:Nat):(lowS cs fs k=fs/\(k∉fs->∀ c∈cs.getD k [],c∉fs))\/(lowS cs fs k=fs ++ [k]/\k∉fs/\∃ c∈cs.getD k [],c∈fs):=by
 unfold lowS
 cases h:(!decide (k∈fs)) && ((cs.getD k []).map fun c=>decide (c∈fs)).any (fun b=>b) with
 | true =>
  right
  have h':=bZ.mp h
  refine ⟨rfl,by simpa using h'.1,?_⟩
  obtain ⟨b,d,e⟩:=bQ.mp h'.2
  obtain ⟨c,a,rfl⟩:=aF.mp d
  exact ⟨c,a,of_decide_eq_true e⟩
 | false =>
  left
  refine ⟨rfl,fun f c a z=>?_⟩
  rw [decide_eq_false f,Bool.not_false,Bool.true_and] at h
  rw [bQ.mpr ⟨decide (c∈fs),aF.mpr ⟨c,a,rfl⟩,decide_eq_true z⟩] at h
  cases h
structure LI (n:Nat) (cs:List (List Nat)) (x:List Nat) (fs:List Nat):Prop where
 nd:fs.Nodup
 lt:∀ y∈fs,y < n/\Rch (effF cs) x y
 x:∀ y∈x,y∈fs
theorem LI.len {n:Nat} {cs:List (List Nat)} {x:List Nat} {fs:List Nat} (h:LI n cs x fs):fs.length<=n:=yV n fs h.nd fun y a=>(h.lt y a).1
theorem LI.step {n:Nat} {cs:List (List Nat)} {x:List Nat} {fs:List Nat} (ok:ShOk n cs) (h:LI n cs x fs) {k:Nat} (f:k < n):LI n cs x (lowS cs fs k):=by
 rcases Zk cs fs k with ⟨e,_⟩ | ⟨e,g,c,i,j⟩
 ·rw [e];exact h
 ·rw [e]
  refine ⟨?_,fun y d=>?_,fun y d=>bR _ (h.x y d)⟩
  ·rw [bU]
   exact ⟨h.nd,by simp,fun a l b m=>by rw [List.mem_singleton.mp m];rintro rfl;exact g l⟩
  ·rcases aQ.mp d with d | d
   ·exact h.lt y d
   ·rw [aD.mp d]
    exact ⟨f,(h.lt c j).2.step ((y9 ok).mpr ⟨f,i⟩)⟩
theorem LI.turn {n:Nat} {cs:List (List Nat)} {x:List Nat} {fs:List Nat} (ok:ShOk n cs) (h:LI n cs x fs):∀ j,j<=n->LI n cs x (lowT cs fs j)
 | 0,_=>h
 | j + 1,hj=>by rw [vT];exact (LI.turn ok h j (by omega)).step ok (by omega)
theorem LI.all {n:Nat} {cs:List (List Nat)} {x:List Nat} (ok:ShOk n cs) (a:∀ y∈x,y < n) (b:x.Nodup):∀ i,LI n cs x (lowI cs x i)
 | 0=>⟨b,fun y c=>⟨a y c,.base c⟩,fun _ z=>z⟩
 | i + 1=>(LI.all ok a b i).turn ok cs.length (by rw [ok.l];exact aC _)
theorem UN (cs:List (List Nat)) (fs:List Nat):∀ j,(lowT cs fs j=fs/\∀ k,k < j->lowS cs fs k=fs)\/fs.length < (lowT cs fs j).length
 | 0=>.inl ⟨rfl,fun k h=>absurd h (bW _)⟩
 | j + 1=>by
  rw [vT]
  rcases UN cs fs j with ⟨e,h⟩ | h
  ·rw [e]
   rcases Zk cs fs j with ⟨e,_⟩ | ⟨e,_⟩
   ·refine .inl ⟨e,fun k a=>?_⟩
    by_cases z:k=j
    ·rw [z];exact e
    ·exact h k (by omega)
   ·rw [e,aG]
    exact .inr (cH _)
  ·rcases Zk cs (lowT cs fs j) j with ⟨e,_⟩ | ⟨e,_⟩
   ·rw [e];exact .inr h
   ·rw [e,aG];exact .inr (by omega)
theorem W1 (cs:List (List Nat)) (fs:List Nat):∀ j,(∀ k,k < j->lowS cs fs k=fs)->lowT cs fs j=fs
 | 0,_=>rfl
 | j + 1,h=>by rw [vT,W1 cs fs j fun k a=>h k (by omega)];exact h j (cH j)
theorem UO (cs:List (List Nat)) (x:List Nat):∀ i,i + x.length<=(lowI cs x i).length\/∀ k,k < cs.length->lowS cs (lowI cs x i) k=lowI cs x i
 | 0=>.inl (by rw [Nat.zero_add];exact aC _)
 | i + 1=>by
  show i + 1 + x.length<=(lowT cs (lowI cs x i) cs.length).length\/∀ k,_->lowS cs (lowT cs (lowI cs x i) cs.length) k=lowT cs (lowI cs x i) cs.length
  rcases UN cs (lowI cs x i) cs.length with ⟨e,h⟩ | h
  ·rw [e];exact .inr h
  ·rcases UO cs x i with g | g
   ·exact .inl (by omega)
   ·rw [W1 _ _ _ g] at h
    exact absurd h (bN _)
theorem zbC (h:Rch nx [] k):False:=by
 induction h with
 | base z=>cases z
 | step _ _ a=>exact a
theorem UL {n:Nat} {cs:List (List Nat)} {x:List Nat} (ok:ShOk n cs) (b:∀ y∈x,y < n) (c:x.Nodup) {k:Nat}:k∈lowF cs x↔k∈rchL n (effF cs) x:=by
 rw [zY]
 have a:=LI.all ok b c cs.length
 have ll:=a.len
 have cl:=ok.l
 refine ⟨fun z=>a.lt k z,fun z=>?_⟩
 rcases UO cs x cs.length with g | g
 ·have e:x=[]:=dH.mp (by omega)
  rw [e] at z
  exact (zbC z.2).elim
 have r:=z.2
 clear z
 induction r with
 | base z=>exact a.x _ z
 | @step u v _ z d =>
  have f:=(y9 ok).mp z
  have e:=g v (by omega)
  rcases Zk cs (lowI cs x cs.length) v with ⟨_,h⟩ | ⟨h,_⟩
  ·exact Classical.byContradiction fun i=>h i u f.2 d
  ·rw [e] at h
   have:=congrArg List.length h
   rw [aG] at this
   have:(lowI cs x cs.length).length=(lowI cs x cs.length).length + 1:=this
   omega
theorem zdN {n:Nat} {cs:List (List Nat)} {x:List Nat} (ok:ShOk n cs) (a:∀ y∈x,y < n) (b:x.Nodup):(lowF cs x).Nodup:=(LI.all ok a b cs.length).nd
theorem zb3 {n:Nat} {cs:List (List Nat)} {x:List Nat} (ok:ShOk n cs) (a:∀ y∈x,y < n) (b:x.Nodup):(lowF cs x).length<=n:=(LI.all ok a b cs.length).len
def vA (ds:List PyData) (d:PyData):Prop:=∃ (n:Nat) (cs:List (List Nat)) (x:List Nat),ds=[nls cs,nl x]/\ShOk n cs/\n<=12/\(∀ y∈x,y < n)/\x.Nodup/\d=nl (lowF cs x)
theorem VC:zA ["_law_causes", "_law_some_here", "_law_found", "_law_turn", "_law_k"] ["_law_causes", "_law_some_here"] (zo (top 35)):={}
theorem VS (F:Fun K "_law_low" "_law_low" (top 35) f fd) (B:Bs mg) (Z:Cs K mg aH aI)  : FnOk P w K mg base CX0 1 f fd ["_law_causes", "_law_some_here"] (spD K true vA):=by
 have sc:=VC
 refine F.ok sc (fun vs H Q E h=>zH (fun _ _⟨_,_,_,e,_⟩=>by rw [e];rfl) h) (fun cdv A outer s H vs Q E z h=>?_)
 obtain ⟨C,ds,d,le,dp,p,q⟩:=h
 refine ⟨_,(ze (pS (i:=2) sc.nd (pY (yR (K:=K) rfl) B.list (zb (pv 1) zd)))
   (ze (yF PassesOwn.never rfl (yw rfl B.range (zb (pB (zm (K:=K) rfl) B.len (zb (pv 0) zd)) zd)) (pN (i:=3) sc.nd) (zf (yF PassesOwn.never rfl (yw rfl B.range (zb (pB (zm (K:=K) rfl) B.len (zb (pv 0) zd)) zd)) (pN (i:=4) sc.nd) (zf (ye (PW.pt (xE (zr (yd (K:=K) rfl) (pv 4) (pv 2) (rfl)) (xy (yC (pB (xR (K:=K) rfl rfl) B.any (zb (yc rfl (N:=["_law_c", "_law_found"]) (js:=[none,some 2]) (by walk_at"comp_ok") (zE (K:=K) rfl (pX (zu (K:=K) rfl) (pv 0) (pv 4))) (fun _ _ _ _=>(pN (i:=0) (show aX ["_law_c", "_law_found"] by decide +kernel))) (fun _ _ _ _=>yx) (fun _ _ _ _=>(yy (zG (K:=K) rfl) (pv 0) (pv 1) (rfl)))) zd)))))) (zf (yB (yN (K:=K) rfl bK bY bX yf (pv 2) (zb (pv 4) zd)))) zL)))))
   (zf (zy (pv 2))))),?_⟩
 have D:=sc.n 5
 obtain ⟨n,cs,x,rfl,ok,n12,m,a,rfl⟩:=p
 have big:=zD
 have cl:=ok.l
 have g:PyData.int (((cs.map nl).length:Nat):Int)=.int (n:Int):=by rw [aB,cl]
 walk_at"run"
 refine exo true (ds:=x.map fun k:Nat=>.int (k:Int)) (x5 (EvL.imm (U:=false) (EvE.toL (by walk_at"ev")) (xY x))) (by walk_at"sc") ?_
 refine vi (ds:=(List.range n).map fun i:Nat=>.int (i:Int)) true (fun i Y=>∃ u v,Y=[some (.fz false (nls cs)),some (.fz false (nl x)),some (.ow true ((lowI cs x i).map fun k:Nat=>.int (k:Int))),u,v]) (xA (n:=(n:Int)) (zg (EvE.eq (yb (ds:=cs.map nl) (by walk_at"ev")) g) zC) (by omega) (by omega)) ⟨none,none,rfl⟩ ?_ ?_
 ·rintro i d Y' hd ⟨u,v,rfl⟩
  obtain ⟨hi,rfl⟩:=xo hd
  refine ⟨_,egn (by walk_at"sc") ?_⟩
  have o:=LI.all ok m a i
  refine um (ds:=(List.range n).map fun i:Nat=>.int (i:Int)) true (fun j Y=>∃ v,Y=[some (.fz false (nls cs)),some (.fz false (nl x)),some (.ow true ((lowT cs (lowI cs x i) j).map fun k:Nat=>.int (k:Int))),some (.fz true (.int i)),v]) (xA (n:=(n:Int)) (zg (EvE.eq (yb (ds:=cs.map nl) (by walk_at"ev")) g) zC) (by omega) (by omega)) ⟨_,rfl⟩ ?_ ?_
  ·rintro j d Y' hd ⟨v,rfl⟩
   obtain ⟨r,rfl⟩:=xo hd
   refine ⟨_,egn (by walk_at"sc") ?_⟩
   have lt:=o.turn ok j (by omega)
   have ll:=lt.len
   have R:=ok.at r
   have G:=R.2.2
   rw [vT]
   generalize lowT cs (lowI cs x i) j=fs at lt ll
   have t:atI (cs.map nl) (j:Int)=some (nl (cs.getD j [])):=yt R.1
   refine xj (b:=(!decide (j∈fs)) && ((cs.getD j []).map fun c=>decide (c∈fs)).any (fun b=>b)) (zcv 2 (by walk_at"gc") (by walk_at"sc") (xu (EvT.eq (zq (zW (neg:=true) (i:=(j:Int)) (ns:=zl fs) (by walk_at"ev") (EvE.toL (EvE.eq (U:=false) (by walk_at"ev") (ya _))))) (by show (!decide _)=_;rw [zV])) fun _=>zq (tM (EvO.toL (EvO.eq (yp (U:=false) (is:=[0]) (xs:=cs.getD j []) false (fun k:Nat=>.int (k:Int)) (fun c=>.bool (decide (c∈fs))) (fun x _ y _ h=>by cases yO h;rfl) (zN (zI (U:=false) (by walk_at"ev") (by walk_at"ev") t)) (by walk_at"cc") rfl (by decide) (by omega) ?_) (by rw [bC];rfl)))))) (fun h=>?_) (fun h=>?_)
   ·intro c I
    refine egn (by walk_at"sc") (EvE.eq (zW (neg:=false) (i:=(c:Int)) (ns:=zl fs) (by walk_at"ev") (EvE.toL (EvE.eq (U:=false) (by walk_at"ev") (ya _)))) (congrArg PyData.bool zV))
   ·have e:lowS cs fs j=fs ++ [j]:=by unfold lowS;rw [h];rfl
    rw [e]
    exact exa1 (d:=.int j) (by walk_at"gc") (by walk_at"ev") (by walk_at"sc") (by rw [aB];omega) ⟨_,by rw [aN];rfl⟩
   ·have e:lowS cs fs j=fs:=by unfold lowS;rw [h];rfl
    rw [e]
    exact yr ⟨_,rfl⟩
  ·rintro Y' ⟨v,rfl⟩
   rw [yX]
   have e:lowI cs x (i + 1)=lowT cs (lowI cs x i) n:=by show lowT cs (lowI cs x i) cs.length=_;rw [cl]
   rw [<- e]
   exact ⟨_,_,rfl⟩
 ·rintro Y' ⟨u,v,rfl⟩
  rw [yX]
  refine exro (by walk_at"gc") ?_ (.inl ⟨rfl,rfl⟩)
  show _=nl (lowI cs x cs.length)
  rw [cl]
def Wt:Nat->Nat
 | 0=>1
 | j + 1=>1 + (j + 1) * Wt j
def wtS (n:Nat) (ls:List (List Nat)):Nat:=(ls.map fun r=>Wt (n - r.length)).sum
structure RI (n:Nat) (cs:List (List Nat)) (x y:Nat) (fo le:List (List Nat)):Prop where
 f:∀ r∈fo,Pth cs x r.reverse/\r.getLast?=some y
 l:∀ r∈le,Pth cs x r.reverse
 a:∀ r,Pth cs x r.reverse->r.getLast?=some y->r∈fo\/∃ q∈le,q <+: r
 w:fo.length + wtS n le<=Wt (n - 1)
theorem tq (n:Nat) (a b:List (List Nat)):wtS n (a ++ b)=wtS n a + wtS n b:=by
 unfold wtS
 rw [aN,List.sum_append]
theorem Xb (n:Nat):∀ le:List (List Nat),le.length<=wtS n le
 | []=>aW _
 | r :: le=>by
  have:=Xb n le
  have h:1<=Wt (n - r.length):=by
   cases n - r.length with
   | zero=>exact aC _
   | succ j=>show 1<=1 + _;omega
  show le.length + 1<=Wt (n - r.length) + wtS n le
  omega
theorem Wk (n c:Nat):∀ le:List (List Nat),(∀ r∈le,Wt (n - r.length)=c)->wtS n le=le.length * c
 | [],_=>by rw [List.length_nil,Nat.zero_mul];rfl
 | r :: le,h=>by
  have e:wtS n (r :: le)=Wt (n - r.length) + wtS n le:=rfl
  rw [e,h r aK,Wk n c le fun q a=>h q (bA _ a),bS,Nat.add_mul,Nat.one_mul,Nat.add_comm]
theorem ZT {n:Nat} {r:List Nat} (nd:r.Nodup) (lt:∀ y∈r,y < n) (p:Nat->Bool) (d:∀ k,p k=true->k∉r):((List.range n).filter p).length + r.length<=n:=by
 have:=yV n ((List.range n).filter p ++ r) (by
  rw [bU]
  exact ⟨List.nodup_range.filter p,nd,fun a f b g e=>d a (aJ.mp f).2 (e ▸ g)⟩) fun y c=>by
  rcases aQ.mp c with c | c
  ·exact aZ.mp (aJ.mp c).1
  ·exact lt y c
 rwa [aG] at this
theorem zdG {n:Nat} {cs:List (List Nat)} {r:List Nat} (nd:r.Nodup) (lt:∀ y∈r,y < n):wtS n (onR cs r n) + 1<=Wt (n - r.length):=by
 have fl:=ZT nd lt (onB cs r) fun k a=>by
  have:=(bZ.mp a).1
  simpa using this
 rw [Wk n (Wt (n - (r.length + 1))) (onR cs r n) fun q b=>by
  obtain ⟨k,_,rfl⟩:=aF.mp b
  rw [aG]
  rfl]
 unfold onR
 rw [aB]
 cases e:n - r.length with
 | zero =>
  have:((List.range n).filter (onB cs r)).length=0:=by omega
  rw [this,Nat.zero_mul]
  exact aC _
 | succ j =>
  have c:n - (r.length + 1)=j:=by omega
  have d:((List.range n).filter (onB cs r)).length<=j + 1:=by omega
  rw [c]
  show _ + 1<=1 + (j + 1) * Wt j
  have:=Nat.mul_le_mul_right (Wt j) d
  omega
theorem RI.start (n:Nat) (cs:List (List Nat)) (x y:Nat):RI n cs x y [] [[x]]:=⟨fun _ z=>(nomatch z),fun r b=>by rw [aD.mp b];exact .one,fun r h _=>.inr ⟨[x],aD.mpr rfl,by
 have l:=h.last
 rw [List.getLast?_reverse] at l
 cases r with
 | nil=>cases l
 | cons a r=>cases l;exact ⟨r,rfl⟩⟩,by
 rw [List.length_nil,Nat.zero_add]
 show Wt (n - 1) + 0<=_
 omega⟩
theorem RI.found (h:RI n cs x y fo (le ++ [r])) (d:r.getLast?=some y):RI n cs x y (fo ++ [r]) le:=by
 have i:=h.l r (aO _ (aD.mpr rfl))
 have e:r≠[]:=fun z=>by rw [z] at d;cases d
 refine ⟨fun q b=>?_,fun q b=>h.l q (bR _ b),fun q p z=>?_,?_⟩
 ·rcases aQ.mp b with b | b
  ·exact h.f q b
  ·rw [aD.mp b];exact ⟨i,d⟩
 ·rcases h.a q p z with a | ⟨s,c,g⟩
  ·exact .inl (bR _ a)
  ·rcases aQ.mp c with c | c
   ·exact .inr ⟨s,c,g⟩
   ·rw [aD.mp c] at g
    have nd:q.Nodup:=xZ p.nd
    rw [zdv g nd (d.trans z.symm) e]
    exact .inl (aO _ (aD.mpr rfl))
 ·have w:=h.w
  have j:=Xb n [r]
  rw [tq] at w
  rw [aG]
  have:[r].length=1:=rfl
  omega
theorem RI.on (ok:ShOk n cs) (i:x < n) (h:RI n cs x y fo (le ++ [r])) (m:r.getLast?≠some y):RI n cs x y fo (le ++ onR cs r n)/\wtS n (le ++ onR cs r n) < wtS n (le ++ [r]):=by
 have d:=h.l r (aO _ (aD.mpr rfl))
 have nd:r.Nodup:=xZ d.nd
 have lt:∀ z∈r,z < n:=fun z o=>d.lt ok i z (cI.mpr o)
 have s:=zdG (cs:=cs) nd lt
 have j:wtS n [r]=Wt (n - r.length):=by show Wt (n - r.length) + 0=_;omega
 have w:=h.w
 rw [tq,j] at w
 refine ⟨⟨h.f,fun q b=>?_,fun q p z=>?_,by rw [tq];omega⟩,by rw [tq,tq,j];omega⟩
 ·rcases aQ.mp b with b | b
  ·exact h.l q (bR _ b)
  ·obtain ⟨k,v,rfl⟩:=aF.mp b
   exact (Xz d).mpr (aJ.mp v).2
 ·rcases h.a q p z with a | ⟨t,c,e⟩
  ·exact .inl a
  ·rcases aQ.mp c with c | c
   ·exact .inr ⟨t,bR _ c,e⟩
   ·rw [aD.mp c] at e
    obtain ⟨u,rfl⟩:=e
    cases u with
    | nil=>rw [bG] at z;exact absurd z m
    | cons k u =>
     have g:Pth cs x (r ++ [k]).reverse:=UD (t:=u) (by rw [List.append_assoc];exact p) (by simp)
     have A:=(Xz d).mp g
     have kn:k < n:=p.lt ok i k (by rw [cI];exact aO _ aK)
     exact .inr ⟨r ++ [k],aO _ (aF.mpr ⟨k,aJ.mpr ⟨aZ.mpr kn,A⟩,rfl⟩),⟨u,by rw [cR];rfl⟩⟩
theorem zeL (h:n<=6):Wt (n - 1)<=326:=by
 have:n - 1=0\/n - 1=1\/n - 1=2\/n - 1=3\/n - 1=4\/n - 1=5:=by omega
 rcases this with e | e | e | e | e | e <;> rw [e] <;> decide
def RsOk (cs:List (List Nat)) (x y:Nat) (rs:List (List Nat)):Prop:=∀ r,r∈rs↔Pth cs x r.reverse/\r.getLast?=some y
theorem RI.end (h:RI n cs x y fo []):RsOk cs x y fo:=fun r=>⟨fun z=>h.f r z,fun z=>by
 rcases h.a r z.1 z.2 with a | ⟨_,q,_⟩
 ·exact a
 ·cases q⟩
def v8 (ds:List PyData) (G:PyData->Prop):Prop:=∃ (n:Nat) (cs:List (List Nat)) (x y:Nat),ds=[nls cs,.int x,.int y]/\ShOk n cs/\n<=6/\x < n/\G=fun d=>∃ rs,RsOk cs x y rs/\rs.length<=326/\d=nls rs
theorem Xo:zA ["_law_causes", "_law_x", "_law_y", "_law_found", "_law_left", "_law_road", "_law_k"] ["_law_causes", "_law_x", "_law_y"] (zo (top 36)):={}
theorem XR (F:Fun K "_law_roads" "_law_roads" (top 36) f fd) (B:Bs mg) (Z:Cs K mg aH aI)  : FnOk P w K mg base CX0 1 f fd ["_law_causes", "_law_x", "_law_y"] (spW K true v8):=by
 have sc:=Xo
 refine F.ok sc (fun vs H Q E h=>Zh (fun _ _⟨_,_,_,_,e,_⟩=>by rw [e];rfl) h) (fun cdv A outer s H vs Q E u h=>?_)
 obtain ⟨Fh,ds,G,le,dp,p,q⟩:=h
 refine ⟨_,(ze (pS (i:=3) sc.nd (zU zd))
   (ze (pS (i:=4) sc.nd (zU (zb (zU (zb (pv 1) zd)) zd)))
   (ze (vt PassesOwn.never (zr (zbO (K:=K) rfl u.units) (pv 4) (zU zd) (zF _)) (ze (pS (i:=5) sc.nd (XG (K:=K) rfl bK fC fB V1 (pv 4)))
   (zf (ye (zr uP (pX (zu (K:=K) rfl) (pv 5) (ub wq zh)) (pv 2) (zF _)) (zf (yB (yN (K:=K) rfl bK bY bX yf (pv 3) (zb (pv 5) zd)))) (zf (yF PassesOwn.never rfl (yw rfl B.range (zb (pB (zm (K:=K) rfl) B.len (zb (pv 0) zd)) zd)) (pN (i:=6) sc.nd) (zf (ye (PW.pt (xE (zr (yd (K:=K) rfl) (pv 6) (pv 5) (rfl)) (xy (PW.pt (xi (zr (zG (K:=K) rfl) (pv 6) (pX (zu (K:=K) rfl) (pv 0) (pX (zu (K:=K) rfl) (pv 5) (ub wq zh))) (rfl)) (wP (zr (zG (K:=K) rfl) (pX (zu (K:=K) rfl) (pv 5) (ub wq zh)) (pX (zu (K:=K) rfl) (pv 0) (pv 6)) (rfl)))))))) (zf (yB (yN (K:=K) rfl bK bY bX yf (pv 4) (zb (zJ (wI (K:=K) rfl) (pv 5) (zU (zb (pv 6) zd))) zd)))) zL))))))))
   (zf (zy (pv 3)))))),?_⟩
 have T:=sc.n 7
 obtain ⟨n,cs,x,y,rfl,ok,fG,N,rfl⟩:=p
 have big:=zD
 have cl:=ok.l
 have fF:=zeL fG
 have V:PyData.int (((cs.map nl).length:Nat):Int)=.int (n:Int):=by rw [aB,cl]
 refine uA le dp q T (by walk_at"st") ?_
 refine exo true (ds:=([]:List (List Nat)).map nl) (zZ (ds:=[]) zC (by decide)) (by walk_at"sc") ?_
 refine exo true (ds:=[[x]].map nl) (EvO.eq (zZ (ds:=[.list [.int (x:Int)]]) (zg (EvO.toE (zZ (ds:=[.int (x:Int)]) (zg (by walk_at"ev") zC) (by show 1<=sizeLine;omega))) zC) (by show 1<=sizeLine;omega)) rfl) (by walk_at"sc") ?_
 refine yK (fun Y=>∃ fo R C a,RI n cs x y fo []/\Y=[some (.fz false (nls cs)),some (.fz false (.int x)),some (.fz false (.int y)),some (.ow true (fo.map nl)),R,C,a]) (vF (fun m Y=>∃ (fo g:List (List Nat)) (C a:Option DV),RI n cs x y fo g/\m=wtS n g/\Y=[some (.fz false (nls cs)),some (.fz false (.int x)),some (.fz false (.int y)),some (.ow true (fo.map nl)),some (.ow true (g.map nl)),C,a]) _ ⟨[],[[x]],none,none,.start n cs x y,rfl,rfl⟩ ?_) ?_
 ·rintro m Y' ⟨fo,g,C,a,t,rfl,rfl⟩
  have w:=t.w
  refine ⟨!decide (g.length=0),EvT.eq (zq (Z0 (neg:=true) (d:=nls g) (f:=.list []) (EvL.toD (U:=true) (by walk_at"ev")) (EvE.toD (U:=true) (EvO.toE (zZ (ds:=[]) zC (by decide)))) (ue _) rfl)) (by show (!PyData.eqv _ _)=_;rw [zaR]),fun h=>?_,fun h=>?_⟩
  ·have h':g.length≠0:=by simpa using h
   obtain ⟨o,r,rfl⟩:∃ o r,g=o ++ [r]:=by
    rcases dC g with rfl | ⟨D,k,e⟩
    ·exact absurd rfl h'
    ·exact ⟨D,k,by rw [e,dD]⟩
   have u:=t.l r (aO _ (aD.mpr rfl))
   have lt:∀ z∈r,z < n:=fun z W=>u.lt ok N z (cI.mpr W)
   have rl:r.length<=n:=yV n r (xZ u.nd) lt
   obtain ⟨S,v,I⟩:∃ S v,r=S ++ [v]:=by
    rcases dC r with rfl | ⟨D,k,e⟩
    ·cases u
    ·exact ⟨D,k,by rw [e,dD]⟩
   have J:r.getLast?=some v:=by rw [I,List.getLast?_append];rfl
   have X:r.getLastD 0=v:=by rw [dR,J];rfl
   have fE:v < n:=lt v (by rw [I];exact aO _ (aD.mpr rfl))
   have L:atI (r.map fun k:Nat=>PyData.int (k:Int)) (-1)=some (.int (v:Int)):=by rw [I,aN];exact vI _ _
   have wl:=Xb n o
   have wo:=tq n o [r]
   have w1:=Xb n [r]
   rw [show (o ++ [r]).map nl=o.map nl ++ [nl r] from by rw [aN];rfl]
   refine yK (·=[some (.fz false (nls cs)),some (.fz false (.int x)),some (.fz false (.int y)),some (.ow true (fo.map nl)),some (.ow true (o.map nl)),some (.fz true (nl r)),a]) (X3 (ds:=o.map nl) (d:=nl r) (i:=4) (j:=5) (by walk_at"gc") (by decide) (by walk_at"sc") (by walk_at"sc") rfl) ?_
   rintro a0 rfl
   refine xj (b:=decide ((v:Int)=(y:Int))) (zq (ur (zI (U:=false) (by walk_at"ev") (uo (i:=1) (by walk_at"ev")) L) (by walk_at"ev"))) (fun c=>?_) (fun c=>?_)
   ·have c:v=y:=by have:=of_decide_eq_true c;omega
    refine exa1 (d:=nl r) (by walk_at"gc") (by walk_at"ev") (by walk_at"sc") (by rw [aB];omega) ?_
    refine ⟨_,?_,fo ++ [r],o,_,_,t.found (by rw [J,c]),rfl,by rw [aN];rfl⟩
    rw [wo]
    have:[r].length=1:=rfl
    omega
   ·have c:v≠y:=by have:=of_decide_eq_false c;omega
    have on:=t.on ok N (by rw [J];exact fun z=>c (bI z))
    refine um (ds:=(List.range n).map fun i:Nat=>.int (i:Int)) true (fun j Y=>∃ a,Y=[some (.fz false (nls cs)),some (.fz false (.int x)),some (.fz false (.int y)),some (.ow true (fo.map nl)),some (.ow true ((o ++ onR cs r j).map nl)),some (.fz true (nl r)),a]) (xA (n:=(n:Int)) (zg (EvE.eq (yb (ds:=cs.map nl) (by walk_at"ev")) V) zC) (by omega) (by omega)) ⟨_,by rw [show onR cs r 0=[] from rfl,bG]⟩ ?_ ?_
    ·rintro j d M hd ⟨a,rfl⟩
     obtain ⟨hj,rfl⟩:=xo hd
     refine ⟨_,egn (by walk_at"sc") ?_⟩
     have aj:atI (cs.map nl) (j:Int)=some (nl (cs.getD j [])):=yt (ok.at hj).1
     have ac:atI (cs.map nl) (v:Int)=some (nl (cs.getD v [])):=yt (ok.at fE).1
     have ol:(onR cs r j).length<=j:=by
      unfold onR
      rw [aB]
      have:=bP (onB cs r) (List.range j)
      rwa [aV] at this
     refine xj (b:=onB cs r j) (EvT.eq (xu (EvT.eq (zq (zW (neg:=true) (i:=(j:Int)) (ns:=zl r) (by walk_at"ev") (EvE.toL (EvE.eq (U:=false) (by walk_at"ev") (ya _))))) (by show (!decide _)=_;rw [zV])) fun _=>yG (EvT.eq (zq (zW (neg:=false) (i:=(j:Int)) (ns:=zl (cs.getD v [])) (by walk_at"ev") (EvE.toL (EvE.eq (U:=false) (zI (U:=false) (by walk_at"ev") (zI (U:=false) (by walk_at"ev") (uo (i:=1) (by walk_at"ev")) L) ac) (ya _))))) zV) fun _=>EvT.eq (zq (zW (neg:=false) (i:=(v:Int)) (ns:=zl (cs.getD j [])) (zI (U:=false) (by walk_at"ev") (uo (i:=1) (by walk_at"ev")) L) (EvE.toL (EvE.eq (U:=false) (zI (U:=false) (by walk_at"ev") (by walk_at"ev") aj) (ya _))))) zV) (by unfold onB;rw [X])) (fun h=>?_) (fun h=>?_)
     ·refine exa1 (d:=nl (r ++ [j])) (by walk_at"gc") (EvO.toE (EvO.eq (wZ (xs:=r.map fun k:Nat=>.int (k:Int)) (ys:=[.int (j:Int)]) (by walk_at"ev") (EvO.toL (zZ (ds:=[.int (j:Int)]) (zg (by walk_at"ev") zC) (by show 1<=sizeLine;omega))) (by rw [aB];show _ + 1<=_;omega)) (by rw [aN];rfl))) (by walk_at"sc") (by rw [aB,aG];omega) ?_
      exact ⟨_,by rw [UH,if_pos h,<- cR,aN (l₂:=[r ++ [j]])];rfl⟩
     ·exact yr ⟨_,by rw [UH,if_neg (by rw [h];exact aY)]⟩
    ·rintro M ⟨a,rfl⟩
     rw [yX]
     exact ⟨_,on.2,fo,_,_,_,on.1,rfl,rfl⟩
  ·have h':g=[]:=List.length_eq_zero_iff.mp (by simpa using h)
   subst h'
   exact ⟨fo,_,_,_,t,rfl⟩
 ·rintro Y' ⟨fo,R,C,a,t,rfl⟩
  have w:=t.w
  exact exro (by walk_at"gc") ⟨fo,t.end,by omega,rfl⟩ (.inl ⟨rfl,rfl⟩)
def yu (cs:List (List Nat)) (r:List Nat) (j:Nat):List Nat:=((List.range j).filter fun i=>veeB cs r (i + 1)).map fun i=>r.getD (i + 1) 0
theorem Zq (cs:List (List Nat)) (r:List Nat) (j:Nat):yu cs r (j + 1)=if veeB cs r (j + 1)=true then yu cs r j ++ [r.getD (j + 1) 0] else yu cs r j:=by
 unfold yu
 rw [dF,cQ]
 by_cases c:veeB cs r (j + 1)=true
 ·rw [if_pos c,dS (by exact c),aN];rfl
 ·rw [if_neg c,dU (by exact c),cY,bG]
theorem Ti (cs:List (List Nat)) (r:List Nat) (j:Nat):(yu cs r j).length<=j:=by
 unfold yu
 rw [aB]
 have:=bP (fun i=>veeB cs r (i + 1)) (List.range j)
 rwa [aV] at this
def xz (ds:List PyData) (d:PyData):Prop:=∃ (n:Nat) (cs:List (List Nat)) (r:List Nat),ds=[nls cs,nl r]/\ShOk n cs/\(∀ z∈r,z < n)/\r.length<=1000/\d=nl (yu cs r (r.length - 2))
theorem Xm:zA ["_law_causes", "_law_road", "_law_found", "_law_at"] ["_law_causes", "_law_road"] (zo (top 37)):={}
theorem XO (F:Fun K "_law_turns" "_law_turns" (top 37) f fd) (B:Bs mg) (Z:Cs K mg aH aI)  : FnOk P w K mg base CX0 1 f fd ["_law_causes", "_law_road"] (spD K true xz):=by
 have sc:=Xm
 refine F.ok sc (fun vs H Q E h=>zH (fun _ _⟨_,_,_,e,_⟩=>by rw [e];rfl) h) (fun cdv A outer s H vs Q E g h=>?_)
 obtain ⟨v,ds,d,le,dp,p,q⟩:=h
 refine ⟨_,(ze (pS (i:=2) sc.nd (zU zd))
   (ze (yF PassesOwn.never rfl (tI rfl B.range (zb zh (zb (zJ vC (pB (zm (K:=K) rfl) B.len (zb (pv 1) zd)) zh) zd))) (pN (i:=3) sc.nd) (zf (ye (PW.pt (xE (zr (zG (K:=K) rfl) (pX (zu (K:=K) rfl) (pv 1) (zJ vC (pv 3) zh)) (pX (zu (K:=K) rfl) (pv 0) (pX (zu (K:=K) rfl) (pv 1) (pv 3))) (rfl)) (xy (zr (zG (K:=K) rfl) (pX (zu (K:=K) rfl) (pv 1) (zJ yD (pv 3) zh)) (pX (zu (K:=K) rfl) (pv 0) (pX (zu (K:=K) rfl) (pv 1) (pv 3))) (rfl))))) (zf (yB (yN (K:=K) rfl bK bY bX yf (pv 2) (zb (pX (zu (K:=K) rfl) (pv 1) (pv 3)) zd)))) zL)))
   (zf (zy (pv 2))))),?_⟩
 have y:=sc.n 4
 obtain ⟨n,cs,r,rfl,ok,g,z,rfl⟩:=p
 have big:=zD
 have o:PyData.int (((r.map fun k:Nat=>PyData.int (k:Int)).length:Nat):Int)=.int (r.length:Int):=by rw [aB]
 walk_at"run"
 refine exo true (ds:=([]:List Nat).map fun k:Nat=>.int (k:Int)) (zZ (ds:=[]) zC (by decide)) (by walk_at"sc") ?_
 refine vi (ds:=(List.range ((r.length:Int) - 1 - 1).toNat).map fun i:Nat=>.int (1 + (i:Int))) true (fun i Y=>∃ x,Y=[some (.fz false (nls cs)),some (.fz false (nl r)),some (.ow true ((yu cs r i).map fun k:Nat=>.int (k:Int))),x]) (X9 (m:=1) (n:=(r.length:Int) - 1) (zg (by walk_at"ev") (zg (ZW (EvE.eq (yb (ds:=r.map fun k:Nat=>PyData.int (k:Int)) (by walk_at"ev")) o) (by walk_at"ev")) zC)) (by omega)) ⟨_,rfl⟩ ?_ ?_
 ·rintro i d Y' hd ⟨x,rfl⟩
  obtain ⟨j,t,rfl⟩:=xN hd
  obtain ⟨a,e⟩:=aP.mp t
  rw [List.getElem_range] at e
  rw [aV] at a
  subst e
  refine ⟨_,egn (by walk_at"sc") ?_⟩
  have il:i + 2 < r.length:=by omega
  have kn:=Vn g (show i + 1 < r.length by omega)
  have c:atI (r.map fun k:Nat=>PyData.int (k:Int)) (1 + (i:Int))=some (.int (r.getD (i + 1) 0:Nat)):=by rw [show 1 + (i:Int)=((i + 1:Nat):Int) by omega];exact xb (by omega)
  have u:atI (r.map fun k:Nat=>PyData.int (k:Int)) (1 + (i:Int) - 1)=some (.int (r.getD i 0:Nat)):=by rw [show 1 + (i:Int) - 1=(i:Int) by omega];exact xb (by omega)
  have ap:atI (r.map fun k:Nat=>PyData.int (k:Int)) (1 + (i:Int) + 1)=some (.int (r.getD (i + 1 + 1) 0:Nat)):=by rw [show 1 + (i:Int) + 1=((i + 2:Nat):Int) by omega];exact xb (by omega)
  have l:atI (cs.map nl) (r.getD (i + 1) 0:Nat)=some (nl (cs.getD (r.getD (i + 1) 0) [])):=yt (ok.at kn).1
  have C:=Ti cs r i
  refine xj (b:=veeB cs r (i + 1)) (xu (EvT.eq (zq (zW (neg:=false) (i:=(r.getD i 0:Nat)) (ns:=zl (cs.getD (r.getD (i + 1) 0) [])) (zI (U:=false) (by walk_at"ev") (by walk_at"ev") u) (EvE.toL (EvE.eq (U:=false) (zI (U:=false) (by walk_at"ev") (zI (U:=false) (by walk_at"ev") (by walk_at"ev") c) l) (ya _))))) zV) fun _=>EvT.eq (zq (zW (neg:=false) (i:=(r.getD (i + 1 + 1) 0:Nat)) (ns:=zl (cs.getD (r.getD (i + 1) 0) [])) (zI (U:=false) (by walk_at"ev") (by walk_at"ev") ap) (EvE.toL (EvE.eq (U:=false) (zI (U:=false) (by walk_at"ev") (zI (U:=false) (by walk_at"ev") (by walk_at"ev") c) l) (ya _))))) zV) (fun h=>?_) (fun h=>?_)
  ·refine exa1 (d:=.int (r.getD (i + 1) 0:Nat)) (by walk_at"gc") (EvE.imm (U:=false) (zI (U:=false) (by walk_at"ev") (by walk_at"ev") c) rfl) (by walk_at"sc") (by rw [aB];omega) ⟨_,by rw [Zq,if_pos h,aN];rfl⟩
  ·exact yr ⟨_,by rw [Zq,if_neg (by rw [h];exact aY)]⟩
 ·rintro Y' ⟨x,rfl⟩
  rw [aB,aV,show ((r.length:Int) - 1 - 1).toNat=r.length - 2 by omega]
  exact exro (by walk_at"gc") rfl (.inl ⟨rfl,rfl⟩)
def midL (r:List Nat):List Nat:=(List.range (r.length - 2)).map fun i=>r.getD (i + 1) 0
theorem zcC (g:Nat->PyData) (r:List Nat):cutD (r.map g) (some 1) (some (-1))=(midL r).map g:=by
 unfold cutD midL
 have a:HT.sIx (r.map g).length 0 (some 1)=min 1 r.length:=by
  have:=HT.Xr (r.map g).length 0 1
  rw [aB] at this ⊢
  exact this
 have b:HT.sIx (r.map g).length (r.map g).length (some (-1))=r.length - 1:=by
  show (if (-1:Int) < 0 then ((-1:Int) + ((r.map g).length:Int)).toNat else min (-1:Int).toNat (r.map g).length)=_
  rw [if_pos (by decide),aB]
  omega
 rw [a,b,bC]
 refine List.ext_getElem? fun i=>?_
 rw [List.getElem?_take]
 by_cases h:i < r.length - 2
 ·rw [if_pos (by omega),List.getElem?_drop,aU,show min 1 r.length + i=i + 1 by omega,zQ (show i + 1 < r.length by omega) (d:=0),aU,cN h]
  rfl
 ·rw [if_neg (by omega),aU,cB (by rw [aV];omega)]
  rfl
def wf (cs:List (List Nat)):PyData:=.list ((List.range cs.length).map fun k=>nl (lowF cs [k]))
def okB (cs:List (List Nat)) (r sm:List Nat) (k:Nat):Bool:=bif decide (k∈yu cs r (r.length - 2)) then sm.any (fun j=>decide (j∈lowF cs [k])) else !decide (k∈sm)
def xC (cs:List (List Nat)) (r sm:List Nat):Bool:=(midL r).all (okB cs r sm)
theorem XJ (k:Nat):[k].Nodup:=by simp
theorem XL {n k:Nat} (h:k < n):∀ y∈[k],y < n:=fun y a=>by rw [aD.mp a];exact h
def xM (ds:List PyData) (d:PyData):Prop:=∃ (n:Nat) (cs:List (List Nat)) (r sm:List Nat),ds=[nls cs,wf cs,nl r,nl sm]/\ShOk n cs/\n<=12/\(∀ z∈r,z < n)/\r.length<=1000/\sm.length<=1000/\d=.bool (xC cs r sm)
theorem Ww:zA ["_law_causes", "_law_lows_here", "_law_road", "_law_some_here", "_law_turns_here", "_law_k"] ["_law_causes", "_law_lows_here", "_law_road", "_law_some_here"] (zo (top 38)):={}
theorem WS (F:Fun K "_law_open" "_law_open" (top 38) f fd) (B:Bs mg) (Z:Cs K mg aH aI) (g:zz P w K mg base CX0 "_law_turns" ["_law_causes", "_law_road"] 1 (spD K true xz)):FnOk P w K mg base CX0 2 f fd ["_law_causes", "_law_lows_here", "_law_road", "_law_some_here"] (spD K true xM):=by
 have sc:=Ww
 refine F.ok sc (fun vs H Q E h=>zH (fun _ _⟨_,_,_,_,e,_⟩=>by rw [e];rfl) h) (fun cdv A outer s H vs Q E t h=>?_)
 obtain ⟨J,ds,d,le,dp,p,q⟩:=h
 refine ⟨_,(ze (pS (i:=4) sc.nd (pF g t (zb (pv 0) (zb (pv 2) zd))))
   (ze (yF PassesOwn.never rfl (zE (K:=K) rfl (uK (ux (K:=K) rfl) (pv 2) (uJ zh) (uJ (ub wq zh)))) (pN (i:=5) sc.nd) (zf (ye (zr (zG (K:=K) rfl) (pv 5) (pv 4) (rfl)) (zf (ye (wQ (yC (pB (xR (K:=K) rfl rfl) B.any (zb (yc rfl (N:=["_law_j", "_law_lows_here", "_law_k"]) (js:=[none,some 1,some 5]) (by walk_at"comp_ok") (zE (K:=K) rfl (pv 3)) (fun _ _ _ _=>(pN (i:=0) (show aX ["_law_j", "_law_lows_here", "_law_k"] by decide +kernel))) (fun _ _ _ _=>yx) (fun _ _ _ _=>(yy (zG (K:=K) rfl) (pv 0) (pX (zu (K:=K) rfl) (pv 1) (pv 2)) (rfl)))) zd)))) (zf (zy vf)) zL)) (zf (ye (zr (zG (K:=K) rfl) (pv 5) (pv 3) (rfl)) (zf (zy vf)) zL)))))
   (zf (zy vf)))),?_⟩
 have L:=sc.n 6
 obtain ⟨n,cs,r,sm,rfl,ok,n12,t,G,sl,rfl⟩:=p
 have big:=zD
 have cl:=ok.l
 have M:(midL r).length=r.length - 2:=by unfold midL;rw [List.length_map,List.length_range]
 walk_at"run"
 refine exs true (d:=nl (yu cs r (r.length - 2))) (zk (by walk_at"ev") ⟨n,cs,r,rfl,ok,t,G,rfl⟩) (by walk_at"sc") ?_
 refine vi (ds:=(midL r).map fun k:Nat=>.int (k:Int)) false (fun i Y=>((midL r).take i).all (okB cs r sm)=true/\∃ x,Y=[some (.fz false (nls cs)),some (.fz false (wf cs)),some (.fz false (nl r)),some (.fz false (nl sm)),some (.fz true (nl (yu cs r (r.length - 2)))),x]) (zN (EvO.toE (EvO.eq (xQ (ds:=r.map fun k:Nat=>.int (k:Int)) (lo:=some 1) (hi:=some (-1)) (EvE.toL (by walk_at"ev")) (uY (by walk_at"ev")) (uY (uo (i:=1) (by walk_at"ev")))) (zcC _ r)))) ⟨by rw [dQ];rfl,none,rfl⟩ ?_ ?_
 ·rintro i d Y' hd ⟨u,x,rfl⟩
  obtain ⟨k,v,rfl⟩:=xN hd
  have C:=aS v
  have kr:k∈r:=by
   obtain ⟨j,D,e⟩:=aF.mp C
   rw [<- e]
   exact aS (zQ (d:=0) (by have:=aZ.mp D;omega))
  have kn:=t k kr
  refine ⟨_,egn (by walk_at"sc") ?_⟩
  have I:atI ((List.range cs.length).map fun k=>nl (lowF cs [k])) (k:Int)=some (nl (lowF cs [k])):=yt (cN (by rw [cl];exact kn))
  have o:okB cs r sm k=false->xC cs r sm=false:=fun z=>by
   unfold xC
   refine cS.mpr fun w=>?_
   rw [cC] at w
   rw [w k C] at z
   cases z
  have m:okB cs r sm k=true->((midL r).take (i + 1)).all (okB cs r sm)=true:=fun z=>by
   rw [take_succ v,List.all_append,u,Bool.true_and,eG,z]
   rfl
  refine xj (b:=decide (k∈yu cs r (r.length - 2))) (EvT.eq (zq (zW (neg:=false) (i:=(k:Int)) (ns:=zl (yu cs r (r.length - 2))) (by walk_at"ev") (EvE.toL (EvE.eq (U:=false) (by walk_at"ev") (ya _))))) zV) (fun h=>?_) (fun h=>?_)
  ·refine xj (b:=!((sm.map fun j=>decide (j∈lowF cs [k])).any fun b=>b)) (xJ (zq (tM (EvO.toL (EvO.eq (yp (U:=false) (is:=[0]) (xs:=sm) false (fun k:Nat=>.int (k:Int)) (fun j=>.bool (decide (j∈lowF cs [k]))) (fun x _ y _ h=>by cases yO h;rfl) (zN (by walk_at"ev")) (by walk_at"cc") rfl (by decide) (by omega) ?_) (by rw [bC];rfl)))))) (fun c=>?_) (fun c=>?_)
   ·intro j D
    refine egn (by walk_at"sc") (EvE.eq (zW (neg:=false) (i:=(j:Int)) (ns:=zl (lowF cs [k])) (by walk_at"ev") (EvE.toL (EvE.eq (U:=false) (zI (U:=false) (EvE.toL (EvE.eq (a:=wf cs) (by walk_at"ev") rfl)) (by walk_at"ev") I) (ya _)))) (congrArg PyData.bool zV))
   ·rw [cZ] at c
    have c:sm.any ((fun b=>b)∘fun j=>decide (j∈lowF cs [k]))=false:=by
     cases z:sm.any ((fun b=>b)∘fun j=>decide (j∈lowF cs [k])) with
     | true=>rw [z] at c;cases c
     | false=>rfl
    exact zM true (by walk_at"ev") (congrArg PyData.bool (o (by unfold okB;rw [h];exact c)).symm) (.inl ⟨rfl,rfl⟩)
   ·rw [cZ] at c
    have c:sm.any ((fun b=>b)∘fun j=>decide (j∈lowF cs [k]))=true:=by
     cases z:sm.any ((fun b=>b)∘fun j=>decide (j∈lowF cs [k])) with
     | true=>rfl
     | false=>rw [z] at c;cases c
    exact yr ⟨m (by unfold okB;rw [h];exact c),_,rfl⟩
  ·refine xj (b:=decide (k∈sm)) (EvT.eq (zq (zW (neg:=false) (i:=(k:Int)) (ns:=zl sm) (by walk_at"ev") (EvE.toL (EvE.eq (U:=false) (by walk_at"ev") (ya _))))) zV) (fun c=>?_) (fun c=>?_)
   ·exact zM true (by walk_at"ev") (congrArg PyData.bool (o (by unfold okB;rw [h,c];rfl)).symm) (.inl ⟨rfl,rfl⟩)
   ·exact yr ⟨m (by unfold okB;rw [h,c];rfl),_,rfl⟩
 ·rintro Y' ⟨u,x,rfl⟩
  rw [aB,cT] at u
  exact zM true (by walk_at"ev") (by unfold xC;rw [u]) (.inl ⟨rfl,rfl⟩)
theorem wX {n:Nat} (ok:ShOk n cs) {k j:Nat} (a:k < n):j∈lowF cs [k]↔Dsp.Anc (paC cs) k j:=by
 rw [UL ok (XL a) (XJ k),zY,wj ok a]
theorem zeD {r:List Nat} (nd:r.Nodup) {i j:Nat} (hi:i < r.length) (b:j < r.length) (e:r.getD i 0=r.getD j 0):i=j:=by
 have c:r[i]?=some (r.getD i 0):=zQ hi
 have a:r[j]?=some (r.getD j 0):=zQ b
 rw [<- e] at a
 exact tJ nd c a
theorem TK {cs:List (List Nat)} {r:List Nat} (nd:r.Nodup) {i:Nat} (hi:i + 2 < r.length):r.getD (i + 1) 0∈yu cs r (r.length - 2)↔veeB cs r (i + 1)=true:=by
 unfold yu
 rw [aF]
 constructor
 ·rintro ⟨j,b,e⟩
  obtain ⟨a,c⟩:=aJ.mp b
  have a:=aZ.mp a
  have:=zeD nd (by omega) (by omega) e
  have:j=i:=by omega
  rw [<- this]
  exact c
 ·intro h
  exact ⟨i,aJ.mpr ⟨aZ.mpr (by omega),h⟩,rfl⟩
theorem zae (ok:ShOk n cs) (nd:r.Nodup) (f:∀ z∈r,z < n) (hi:i + 2 < r.length):okB cs r sm (r.getD (i + 1) 0)=true↔Dsp.Cd (paC cs) (InL sm) (r.getD i 0) (r.getD (i + 1) 0) (r.getD (i + 2) 0):=by
 have kn:=Vn f (show i + 1 < r.length by omega)
 have d:=TK (cs:=cs) nd hi
 have e:veeB cs r (i + 1)=true↔paC cs (r.getD i 0) (r.getD (i + 1) 0)/\paC cs (r.getD (i + 2) 0) (r.getD (i + 1) 0):=by
  unfold veeB
  rw [bZ,decide_eq_true_iff,decide_eq_true_iff]
  exact Iff.rfl
 unfold okB
 by_cases c:r.getD (i + 1) 0∈yu cs r (r.length - 2)
 ·rw [decide_eq_true c,cond_true,bQ]
  have v:=e.mp (d.mp c)
  constructor
  ·rintro ⟨j,b,z⟩
   exact ⟨fun _=>⟨j,b,(wX ok kn).mp (of_decide_eq_true z)⟩,fun z=>absurd v z⟩
  ·rintro ⟨h,_⟩
   obtain ⟨j,b,a⟩:=h v
   exact ⟨j,b,decide_eq_true ((wX ok kn).mpr a)⟩
 ·rw [decide_eq_false c,cond_false]
  have v:¬ (paC cs (r.getD i 0) (r.getD (i + 1) 0)/\paC cs (r.getD (i + 2) 0) (r.getD (i + 1) 0)):=fun z=>c (d.mpr (e.mpr z))
  constructor
  ·intro h
   exact ⟨fun z=>absurd z v,fun _ z=>by rw [decide_eq_true (show r.getD (i + 1) 0∈sm from z)] at h;cases h⟩
  ·intro h
   rw [decide_eq_false (h.2 v)]
   rfl
theorem uN (ok:ShOk n cs) (c:x < n) (h:Pth cs x r.reverse):xC cs r sm=true↔Dsp.Ok (paC cs) (InL sm) r.reverse:=by
 have nd:=xZ h.nd
 have b:∀ z∈r,z < n:=fun z d=>h.lt ok c z (cI.mpr d)
 unfold xC midL
 rw [List.all_map,cC,zac]
 constructor
 ·intro a
  refine ⟨zbE h,fun i hi=>?_⟩
  rw [List.length_reverse] at hi
  have:=a (r.length - 3 - i) (aZ.mpr (by omega))
  have:=((zae ok nd b (i:=r.length - 3 - i) (by omega)).mp this).sy
  rw [wF (by omega),wF (by omega),wF (by omega)]
  rw [show r.length - 1 - (i + 2)=r.length - 3 - i by omega,show r.length - 1 - (i + 1)=r.length - 3 - i + 1 by omega,show r.length - 1 - i=r.length - 3 - i + 2 by omega]
  exact this.sy
 ·rintro ⟨_,a⟩ i hi
  have hi:=aZ.mp hi
  have:=a (r.length - 3 - i) (by rw [List.length_reverse];omega)
  rw [wF (by omega),wF (by omega),wF (by omega),show r.length - 1 - (r.length - 3 - i + 2)=i by omega,show r.length - 1 - (r.length - 3 - i + 1)=i + 1 by omega,show r.length - 1 - (r.length - 3 - i)=i + 2 by omega] at this
  exact (zae ok nd b (by omega)).mpr this
theorem YB (ok:ShOk n cs) (d:Dg cs) (f:x < n) (h:RsOk cs x y rs) (ns:x∉sm):(!rs.any fun r=>xC cs r sm)=brB cs sm x y:=by
 obtain ⟨rk,d⟩:=d
 have g:=Dsp.vp (pa:=paC cs) (Z:=InL sm) (x:=x) (y:=y) (rk:=rk) (fun a b p=>d b a p) ns
 by_cases c:∃ w,Dsp.Bb (paC cs) (InL sm) x y w
 ·rw [zba c]
  obtain ⟨l,i,j,k,m⟩:=g.mp c
  have p:=VJ i j m
  have e:l.reverse.reverse=l:=List.reverse_reverse l
  have:rs.any (fun r=>xC cs r sm)=true:=bQ.mpr ⟨l.reverse,(h _).mpr ⟨by rw [e];exact p,by rw [List.getLast?_reverse];exact k⟩,(uN ok f (by rw [e];exact p)).mpr (by rw [e];exact i)⟩
  rw [this]
  rfl
 ·rw [zc9 c]
  have:rs.any (fun r=>xC cs r sm)=false:=cS.mpr fun z=>by
   obtain ⟨r,q,o⟩:=bQ.mp z
   have p:=(h r).mp q
   exact c (g.mpr ⟨r.reverse,(uN ok f p.1).mp o,p.1.nd,by rw [List.head?_reverse];exact p.2,p.1.last⟩)
  rw [this]
  rfl
def yL (cs:List (List Nat)) (x y:Nat):List Nat:=(lowF cs [x]).filter fun k=>!decide (k=x) && decide (y∈lowF cs [k])
theorem ZO (ok:ShOk n cs) (b:x < n) (e:y < n):k∈yL cs x y↔k∈onW n cs x y:=by
 unfold yL
 rw [aJ,vS,zY,zY,wX ok b,wj ok b,zem ok e,bZ,decide_eq_true_iff]
 constructor
 ·rintro ⟨a,c,d⟩
  have kn:k < n:=((wj ok b).mpr a).1
  exact ⟨a,(wX ok kn).mp d,by simpa using c⟩
 ·rintro ⟨a,c,d⟩
  have kn:k < n:=((wj ok b).mpr a).1
  exact ⟨a,by simpa using d,(wX ok kn).mpr c⟩
theorem UM (ok:ShOk n cs) {k:Nat} (a:k < n):atI ((List.range cs.length).map fun k=>nl (lowF cs [k])) (k:Int)=some (nl (lowF cs [k])):=yt (cN (by rw [ok.l];exact a))
def uG (ds:List PyData) (d:PyData):Prop:=∃ (n:Nat) (cs:List (List Nat)) (x y:Nat),ds=[nls cs,wf cs,.int x,.int y]/\ShOk n cs/\n<=12/\x < n/\y < n/\d=nl (yL cs x y)
theorem Wu:zA ["_law_causes", "_law_lows_here", "_law_x", "_law_y"] ["_law_causes", "_law_lows_here", "_law_x", "_law_y"] (zo (top 39)):={}
theorem WQ (F:Fun K "_law_ways" "_law_ways" (top 39) f fd) (B:Bs mg) (Z:Cs K mg aH aI)  : FnOk P w K mg base CX0 1 f fd ["_law_causes", "_law_lows_here", "_law_x", "_law_y"] (spD K true uG):=by
 have sc:=Wu
 refine F.ok sc (fun vs H Q E h=>zH (fun _ _⟨_,_,_,_,e,_⟩=>by rw [e];rfl) h) (fun cdv A outer s H vs Q E l h=>?_)
 obtain ⟨m,ds,d,le,dp,p,q⟩:=h
 refine ⟨_,(zf (zy (yc rfl (N:=["_law_k", "_law_x", "_law_y", "_law_lows_here"]) (js:=[none,some 2,some 3,some 1]) (by walk_at"comp_ok") (zE (K:=K) rfl (pX (zu (K:=K) rfl) (pv 1) (pv 2))) (fun _ _ _ _=>(pN (i:=0) (show aX ["_law_k", "_law_x", "_law_y", "_law_lows_here"] by decide +kernel))) (fun _ _ _ _=>(yS (PW.pt (xE (zr vg (pv 0) (pv 1) (zF _)) (xy (zr (zG (K:=K) rfl) (pv 2) (pX (zu (K:=K) rfl) (pv 3) (pv 0)) (rfl))))))) (fun _ _ _ _=>(pv 0))))),?_⟩
 have o:=sc.n 4
 obtain ⟨n,cs,x,y,rfl,ok,n12,c,r,rfl⟩:=p
 have big:=zD
 have ll:=zb3 ok (XL c) (XJ x)
 walk_at"run"
 refine zM true (EvO.toE (yo (U:=true) (is:=[0]) (xs:=lowF cs [x]) false (fun k:Nat=>.int (k:Int)) (fun k:Nat=>.int (k:Int)) (fun k=>!decide (k=x) && decide (y∈lowF cs [k])) (fun a _ b _ h=>by cases yO h;exact ⟨rfl,rfl⟩) (zN (zI (U:=false) (EvE.toL (EvE.eq (a:=wf cs) (by walk_at"ev") rfl)) (by walk_at"ev") (UM ok c))) (by walk_at"cc") rfl (by decide) (by omega) ?_)) rfl (.inl ⟨rfl,rfl⟩)
 intro k g
 have kn:k < n:=((wj ok c).mpr ((wX ok c).mp g)).1
 exact egn (by walk_at"sc") ⟨xu (EvT.eq (zq (vG (i:=(k:Int)) (j:=(x:Int)) (by walk_at"ev") (by walk_at"ev"))) (by rw [show decide ((k:Int)=(x:Int))=decide (k=x) from decide_eq_decide.mpr ⟨fun h=>by omega,fun h=>by omega⟩])) fun _=>EvT.eq (zq (zW (neg:=false) (i:=(y:Int)) (ns:=zl (lowF cs [k])) (by walk_at"ev") (EvE.toL (EvE.eq (U:=false) (zI (U:=false) (EvE.toL (EvE.eq (a:=wf cs) (by walk_at"ev") rfl)) (by walk_at"ev") (UM ok kn)) (ya _))))) zV,fun _=>by walk_at"ev"⟩
def cutB (x k:Nat) (ws:List Nat) (c:Nat):Bool:=!decide (c=x) || !decide (k∈ws)
def cutL (cs:List (List Nat)) (ws:List Nat) (x:Nat):List (List Nat):=(List.range cs.length).map fun k=>(cs.getD k []).filter (cutB x k ws)
theorem zd9 (h:∀ k,k∈ws↔k∈onW n cs x y):cutL cs ws x=cutC n cs x y:=by
 unfold cutL cutC
 refine List.ext_getElem? fun i=>?_
 by_cases hi:i < cs.length
 ·have z:cs[i]?=some (cs.getD i []):=zQ hi
  rw [aU,cN hi,Xc z]
  show some _=some _
  unfold woR
  refine congrArg some (List.filter_congr fun c _=>?_)
  unfold cutB cutP
  have m:(c,i)∈(onW n cs x y).map (fun k=>(x,k))↔c=x/\i∈ws:=by
   rw [aF]
   constructor
   ·rintro ⟨k,d,e⟩
    cases e
    exact ⟨rfl,(h _).mpr d⟩
   ·rintro ⟨rfl,d⟩
    exact ⟨i,(h _).mp d,rfl⟩
  by_cases a:c=x
  ·by_cases b:i∈ws
   ·rw [decide_eq_true a,decide_eq_true b,decide_eq_true (m.mpr ⟨a,b⟩)];rfl
   ·rw [decide_eq_true a,decide_eq_false b,decide_eq_false fun q=>b (m.mp q).2];rfl
  ·rw [decide_eq_false a,decide_eq_false fun q=>a (m.mp q).1];rfl
 ·rw [aU,cB (by rw [aV];omega),cB (by rw [vO];omega)]
  rfl
def tU (ds:List PyData) (d:PyData):Prop:=∃ (n:Nat) (cs:List (List Nat)) (ws:List Nat) (x:Nat),ds=[nls cs,nl ws,.int x]/\ShOk n cs/\n<=12/\d=nls (cutL cs ws x)
theorem VD:zA ["_law_causes", "_law_ways_here", "_law_x"] ["_law_causes", "_law_ways_here", "_law_x"] (zo (top 40)):={}
theorem VT (F:Fun K "_law_cut" "_law_cut" (top 40) f fd) (B:Bs mg) (Z:Cs K mg aH aI)  : FnOk P w K mg base CX0 1 f fd ["_law_causes", "_law_ways_here", "_law_x"] (spD K true tU):=by
 have sc:=VD
 refine F.ok sc (fun vs H Q E h=>zH (fun _ _⟨_,_,_,_,e,_⟩=>by rw [e];rfl) h) (fun cdv A outer s H vs Q E r h=>?_)
 obtain ⟨t,ds,d,le,dp,p,q⟩:=h
 refine ⟨_,(zf (zy (Q7 (y := "_law_k") rfl (N:=["_law_k", "_law_causes", "_law_x", "_law_ways_here"]) (js:=[none,some 0,some 2,some 1]) (by walk_at"comp_okC") (yw rfl B.range (zb (pB (zm (K:=K) rfl) B.len (zb (pv 0) zd)) zd)) (fun _ _ _ _=>(pN (i:=0) (show aX ["_law_k", "_law_causes", "_law_x", "_law_ways_here"] by decide +kernel))) (fun _ _ _ _=>yx) (fun _ _ _ _=>(yc rfl (N:=["_law_c", "_law_x", "_law_k", "_law_ways_here"]) (js:=[none,some 2,some 0,some 3]) (by walk_at"comp_ok") (zE (K:=K) rfl (pX (zu (K:=K) rfl) (pv 1) (pv 0))) (fun _ _ _ _=>(pN (i:=0) (show aX ["_law_c", "_law_x", "_law_k", "_law_ways_here"] by decide +kernel))) (fun _ _ _ _=>(yS (PW.pt (xi (zr vg (pv 0) (pv 1) (zF _)) (wP (zr (yd (K:=K) rfl) (pv 2) (pv 3) (rfl))))))) (fun _ _ _ _=>(pv 0))))))),?_⟩
 have u:=sc.n 3
 obtain ⟨n,cs,ws,x,rfl,ok,n12,rfl⟩:=p
 have big:=zD
 have cl:=ok.l
 have m:PyData.int (((cs.map nl).length:Nat):Int)=.int (cs.length:Int):=by rw [aB]
 walk_at"run"
 refine zM true (EvO.toE (EvO.eq (UZ (U:=true) (is:=[0]) (n:=cs.length) (fun k=>nl ((cs.getD k []).filter (cutB x k ws))) (zg (EvE.eq (yb (ds:=cs.map nl) (by walk_at"ev")) m) zC) (by omega) (by walk_at"cc") rfl (by decide) ?_) (by unfold cutL;rw [List.map_map];rfl))) rfl (.inl ⟨rfl,rfl⟩)
 intro k g
 rw [cl] at g
 have A:=ok.at g
 have v:=A.2.2
 have o:atI (cs.map nl) (k:Int)=some (nl (cs.getD k [])):=yt A.1
 refine egn (by walk_at"sc") (EvO.toE (yo (U:=true) (is:=[0]) (xs:=cs.getD k []) false (fun k:Nat=>.int (k:Int)) (fun k:Nat=>.int (k:Int)) (cutB x k ws) (fun a _ b _ h=>by cases yO h;exact ⟨rfl,rfl⟩) (zN (zI (U:=false) (by walk_at"ev") (by walk_at"ev") o)) (by walk_at"cc") rfl (by decide) (by omega) ?_))
 intro c z
 exact egn (by walk_at"sc") ⟨yG (EvT.eq (zq (vG (i:=(c:Int)) (j:=(x:Int)) (by walk_at"ev") (by walk_at"ev"))) (by rw [show decide ((c:Int)=(x:Int))=decide (c=x) from decide_eq_decide.mpr ⟨fun h=>by omega,fun h=>by omega⟩])) fun _=>EvT.eq (zq (zW (neg:=true) (i:=(k:Int)) (ns:=zl ws) (by walk_at"ev") (EvE.toL (EvE.eq (U:=false) (by walk_at"ev") (ya _))))) (by show (!decide _)=_;rw [zV]),fun _=>by walk_at"ev"⟩
def uI (ds:List PyData) (d:PyData):Prop:=∃ (n:Nat) (cs:List (List Nat)),ds=[nls cs]/\ShOk n cs/\n<=12/\d=wf cs
theorem Wx:zA ["_law_causes"] ["_law_causes"] (zo (top 41)):={}
theorem WT (F:Fun K "_law_lows" "_law_lows" (top 41) f fd) (B:Bs mg) (Z:Cs K mg aH aI) (a:zz P w K mg base CX0 "_law_low" ["_law_causes", "_law_some_here"] 1 (spD K true vA)):FnOk P w K mg base CX0 2 f fd ["_law_causes"] (spD K true uI):=by
 have sc:=Wx
 refine F.ok sc (fun vs H Q E h=>zH (fun _ _⟨_,_,e,_⟩=>by rw [e];rfl) h) (fun cdv A outer s H vs Q E c h=>?_)
 obtain ⟨j,ds,d,le,dp,p,q⟩:=h
 refine ⟨_,(zf (zy (yc rfl (N:=["_law_k", "_law_causes"]) (js:=[none,some 0]) (by walk_at"comp_ok") (yw rfl B.range (zb (pB (zm (K:=K) rfl) B.len (zb (pv 0) zd)) zd)) (fun _ _ _ _=>(pN (i:=0) (show aX ["_law_k", "_law_causes"] by decide +kernel))) (fun _ _ _ _=>yx) (fun _ _ _ _=>(pF a c (zb (pv 1) (zb (zU (zb (pv 0) zd)) zd))))))),?_⟩
 have m:=sc.n 1
 obtain ⟨n,cs,rfl,ok,n12,rfl⟩:=p
 have big:=zD
 have cl:=ok.l
 have g:PyData.int (((cs.map nl).length:Nat):Int)=.int (cs.length:Int):=by rw [aB]
 walk_at"run"
 refine zM true (EvO.toE (UZ (U:=true) (is:=[0]) (n:=cs.length) (fun k=>nl (lowF cs [k])) (zg (EvE.eq (yb (ds:=cs.map nl) (by walk_at"ev")) g) zC) (by omega) (by walk_at"cc") rfl (by decide) ?_)) rfl (.inl ⟨rfl,rfl⟩)
 intro k b
 rw [cl] at b
 exact egn (by walk_at"sc") (zk (ds:=[nls cs,.list [.int (k:Int)]]) (by walk_at"ev") ⟨n,cs,[k],rfl,ok,n12,XL b,XJ k,rfl⟩)
theorem Ut (ok:ShOk n cs) (a:x < n):∀ k∈yL cs x y,k < n:=fun k b=>((wj ok a).mpr ((wX ok a).mp (aJ.mp b).1)).1
theorem Us (ok:ShOk n cs) (a:x < n):(yL cs x y).Nodup:=(zdN ok (XL a) (XJ x)).sublist dN
noncomputable def yM (n:Nat) (cs:List (List Nat)) (x y:Nat) (rs:List (List Nat)):PyData:=.tuple [nl (lowF cs (yL cs x y)),nls (cutC n cs x y),wf (cutC n cs x y),nls rs]
theorem tO (ok:ShOk n cs) (x y:Nat):ShOk n (cutC n cs x y):=zcL ok _
def v9 (ds:List PyData) (G:PyData->Prop):Prop:=∃ (n:Nat) (cs:List (List Nat)) (x y:Nat),ds=[nls cs,.int x,.int y]/\ShOk n cs/\n<=6/\x < n/\y < n/\G=fun d=>∃ rs,RsOk (cutC n cs x y) x y rs/\rs.length<=326/\d=yM n cs x y rs
theorem Xp:zA ["_law_causes", "_law_x", "_law_y", "_law_lows_here", "_law_ways_here", "_law_cut_here"] ["_law_causes", "_law_x", "_law_y"] (zo (top 42)):={}
theorem XS (F:Fun K "_law_ready" "_law_ready" (top 42) f fd) (B:Bs mg) (Z:Cs K mg aH aI) (a:zz P w K mg base CX0 "_law_lows" ["_law_causes"] 2 (spD K true uI)) (c:zz P w K mg base CX0 "_law_ways" ["_law_causes", "_law_lows_here", "_law_x", "_law_y"] 1 (spD K true uG)) (g:zz P w K mg base CX0 "_law_cut" ["_law_causes", "_law_ways_here", "_law_x"] 1 (spD K true tU)) (b:zz P w K mg base CX0 "_law_roads" ["_law_causes", "_law_x", "_law_y"] 1 (spW K true v8)) (j:zz P w K mg base CX0 "_law_low" ["_law_causes", "_law_some_here"] 1 (spD K true vA)):FnOk P w K mg base CX0 3 f fd ["_law_causes", "_law_x", "_law_y"] (spW K true v9):=by
 have sc:=Xp
 refine F.ok sc (fun vs H Q E h=>Zh (fun _ _⟨_,_,_,_,e,_⟩=>by rw [e];rfl) h) (fun cdv A outer s H vs Q E l h=>?_)
 obtain ⟨D,ds,G,le,dp,p,q⟩:=h
 refine ⟨_,(ze (pS (i:=3) sc.nd (pF a l (zb (pv 0) zd)))
   (ze (pS (i:=4) sc.nd (pF c l (zb (pv 0) (zb (pv 3) (zb (pv 1) (zb (pv 2) zd))))))
   (ze (pS (i:=5) sc.nd (pF g l (zb (pv 0) (zb (pv 4) (zb (pv 1) zd)))))
   (zf (zy (xG (zb (pF j l (zb (pv 0) (zb (pv 4) zd))) (zb (pv 5) (zb (pF a l (zb (pv 5) zd)) (zb (pF b l (zb (pv 5) (zb (pv 1) (zb (pv 2) zd)))) zd)))))))))),?_⟩
 have r:=sc.n 6
 obtain ⟨n,cs,x,y,rfl,ok,t,m,o,rfl⟩:=p
 have n12:n<=12:=by omega
 have u:cutL cs (yL cs x y) x=cutC n cs x y:=zd9 fun k=>ZO ok m o
 have oc:=tO ok x y
 refine uA le dp q r (by walk_at"st") ?_
 refine exs true (d:=wf cs) (zk (by walk_at"ev") ⟨n,cs,rfl,ok,n12,rfl⟩) (by walk_at"sc") ?_
 refine exs true (d:=nl (yL cs x y)) (zk (by walk_at"ev") ⟨n,cs,x,y,rfl,ok,n12,m,o,rfl⟩) (by walk_at"sc") ?_
 refine exs true (d:=nls (cutC n cs x y)) (zk (by walk_at"ev") ⟨n,cs,yL cs x y,x,rfl,ok,n12,by rw [u]⟩) (by walk_at"sc") ?_
 refine zcf true (zaH (zk (by walk_at"ev") ⟨n,cs,yL cs x y,rfl,ok,n12,Ut ok m,Us ok m,rfl⟩) (by walk_at"ev") (zk (by walk_at"ev") ⟨n,cutC n cs x y,rfl,oc,n12,rfl⟩) (uV (by walk_at"ev") ⟨n,cutC n cs x y,x,y,rfl,oc,t,m,rfl⟩)) ?_ (.inl ⟨rfl,rfl⟩)
 rintro d ⟨z,⟨rs,v,C,rfl⟩,rfl⟩
 exact ⟨rs,v,C,rfl⟩
theorem WI (h:∀ k,k∈a->k∈b) (r:Rch nx a z):Rch nx b z:=by
 induction r with
 | base q=>exact .base (h _ q)
 | step _ q c=>exact c.step q
theorem zao (ok:ShOk n cs) (a:x < n) (e:y < n) (sm:List Nat):(sm.any fun k=>decide (k∈lowF cs (yL cs x y)))=(unW n cs x y).any fun k=>decide (k∈sm):=by
 have m:∀ k,k∈lowF cs (yL cs x y)↔k∈unW n cs x y:=fun k=>by
  rw [UL ok (Ut ok a) (Us ok a)]
  unfold unW
  rw [zY,zY]
  exact ⟨fun z=>⟨z.1,WI (fun k b=>(ZO ok a e).mp b) z.2⟩,fun z=>⟨z.1,WI (fun k b=>(ZO ok a e).mpr b) z.2⟩⟩
 rw [dP,bQ,bQ]
 exact ⟨fun ⟨k,c,d⟩=>⟨k,(m k).mp (of_decide_eq_true d),decide_eq_true c⟩,fun ⟨k,c,d⟩=>⟨k,of_decide_eq_true d,decide_eq_true ((m k).mpr c)⟩⟩
theorem zcB (h:c∈(cutC n cs x y).getD e []):c∈cs.getD e []:=by
 unfold cutC at h
 by_cases a:e < cs.length
 ·have z:cs[e]?=some (cs.getD e []):=zQ a
  rw [aM,Xc z] at h
  exact (aJ.mp h).1
 ·rw [aM,cB (by rw [vO];omega)] at h
  cases h
theorem Wb (a:Dg cs) (x y:Nat):Dg (cutC n cs x y):=let ⟨b,h⟩:=a;⟨b,fun e c z=>h e c (zcB z)⟩
def wT (ds:List PyData) (d:PyData):Prop:=∃ (n:Nat) (cs:List (List Nat)) (x y:Nat) (rs:List (List Nat)) (sm:List Nat),ds=[yM n cs x y rs,nl sm]/\ShOk n cs/\Dg cs/\n<=6/\x < n/\y < n/\RsOk (cutC n cs x y) x y rs/\rs.length<=326/\sm.length<=1000/\x∉sm/\d=.bool (doB n cs x y sm)
theorem WA:zA ["_law_ready_here", "_law_some_here", "_law_low_here", "_law_cut_here", "_law_lows_here", "_law_roads_here"] ["_law_ready_here", "_law_some_here"] (zo (top 43)):={}
theorem WV (F:Fun K "_law_does" "_law_does" (top 43) f fd) (B:Bs mg) (Z:Cs K mg aH aI) (c:zz P w K mg base CX0 "_law_open" ["_law_causes", "_law_lows_here", "_law_road", "_law_some_here"] 2 (spD K true xM)):FnOk P w K mg base CX0 3 f fd ["_law_ready_here", "_law_some_here"] (spD K true wT):=by
 have sc:=WA
 refine F.ok sc (fun vs H Q E h=>zH (fun _ _⟨_,_,_,_,_,_,e,_⟩=>by rw [e];rfl) h) (fun cdv A outer s H vs Q E g h=>?_)
 obtain ⟨G,ds,d,le,dp,p,q⟩:=h
 refine ⟨_,(ze (QT (pv 0) (XC (K:=K) (n:=4) rfl rfl (yQ (pN (i:=2) sc.nd) (yQ (pN (i:=3) sc.nd) (yQ (pN (i:=4) sc.nd) (yQ (pN (i:=5) sc.nd) XB))))))
   (ze (ye (yC (pB (xR (K:=K) rfl rfl) B.any (zb (yc rfl (N:=["_law_k", "_law_low_here"]) (js:=[none,some 2]) (by walk_at"comp_ok") (zE (K:=K) rfl (pv 1)) (fun _ _ _ _=>(pN (i:=0) (show aX ["_law_k", "_law_low_here"] by decide +kernel))) (fun _ _ _ _=>yx) (fun _ _ _ _=>(yy (zG (K:=K) rfl) (pv 0) (pv 1) (rfl)))) zd))) (zf (zy vf)) zL)
   (zf (zy (ZG (pB (xR (K:=K) rfl rfl) B.any (zb (yc rfl (N:=["_law_road", "_law_cut_here", "_law_lows_here", "_law_some_here"]) (js:=[none,some 3,some 4,some 1]) (by walk_at"comp_ok") (zE (K:=K) rfl (pv 5)) (fun _ _ _ _=>(pN (i:=0) (show aX ["_law_road", "_law_cut_here", "_law_lows_here", "_law_some_here"] by decide +kernel))) (fun _ _ _ _=>yx) (fun _ _ _ _=>(pF c g (zb (pv 1) (zb (pv 2) (zb (pv 0) (zb (pv 3) zd))))))) zd))))))),?_⟩
 have I:=sc.n 6
 obtain ⟨n,cs,x,y,rs,sm,rfl,ok,m,J,j,o,l,t,sl,nx,rfl⟩:=p
 have big:=zD
 have oc:=tO ok x y
 have u:=YB oc (Wb m x y) j l nx
 have v:=zao ok j o sm
 walk_at"run"
 refine yK (·=[some (.fz false (yM n cs x y rs)),some (.fz false (nl sm)),some (.fz false (nl (lowF cs (yL cs x y)))),some (.fz false (nls (cutC n cs x y))),some (.fz false (wf (cutC n cs x y))),some (.fz false (nls rs))]) (zaE (U:=false) (EvE.eq (a:=yM n cs x y rs) (by walk_at"ev") rfl) (eg4 (by walk_at"sc") (by walk_at"sc") (by walk_at"sc") (by walk_at"sc") rfl)) ?_
 rintro C rfl
 refine vE (b:=(unW n cs x y).any fun k=>decide (k∈sm)) (EvT.eq (zq (tM (EvO.toL (EvO.eq (yp (U:=false) (is:=[0]) (xs:=sm) false (fun k:Nat=>.int (k:Int)) (fun k=>.bool (decide (k∈lowF cs (yL cs x y)))) (fun x _ y _ h=>by cases yO h;rfl) (zN (by walk_at"ev")) (by walk_at"cc") rfl (by decide) (by omega) ?_) (by rw [bC];rfl))))) (by rw [<- v,cZ];rfl)) (fun h=>?_) (fun h=>?_)
 ·intro k L
  exact egn (by walk_at"sc") (EvE.eq (zW (neg:=false) (i:=(k:Int)) (ns:=zl (lowF cs (yL cs x y))) (by walk_at"ev") (EvE.toL (EvE.eq (U:=false) (by walk_at"ev") (ya _)))) (congrArg PyData.bool zV))
 ·exact exrs true (by walk_at"ev") (by unfold doB;rw [h];rfl) (.inl ⟨rfl,rfl⟩)
 ·refine exn (zM true (ZY (tM (bs:=rs.map fun r=>xC (cutC n cs x y) r sm) (EvO.toL (EvO.eq (yp (U:=false) (is:=[0]) (xs:=rs) false nl (fun r=>.bool (xC (cutC n cs x y) r sm)) (fun a _ b _ h=>by rw [show a=b from by rw [<- tu a,h,tu]]) (zN (by walk_at"ev")) (by walk_at"cc") rfl (by decide) (by omega) ?_) (by rw [bC];rfl))))) ?_ (.inl ⟨rfl,rfl⟩))
  ·intro r g
   have p:=((l r).mp g).1
   have lt:∀ z∈r,z < n:=fun z D=>p.lt oc j z (cI.mpr D)
   have t:r.length<=n:=yV n r (xZ p.nd) lt
   exact egn (by walk_at"sc") (zk (by walk_at"ev") ⟨n,cutC n cs x y,r,sm,rfl,oc,by omega,lt,by omega,sl,rfl⟩)
  ·rw [cZ]
   unfold doB
   rw [h,<- u]
   rfl
theorem zak {P:Nat->Prop} {l:List Nat} {v i:Nat} (h:∀ z∈l,P z) (hi:P i):∀ z∈l.take v ++ i :: l.drop v,P z:=fun z a=>by
 rcases aQ.mp a with a | a
 ·exact h z (List.mem_of_mem_take a)
 ·rcases aT.mp a with rfl | a
  ·exact hi
  ·exact h z (List.mem_of_mem_drop a)
def uH (ds:List PyData) (G:PyData->Prop):Prop:=∃ (ns:List Int) (f n:Nat) (cs:List (List Nat)) (x y:Nat) (kd:Int),ds=[il ns,.int f,nls cs,.int x,.int y,.int kd]/\ShOk n cs/\n<=12/\x < n/\y < n/\G=fun d=>∃ sm:List Nat,(∀ z∈sm,z < n/\z≠x/\z≠y)/\sm.length<=n/\d=nl sm
theorem Wv:zA ["_law_script", "_law_start", "_law_causes", "_law_x", "_law_y", "_law_kind", "_law_found", "_law_k", "_law_bit"] ["_law_script", "_law_start", "_law_causes", "_law_x", "_law_y", "_law_kind"] (zo (top 44)):={}
theorem WR (F:Fun K "_law_some" "_law_some" (top 44) f fd) (B:Bs mg) (Z:Cs K mg aH aI) (a:zz P w K mg base CX0 "_law_cell_at" ["_law_script", "_law_k"] 1 (spD K true yv)):FnOk P w K mg base CX0 2 f fd ["_law_script", "_law_start", "_law_causes", "_law_x", "_law_y", "_law_kind"] (spW K true uH):=by
 have sc:=Wv
 refine F.ok sc (fun vs H Q E h=>Zh (fun _ _⟨_,_,_,_,_,_,_,e,_⟩=>by rw [e];rfl) h) (fun cdv A outer s H vs Q E J h=>?_)
 obtain ⟨V,ds,G,le,dp,p,q⟩:=h
 refine ⟨_,(ze (pS (i:=6) sc.nd (zU zd))
   (ze (yF PassesOwn.never rfl (yw rfl B.range (zb (pB (zm (K:=K) rfl) B.len (zb (pv 2) zd)) zd)) (pN (i:=7) sc.nd) (ze (pS (i:=8) sc.nd (pF a J (zb (pv 0) (zb (zJ yD (pv 1) (pv 7)) zd))))
   (ze (ye (zr uP (pv 5) zh (zF _)) (zf (pS (i:=8) sc.nd (pY fE1 B.int (zb (yy (zG (K:=K) rfl) (pv 7) (pX (zu (K:=K) rfl) (pv 2) (pv 3)) (rfl)) zd)))) zL)
   (ze (ye (zr uP (pv 5) zh (zF _)) (zf (pS (i:=8) sc.nd (zJ yD (pY fE1 B.int (zb (yy (zG (K:=K) rfl) (pv 7) (pX (zu (K:=K) rfl) (pv 2) (pv 3)) (rfl)) zd)) (zJ uO (zJ y8 (pv 8) zh) zh)))) zL)
   (zf (ye (PW.pt (xE (zr vg (pv 7) (pv 3) (zF _)) (xE (zr vg (pv 7) (pv 4) (zF _)) (xy (zr uP (zJ y8 (pv 8) zh) zh (zF _)))))) (zf (yB (yN (K:=K) rfl bK PySem.F.slot_list_insert PySem.F.type_list_insert YJ (pv 6) (zb (zJ y8 (zJ uO (pv 8) zh) (zJ yD (pB (zm (K:=K) rfl) B.len (zb (pv 6) zd)) zh)) (zb (pv 7) zd))))) zL))))))
   (zf (zy (pv 6))))),?_⟩
 have L:=sc.n 9
 obtain ⟨ns,f,n,cs,x,y,g,rfl,ok,n12,M,W,rfl⟩:=p
 have big:=zD
 have cl:=ok.l
 have N:PyData.int (((cs.map nl).length:Nat):Int)=.int (n:Int):=by rw [aB,cl]
 have fF:atI (cs.map nl) (x:Int)=some (nl (cs.getD x [])):=yt (ok.at M).1
 refine uA le dp q L (by walk_at"st") ?_
 refine exo true (ds:=([]:List Nat).map fun k:Nat=>.int (k:Int)) (zZ (ds:=[]) zC (by decide)) (by walk_at"sc") ?_
 refine vi (ds:=(List.range n).map fun i:Nat=>.int (i:Int)) true (fun i Y=>∃ (sm:List Nat) (u v:Option DV),(∀ z∈sm,z < n/\z≠x/\z≠y)/\sm.length<=i/\Y=[some (.fz false (il ns)),some (.fz false (.int f)),some (.fz false (nls cs)),some (.fz false (.int x)),some (.fz false (.int y)),some (.fz false (.int g)),some (.ow true (sm.map fun k:Nat=>.int (k:Int))),u,v]) (xA (n:=(n:Int)) (zg (EvE.eq (yb (ds:=cs.map nl) (by walk_at"ev")) N) zC) (by omega) (by omega)) ⟨[],none,none,fun _ z=>(nomatch z),aC _,rfl⟩ ?_ ?_
 ·rintro i d Y' hd ⟨sm,u,v,r,sl,rfl⟩
  obtain ⟨hi,rfl⟩:=xo hd
  refine ⟨_,egn (by walk_at"sc") ?_⟩
  refine exs true (d:=.int (ns.getD (f + i) 0)) (zk (by walk_at"ev") ⟨ns,f + i,by rw [Int.natCast_add],rfl⟩) (by walk_at"sc") ?_
  generalize ns.getD (f + i) 0=X
  have C:∀ {c:PD.Ctx},GetC c 2 (.fz false (nls cs))->GetC c 3 (.fz false (.int x))->GetC c 7 (.fz true (.int i))->EvE K .fresh true (tCB (fun xs H Q=>(∃ i,xs=[.int i]/\Q (.int i) H)\/∃ k,xs=[.bl k]/\Q (.int (if k then 1 else 0)) H) (zR (tOp (rIn K false) (tVar 7) (tOp (rIxL K) (tVar 2) (tVar 3))) tNil)) c (.int (if decide (i∈cs.getD x [])=true then 1 else 0)):=fun R S T=>zct (EvE.eq (zW (neg:=false) (i:=(i:Int)) (ns:=zl (cs.getD x [])) (evv T (by decide)) (EvE.toL (EvE.eq (U:=false) (zI (U:=false) (EvE.toL (evv R (by decide))) (evv S (by decide)) fF) (ya _)))) (congrArg PyData.bool zV))
  refine exif (b:=decide (g=1)) (fun Y=>∃ D:Int,Y=[some (.fz false (il ns)),some (.fz false (.int f)),some (.fz false (nls cs)),some (.fz false (.int x)),some (.fz false (.int y)),some (.fz false (.int g)),some (.ow true (sm.map fun k:Nat=>.int (k:Int))),some (.fz true (.int i)),some (.fz true (.int D))]) (by walk_at"ev") (fun _=>exs1 true (C (by walk_at"gc") (by walk_at"gc") (by walk_at"gc")) (by walk_at"sc") ⟨_,rfl⟩) (fun _=>yr ⟨_,rfl⟩) ?_
  rintro t ⟨D,rfl⟩
  refine exif (b:=decide (g=2)) (fun Y=>∃ o:Int,Y=[some (.fz false (il ns)),some (.fz false (.int f)),some (.fz false (nls cs)),some (.fz false (.int x)),some (.fz false (.int y)),some (.fz false (.int g)),some (.ow true (sm.map fun k:Nat=>.int (k:Int))),some (.fz true (.int i)),some (.fz true (.int o))]) (by walk_at"ev") (fun _=>exs1 true (wx (EvE.weak (C (by walk_at"gc") (by walk_at"gc") (by walk_at"gc")) (fun h=>nomatch h)) (uX (xH (by walk_at"ev") (by walk_at"ev") (by decide)) (by walk_at"ev") ⟨by decide,by decide⟩)) (by walk_at"sc") ⟨_,rfl⟩) (fun _=>yr ⟨_,rfl⟩) ?_
  rintro t ⟨o,rfl⟩
  refine xj (b:=!decide ((i:Int)=(x:Int)) && (!decide ((i:Int)=(y:Int)) && decide (o % 2=1))) (xu (by walk_at"ev") fun _=>xu (by walk_at"ev") fun _=>zq (ur (xH (by walk_at"ev") (by walk_at"ev") (by decide)) (by walk_at"ev"))) (fun h=>?_) (fun h=>yr ⟨sm,_,_,r,by omega,rfl⟩)
  have h':i≠x/\i≠y:=by
   have I:=bZ.mp h
   have fG:=bZ.mp I.2
   have fE:¬ ((i:Int)=(x:Int)):=by simpa using I.1
   have e2:¬ ((i:Int)=(y:Int)):=by simpa using fG.1
   omega
  obtain ⟨v,ev,lv⟩:=ZE (o / 2) (n:=sm.length + 1) (by omega)
  refine exin (m:=(v:Int)) (d:=.int i) (by walk_at"gc") (EvE.eq (xH (j:=((sm.length + 1:Nat):Int)) (uX (by walk_at"ev") (by walk_at"ev") ⟨by decide,by decide⟩) (EvE.eq (wx (EvE.eq (yb (ds:=sm.map fun k:Nat=>.int (k:Int)) (by walk_at"ev")) (by rw [aB])) (by walk_at"ev")) (congrArg PyData.int (by omega))) (by omega)) (congrArg PyData.int ev)) (by walk_at"ev") (by omega) (by rw [aB];omega) (by rw [aB];omega) (by walk_at"sc") ?_
  refine ⟨sm.take v ++ i :: sm.drop v,some (.fz true (.int i)),some (.fz true (.int o)),zak r ⟨hi,h'⟩,by rw [aG,bS,cJ,cA];omega,?_⟩
  rw [Int.toNat_natCast,aN,bB,List.map_take,List.map_drop]
 ·rintro Y' ⟨sm,u,v,r,sl,rfl⟩
  rw [yX] at sl
  exact exro (by walk_at"gc") ⟨sm,r,sl,rfl⟩ (.inl ⟨rfl,rfl⟩)
theorem ShR.ok (h:ShR n cs):ShOk n cs:=⟨h.l,fun r a=>⟨(h.e r a).1,bO (h.e r a).2.1 (by decide)⟩⟩
def xF (ds:List PyData) (d:PyData):Prop:=∃ r:List Nat,ds=[nl r]/\r.length<=1000/\d=.bool true
theorem Zt:zA ["_law_found"] ["_law_found"] (zo (top 34)):={}
theorem ZL (F:Fun K "_law_numbers" "_law_numbers" (top 34) f fd) (B:Bs mg) (Z:Cs K mg aH aI)  : FnOk P w K mg base CX0 1 f fd ["_law_found"] (spD K true xF):=by
 have sc:=Zt
 refine F.ok sc (fun vs H Q E h=>zH (fun _ _⟨_,e,_⟩=>by rw [e];rfl) h) (fun cdv A outer s H vs Q E a h=>?_)
 obtain ⟨c,ds,d,le,dp,p,q⟩:=h
 refine ⟨_,(ze (ye (wQ (yC (pB (x8 (K:=K) rfl) B.isinstance (zb (pv 0) (zb (uM (v:=.ty "list") rfl B.list (by decide +kernel) rfl) zd))))) (zf (zy vf)) zL)
   (zf (zy (pB (fE2 (K:=K) rfl rfl) B.all (zb (yc rfl (N:=["_law_k"]) (js:=[none]) (by walk_at"comp_ok") (zE (K:=K) rfl (pv 0)) (fun _ _ _ _=>(pN (i:=0) (show aX ["_law_k"] by decide +kernel))) (fun _ _ _ _=>yx) (fun _ _ _ _=>(VM (pB (x8 (K:=K) rfl) B.isinstance (zb (pv 0) (zb (uM (v:=.ty "int") rfl B.int (by decide +kernel) rfl) zd))) (XE (ZG (pB (x8 (K:=K) rfl) B.isinstance (zb (pv 0) (zb (uM (v:=.ty "bool") rfl B.bool (by decide +kernel) rfl) zd)))))))) zd))))),?_⟩
 have g:=sc.n 1
 obtain ⟨r,rfl,j,rfl⟩:=p
 have big:=zD
 walk_at"run"
 refine wK (b:=!true) (by walk_at"ev") rfl ?_
 refine zM true (EvE.eq (zaO (bs:=r.map fun _=>true) (EvO.toL (EvO.eq (yp (U:=false) (is:=[0]) (xs:=r) false (fun k:Nat=>.int (k:Int)) (fun _=>.bool (true && !false)) (fun x _ y _ h=>rfl) (zN (by walk_at"ev")) (by walk_at"cc") rfl (by decide) (by omega) ?_) (by rw [List.map_map];rfl)))) (by simp)) rfl (.inl ⟨rfl,rfl⟩)
 intro k l
 exact egn (by walk_at"sc") (by walk_at"ev")
theorem Vy (f g:Nat->Nat):∀ l:List Nat,(l.map fun e=>f e + g e).sum=(l.map f).sum + (l.map g).sum
 | []=>rfl
 | a :: l=>by
  rw [bB,eF,bB,eF,bB,eF,Vy f g l]
  omega
theorem Qy {f g:Nat->Nat}:∀ {l:List Nat},(∀ e∈l,f e<=g e)->(l.map f).sum<=(l.map g).sum
 | [],_=>aC _
 | a :: l,h=>by
  have:=Qy (l:=l) fun e b=>h e (bA _ b)
  have:=h a aK
  rw [bB,eF,bB,eF]
  omega
def cnB (b:Nat->Nat->Bool) (n e:Nat):Nat:=((List.range n).filter fun c=>b c e).length
theorem Z5 (b:Nat->Nat->Bool) (n e:Nat):cnB b (n + 1) e=cnB b n e + (b n e).toNat:=by
 unfold cnB
 rw [dF,cQ,aG]
 cases q:b n e with
 | true=>rw [dS (p:=fun c=>b c e) q];rfl
 | false=>rw [dU (p:=fun c=>b c e) (by rw [q];exact aY)];rfl
theorem zcE (b:Nat->Nat->Bool) (n e:Nat):cnB b n e=((List.range n).map fun c=>(b c e).toNat).sum:=by
 induction n with
 | zero=>rfl
 | succ n a=>rw [Z5,a,dF,aN,List.sum_append];rfl
theorem fG6 {b:Nat->Nat->Bool} (h:∀ c e,b c e=true->b e c=false):∀ n,2 * ((List.range n).map (cnB b n)).sum<=n * (n - 1)
 | 0=>aC _
 | n + 1=>by
  have g:=fG6 h n
  have a:((List.range n).map (cnB b (n + 1))).sum=((List.range n).map (cnB b n)).sum + ((List.range n).map fun e=>(b n e).toNat).sum:=by
   rw [<- Vy]
   exact congrArg (fun f=>((List.range n).map f).sum) (funext fun e=>Z5 b n e)
  have d:cnB b (n + 1) n=((List.range n).map fun c=>(b c n).toNat).sum:=by
   have z:b n n=false:=by
    cases q:b n n with
    | false=>rfl
    | true=>have:=h n n q;rw [q] at this;cases this
   rw [Z5,z,zcE]
   rfl
  have i:((List.range n).map fun e=>(b n e).toNat).sum + ((List.range n).map fun c=>(b c n).toNat).sum<=n:=by
   rw [<- Vy]
   have:((List.range n).map fun _=>1).sum=n:=by
    rw [List.map_const',List.sum_replicate_nat,aV,Nat.mul_one]
   refine bO (Qy fun e _=>?_) (Nat.le_of_eq this)
   cases q:b n e with
   | false=>cases b e n <;> decide
   | true=>rw [h n e q];decide
  rw [dF,aN,List.sum_append,a]
  show 2 * (_ + (cnB b (n + 1) n + 0))<=_
  rw [d]
  have:(n + 1) * (n + 1 - 1)=n * (n - 1) + 2 * n:=by
   cases n with
   | zero=>rfl
   | succ k=>show (k + 2) * (k + 1)=(k + 1) * k + 2 * (k + 1);rw [Nat.mul_comm (k + 1) k,<- Nat.add_mul]
  omega
theorem zdg {n:Nat} (ok:ShOk n cs) (f:Dg cs) (nd:vL cs) (g:n<=6):tot cs<=15:=by
 obtain ⟨a,h⟩:=f
 have cl:=ok.l
 have j:tot cs<=((List.range n).map (cnB (fun c e=>decide (a c < a e)) n)).sum:=by
  unfold tot
  rw [cl]
  refine Qy fun e i=>?_
  have en:=aZ.mp i
  refine XU _ _ (nd e) fun c d=>aJ.mpr ⟨aZ.mpr ((ok.at en).2.1 c d),decide_eq_true (h e c d)⟩
 have k:=fG6 (b:=fun c e=>decide (a c < a e)) (fun c e z=>decide_eq_false (by have:=of_decide_eq_true z;omega)) n
 have m:n * (n - 1)<=30:=by
  have:n * (n - 1)<=6 * 5:=Nat.mul_le_mul g (by omega)
  omega
 omega
theorem zdn (h:ShR n cs):vL cs:=fun e=>by
 by_cases q:e < n
 ·exact List.nodup_iff_pairwise_ne.mpr ((h.at q).2.2.2.imp fun h=>aL h)
 ·rw [aM,cB (by rw [h.l];omega)]
  exact cE
theorem zde (cs:List (List Nat)) (ps:List (Nat×Nat)) (e:Nat):(woF cs ps).getD e []=woR ps e (cs.getD e []):=by
 rw [aM,aM]
 unfold woF
 rw [eO]
 cases cs[e]? <;> rfl
theorem zeq (h:vL cs) (ps:List (Nat×Nat)):vL (woF cs ps):=fun e=>by
 rw [zde]
 exact (h e).sublist dN
theorem zc8:∀ {w:List Nat} {i:Nat},Ch cs w->i + 1 < w.length->w.getD i 0∈cs.getD (w.getD (i + 1) 0) []
 | [],_,_,h=>absurd h (bW _)
 | [_],_,_,h=>absurd h (by simp)
 | a :: b :: _,0,h,_=>h.1 b rfl
 | _ :: b :: l,i + 1,h,hl=>zc8 (w:=b :: l) (i:=i) h.2 (by simpa using hl)
def y0 (ds:List PyData) (d:PyData):Prop:=∃ (n:Nat) (cs:List (List Nat)) (w:List Nat),ds=[nls cs,nl w]/\ShOk n cs/\n<=12/\w≠[]/\(∀ z∈w,z < n)/\w.length<=100/\Ch cs w/\d=.bool true
theorem Yi:zA ["_law_causes", "_law_way"] ["_law_causes", "_law_way"] (zo (top 45)):={}
theorem Yp (F:Fun K "_law_arrows" "_law_arrows" (top 45) f fd) (B:Bs mg) (Z:Cs K mg aH aI) (c:zz P w K mg base CX0 "_law_numbers" ["_law_found"] 1 (spD K true xF)):FnOk P w K mg base CX0 2 f fd ["_law_causes", "_law_way"] (spD K true y0):=by
 have sc:=Yi
 refine F.ok sc (fun vs H Q E h=>zH (fun _ _⟨_,_,_,e,_⟩=>by rw [e];rfl) h) (fun cdv A outer s H vs Q E j h=>?_)
 obtain ⟨L,ds,d,le,dp,p,q⟩:=h
 refine ⟨_,(ze (ye (PW.pt (xi (wQ (yC (pF c j (zb (pv 1) zd)))) (xi (zr (XI (K:=K) rfl j.units) (pv 1) (zU zd) (zF _)) (xi (zr YH (pB (Ui (K:=K) rfl rfl) B.min (zb (pv 1) zd)) zh (zF _)) (wP (zr zeB (pB (Uj (K:=K) rfl rfl) B.max (zb (pv 1) zd)) (pB (zm (K:=K) rfl) B.len (zb (pv 0) zd)) (zF _))))))) (zf (zy vf)) zL)
   (zf (zy (pB (fE2 (K:=K) rfl rfl) B.all (zb (yc rfl (N:=["_law_at", "_law_way", "_law_causes"]) (js:=[none,some 1,some 0]) (by walk_at"comp_ok") (tI rfl B.range (zb zh (zb (pB (zm (K:=K) rfl) B.len (zb (pv 1) zd)) zd))) (fun _ _ _ _=>(pN (i:=0) (show aX ["_law_at", "_law_way", "_law_causes"] by decide +kernel))) (fun _ _ _ _=>yx) (fun _ _ _ _=>(yy (zG (K:=K) rfl) (pX (zu (K:=K) rfl) (pv 1) (zJ vC (pv 0) zh)) (pX (zu (K:=K) rfl) (pv 2) (pX (zu (K:=K) rfl) (pv 1) (pv 0))) (rfl)))) zd))))),?_⟩
 have M:=sc.n 2
 obtain ⟨n,cs,a,rfl,ok,n12,ne,o,wl,r,rfl⟩:=p
 have big:=zD
 have cl:=ok.l
 have t:PyData.int (((cs.map nl).length:Nat):Int)=.int (n:Int):=by rw [aB,cl]
 have u:PyData.int (((a.map fun k:Nat=>PyData.int (k:Int)).length:Nat):Int)=.int (a.length:Int):=by rw [aB]
 have g:zl a≠[]:=fun z=>ne (eP.mp z)
 have v:¬ mnL (zl a) < 0:=fun h=>by
  obtain ⟨k,_,e⟩:=aF.mp (zb1 g)
  have e:(k:Int)=mnL (zl a):=e
  omega
 have C:¬ mxL (zl a)>=(n:Int):=fun h=>by
  obtain ⟨k,D,e⟩:=aF.mp (zb0 g)
  have e:(k:Int)=mxL (zl a):=e
  have:=o k D
  omega
 walk_at"run"
 refine wK (b:=!true || (false || (false || false))) (yG (xJ (et_B (zk (ds:=[nl a]) (d:=.bool true) (by walk_at"ev") ⟨a,rfl,by omega,rfl⟩))) fun _=>yG (EvT.eq (zq (Z0 (neg:=false) (d:=nl a) (f:=.list []) (EvE.toD (U:=false) (by walk_at"ev")) (EvE.toD (U:=true) (EvO.toE (zZ (ds:=[]) zC (by decide)))) (wD _) rfl)) ((zcw _).trans (decide_eq_false ne))) fun _=>yG (EvT.eq (zq (YV (Vd (f:=mnL) (ns:=zl a) (EvE.toL (EvE.eq (U:=false) (by walk_at"ev") (ya a))) g) (by walk_at"ev"))) (decide_eq_false v)) fun _=>EvT.eq (zq (zc7 (Vd (f:=mxL) (ns:=zl a) (EvE.toL (EvE.eq (U:=false) (by walk_at"ev") (ya a))) g) (EvE.eq (yb (ds:=cs.map nl) (by walk_at"ev")) t))) (decide_eq_false C)) rfl ?_
 refine zM true (EvE.eq (zaO (bs:=(List.range ((a.length:Int) - 1).toNat).map fun _=>true) (EvO.toL (EvO.eq (yp (U:=false) (is:=[0]) (xs:=List.range ((a.length:Int) - 1).toNat) false (fun i:Nat=>.int (1 + (i:Int))) (fun _=>.bool true) (fun x _ y _ h=>rfl) (X9 (m:=1) (n:=(a.length:Int)) (zg (by walk_at"ev") (zg (EvE.eq (yb (ds:=a.map fun k:Nat=>PyData.int (k:Int)) (by walk_at"ev")) u) zC)) (by omega)) (by walk_at"cc") rfl (by decide) (by rw [List.length_range];omega) ?_) (by rw [List.map_map];rfl)))) (by simp)) rfl (.inl ⟨rfl,rfl⟩)
 intro i hi
 have hi:=aZ.mp hi
 have il:i + 1 < a.length:=by omega
 have kn:=Vn o il
 have G:atI (a.map fun k:Nat=>PyData.int (k:Int)) (1 + (i:Int))=some (.int (a.getD (i + 1) 0:Nat)):=by rw [show 1 + (i:Int)=((i + 1:Nat):Int) by omega];exact xb (by omega)
 have I:atI (a.map fun k:Nat=>PyData.int (k:Int)) (1 + (i:Int) - 1)=some (.int (a.getD i 0:Nat)):=by rw [show 1 + (i:Int) - 1=(i:Int) by omega];exact xb (by omega)
 have J:atI (cs.map nl) (a.getD (i + 1) 0:Nat)=some (nl (cs.getD (a.getD (i + 1) 0) [])):=yt (ok.at kn).1
 exact egn (by walk_at"sc") (EvE.eq (zW (neg:=false) (i:=(a.getD i 0:Nat)) (ns:=zl (cs.getD (a.getD (i + 1) 0) [])) (zI (U:=false) (by walk_at"ev") (by walk_at"ev") I) (EvE.toL (EvE.eq (U:=false) (zI (U:=false) (by walk_at"ev") (zI (U:=false) (by walk_at"ev") (by walk_at"ev") G) J) (ya _)))) (congrArg PyData.bool (zV.trans (decide_eq_true (zc8 r il)))))
theorem Tb {r:List Nat} {k:Nat} (h:r.head?=some k):atI (r.map fun k:Nat=>PyData.int (k:Int)) 0=some (.int (k:Int)):=by
 cases r with
 | nil=>cases h
 | cons a l=>cases h;exact xb (r:=k :: l) (k:=0) (Nat.zero_lt_succ _)
theorem zbg {r:List Nat} {k:Nat} (h:r.getLast?=some k):atI (r.map fun k:Nat=>PyData.int (k:Int)) (-1)=some (.int (k:Int)):=by
 obtain ⟨l,rfl⟩:=List.getLast?_eq_some_iff.mp h
 rw [aN]
 exact vI _ _
def yJ (ds:List PyData) (d:PyData):Prop:=∃ (n:Nat) (cs:List (List Nat)) (x y st:Nat) (sm w l:List Nat),ds=[nls cs,.int x,.int y,nl sm,.tuple [.str "beneath", nl w,nl l]]/\ShOk n cs/\n<=12/\BnOk n cs x y st sm w l/\sm.length<=1000/\d=.bool true
theorem v3:zA ["_law_causes", "_law_x", "_law_y", "_law_some_here", "_law_found", "_law_way", "_law_line"] ["_law_causes", "_law_x", "_law_y", "_law_some_here", "_law_found"] (zo (top 46)):={}
theorem v4 (F:Fun K "_law_beneath_good" "_law_beneath_good" (top 46) f fd) (B:Bs mg) (Z:Cs K mg aH aI) (a:zz P w K mg base CX0 "_law_arrows" ["_law_causes", "_law_way"] 2 (spD K true y0)):FnOk P w K mg base CX0 3 f fd ["_law_causes", "_law_x", "_law_y", "_law_some_here", "_law_found"] (spD K true yJ):=by
 have sc:=v3
 refine F.ok sc (fun vs H Q E h=>zH (fun _ _⟨_,_,_,_,_,_,_,_,e,_⟩=>by rw [e];rfl) h) (fun cdv A outer s H vs Q E m h=>?_)
 obtain ⟨L,ds,d,le,dp,p,q⟩:=h
 refine ⟨_,(ze (ye (PW.pt (xi (zr vg (pB (zm (K:=K) rfl) B.len (zb (pv 4) zd)) zh (zF _)) (xi (wQ (yC (pF a m (zb (pv 0) (zb (pX (yE (K:=K) rfl) (pv 4) zh) zd))))) (wP (wQ (yC (pF a m (zb (pv 0) (zb (pX (yE (K:=K) rfl) (pv 4) zh) zd))))))))) (zf (zy vf)) zL)
   (ze (pS (i:=5) sc.nd (pX (yE (K:=K) rfl) (pv 4) zh))
   (ze (pS (i:=6) sc.nd (pX (yE (K:=K) rfl) (pv 4) zh))
   (ze (ye (PW.pt (xi (zr vg (pX (zu (K:=K) rfl) (pv 5) zh) (pv 1) (zF _)) (xi (zr vg (pX (zu (K:=K) rfl) (pv 5) (ub wq zh)) (pv 2) (zF _)) (xi (zr (yd (K:=K) rfl) (pX (zu (K:=K) rfl) (pv 6) zh) (pv 5) (rfl)) (xi (zr uP (pX (zu (K:=K) rfl) (pv 6) zh) (pv 1) (zF _)) (wP (zr (yd (K:=K) rfl) (pX (zu (K:=K) rfl) (pv 6) (ub wq zh)) (pv 3) (rfl)))))))) (zf (zy vf)) zL)
   (zf (zy (ZG (pB (xR (K:=K) rfl rfl) B.any (zb (yc rfl (N:=["_law_k", "_law_way"]) (js:=[none,some 5]) (by walk_at"comp_ok") (zE (K:=K) rfl (uK (ux (K:=K) rfl) (pv 6) (uJ zh) XA)) (fun _ _ _ _=>(pN (i:=0) (show aX ["_law_k", "_law_way"] by decide +kernel))) (fun _ _ _ _=>yx) (fun _ _ _ _=>(yy (zG (K:=K) rfl) (pv 0) (pv 1) (rfl)))) zd))))))))),?_⟩
 have M:=sc.n 7
 obtain ⟨n,cs,x,y,st,sm,c,l',rfl,ok,n12,g,sl,rfl⟩:=p
 have big:=zD
 have wz:=g.wz
 have lz:=g.lz
 have t:c≠[]:=fun z=>by have:=g.wh;rw [z] at this;cases this
 have l:l'≠[]:=fun z=>by have:=g.lh;rw [z] at this;cases this
 obtain ⟨z,o⟩:∃ z,l'.getLast?=some z:=⟨_,List.getLast?_eq_some_getLast l⟩
 have u:=g.ll z o
 have v:=Tb g.wh
 have C:=zbg g.wl
 have l0:=Tb g.lh
 have D:=zbg o
 have G:y0 [nls cs,nl c] (.bool true):=⟨n,cs,c,rfl,ok,n12,t,g.wn,by omega,g.wc,rfl⟩
 have I:y0 [nls cs,nl l'] (.bool true):=⟨n,cs,l',rfl,ok,n12,l,g.ln,by omega,g.lc,rfl⟩
 walk_at"run"
 refine wK (b:=!decide ((3:Int)=3) || (!true || !true)) (yG (zq (vG (i:=3) (uW (ds:=[.str "beneath", nl c,nl l']) (by walk_at"ev")) xI)) fun _=>yG (xJ (et_B (zk (zg (by walk_at"ev") (zg (yP (U:=false) (ds:=[.str "beneath", nl c,nl l']) (i:=1) (d:=nl c) (by walk_at"ev") (by walk_at"ev") rfl) zC)) G))) fun _=>xJ (et_B (zk (zg (by walk_at"ev") (zg (yP (U:=false) (ds:=[.str "beneath", nl c,nl l']) (i:=2) (d:=nl l') (by walk_at"ev") (by walk_at"ev") rfl) zC)) I))) rfl ?_
 refine exs false (d:=nl c) (yP (U:=false) (ds:=[.str "beneath", nl c,nl l']) (i:=1) (by walk_at"ev") (by walk_at"ev") rfl) (by walk_at"sc") ?_
 refine exs false (d:=nl l') (yP (U:=false) (ds:=[.str "beneath", nl c,nl l']) (i:=2) (by walk_at"ev") (by walk_at"ev") rfl) (by walk_at"sc") ?_
 refine wK (b:=!decide ((x:Int)=(x:Int)) || (!decide ((y:Int)=(y:Int)) || (false || (false || false)))) (yG (zq (vG (zI (U:=false) (by walk_at"ev") (by walk_at"ev") v) (by walk_at"ev"))) fun _=>yG (zq (vG (zI (U:=false) (by walk_at"ev") (by walk_at"ev") C) (by walk_at"ev"))) fun _=>yG (EvT.eq (zq (zW (neg:=true) (i:=(st:Int)) (ns:=zl c) (zI (U:=false) (by walk_at"ev") (by walk_at"ev") l0) (EvE.toL (EvE.eq (U:=false) (by walk_at"ev") (ya c))))) (by show (!decide ((st:Int)∈zl c))=false;rw [zV,decide_eq_true g.sw];rfl)) fun _=>yG (EvT.eq (zq (ur (i:=(st:Int)) (j:=(x:Int)) (zI (U:=false) (by walk_at"ev") (by walk_at"ev") l0) (by walk_at"ev"))) (decide_eq_false fun e=>g.sx (by omega))) fun _=>EvT.eq (zq (zW (neg:=true) (i:=(z:Int)) (ns:=zl sm) (zI (U:=false) (by walk_at"ev") (by walk_at"ev") D) (EvE.toL (EvE.eq (U:=false) (by walk_at"ev") (ya sm))))) (by show (!decide ((z:Int)∈zl sm))=false;rw [zV,decide_eq_true u];rfl)) (by rw [decide_eq_true rfl,decide_eq_true rfl];rfl) ?_
 refine zM true (EvE.eq (ZY (tM (bs:=(l'.drop 1).map fun _=>false) (EvO.toL (EvO.eq (yp (U:=false) (is:=[0]) (xs:=l'.drop 1) false (fun k:Nat=>.int (k:Int)) (fun k=>.bool (decide (k∈c))) (fun x _ y _ h=>by cases yO h;rfl) (zN (EvO.toE (EvO.eq (xQ (U:=false) (ds:=l'.map fun k:Nat=>.int (k:Int)) (lo:=some ((1:Nat):Int)) (EvE.toL (by walk_at"ev")) (uY (EvE.eq (b:=.int ((1:Nat):Int)) (show EvE K .fresh false _ _ (.int 1) by walk_at"ev") rfl)) X8) (cutH _ _ 1)))) (by walk_at"cc") rfl (by decide) (by rw [cA];omega) ?_) ?_)))) ?_) rfl (.inl ⟨rfl,rfl⟩)
 ·intro k r
  exact egn (by walk_at"sc") (EvE.eq (zW (neg:=false) (i:=(k:Int)) (ns:=zl c) (by walk_at"ev") (EvE.toL (EvE.eq (U:=false) (by walk_at"ev") (ya c)))) (congrArg PyData.bool zV))
 ·rw [bC]
  exact dX fun k r=>congrArg PyData.bool (decide_eq_false (g.no k r))
 ·have e:((l'.drop 1).map fun _=>false).any (fun b=>b)=false:=List.any_eq_false.mpr fun b J=>by
   obtain ⟨_,_,rfl⟩:=aF.mp J
   exact aY
  rw [e]
  rfl
def keyO (cs:List (List Nat)):Option (List Nat)->PyData
 | some r=>.tuple [.int (vN cs r:Nat),.int (r.length:Nat),nl r]
 | none=>.none
theorem Tl {a b c d e f:Int} {ns ms ks:List Int} (h:wC a b ns c d ms=true) (g:wC c d ms e f ks=true):wC a b ns e f ks=true:=by
 unfold wC at *
 by_cases k:a=c
 ·subst k
  rw [if_pos rfl] at h
  by_cases i:a=e
  ·subst i
   rw [if_pos rfl] at g ⊢
   by_cases l:b=d
   ·subst l
    rw [if_pos rfl] at h
    by_cases j:b=f
    ·subst j
     rw [if_pos rfl] at g ⊢
     split at h
     ·cases h
     ·split at g
      ·cases g
      ·have t:=tK h g
       split
       ·rename_i z
        rw [z,Zl] at t
        cases t
       ·exact t
    ·rw [if_neg j] at g ⊢
     exact g
   ·rw [if_neg l] at h
    have h:=of_decide_eq_true h
    by_cases j:d=f
    ·subst j
     rw [if_neg l]
     exact decide_eq_true h
    ·rw [if_neg j] at g
     have g:=of_decide_eq_true g
     rw [if_neg (by omega)]
     exact decide_eq_true (by omega)
  ·rw [if_neg i] at g ⊢
   exact g
 ·rw [if_neg k] at h
  have h:=of_decide_eq_true h
  by_cases i:c=e
  ·subst i
   rw [if_neg k]
   exact decide_eq_true h
  ·rw [if_neg i] at g
   have g:=of_decide_eq_true g
   rw [if_neg (by omega)]
   exact decide_eq_true (by omega)
theorem zbn (a b:Int) (ns:List Int):wC a b ns a b ns=false:=by
 unfold wC
 rw [if_pos rfl,if_pos rfl,if_pos rfl]
theorem UU (cs:List (List Nat)) (r:List Nat):keyO cs (some r)=.tuple [.int (vN cs r:Nat),.int (r.length:Nat),.list ((zl r).map .int)]:=by
 show PyData.tuple [_,_,nl r]=_
 rw [ya]
structure BstP (cs:List (List Nat)) (P:List Nat->Bool) (rs:List (List Nat)) (b:Option (List Nat)):Prop where
 no:b=none->∀ r∈rs,P r=false
 so:∀ q,b=some q->q∈rs/\P q=true/\∀ r∈rs,P r=true->kLt cs r q=false
theorem BstP.end {cs:List (List Nat)} {P:List Nat->Bool} {kn:List Nat} {x y:Nat} {rs:List (List Nat)} {b:Option (List Nat)} (h:BstP cs P rs b) (c:∀ r,(Rd cs kn x r/\r.getLast?=some y)↔(r∈rs/\P r=true)):ordF cs kn x y=b:=by
 cases b with
 | none =>
  refine wH fun r d e=>?_
  obtain ⟨a,o⟩:=(c r).mp ⟨d,e⟩
  rw [h.no rfl r a] at o
  cases o
 | some q =>
  obtain ⟨f,g,i⟩:=h.so q rfl
  obtain ⟨j,k⟩:=(c q).mpr ⟨f,g⟩
  exact YG ⟨j,k,fun r d e=>i r ((c r).mp ⟨d,e⟩).1 ((c r).mp ⟨d,e⟩).2⟩
theorem BstP.skip {cs:List (List Nat)} {P:List Nat->Bool} {rs:List (List Nat)} {b:Option (List Nat)} (h:BstP cs P rs b) {r:List Nat} (c:P r=false\/∃ q,b=some q/\kLt cs r q=false):BstP cs P (rs ++ [r]) b:=by
 refine ⟨fun e z a=>?_,fun q e=>?_⟩
 ·rcases aQ.mp a with a | a
  ·exact h.no e z a
  ·rw [aD.mp a]
   rcases c with c | ⟨q,d,_⟩
   ·exact c
   ·rw [e] at d;cases d
 ·obtain ⟨g,i,j⟩:=h.so q e
  refine ⟨bR _ g,i,fun z a f=>?_⟩
  rcases aQ.mp a with a | a
  ·exact j z a f
  ·rw [aD.mp a] at f ⊢
   rcases c with c | ⟨l,d,k⟩
   ·rw [c] at f;cases f
   ·rw [e] at d
    cases d
    exact k
theorem BstP.take {cs:List (List Nat)} {P:List Nat->Bool} {rs:List (List Nat)} {b:Option (List Nat)} (h:BstP cs P rs b) {r:List Nat} (d:P r=true) (f:∀ q,b=some q->kLt cs r q=true):BstP cs P (rs ++ [r]) (some r):=by
 refine ⟨fun e=>(by cases e),fun q e=>?_⟩
 cases e
 refine ⟨aO _ (aD.mpr rfl),d,fun z c a=>?_⟩
 rcases aQ.mp c with c | c
 ·cases b with
  | none=>rw [h.no rfl z c] at a;cases a
  | some q =>
   refine cS.mpr fun w=>?_
   have:=(h.so q rfl).2.2 z c a
   have t:kLt cs z q=true:=Tl w (f q rfl)
   rw [t] at this
   cases this
 ·rw [aD.mp c]
  exact zbn ..
theorem vp {n:Nat} {cs:List (List Nat)} (ok:ShOk n cs) {sm:List Nat} {x y:Nat} (b:x < n) {rs:List (List Nat)} (c:RsOk cs x y rs) (r:List Nat):(Rd cs sm x r/\r.getLast?=some y)↔(r∈rs/\xC cs r sm=true):=by
 constructor
 ·rintro ⟨a,l⟩
  exact ⟨(c r).mpr ⟨a.pth,l⟩,(uN ok b a.pth).mpr a.ok⟩
 ·rintro ⟨a,o⟩
  obtain ⟨p,l⟩:=(c r).mp a
  exact ⟨⟨(uN ok b p).mp o,xZ p.nd,by have:=p.last;rwa [List.getLast?_reverse] at this⟩,l⟩
theorem Ql (cs:List (List Nat)) (r:List Nat):(yu cs r (r.length - 2)).length=vN cs r:=by
 unfold yu vN vsI
 rw [aB]
 exact congrArg (fun p=>(List.filter p _).length) (funext fun i=>by rw [Nat.add_comm])
def xq (ds:List PyData) (d:PyData):Prop:=∃ (n:Nat) (cs:List (List Nat)) (x y:Nat) (rs:List (List Nat)) (sm r:List Nat),ds=[yM n cs x y rs,nl sm]/\ShOk n cs/\n<=6/\x < n/\y < n/\RsOk (cutC n cs x y) x y rs/\rs.length<=326/\sm.length<=1000/\ordF (cutC n cs x y) sm x y=some r/\d=nl r
theorem Zc:zA ["_law_ready_here", "_law_some_here", "_law_low_here", "_law_cut_here", "_law_lows_here", "_law_roads_here", "_law_best", "_law_road", "_law_rank_of"] ["_law_ready_here", "_law_some_here"] (zo (top 47)):={}
theorem Ze (F:Fun K "_law_road_due" "_law_road_due" (top 47) f fd) (B:Bs mg) (Z:Cs K mg aH aI) (j:zz P w K mg base CX0 "_law_open" ["_law_causes", "_law_lows_here", "_law_road", "_law_some_here"] 2 (spD K true xM)) (g:zz P w K mg base CX0 "_law_turns" ["_law_causes", "_law_road"] 1 (spD K true xz)):FnOk P w K mg base CX0 3 f fd ["_law_ready_here", "_law_some_here"] (spD K false xq):=by
 have sc:=Zc
 refine F.ok sc (fun vs H Q E h=>zH (fun _ _⟨_,_,_,_,_,_,_,e,_⟩=>by rw [e];rfl) h) (fun cdv A outer s H vs Q E l h=>?_)
 obtain ⟨T,ds,d,le,dp,p,q⟩:=h
 refine ⟨_,(ze (QT (pv 0) (XC (K:=K) (n:=4) rfl rfl (yQ (pN (i:=2) sc.nd) (yQ (pN (i:=3) sc.nd) (yQ (pN (i:=4) sc.nd) (yQ (pN (i:=5) sc.nd) XB))))))
   (ze (pS (i:=6) sc.nd wV)
   (ze (yF PassesOwn.never rfl (zE (K:=K) rfl (pv 5)) (pN (i:=7) sc.nd) (zf (ye (yC (pF j l (zb (pv 3) (zb (pv 4) (zb (pv 7) (zb (pv 1) zd)))))) (ze (pS (i:=8) sc.nd (xG (zb (pB (zm (K:=K) rfl) B.len (zb (pF g l (zb (pv 3) (zb (pv 7) zd))) zd)) (zb (pB (zm (K:=K) rfl) B.len (zb (pv 7) zd)) (zb (pv 7) zd)))))
   (zf (ye (PW.pt (xi (zr VN (pv 6) wV (zF _)) (wP (zr (zbP (K:=K) rfl (zcb l)) (pv 8) (pv 6) (zF _))))) (zf (pS (i:=6) sc.nd (pv 8))) zL))) zL)))
   (zf (zy (pX (yE (K:=K) rfl) (pv 6) zh)))))),?_⟩
 have fG:=sc.n 9
 obtain ⟨n,cs,x,y,rs,sm,o,rfl,ok,V,C,W,D,X,sl,I,rfl⟩:=p
 have big:=zD
 have oc:=tO ok x y
 walk_at"run"
 refine yK (·=[some (.fz false (yM n cs x y rs)),some (.fz false (nl sm)),some (.fz false (nl (lowF cs (yL cs x y)))),some (.fz false (nls (cutC n cs x y))),some (.fz false (wf (cutC n cs x y))),some (.fz false (nls rs)),none,none,none]) (zaE (U:=false) (EvE.eq (a:=yM n cs x y rs) (by walk_at"ev") rfl) (eg4 (by walk_at"sc") (by walk_at"sc") (by walk_at"sc") (by walk_at"sc") rfl)) ?_
 rintro J rfl
 refine exs false (d:=keyO (cutC n cs x y) none) (by exact zaI) (by walk_at"sc") ?_
 refine vi (ds:=rs.map nl) false (fun i Y=>∃ (b:Option (List Nat)) (u v:Option DV),BstP (cutC n cs x y) (fun r=>xC (cutC n cs x y) r sm) (rs.take i) b/\Y=[some (.fz false (yM n cs x y rs)),some (.fz false (nl sm)),some (.fz false (nl (lowF cs (yL cs x y)))),some (.fz false (nls (cutC n cs x y))),some (.fz false (wf (cutC n cs x y))),some (.fz false (nls rs)),some (.fz false (keyO (cutC n cs x y) b)),u,v]) (zN (by walk_at"ev")) ⟨none,none,none,⟨fun _ r l=>(by rw [dQ] at l;cases l),fun q e=>(by cases e)⟩,rfl⟩ ?_ ?_
 ·rintro i d Y' hd ⟨b,u,v,m,rfl⟩
  obtain ⟨r,l,rfl⟩:=xN hd
  have L:=aS l
  obtain ⟨p,fE⟩:=(D r).mp L
  have lt:∀ z∈r,z < n:=fun z M=>p.lt oc C z (cI.mpr M)
  have rn:r.length<=n:=yV n r (xZ p.nd) lt
  have N:xM [nls (cutC n cs x y),wf (cutC n cs x y),nl r,nl sm] (.bool (xC (cutC n cs x y) r sm)):=⟨n,cutC n cs x y,r,sm,rfl,oc,by omega,lt,by omega,sl,rfl⟩
  have pt:xz [nls (cutC n cs x y),nl r] (nl (yu (cutC n cs x y) r (r.length - 2))):=⟨n,cutC n cs x y,r,rfl,oc,lt,by omega,rfl⟩
  have fF:∀ {a:Int} {c:Int},a=((yu (cutC n cs x y) r (r.length - 2)).length:Nat)->c=(r.length:Nat)->PyData.tuple [.int a,.int c,nl r]=keyO (cutC n cs x y) (some r):=fun R S=>by
   rw [R,S,Ql]
   rfl
  refine ⟨_,egn (by walk_at"sc") ?_⟩
  refine xj (b:=xC (cutC n cs x y) r sm) (et_B (zk (by walk_at"ev") N)) (fun t=>?_) (fun t=>?_)
  ·refine exs false (d:=keyO (cutC n cs x y) (some r)) (EvE.eq (ww (ds:=[.int ((((yu (cutC n cs x y) r (r.length - 2)).map fun k:Nat=>PyData.int (k:Int)).length:Nat):Int),.int (((r.map fun k:Nat=>PyData.int (k:Int)).length:Nat):Int),nl r]) (zg (yb (ds:=(yu (cutC n cs x y) r (r.length - 2)).map fun k:Nat=>PyData.int (k:Int)) (EvE.toL (zk (by walk_at"ev") pt))) (zg (yb (ds:=r.map fun k:Nat=>PyData.int (k:Int)) (by walk_at"ev")) (zg (by walk_at"ev") zC))) (by show 3<=_;omega)) (fF (by rw [aB]) (by rw [aB]))) (by walk_at"sc") ?_
   cases b with
   | none =>
    refine xj (b:=isNone (keyO (cutC n cs x y) none) || false) (yG (zq (tL (EvE.toD (U:=false) (by walk_at"ev")))) fun h=>by cases h) (fun _=>?_) (fun h=>by cases h)
    exact exs1 false (d:=keyO (cutC n cs x y) (some r)) (by walk_at"ev") (by walk_at"sc") ⟨_,_,_,by rw [take_succ l];exact m.take t (fun q e=>by cases e),rfl⟩
   | some q =>
    refine xj (b:=isNone (keyO (cutC n cs x y) (some q)) || kLt (cutC n cs x y) r q) (yG (zq (tL (EvE.toD (U:=false) (by walk_at"ev")))) fun _=>zq (zd1 (a:=(vN (cutC n cs x y) r:Nat)) (b:=(r.length:Nat)) (ns:=zl r) (c:=(vN (cutC n cs x y) q:Nat)) (d:=(q.length:Nat)) (ms:=zl q) (EvE.eq (a:=keyO (cutC n cs x y) (some r)) (by walk_at"ev") (UU (cutC n cs x y) r)) (EvE.eq (a:=keyO (cutC n cs x y) (some q)) (by walk_at"ev") (UU (cutC n cs x y) q)))) (fun h=>?_) (fun h=>?_)
    ·exact exs1 false (d:=keyO (cutC n cs x y) (some r)) (by walk_at"ev") (by walk_at"sc") ⟨_,_,_,by rw [take_succ l];exact m.take t (fun q' e=>by cases e;exact h),rfl⟩
    ·exact yr ⟨_,_,_,by rw [take_succ l];exact m.skip (.inr ⟨q,rfl,h⟩),rfl⟩
  ·exact yr ⟨_,_,_,by rw [take_succ l];exact m.skip (.inl t),rfl⟩
 ·rintro Y' ⟨b,u,v,m,rfl⟩
  rw [aB,cT] at m
  have G:=m.end (kn:=sm) (x:=x) (y:=y) fun r=>vp oc C D r
  rw [I] at G
  cases G
  exact zM false (yP (U:=false) (i:=2) (ds:=[.int (vN (cutC n cs x y) o:Nat),.int (o.length:Nat),nl o]) (EvE.eq (a:=keyO (cutC n cs x y) (some o)) (by walk_at"ev") rfl) (by walk_at"ev") rfl) rfl (.inr rfl)
theorem zbB {nx:Nat->List Nat} {ws:List Nat} {k:Nat} (h:Rch nx ws k):∃ w∈ws,Rch nx [w] k:=by
 induction h with
 | @base x z=>exact ⟨x,z,.base aK⟩
 | step _ z a =>
  obtain ⟨w,b,c⟩:=a
  exact ⟨w,b,.step c z⟩
theorem zbA {nx:Nat->List Nat} {ws:List Nat} {w k:Nat} (a:w∈ws) (h:Rch nx [w] k):Rch nx ws k:=Xw (.base a) h
theorem UJ {n:Nat} {cs:List (List Nat)} {x y:Nat} {sm:List Nat} {k:Nat}:k∈staF n cs x y sm↔k∈onW n cs x y/\∃ t,k∈rim cs sm (wiC cs) t:=by
 classical
 unfold staF
 rw [aJ,decide_eq_true_iff]
theorem zdh {n:Nat} {cs:List (List Nat)} (ok:ShOk n cs) (n12:n<=12) {x y:Nat} {sm:List Nat}:((unW n cs x y).any fun k=>decide (k∈sm))=true↔staF n cs x y sm≠[]:=by
 have a:∀ {w},w∈onW n cs x y->w < n:=fun h=>(zY.mp (vS.mp h).1).1
 constructor
 ·intro h
  obtain ⟨k,e,b⟩:=bQ.mp h
  have b:=of_decide_eq_true b
  obtain ⟨kn,f⟩:=zY.mp e
  obtain ⟨w,c,r⟩:=zbB f
  have:=WF ok n12 (sm:=sm) (a c) r ⟨0,Zv ok kn b⟩
  exact List.ne_nil_of_mem (UJ.mpr ⟨c,this⟩)
 ·intro h
  obtain ⟨w,c⟩:=List.exists_mem_of_ne_nil _ h
  obtain ⟨g,t,d⟩:=UJ.mp c
  have hd:=wM cs sm (wiC cs) t w
  have ne:wyF cs sm (wiC cs) t w≠[]:=fun z=>by rw [z] at hd;cases hd
  have i:=List.getLast?_eq_some_getLast ne
  have j:=(Wj ok d).2.1 _ i
  obtain ⟨r,s,b⟩:=Xa ok d _ (List.getLast_mem ne)
  have m:(wyF cs sm (wiC cs) t w).getLast ne < n:=by have:=aZ.mp (tG b);rwa [ok.l] at this
  exact bQ.mpr ⟨_,zY.mpr ⟨m,zbA g r⟩,decide_eq_true j⟩
theorem BstP.ex (cs:List (List Nat)) (P:List Nat->Bool) (rs:List (List Nat)):∃ b,BstP cs P rs b:=by
 have:∀ i,i<=rs.length->∃ b,BstP cs P (rs.take i) b:=by
  intro i
  induction i with
  | zero=>exact fun _=>⟨none,fun _ r a=>(by rw [dQ] at a;cases a),fun q e=>(by cases e)⟩
  | succ i f =>
   intro hi
   obtain ⟨b,h⟩:=f (by omega)
   have a:rs[i]?=some rs[i]:=bD (by omega)
   rw [take_succ a]
   by_cases c:P rs[i]=true
   ·cases b with
    | none=>exact ⟨_,h.take c fun q e=>(by cases e)⟩
    | some q =>
     by_cases d:kLt cs rs[i] q=true
     ·exact ⟨_,h.take c fun g e=>(by cases e;exact d)⟩
     ·exact ⟨_,h.skip (.inr ⟨q,rfl,cS.mpr d⟩)⟩
   ·exact ⟨_,h.skip (.inl (cS.mpr c))⟩
 obtain ⟨b,h⟩:=this rs.length (aC _)
 rw [cT] at h
 exact ⟨b,h⟩
theorem zaa {n:Nat} {cs:List (List Nat)} (ok:ShOk n cs) (g:Dg cs) {sm:List Nat} {x y:Nat} (c:x < n) (xs:x∉sm) {rs:List (List Nat)} (d:RsOk cs x y rs) (h:brB cs sm x y=false):∃ r,ordF cs sm x y=some r/\r∈rs:=by
 obtain ⟨b,a⟩:=BstP.ex cs (fun r=>xC cs r sm) rs
 have e:=a.end (kn:=sm) (x:=x) (y:=y) fun r=>vp ok c d r
 cases b with
 | some r=>exact ⟨r,e,(a.so r rfl).1⟩
 | none =>
  have:=YB ok g c d xs
  rw [h] at this
  have:rs.any (fun r=>xC cs r sm)=true:=by simpa using this
  obtain ⟨r,i,f⟩:=bQ.mp this
  rw [a.no rfl r i] at f
  cases f
def wS (ds:List PyData) (d:PyData):Prop:=∃ (n:Nat) (cs:List (List Nat)) (x y:Nat) (rs:List (List Nat)) (sm:List Nat),ds=[nls cs,yM n cs x y rs,.int x,.int y,nl sm,whyD n cs x y sm]/\ShOk n cs/\Dg cs/\n<=6/\x < n/\y < n/\RsOk (cutC n cs x y) x y rs/\rs.length<=326/\sm.length<=1000/\x∉sm/\d=.bool true
theorem zaQ (r:List Nat):PyData.eqv (nl r) (nl r)=true:=by
 rw [ya,Ud]
 exact decide_eq_true rfl
theorem Wz:zA ["_law_causes", "_law_ready_here", "_law_x", "_law_y", "_law_some_here", "_law_found"] ["_law_causes", "_law_ready_here", "_law_x", "_law_y", "_law_some_here", "_law_found"] (zo (top 48)):={}
theorem WU (F:Fun K "_law_good" "_law_good" (top 48) f fd) (B:Bs mg) (Z:Cs K mg aH aI) (t:zz P w K mg base CX0 "_law_does" ["_law_ready_here", "_law_some_here"] 3 (spD K true wT)) (l:zz P w K mg base CX0 "_law_beneath_good" ["_law_causes", "_law_x", "_law_y", "_law_some_here", "_law_found"] 3 (spD K true yJ)) (o:zz P w K mg base CX0 "_law_numbers" ["_law_found"] 1 (spD K true xF)) (m:zz P w K mg base CX0 "_law_road_due" ["_law_ready_here", "_law_some_here"] 3 (spD K false xq)):FnOk P w K mg base CX0 4 f fd ["_law_causes", "_law_ready_here", "_law_x", "_law_y", "_law_some_here", "_law_found"] (spD K true wS):=by
 have sc:=Wz
 refine F.ok sc (fun vs H Q E h=>zH (fun _ _⟨_,_,_,_,_,_,e,_⟩=>by rw [e];rfl) h) (fun cdv A outer s H vs Q E D h=>?_)
 obtain ⟨Fh,ds,d,le,dp,p,q⟩:=h
 refine ⟨_,(ze (ye (yC (pF t D (zb (pv 1) (zb (pv 4) zd)))) (zf (zy (yy VN (pv 5) wV (zF _)))) zL)
   (ze (ye (PW.pt (xi (wQ (yC (pB (x8 (K:=K) rfl) B.isinstance (zb (pv 5) (zb (uM (v:=.ty "tuple") rfl B.tuple (by decide +kernel) rfl) zd))))) (xi (zr YH (pB (zm (K:=K) rfl) B.len (zb (pv 5) zd)) zh (zF _)) (wP (wQ (yC (pB (x8 (K:=K) rfl) B.isinstance (zb (pX (yE (K:=K) rfl) (pv 5) zh) (zb (uM (v:=.ty "str") rfl B.str (by decide +kernel) rfl) zd))))))))) (zf (zy vf)) zL)
   (ze (ye (yC (pB (xR (K:=K) rfl rfl) B.any (zb (yc rfl (N:=["_law_k", "_law_ready_here"]) (js:=[none,some 1]) (by walk_at"comp_ok") (zE (K:=K) rfl (pv 4)) (fun _ _ _ _=>(pN (i:=0) (show aX ["_law_k", "_law_ready_here"] by decide +kernel))) (fun _ _ _ _=>yx) (fun _ _ _ _=>(yy (zG (K:=K) rfl) (pv 0) (pX (yE (K:=K) rfl) (pv 1) zh) (rfl)))) zd))) (zf (zy (VM (yy uP (pX (yE (K:=K) rfl) (pv 5) zh) XD (zF _)) (XE (pF l D (zb (pv 0) (zb (pv 2) (zb (pv 3) (zb (pv 4) (zb (pv 5) zd)))))))))) zL)
   (ze (ye (PW.pt (xi (zr vg (pX (yE (K:=K) rfl) (pv 5) zh) XD (zF _)) (xi (zr vg (pB (zm (K:=K) rfl) B.len (zb (pv 5) zd)) zh (zF _)) (wP (wQ (yC (pF o D (zb (pX (yE (K:=K) rfl) (pv 5) zh) zd)))))))) (zf (zy vf)) zL)
   (zf (zy (yy (XI (K:=K) rfl D.units) (pX (yE (K:=K) rfl) (pv 5) zh) (pF m D (zb (pv 1) (zb (pv 4) zd))) (zF _)))))))),?_⟩
 have hN:=sc.n 6
 obtain ⟨n,cs,x,y,rs,sm,rfl,ok,S,X,G,M,fF,fE,sl,xs,rfl⟩:=p
 have big:=zD
 have oc:=tO ok x y
 have dc:=Wb (n:=n) S x y
 have lu:=zao ok G M sm
 have su:=zdh (sm:=sm) (x:=x) (y:=y) ok (show n<=12 by omega)
 have T:wT [yM n cs x y rs,nl sm] (.bool (doB n cs x y sm)):=⟨n,cs,x,y,rs,sm,rfl,ok,S,X,G,M,fF,fE,sl,xs,rfl⟩
 have rt:∀ {u:PD.Ctx},GetC u 1 (.fz false (yM n cs x y rs))->EvE K .fresh false (tOp (rIxT K) (tVar 1) (tC (.int 0))) u (nl (lowF cs (yL cs x y))):=fun g=>yP (U:=false) (i:=0) (ds:=[nl (lowF cs (yL cs x y)),nls (cutC n cs x y),wf (cutC n cs x y),nls rs]) (EvE.eq (a:=yM n cs x y rs) (evv g (by decide)) rfl) xI atI0
 have any:∀ {b:Bool},((unW n cs x y).any fun k=>decide (k∈sm))=b->EvT K .fresh (Qp (tCB (rAny K) (zR (ve [none,some 1] (UX K (tVar 4)) (yn 0) tYes (tOp (rIn K false) (tVar 0) (tOp (rIxT K) (tVar 1) (tC (.int 0))))) tNil))) [some (.fz false (nls cs)),some (.fz false (yM n cs x y rs)),some (.fz false (.int x)),some (.fz false (.int y)),some (.fz false (nl sm)),some (.fz false (whyD n cs x y sm))] b:=fun {b} I=>by
  refine EvT.eq (zq (tM (bs:=sm.map fun k=>decide (k∈lowF cs (yL cs x y))) (EvO.toL (EvO.eq (yp (U:=false) (is:=[0]) (xs:=sm) false (fun k:Nat=>.int (k:Int)) (fun k=>.bool (decide (k∈lowF cs (yL cs x y)))) (fun x _ y _ h=>by cases yO h;rfl) (zN (by walk_at"ev")) (by walk_at"cc") rfl (by decide) (by omega) ?_) (by rw [bC];rfl))))) (by rw [<- I,<- lu,cZ];rfl)
  intro k hk
  exact egn (by walk_at"sc") (EvE.eq (zW (neg:=false) (i:=(k:Int)) (ns:=zl (lowF cs (yL cs x y))) (by walk_at"ev") (EvE.toL (EvE.eq (U:=false) (rt (by walk_at"gc")) (ya _)))) (congrArg PyData.bool zV))
 by_cases c:staF n cs x y sm=[]
 ·have J:((unW n cs x y).any fun k=>decide (k∈sm))=false:=cS.mpr fun z=>su.mp z c
  cases I:brB (cutC n cs x y) sm x y with
  | true =>
   have L:whyD n cs x y sm=.none:=by
    unfold whyD
    rw [if_pos c,wH (za9 dc xs I)]
   walk_at"run"
   refine vE (b:=doB n cs x y sm) (et_B (zk (by walk_at"ev") T)) (fun _=>?_) (fun h=>?_)
   ·exact exrs true (tL (d:=.none) (EvE.toD (U:=false) (EvE.eq (a:=whyD n cs x y sm) (by walk_at"ev") L))) rfl (.inl ⟨rfl,rfl⟩)
   ·unfold doB at h
    rw [J,I] at h
    cases h
  | false =>
   obtain ⟨r,er,D⟩:=zaa oc dc G xs fF I
   have L:whyD n cs x y sm=.tuple [.str "road", nl r]:=by
    unfold whyD
    rw [if_pos c,er]
   have fG:doB n cs x y sm=false:=by unfold doB;rw [J,I];rfl
   obtain ⟨p,lp⟩:=(fF r).mp D
   have lt:∀ z∈r,z < n:=fun z hz=>p.lt oc G z (cI.mpr hz)
   have rn:r.length<=n:=yV n r (xZ p.nd) lt
   have p1:xq [yM n cs x y rs,nl sm] (nl r):=⟨n,cs,x,y,rs,sm,r,rfl,ok,X,G,M,fF,fE,sl,er,rfl⟩
   have C:∀ {u:PD.Ctx},GetC u 5 (.fz false (whyD n cs x y sm))->EvE K .fresh false (tVar 5) u (.tuple [.str "road", nl r]):=fun g=>EvE.eq (a:=whyD n cs x y sm) (evv g (by decide)) L
   walk_at"run"
   refine wK (b:=doB n cs x y sm) (et_B (zk (by walk_at"ev") T)) fG ?_
   refine wK (b:=!true || (decide ((2:Int) < 2) || !true)) (yG (xJ (et_B (ZZ (d:=.tuple [.str "road", nl r]) (EvE.toD (U:=false) (C (by walk_at"gc"))) (by rfl)))) fun _=>yG (zq (YV (i:=2) (uW (ds:=[.str "road", nl r]) (C (by walk_at"gc"))) xI)) fun _=>xJ (et_B (ZZ (d:=.str "road") (EvE.toD (U:=false) (yP (U:=false) (i:=0) (C (by walk_at"gc")) xI atI0)) (by rfl)))) rfl ?_
   refine wK (b:=false) (any J) rfl ?_
   refine wK (b:=!decide (("road" : Str) = "road") || (!decide ((2:Int)=2) || !true)) (yG (zq (zaJ (i := "road") (yP (U:=false) (i:=0) (C (by walk_at"gc")) xI atI0) ZX)) fun _=>yG (zq (vG (i:=2) (uW (ds:=[.str "road", nl r]) (C (by walk_at"gc"))) xI)) fun _=>xJ (et_B (zk (zg (yP (U:=false) (i:=1) (C (by walk_at"gc")) xI atI1) zC) ⟨r,rfl,by omega,rfl⟩))) (by decide) ?_
   exact zM true (EvE.eq (Z0 (neg:=false) (d:=nl r) (f:=nl r) (EvE.toD (U:=false) (yP (U:=false) (i:=1) (C (by walk_at"gc")) xI atI1)) (EvE.toD (U:=false) (Vc (by walk_at"ev") p1)) (wD r) (wD r)) (congrArg PyData.bool (zaQ r))) rfl (.inl ⟨rfl,rfl⟩)
 ·have J:((unW n cs x y).any fun k=>decide (k∈sm))=true:=su.mpr c
  have fG:doB n cs x y sm=false:=by unfold doB;rw [J];rfl
  have V:zl (staF n cs x y sm)≠[]:=fun z=>c (eP.mp z)
  obtain ⟨mm,mb⟩:=ZN (kf:=stF cs sm) V
  obtain ⟨st,W,R⟩:=aF.mp mm
  have R:((st:Nat):Int)=mnK (stF cs sm) (zl (staF n cs x y sm)):=R
  have bn:=zda ok (show n<=12 by omega) S G M W fun k hk=>by
   rw [R]
   exact mb _ (aF.mpr ⟨k,hk,rfl⟩)
  have L:whyD n cs x y sm=.tuple [.str "beneath", nl (bnW cs x y st),nl ((wdF cs sm st).getD [])]:=by
   unfold whyD
   rw [if_neg c,<- R]
   rfl
  have pb:yJ [nls cs,.int x,.int y,nl sm,.tuple [.str "beneath", nl (bnW cs x y st),nl ((wdF cs sm st).getD [])]] (.bool true):=⟨n,cs,x,y,st,sm,_,_,rfl,ok,by omega,bn,sl,rfl⟩
  have C:∀ {u:PD.Ctx},GetC u 5 (.fz false (whyD n cs x y sm))->EvE K .fresh false (tVar 5) u (.tuple [.str "beneath", nl (bnW cs x y st),nl ((wdF cs sm st).getD [])]):=fun g=>EvE.eq (a:=whyD n cs x y sm) (evv g (by decide)) L
  walk_at"run"
  refine wK (b:=doB n cs x y sm) (et_B (zk (by walk_at"ev") T)) fG ?_
  refine wK (b:=!true || (decide ((3:Int) < 2) || !true)) (yG (xJ (et_B (ZZ (d:=.tuple [.str "beneath", nl (bnW cs x y st),nl ((wdF cs sm st).getD [])]) (EvE.toD (U:=false) (C (by walk_at"gc"))) (by rfl)))) fun _=>yG (zq (YV (i:=3) (uW (ds:=[.str "beneath", nl (bnW cs x y st),nl ((wdF cs sm st).getD [])]) (C (by walk_at"gc"))) xI)) fun _=>xJ (et_B (ZZ (d:=.str "beneath") (EvE.toD (U:=false) (yP (U:=false) (i:=0) (C (by walk_at"gc")) xI atI0)) (by rfl)))) rfl ?_
  refine vE (b:=true) (any J) (fun _=>?_) (fun h=>by cases h)
  exact exrs true (EvE.eq (Ub (zaM (i := "beneath") (j := "beneath") (yP (U:=false) (i:=0) (C (by walk_at"gc")) xI atI0) ZX) fun _=>zk (zg (by walk_at"ev") (zg (by walk_at"ev") (zg (by walk_at"ev") (zg (by walk_at"ev") (zg (C (by walk_at"gc")) zC))))) pb) (b:=.bool true) (by rw [decide_eq_true rfl];rfl)) rfl (.inl ⟨rfl,rfl⟩)
theorem Th {n:Nat} {cs:List (List Nat)} (ok:ShOk n cs) (g:Dg cs) (A:n<=6) {x y:Nat} (d:x < n) (l:y < n) {rs:List (List Nat)} (h:RsOk (cutC n cs x y) x y rs) {sm:List Nat} (xs:x∉sm):whyD n cs x y sm=.none\/∃ (s:Str) (w:List Nat) (a:List PyData),whyD n cs x y sm=.tuple (.str s :: nl w :: a)/\w.length<=30:=by
 have oc:=tO ok x y
 have i:=Wb (n:=n) g x y
 by_cases c:staF n cs x y sm=[]
 ·cases j:brB (cutC n cs x y) sm x y with
  | true=>exact .inl (by unfold whyD;rw [if_pos c,wH (za9 i xs j)])
  | false =>
   obtain ⟨r,m,o⟩:=zaa oc i d xs h j
   obtain ⟨p,B⟩:=(h r).mp o
   have C:r.length<=n:=yV n r (xZ p.nd) fun z q=>p.lt oc d z (cI.mpr q)
   exact .inr ⟨"road", r,[],by unfold whyD;rw [if_pos c,m],by omega⟩
 ·have e:zl (staF n cs x y sm)≠[]:=fun z=>c (eP.mp z)
  obtain ⟨t,mb⟩:=ZN (kf:=stF cs sm) e
  obtain ⟨st,f,b⟩:=aF.mp t
  have b:((st:Nat):Int)=mnK (stF cs sm) (zl (staF n cs x y sm)):=b
  have u:=zda ok (show n<=12 by omega) g d l f fun k v=>by
   rw [b]
   exact mb _ (aF.mpr ⟨k,v,rfl⟩)
  exact .inr ⟨"beneath", bnW cs x y st,[nl ((wdF cs sm st).getD [])],by unfold whyD;rw [if_neg c,<- b];rfl,by have:=u.wz;omega⟩
theorem zdl:zA ["_law_script", "_law_many", "_law_causes", "_law_cell", "_law_x", "_law_y", "_law_ready_here", "_law_some_here", "_law_others", "_law_handed", "_law_among", "_law_asked", "_law_found"] ["_law_script"] (zo (top 49)):={}
theorem zdI (F:Fun K "law" "law" (top 49) f fd) (B:Bs mg) (Z:Cs K mg aH aI) (c:zz P w K mg base CX0 "_law_cell_at" ["_law_script", "_law_k"] 1 (spD K true yv)) (e:zz P w K mg base CX0 "_law_shape" ["_law_script", "_law_first", "_law_many"] 2 (spW K true wu)) (g:zz P w K mg base CX0 "_law_ready" ["_law_causes", "_law_x", "_law_y"] 3 (spW K true v9)) (m:zz P w K mg base CX0 "_law_some" ["_law_script", "_law_start", "_law_causes", "_law_x", "_law_y", "_law_kind"] 2 (spW K true uH)) (p:zz P w K mg base CX0 "why_not" ["causes", "x", "y", "some"] 10 (spD K true vw)) (o:zz P w K mg base CX0 "_law_good" ["_law_causes", "_law_ready_here", "_law_x", "_law_y", "_law_some_here", "_law_found"] 4 (spD K true wS)):FnOk P w K mg base CX0 11 f fd ["_law_script"] (Uz K):=by
 have sc:=zdl
 refine F.ok sc (fun vs H Q E h=>?_) (fun cdv A outer s H vs Q E t h=>?_)
 ·obtain ⟨a,ns,rfl,_⟩:=h
  rfl
 obtain ⟨a,ns,rfl,hS,a3,k⟩:=h
 have le:Same H H:=Same.refl H
 have dp:zO K H [V.ref a] [PyData.list (ns.map .int)]:=.cons (.lst hS (w6 ns)) .nil
 have q:∀ v H' F',Gr H H H' F'->Rp K false .fresh H F' v (.bool true)->Q v H':=fun v H' F' _ z=>by cases z;exact k H'
 refine ⟨_,(ze (pS (i:=1) sc.nd (zJ yD zh (zJ y8 (pF c t (zb (pv 0) (zb zh zd))) zh)))
   (ze (pS (i:=2) sc.nd (pF e t (zb (pv 0) (zb zh (zb (pv 1) zd)))))
   (ze (pS (i:=3) sc.nd (zJ y8 (zJ Zj (pF c t (zb (pv 0) (zb zh zd))) zh) zh))
   (ze (pS (i:=4) sc.nd (zJ y8 (pv 3) (pv 1)))
   (ze (pS (i:=5) sc.nd (zJ y8 (zJ yD (zJ yD (pv 4) zh) (zJ y8 (zJ uO (pv 3) zh) (zJ vC (pv 1) zh))) (pv 1)))
   (ze (pS (i:=6) sc.nd (pF g t (zb (pv 2) (zb (pv 4) (zb (pv 5) zd)))))
   (ze (pS (i:=7) sc.nd (pF m t (zb (pv 0) (zb (zJ yD zh (pv 1)) (zb (pv 2) (zb (pv 4) (zb (pv 5) (zb (zJ y8 (zJ uO (pv 3) zh) zh) zd))))))))
   (ze (yU (i:=8) rfl sc.nd rfl rfl (N:=["_law_k", "_law_x", "_law_y", "_law_some_here"]) (js:=[none,some 4,some 5,some 7]) (by walk_at"comp_ok") (yw rfl B.range (zb (pv 1) zd)) (fun _ _ _ _=>(pN (i:=0) (show aX ["_law_k", "_law_x", "_law_y", "_law_some_here"] by decide +kernel))) (fun _ _ _ _=>(yS (PW.pt (xE (zr vg (pv 0) (pv 1) (zF _)) (xE (zr vg (pv 0) (pv 2) (zF _)) (xy (zr (yd (K:=K) rfl) (pv 0) (pv 3) (rfl)))))))) (fun _ _ _ _=>(pv 0)))
   (ze (yU (i:=9) rfl sc.nd rfl rfl (N:=["_law_row"]) (js:=[none]) (by walk_at"comp_ok") (zE (K:=K) rfl (pv 2)) (fun _ _ _ _=>(pN (i:=0) (show aX ["_law_row"] by decide +kernel))) (fun _ _ _ _=>yx) (fun _ _ _ _=>(pY (yR (K:=K) rfl) B.list (zb (pv 0) zd))))
   (ze (yF PassesOwn.never rfl (zE (K:=K) rfl (zU (zb (pv 7) (zb (zU zd) (zb (pv 8) (zb (pv 7) zd)))))) (pN (i:=10) sc.nd) (ze (pS (i:=11) sc.nd (pY (yR (K:=K) rfl) B.list (zb (pv 10) zd)))
   (ze (pS (i:=12) sc.nd (pF p t (zb (pv 9) (zb (pv 4) (zb (pv 5) (zb (pv 11) zd))))))
   (ze (ye (PW.pt (xi (wQ (yC (pF o t (zb (pv 2) (zb (pv 6) (zb (pv 4) (zb (pv 5) (zb (pv 10) (zb (pv 12) zd))))))))) (xi (zr (UF (K:=K) rfl t.units) (pv 11) (pv 10) (zF _)) (wP (zr (UF (K:=K) rfl t.units) (pv 9) (pv 2) (zF _)))))) (zf (zy vf)) zL)
   (zf (ye (zr zbN (pv 12) wV (zF _)) (zf (yB (yN (K:=K) rfl bK bY bX yf (pX (yE (K:=K) rfl) (pv 12) zh) (zb (pv 4) zd)))) zL))))))
   (zf (zy vf)))))))))))),?_⟩
 have hN:=sc.n 13
 have big:=zD
 walk_at"run"
 have f0:=Int.emod_nonneg (ns.getD 0 0) (show (5:Int)≠0 by decide)
 have f1:=Int.emod_lt_of_pos (ns.getD 0 0) (show (0:Int) < 5 by decide)
 obtain ⟨n,hn⟩:∃ n:Nat,2 + ns.getD 0 0 % 5=(n:Int):=⟨(2 + ns.getD 0 0 % 5).toNat,by omega⟩
 have n2:2<=n:=by omega
 have fF:n<=6:=by omega
 refine exs true (d:=.int n) (EvE.eq (wx (by walk_at"ev") (xH (zk (by walk_at"ev") (show yv [il ns,.int 0] _ from ⟨ns,0,rfl,rfl⟩)) (by walk_at"ev") (by decide))) (congrArg PyData.int hn)) (by walk_at"sc") ?_
 refine exg true (uV (by walk_at"ev") (show wu [il ns,.int 2,.int n] _ from ⟨ns,2,n,rfl,by omega,rfl⟩)) (fun d=>by walk_at"sc") ?_
 rintro d ⟨cs,sh,X,rfl⟩
 have ok:=sh.ok
 have cl:=ok.l
 have m1:IntMulOk (ns.getD 1 0) 69621:=vP (by decide) (by decide)
 generalize fE:ns.getD 1 0 * 69621 % 2147483647=I
 refine exs true (d:=.int I) (EvE.eq (xH (X6 (zk (by walk_at"ev") (show yv [il ns,.int 1] _ from ⟨ns,1,rfl,rfl⟩)) (by walk_at"ev") m1) (by walk_at"ev") (by decide)) (congrArg PyData.int fE)) (by walk_at"sc") ?_
 obtain ⟨x,ex,J⟩:=ZE I (show 0 < n by omega)
 refine exs true (d:=.int x) (EvE.eq (xH (j:=(n:Int)) (by walk_at"ev") (by walk_at"ev") (by omega)) (congrArg PyData.int ex)) (by walk_at"sc") ?_
 obtain ⟨y,ey,L⟩:=ZE ((x:Int) + 1 + I / 6 % ((n:Int) - 1)) (show 0 < n by omega)
 refine exs true (d:=.int y) (EvE.eq (xH (j:=(n:Int)) (wx (by walk_at"ev") (xH (j:=(n:Int) - 1) (uX (by walk_at"ev") (by walk_at"ev") ⟨by decide,by decide⟩) (by walk_at"ev") (by omega))) (by walk_at"ev") (by omega)) (congrArg PyData.int ey)) (by walk_at"sc") ?_
 refine exg true (uV (by walk_at"ev") ⟨n,cs,x,y,rfl,ok,fF,J,L,rfl⟩) (fun d=>by walk_at"sc") ?_
 rintro d ⟨rs,ro,rl,rfl⟩
 refine exg true (uV (zg (by walk_at"ev") (zg (EvE.eq (wx (i:=2) (j:=(n:Int)) (by walk_at"ev") (by walk_at"ev")) (congrArg PyData.int (show (2:Int) + (n:Int)=((2 + n:Nat):Int) by omega))) (zg (by walk_at"ev") (zg (by walk_at"ev") (zg (by walk_at"ev") (zg (xH (uX (by walk_at"ev") (by walk_at"ev") ⟨by decide,by decide⟩) (by walk_at"ev") (by decide)) zC)))))) ⟨ns,2 + n,n,cs,x,y,I / 30 % 4,rfl,ok,by omega,J,L,rfl⟩) (fun d=>by walk_at"sc") ?_
 rintro d ⟨sm,hs,sl,rfl⟩
 obtain ⟨C,G,a0⟩:∃ C:List Nat,C=(List.range n).filter (fun k:Nat=>!decide ((k:Int)=(x:Int)) && (!decide ((k:Int)=(y:Int)) && !decide (k∈sm)))/\x∉C:=⟨_,rfl,fun z=>by
  have:=(aJ.mp z).2
  simp at this⟩
 have ol:C.length<=n:=by
  rw [G]
  have:=bP (fun k:Nat=>!decide ((k:Int)=(x:Int)) && (!decide ((k:Int)=(y:Int)) && !decide (k∈sm))) (List.range n)
  rwa [aV] at this
 refine exs true (d:=nl C) (EvO.toE (EvO.eq (YS (U:=true) (is:=[0]) (n:=n) (fun k:Nat=>.int (k:Int)) (fun k:Nat=>!decide ((k:Int)=(x:Int)) && (!decide ((k:Int)=(y:Int)) && !decide (k∈sm))) (by walk_at"ev") (by omega) (by walk_at"cc") rfl (by decide) ?_) (by rw [G]))) (by walk_at"sc") ?_
 ·intro k hk
  exact egn (by walk_at"sc") ⟨xu (by walk_at"ev") fun _=>xu (by walk_at"ev") fun _=>EvT.eq (zq (zW (neg:=true) (i:=(k:Int)) (ns:=zl sm) (by walk_at"ev") (EvE.toL (EvE.eq (U:=false) (by walk_at"ev") (ya _))))) (by show (!decide _)=_;rw [zV]),fun _=>by walk_at"ev"⟩
 refine exs true (d:=nls cs) (EvO.toE (yp (U:=true) (U':=false) (is:=[0]) (xs:=cs) nl nl (fun x _ y _ h=>h) (zN (by walk_at"ev")) (by walk_at"cc") rfl (by decide) (by omega) ?_)) (by walk_at"sc") ?_
 ·intro r t
  exact egn (by walk_at"sc") (EvO.toE (x5 (EvL.imm (U:=false) (by walk_at"ev") (xY r))))
 have dc:=Wb (n:=n) X x y
 have rn:vL (cutC n cs x y):=zeq (zdn sh) _
 have a1:=zdg (tO ok x y) dc rn fF
 obtain ⟨R,a2,am⟩:∃ R:List (List Nat),R=[sm,[],C,sm]/\∀ a∈R,x∉a/\a.length<=12/\∀ z∈a,z < n:=⟨_,rfl,fun a S=>by
  have xs:x∉sm:=fun z=>(hs x z).2.1 rfl
  simp only [List.mem_cons,List.not_mem_nil,or_false] at S
  rcases S with rfl | rfl | rfl | rfl
  ·exact ⟨xs,by omega,fun z D=>(hs z D).1⟩
  ·exact ⟨fun z=>(nomatch z),aW _,fun z D=>(nomatch D)⟩
  ·exact ⟨a0,by omega,fun z D=>by rw [G] at D;exact aZ.mp (aJ.mp D).1⟩
  ·exact ⟨xs,by omega,fun z D=>(hs z D).1⟩⟩
 refine vi (ds:=R.map nl) true (fun i Y=>∃ u0 u v w,Y=[u0,some (.fz true (.int n)),some (.fz true (nls cs)),some (.fz true (.int I)),some (.fz true (.int x)),some (.fz true (.int y)),some (.fz true (yM n cs x y rs)),some (.fz true (nl sm)),some (.fz true (nl C)),some (.fz true (nls cs)),u,v,w]) (zN (EvE.eq (EvO.toE (zZ (ds:=[nl sm,nl [],nl C,nl sm]) (zg (by walk_at"ev") (zg (EvO.toE (zZ (ds:=[]) zC (by decide))) (zg (by walk_at"ev") (zg (by walk_at"ev") zC)))) (by show 4<=sizeLine;omega))) (by rw [a2];rfl))) ⟨_,none,none,none,rfl⟩ ?_ ?_
 ·rintro i d Y' hd ⟨u0,u,v,w,rfl⟩
  obtain ⟨a,S,rfl⟩:=xN hd
  obtain ⟨xa,al,az⟩:=am a (aS S)
  have fG:vw [nls cs,.int x,.int y,nl a] (whyD n cs x y a):=⟨n,cs,x,y,a,rfl,ok,by omega,J,L,dc,rn,a1,xa,az,al,rfl⟩
  have W:wS [nls cs,yM n cs x y rs,.int x,.int y,nl a,whyD n cs x y a] (.bool true):=⟨n,cs,x,y,rs,a,rfl,ok,X,fF,J,L,ro,rl,by omega,xa,rfl⟩
  refine ⟨_,egn (by walk_at"sc") ?_⟩
  refine exs true (d:=nl a) (EvO.toE (x5 (EvL.imm (U:=false) (EvE.toL (by walk_at"ev")) (xY a)))) (by walk_at"sc") ?_
  rcases Th ok X fF J L ro xa with ew | ⟨s0,wy,M,ew,wl⟩
  ·rw [ew] at fG W
   refine exs true (zk (by walk_at"ev") fG) (by walk_at"sc") ?_
   refine wK (b:=!true || (false || false)) (yG (xJ (et_B (zk (by walk_at"ev") W))) fun _=>yG (zq (Zo (d:=nl a) (EvE.toD (U:=true) (by walk_at"ev")) (EvE.toD (U:=true) (by walk_at"ev")) (wD a))) fun _=>zq (Zo (d:=nls cs) (EvE.toD (U:=true) (by walk_at"ev")) (EvE.toD (U:=true) (by walk_at"ev")) (ue cs))) rfl ?_
   exact xj (b:=!isNone .none) (zq (X5 (EvE.toD (U:=true) (by walk_at"ev")))) (fun h=>nomatch h) fun _=>yr ⟨_,_,_,_,rfl⟩
  ·rw [ew] at fG W
   refine exmk (by walk_at"ev") fG (by walk_at"mk") (by walk_at"sc") fun T=>?_
   refine wK (b:=!true || (false || false)) (yG (xJ (et_B (zk (by walk_at"ev") W))) fun _=>yG (zq (Zo (d:=nl a) (EvE.toD (U:=true) (by walk_at"ev")) (EvE.toD (U:=true) (by walk_at"ev")) (wD a))) fun _=>zq (Zo (d:=nls cs) (EvE.toD (U:=true) (by walk_at"ev")) (EvE.toD (U:=true) (by walk_at"ev")) (ue cs))) rfl ?_
   refine xj (b:=!isNone (.tuple (.str s0 :: nl wy :: M))) (zq (X5 (EvE.toD (U:=false) (by walk_at"ev")))) (fun _=>?_) (fun h=>by cases h)
   refine zci (i:=12) (j:=4) (by walk_at"gc") (by walk_at"gc") (by rw [aB];omega) (by walk_at"sp") ?_ ⟨_,_,_,_,rfl⟩
   walk_at"ot"
 ·rintro Y' ⟨u0,u,v,w,rfl⟩
  exact zM true (by walk_at"ev") rfl (.inr rfl)
end
abbrev De (K:aA) (x:Str) (i:Nat):=∃ f fd,At K x (top i) f fd
theorem zen {l:PySem.W.OpenLaw} {w:World} {K:aA} {h:Heap} {mg:Str->Option Value} {fa:Addr} (X:K.In h) (G:h.Ns mainGlobals mg) (c2:mg "law" = some (.ref fa))
  (d1:De K "meet" 1) (d2:De K "effects" 2) (d5:De K "gathered" 5) (d3:∃ f fd,AtL K "above" (top 3) f fd) (d4:∃ f fd,AtL K "beneath" (top 4) f fd) (d6:De K "steps_down" 6) (d7:De K "nearer" 7) (d8:De K "way_down" 8) (d9:De K "without" 9) (c3:De K "steps_from" 13) (c4:∃ f fd,AtL K "reach" (top 14) f fd) (c5:De K "reached_things" 15) (c6:De K "barred" 16) (c7:De K "neighbours" 18) (c8:De K "is_vee" 19) (c9:De K "inner_places" 20) (ca:De K "vees" 21) (cb:De K "bars_at" 22) (cc:De K "goes_on" 25) (cd:De K "all_longer" 24) (ce:De K "open_road" 23) (cf:De K "on_ways" 27) (cg:De K "cut_shape" 28) (ch:De K "beneath_reason" 30) (ci:∃ f fd,AtL K "why_not" (top 29) f fd) (cj:De K "_law_cell_at" 32) (ck:De K "_law_shape" 33) (cm:De K "_law_numbers" 34) (cn:De K "_law_low" 35) (cp:De K "_law_roads" 36) (cq:De K "_law_turns" 37) (cr:De K "_law_open" 38) (cu:De K "_law_ways" 39) (cv:De K "_law_cut" 40) (cw:De K "_law_lows" 41) (cx:De K "_law_ready" 42) (cy:De K "_law_does" 43) (cz:De K "_law_some" 44) (d0:De K "_law_arrows" 45) (da:De K "_law_beneath_good" 46) (db:De K "_law_road_due" 47) (dc:De K "_law_good" 48)
  {f0:Addr} {oc:Value} {od an:Option Addr} {osl:Array (Option Value)} {kV doc pm cdv ct:Value} (a0:PySem.W.nsIn K mainGlobals "law" = some (some (.ref f0)))
  (l0:K.lookup f0=some ⟨oc,od,.func (PySem.W.fnOf "law" "law" (wg (top 49)) (xB (top 49)) (zo (top 49)) .none kV doc pm an cdv ct),osl⟩) (c0:PySem.W.codeIn K cdv "law" = true) (k0:PySem.W.keepIn K (.ref f0)=true)
  (z1:PySem.W.nsIn K mainGlobals "len" = some none) (z2:PySem.W.nsIn K mainGlobals "set" = some none) (z3:PySem.W.nsIn K mainGlobals "range" = some none) (z4:PySem.W.nsIn K mainGlobals "list" = some none) (z5:PySem.W.nsIn K mainGlobals "sorted" = some none) (z6:PySem.W.nsIn K mainGlobals "enumerate" = some none) (z7:PySem.W.nsIn K mainGlobals "min" = some none) (z8:PySem.W.nsIn K mainGlobals "isinstance" = some none) (z9:PySem.W.nsIn K mainGlobals "all" = some none) (de:PySem.W.nsIn K mainGlobals "int" = some none) (df:PySem.W.nsIn K mainGlobals "bool" = some none) (dg:PySem.W.nsIn K mainGlobals "any" = some none) (dh:PySem.W.nsIn K mainGlobals "max" = some none) (di:PySem.W.nsIn K mainGlobals "tuple" = some none) (dj:PySem.W.nsIn K mainGlobals "str" = some none)
  {aH aI:Tok}  (V:PySem.W.nsIn K mainGlobals "AGAINST" = some (some (.int 0 aH))) (ai:PySem.W.nsIn K mainGlobals "ALONG" = some (some (.int 1 aI))) (nt:tY K=true) :
  ∃ fd:FuncData,(∀ (s:Shared) (v:Value),BindsTo s fd ⟨[v],[]⟩ [("_law_script", v)])/\∀ base:Heap,K.In base->base.Ns mainGlobals mg->FnOk l.prog w K mg base CX0 11 fa fd ["_law_script"] (Uz K):=by
 have e:=c2.symm.trans (PySem.W.mg_of X G a0)
 cases e
 have fE:∀ {x:Str},PySem.W.nsIn K mainGlobals x=some none->mg x=none:=fun z=>PySem.W.mg_none_of X G z
 have B:Bs mg:=⟨fE z1,fE z2,fE z3,fE z4,fE z5,fE z6,fE z7,fE z8,fE z9,fE de,fE df,fE dg,fE dh,fE di,fE dj⟩
 refine ⟨PySem.W.fnOf "law" "law" (wg (top 49)) (xB (top 49)) (zo (top 49)) .none kV doc pm an cdv ct,fun s v=>.of_eq rfl,fun base _ _=>?_⟩
 have d:∀ {x:Str} {f:Addr},PySem.W.nsIn K mainGlobals x=some (some (.ref f))->mg x=some (.ref f):=fun z=>PySem.W.mg_of X G z
 have Z:Cs K mg aH aI:=⟨PySem.W.mg_of X G V,PySem.W.mg_of X G ai,nt⟩
 obtain ⟨f1,g1,a1,F1⟩:=d1
 have b1:=F1.binds (ps:=["some", "others"]) fun _ _ _ _ _ _ us a=>match us,a with | [_,_],_=>rfl
 have af:=zK (P:=l.prog) (w:=w) (base:=base) F1 (d a1) b1 (zbV F1 B Z)
 obtain ⟨f2,g2,a2,F2⟩:=d2
 have b2:=F2.binds (ps:=["causes", "k"]) fun _ _ _ _ _ _ us a=>match us,a with | [_,_],_=>rfl
 have c:=zK (P:=l.prog) (w:=w) (base:=base) F2 (d a2) b2 (VW F2 B Z)
 obtain ⟨f5,g5,a5,F5⟩:=d5
 have b5:=F5.binds (ps:=["some", "nexts"]) fun _ _ _ _ _ _ us a=>match us,a with | [_,_],_=>rfl
 have i:=zK (P:=l.prog) (w:=w) (base:=base) F5 (d a5) b5 (WW F5 B Z)
 obtain ⟨f3,g3,a3,F3,L3⟩:=d3
 have b3:=F3.binds (ps:=["causes", "some"]) fun _ _ _ _ _ _ us a=>match us,a with | [_,_],_=>rfl
 have aj:=zK (P:=l.prog) (w:=w) (base:=base) F3 (d a3) b3 (zad F3 L3 B Z i)
 obtain ⟨f4,g4,a4,F4,L4⟩:=d4
 have b4:=F4.binds (ps:=["causes", "some"]) fun _ _ _ _ _ _ us a=>match us,a with | [_,_],_=>rfl
 have u:=zK (P:=l.prog) (w:=w) (base:=base) F4 (d a4) b4 (VX F4 L4 B Z i c)
 obtain ⟨f6,g6,a6,F6⟩:=d6
 have b6:=F6.binds (ps:=["causes", "some", "within"]) fun _ _ _ _ _ _ us a=>match us,a with | [_,_,_],_=>rfl
 have k:=zK (P:=l.prog) (w:=w) (base:=base) F6 (d a6) b6 (Yn F6 B Z af c)
 obtain ⟨f7,g7,a7,F7⟩:=d7
 have b7:=F7.binds (ps:=["causes", "steps", "k"]) fun _ _ _ _ _ _ us a=>match us,a with | [_,_,_],_=>rfl
 have ag:=zK (P:=l.prog) (w:=w) (base:=base) F7 (d a7) b7 (TB F7 B Z c)
 obtain ⟨f8,g8,a8,F8⟩:=d8
 have b8:=F8.binds (ps:=["causes", "k", "some"]) fun _ _ _ _ _ _ us a=>match us,a with | [_,_,_],_=>rfl
 have T:=zK (P:=l.prog) (w:=w) (base:=base) F8 (d a8) b8 (WP F8 B Z k ag)
 obtain ⟨f9,g9,a9,F9⟩:=d9
 have b9:=F9.binds (ps:=["causes", "pairs"]) fun _ _ _ _ _ _ us a=>match us,a with | [_,_],_=>rfl
 have aa:=zK (P:=l.prog) (w:=w) (base:=base) F9 (d a9) b9 (VP F9 B Z)
 obtain ⟨gg,gh,dk,am⟩:=c3
 have dm:=am.binds (ps:=["causes", "known", "pair"]) fun _ _ _ _ _ _ us a=>match us,a with | [_,_,_],_=>rfl
 have C:=zK (P:=l.prog) (w:=w) (base:=base) am (d dk) dm (Ym am B Z c)
 obtain ⟨gi,gj,dn,ao,dq⟩:=c4
 have dr:=ao.binds (ps:=["causes", "x", "known"]) fun _ _ _ _ _ _ us a=>match us,a with | [_,_,_],_=>rfl
 have ak:=zK (P:=l.prog) (w:=w) (base:=base) ao (d dn) dr (zab ao dq B Z i C)
 obtain ⟨gk,gl,dt,aq⟩:=c5
 have du:=aq.binds (ps:=["causes", "x", "known"]) fun _ _ _ _ _ _ us a=>match us,a with | [_,_,_],_=>rfl
 have n:=zK (P:=l.prog) (w:=w) (base:=base) aq (d dt) du (uQ aq B Z ak)
 obtain ⟨gm,gn,dv,ar⟩:=c6
 have dw:=ar.binds (ps:=["causes", "x", "y", "known"]) fun _ _ _ _ _ _ us a=>match us,a with | [_,_,_,_],_=>rfl
 have ah:=zK (P:=l.prog) (w:=w) (base:=base) ar (d dv) dw (TD ar B Z n)
 obtain ⟨gp,gq,dy,au⟩:=c7
 have dz:=au.binds (ps:=["causes", "k"]) fun _ _ _ _ _ _ us a=>match us,a with | [_,_],_=>rfl
 have D:=zK (P:=l.prog) (w:=w) (base:=base) au (d dy) dz (Yo au B Z c)
 obtain ⟨gs,gt,e0,av⟩:=c8
 have e1:=av.binds (ps:=["causes", "road", "place"]) fun _ _ _ _ _ _ us a=>match us,a with | [_,_,_],_=>rfl
 have J:=zK (P:=l.prog) (w:=w) (base:=base) av (d e0) e1 (TC av B Z)
 obtain ⟨gu,gv,e2,aw⟩:=c9
 have e3:=aw.binds (ps:=["road"]) fun _ _ _ _ _ _ us a=>match us,a with | [_],_=>rfl
 have t:=zK (P:=l.prog) (w:=w) (base:=base) aw (d e2) e3 (Zf aw B Z)
 obtain ⟨gw,gx,e4,ax⟩:=ca
 have e5:=ax.binds (ps:=["causes", "road"]) fun _ _ _ _ _ _ us a=>match us,a with | [_,_],_=>rfl
 have al:=zK (P:=l.prog) (w:=w) (base:=base) ax (d e4) e5 (zbU ax B Z t J)
 obtain ⟨gy,gz,e6,ay⟩:=cb
 have e7:=ay.binds (ps:=["causes", "road", "place", "known"]) fun _ _ _ _ _ _ us a=>match us,a with | [_,_,_,_],_=>rfl
 have ab:=zK (P:=l.prog) (w:=w) (base:=base) ay (d e6) e7 (VY ay B Z J af u)
 obtain ⟨h0,h1,e8,az⟩:=cc
 have e9:=az.binds (ps:=["causes", "road", "known"]) fun _ _ _ _ _ _ us a=>match us,a with | [_,_,_],_=>rfl
 have ac:=zK (P:=l.prog) (w:=w) (base:=base) az (d e8) e9 (VU az B Z ab)
 obtain ⟨h2,h3,ea,b0⟩:=cd
 have eb:=b0.binds (ps:=["causes", "roads", "known"]) fun _ _ _ _ _ _ us a=>match us,a with | [_,_,_],_=>rfl
 have E:=zK (P:=l.prog) (w:=w) (base:=base) b0 (d ea) eb (Yq b0 B Z D ac)
 obtain ⟨h4,h5,ec,ba⟩:=ce
 have ed:=ba.binds (ps:=["causes", "x", "y", "known"]) fun _ _ _ _ _ _ us a=>match us,a with | [_,_,_,_],_=>rfl
 have L:=zK (P:=l.prog) (w:=w) (base:=base) ba (d ec) ed (XM ba B Z ah E al)
 obtain ⟨h6,h7,ee,bb⟩:=cf
 have ef:=bb.binds (ps:=["causes", "x", "y"]) fun _ _ _ _ _ _ us a=>match us,a with | [_,_,_],_=>rfl
 have y:=zK (P:=l.prog) (w:=w) (base:=base) bb (d ee) ef (VR bb B Z aj u)
 obtain ⟨h8,h9,eg,bc⟩:=cg
 have eh:=bc.binds (ps:=["causes", "x", "y"]) fun _ _ _ _ _ _ us a=>match us,a with | [_,_,_],_=>rfl
 have M:=zK (P:=l.prog) (w:=w) (base:=base) bc (d eg) eh (XT bc B Z aa y)
 obtain ⟨ha,hb,ei,bd⟩:=ch
 have ej:=bd.binds (ps:=["causes", "x", "y", "some", "start"]) fun _ _ _ _ _ _ us a=>match us,a with | [_,_,_,_,_],_=>rfl
 have o:=zK (P:=l.prog) (w:=w) (base:=base) bd (d ei) ej (uR bd B Z T)
 obtain ⟨hc,he,ek,be,el⟩:=ci
 have em:=be.binds (ps:=["causes", "x", "y", "some"]) fun _ _ _ _ _ _ us a=>match us,a with | [_,_,_,_],_=>rfl
 have ae:=zK (P:=l.prog) (w:=w) (base:=base) be (d ek) em (VQ be el B Z k y o L M)
 obtain ⟨hf,hg,eo,bf⟩:=cj
 have ep:=bf.binds (ps:=["_law_script", "_law_k"]) fun _ _ _ _ _ _ us a=>match us,a with | [_,_],_=>rfl
 have b:=zK (P:=l.prog) (w:=w) (base:=base) bf (d eo) ep (ZM bf B Z)
 obtain ⟨hh,hj,er,bg⟩:=ck
 have es:=bg.binds (ps:=["_law_script", "_law_first", "_law_many"]) fun _ _ _ _ _ _ us a=>match us,a with | [_,_,_],_=>rfl
 have F:=zK (P:=l.prog) (w:=w) (base:=base) bg (d er) es (XQ bg B Z b)
 obtain ⟨hk,hm,et,bh⟩:=cm
 have eu:=bh.binds (ps:=["_law_found"]) fun _ _ _ _ _ _ us a=>match us,a with | [_],_=>rfl
 have g:=zK (P:=l.prog) (w:=w) (base:=base) bh (d et) eu (ZL bh B Z)
 obtain ⟨hn,ho,ew,bi⟩:=cn
 have ey:=bi.binds (ps:=["_law_causes", "_law_some_here"]) fun _ _ _ _ _ _ us a=>match us,a with | [_,_],_=>rfl
 have r:=zK (P:=l.prog) (w:=w) (base:=base) bi (d ew) ey (VS bi B Z)
 obtain ⟨hp,hq,ez,bj⟩:=cp
 have fb:=bj.binds (ps:=["_law_causes", "_law_x", "_law_y"]) fun _ _ _ _ _ _ us a=>match us,a with | [_,_,_],_=>rfl
 have H:=zK (P:=l.prog) (w:=w) (base:=base) bj (d ez) fb (XR bj B Z)
 obtain ⟨hr,hs,fc,bn⟩:=cq
 have fe:=bn.binds (ps:=["_law_causes", "_law_road"]) fun _ _ _ _ _ _ us a=>match us,a with | [_,_],_=>rfl
 have m:=zK (P:=l.prog) (w:=w) (base:=base) bn (d fc) fe (XO bn B Z)
 obtain ⟨ht,hu,ff,bo⟩:=cr
 have fg:=bo.binds (ps:=["_law_causes", "_law_lows_here", "_law_road", "_law_some_here"]) fun _ _ _ _ _ _ us a=>match us,a with | [_,_,_,_],_=>rfl
 have p:=zK (P:=l.prog) (w:=w) (base:=base) bo (d ff) fg (WS bo B Z m)
 obtain ⟨hv,hw,fh,bp⟩:=cu
 have fi:=bp.binds (ps:=["_law_causes", "_law_lows_here", "_law_x", "_law_y"]) fun _ _ _ _ _ _ us a=>match us,a with | [_,_,_,_],_=>rfl
 have N:=zK (P:=l.prog) (w:=w) (base:=base) bp (d fh) fi (WQ bp B Z)
 obtain ⟨hx,hy,fj,bq⟩:=cv
 have fk:=bq.binds (ps:=["_law_causes", "_law_ways_here", "_law_x"]) fun _ _ _ _ _ _ us a=>match us,a with | [_,_,_],_=>rfl
 have fG:=zK (P:=l.prog) (w:=w) (base:=base) bq (d fj) fk (VT bq B Z)
 obtain ⟨hz,i0,fm,br⟩:=cw
 have fq:=br.binds (ps:=["_law_causes"]) fun _ _ _ _ _ _ us a=>match us,a with | [_],_=>rfl
 have fF:=zK (P:=l.prog) (w:=w) (base:=base) br (d fm) fq (WT br B Z r)
 obtain ⟨i1,i2,fr,bt⟩:=cx
 have ft:=bt.binds (ps:=["_law_causes", "_law_x", "_law_y"]) fun _ _ _ _ _ _ us a=>match us,a with | [_,_,_],_=>rfl
 have I:=zK (P:=l.prog) (w:=w) (base:=base) bt (d fr) ft (XS bt B Z fF N fG H r)
 obtain ⟨i3,i4,fu,bu⟩:=cy
 have fv:=bu.binds (ps:=["_law_ready_here", "_law_some_here"]) fun _ _ _ _ _ _ us a=>match us,a with | [_,_],_=>rfl
 have Q:=zK (P:=l.prog) (w:=w) (base:=base) bu (d fu) fv (WV bu B Z p)
 obtain ⟨i5,i6,fw,bv⟩:=cz
 have fx:=bv.binds (ps:=["_law_script", "_law_start", "_law_causes", "_law_x", "_law_y", "_law_kind"]) fun _ _ _ _ _ _ us a=>match us,a with | [_,_,_,_,_,_],_=>rfl
 have R:=zK (P:=l.prog) (w:=w) (base:=base) bv (d fw) fx (WR bv B Z b)
 obtain ⟨i7,i8,fy,bw⟩:=d0
 have g0:=bw.binds (ps:=["_law_causes", "_law_way"]) fun _ _ _ _ _ _ us a=>match us,a with | [_,_],_=>rfl
 have A:=zK (P:=l.prog) (w:=w) (base:=base) bw (d fy) g0 (Yp bw B Z g)
 obtain ⟨i9,ia,ga,bx⟩:=da
 have gb:=bx.binds (ps:=["_law_causes", "_law_x", "_law_y", "_law_some_here", "_law_found"]) fun _ _ _ _ _ _ us a=>match us,a with | [_,_,_,_,_],_=>rfl
 have j:=zK (P:=l.prog) (w:=w) (base:=base) bx (d ga) gb (v4 bx B Z A)
 obtain ⟨ib,ic,gc,bz⟩:=db
 have gd:=bz.binds (ps:=["_law_ready_here", "_law_some_here"]) fun _ _ _ _ _ _ us a=>match us,a with | [_,_],_=>rfl
 have q:=zK (P:=l.prog) (w:=w) (base:=base) bz (d gc) gd (Ze bz B Z p m)
 obtain ⟨ie,ig,ge,c1⟩:=dc
 have gf:=c1.binds (ps:=["_law_causes", "_law_ready_here", "_law_x", "_law_y", "_law_some_here", "_law_found"]) fun _ _ _ _ _ _ us a=>match us,a with | [_,_,_,_,_,_],_=>rfl
 have S:=zK (P:=l.prog) (w:=w) (base:=base) c1 (d ge) gf (WU c1 B Z Q j g q)
 exact zdI (V9 l0 c0 k0) B Z b F I R ae S
theorem walk {l:PySem.W.OpenLaw} {q:Program} {b:List Str} {i:(Str->Option Value)->Heap->Prop} {c:World->Heap->Prop} {d:DefRec} {K:Params->aA} (j:l.most=some 63) (e:d.params.defaults=[])
  (m:∀ (w:World) (h:Heap),c w h->(K w.params).In h) (o:∀ (w:World) (h:Heap),c w h->(∀ p∈yg (K w.params),h.get? p.1=some (PySem.W.tabObj #[]))/\Xg (K w.params)=true)
  (F:∀ (w:World) (mg:Str->Option Value) (g:Addr) (h:Heap),(K w.params).In h->h.Ns mainGlobals mg->mg d.name=some (.ref g) ->
   ∃ fd:FuncData,(∀ (s:Shared) (u:Value),BindsTo s fd ⟨[u],[]⟩ [("_law_script", u)])/\∀ base:Heap,(K w.params).In base->base.Ns mainGlobals mg->FnOk l.prog w (K w.params) mg base CX0 11 g fd ["_law_script"] (Uz (K w.params))) :
  PySem.W.WalkO q b i c l.row.toRowW d [] (fun f vs=>PySem.call f vs) :=
 L2.zbi (n:=63) (k:=11) (x := "_law_script") (CX:=fun _=>CX0) (sp:=fun w=>Uz (K w.params)) j (by decide) e ⟨rfl,by decide,by decide⟩ m o F (fun _ _ a ns r t=>⟨a,ns,rfl,t,r,fun _=>rfl⟩) fun _ _ _ _ _ z=>z
end K55
def PySem.W.Fast.tw9532182477675586488 : PySem.Program := PySem.Challenge.pw_causebook_k55_why_not
theorem PySem.W.Fast.te9532182477675586488 : PySem.Challenge.pw_causebook_k55_why_not = PySem.W.Fast.tw9532182477675586488 := rfl
def PySem.W.Fast.tw5663449651308042390 : Nat := 0
def PySem.W.Fast.tw2426479427121398562 : Nat := 0
def PySem.W.Fast.tw6843809979110670651 : Nat := 0
def PySem.W.Fast.tw13207564806490341989 : Nat := 0
def PySem.W.Fast.tw400532202897552929 : Nat := 0
def PySem.W.Fast.tw4814763350071760668 : Nat := 0
def PySem.W.Fast.tw16239125493945300131 : Nat := 0
open PySem PySem.W PyProof.Rows
set_option maxRecDepth 100000 in
set_option maxHeartbeats 0 in
theorem PySem.Challenge.cw_causebook_k55_why_not_holds : PySem.Challenge.rw_causebook_k55_why_not.Holds := by
 w_on;o_law;k_head;(case hw=>w_witness2)
 k_fill
 refine K55.walk (l:=PySem.Challenge.rw_causebook_k55_why_not) rfl rfl (fun w h fE=>PySem.W.km_in_of fE) (fun w h fE=>⟨zbp (PySem.W.km_tabs_of fE) (by kernel_rfl),by kernel_rfl⟩) ?F
 case F =>
  intro w mg fa h KX G hmg
  refine' K55.zen KX G hmg ?d1 ?d2 ?d5 ?d3 ?d4 ?d6 ?d7 ?d8 ?d9 ?d13 ?d14 ?d15 ?d16 ?d18 ?d19 ?d20 ?d21 ?d22 ?d25 ?d24 ?d23 ?d27 ?d28 ?d30 ?d29 ?d32 ?d33 ?d34 ?d35 ?d36 ?d37 ?d38 ?d39 ?d40 ?d41 ?d42 ?d43 ?d44 ?d45 ?d46 ?d47 ?d48 ?a0 ?l0 ?c0 ?k0 ?z1 ?z2 ?z3 ?z4 ?z5 ?z6 ?z7 ?z8 ?z9 ?z10 ?z11 ?z12 ?z13 ?z14 ?z15 ?y_AGAINST ?y_ALONG ?nt
  iterate 3 (refine' Cm.Xf ?a ?l ?c ?k;(case a=>k_is);(case l=>k_is);(case c=>k_is);(case k=>k_is))
  iterate 2 (refine' Cm.Xe ?a ?l ?c ?k ?m;(case a=>k_is);(case l=>k_is);(case c=>k_is);(case k=>k_is);(case m=>kernel_rfl))
  iterate 5 (refine' Cm.Xf ?a ?l ?c ?k;(case a=>k_is);(case l=>k_is);(case c=>k_is);(case k=>k_is))
  iterate 1 (refine' Cm.Xe ?a ?l ?c ?k ?m;(case a=>k_is);(case l=>k_is);(case c=>k_is);(case k=>k_is);(case m=>kernel_rfl))
  iterate 13 (refine' Cm.Xf ?a ?l ?c ?k;(case a=>k_is);(case l=>k_is);(case c=>k_is);(case k=>k_is))
  iterate 1 (refine' Cm.Xe ?a ?l ?c ?k ?m;(case a=>k_is);(case l=>k_is);(case c=>k_is);(case k=>k_is);(case m=>kernel_rfl))
  iterate 17 (refine' Cm.Xf ?a ?l ?c ?k;(case a=>k_is);(case l=>k_is);(case c=>k_is);(case k=>k_is))
  (case a0=>k_is);(case l0=>k_is);(case c0=>k_is);(case k0=>k_is)
  (case z1=>k_is);(case z2=>k_is);(case z3=>k_is);(case z4=>k_is);(case z5=>k_is);(case z6=>k_is);(case z7=>k_is);(case z8=>k_is);(case z9=>k_is);(case z10=>k_is);(case z11=>k_is);(case z12=>k_is);(case z13=>k_is);(case z14=>k_is);(case z15=>k_is);(case y_AGAINST=>k_is);(case y_ALONG=>k_is);(case nt=>kernel_rfl)
#print axioms PySem.Challenge.cw_causebook_k55_why_not_holds
