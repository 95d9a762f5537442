import PyProof.Rows.All
import Wide.All
import OpenK.AllK
import Wide.FinOn
import Lean
import PyProof.EqAt
import PyProof.EqKinds
import PyProof.TupleCall
import PySem.Challenge.RW_causebook_k87_read
set_option Elab.async false
set_option linter.all false
set_option maxRecDepth 100000
set_option genSizeOf false
local macro_rules | `(tactic| omega) => `(tactic| first | lia | omega (config := {}))
abbrev ζa:=@List.length_map
abbrev ζb:=PySem.W.Frag
abbrev ζc:=@List.getD_eq_getElem?_getD
abbrev ζd:=@List.mem_of_getElem?
abbrev ζe:=@List.getElem?_eq_some_iff
abbrev ζf:=@List.getElem?_eq_getElem
abbrev ζg:=@PySem.Heap.get?_push_of_some
abbrev ζh:=@List.mem_singleton
abbrev ζi:=@List.mem_cons_self
abbrev ζj:=@List.length_append
abbrev ζk:=@List.mem_cons_of_mem
abbrev ζl:=@List.getElem?_map
abbrev ζm:=@Nat.le_refl
abbrev ζn:=@PySem.Heap.lt_size
abbrev ζo:=@PySem.F.plainAttrs_list
abbrev ζp:=@PySem.Heap.get?_push_size
abbrev ζq:=@List.mem_map
abbrev ζr:=@List.map_map
abbrev ζs:=@List.mem_cons
abbrev ζt:=@List.getElem?_set_self
abbrev ζu:=@List.mem_append
abbrev ζv:=@PySem.F.type_list_append
abbrev ζw:=@PySem.F.slot_list_append
abbrev ζx:=@List.getElem?_set_ne
abbrev ζy:=@List.length_take
abbrev ζz:=@List.length_range
abbrev ζA:=@List.take_of_length_le
abbrev ζB:=@Nat.lt_of_lt_of_le
abbrev ζC:=@Bool.false_ne_true
abbrev ζD:=@Option.some.inj
abbrev ζE:=@List.map_append
abbrev ζF:=@List.getElem?_eq_none
abbrev ζG:=@Nat.ne_of_lt
abbrev ζH:=@List.mem_iff_getElem?
abbrev ζI:=@Int.toNat_natCast
abbrev ζJ:=@List.mem_append_right
abbrev ζK:=@List.map_congr_left
abbrev ζL:=@List.length_cons
abbrev ζM:=@Nat.le_trans
abbrev ζN:=@List.getElem?_append_right
abbrev ζO:=@List.length_eq_zero_iff
abbrev ζP:=@List.size_toArray
abbrev ζQ:=@List.mem_range
abbrev ζR:=@List.length_drop
abbrev ζS:=@List.append_assoc
abbrev ζT:=@List.map_cons
abbrev ζU:=@Array.length_toList
abbrev ζV:=@List.getElem?_range
abbrev ζW:=@List.append_nil
abbrev ζX:=@PySem.Heap.get?_update_self
abbrev ζY:=@Nat.zero_le
abbrev ζZ:=@List.mem_of_mem_take
abbrev ζ0:=@PySem.F.plainAttrs_str
abbrev ζ1:=@List.getElem?_append_left
abbrev ζ2:=@Int.natCast_add
abbrev ζ3:=@Nat.lt_irrefl
abbrev ζ4:=@List.take_length
abbrev ζ5:=@List.replicate_succ
abbrev ζ6:=@List.mem_filter
abbrev ζ7:=@List.mem_append_left
abbrev ζ8:=@Nat.le_add_right
abbrev ζ9:=@List.all_eq_true
abbrev ξa:=@List.ext_getElem?
abbrev ξb:=@Nat.ne_of_gt
abbrev ξc:=@List.length_replicate
abbrev ξd:=@List.mem_filterMap
abbrev ξe:=@List.any_eq_true
abbrev ξf:=@PySem.Heap.size_push
abbrev ξg:=@List.take_zero
abbrev ξh:=@List.reverse_cons
abbrev ξi:=@List.foldl_append
abbrev ξj:=@List.length_zipWith
abbrev ξk:=@Option.map_eq_some_iff
abbrev ξl:=@List.length_filter_le
abbrev ξm:=@Array.getElem?_toList
abbrev ξn:=@List.getElem?_zip_eq_some
abbrev ξo:=@Array.getElem?_eq_getElem
abbrev ξp:=@Bool.and_eq_true_iff
abbrev ξq:=@Nat.lt_succ_of_lt
abbrev ξr:=@List.length_set
abbrev ξs:=@List.idxOf_lt_length_iff
abbrev ξt:=@List.flatten_cons
abbrev ξu:=@Int.toNat_of_nonneg
abbrev ξv:=@List.getElem_mem
abbrev ξw:=@List.pairwise_cons
abbrev ξx:=@List.dropLast_concat_getLast
abbrev ξy:=@List.length_zip
abbrev ξz:=@Int.emod_nonneg
abbrev ξA:=@Bool.eq_iff_iff
abbrev ξB:=@List.nodup_append
abbrev ξC:=@Nat.zero_lt_succ
abbrev ξD:=@Nat.succ_lt_succ
abbrev ξE:=@Array.toList_inj
abbrev ξF:=@Nat.sub_self
abbrev ξG:=@List.getElem?_take_of_lt
abbrev ξH:=@Nat.min_eq_left
abbrev ξI:=@List.nodup_cons
abbrev ξJ:=@List.getElem?_replicate
abbrev ξK:=@List.filter_append
abbrev ξL:=@Int.natCast_mul
abbrev ξM:=@Int.emod_lt_of_pos
abbrev ξN:=@List.pairwise_lt_range
abbrev ξO:=@List.eraseIdx_eq_take_drop_succ
abbrev ξP:=@List.drop_zero
abbrev ξQ:=@List.take_append_drop
abbrev ξR:=@Nat.lt_succ_self
abbrev ξS:=@List.lookup_cons
abbrev ξT:=@List.eq_nil_of_length_eq_zero
abbrev ξU:=@List.mem_of_mem_drop
abbrev ξV:=@PySem.Heap.get?_update_other
abbrev ξW:=@List.sum_cons
abbrev ξX:=@List.range_succ
abbrev ξY:=@List.filter_sublist
abbrev ξZ:=@Array.toList_append
abbrev ξ0:=@Option.isSome_iff_exists
abbrev ξ1:=@List.take_add_one
abbrev ξ2:=@List.pairwise_map
abbrev ξ3:=@Int.emod_eq_of_lt
abbrev ξ4:=@PySem.F.type_list_index
abbrev ξ5:=@PySem.F.slot_list_index
abbrev ξ6:=@Nat.toDigits_of_lt_base
abbrev ξ7:=@List.map_take
abbrev ξ8:=@Nat.min_le_right
abbrev ξ9:=@List.mem_reverse
namespace L2
open PySem PySem.Spec PyProof.Rows
abbrev Key:=Sum Int Str
def zc8:Key→Value→Bool
 | .inl k,v=>Value.isInt k v
 | .inr x,v=>Value.isStrOf x v
def keyH (w:World):Key→Int
 | .inl k=>hashInt k
 | .inr x=>hashStr w x
theorem yG:∀ {k:Key} {v:Value},zc8 k v=true→(∃ i t,k=Sum.inl i∧v=Value.int i t)∨(∃ x t,k=Sum.inr x∧v=Value.str x t)
 | .inl i,v,h=>by
  obtain ⟨t,e⟩:=Value.isInt_shape (k:=i) (v:=v) h
  exact .inl ⟨i,t,rfl,e⟩
 | .inr x,v,h=>by
  obtain ⟨t,e⟩:=Value.isStrOf_shape (x:=x) (v:=v) h
  exact .inr ⟨x,t,rfl,e⟩
theorem zdT (a b:Int):decide ((Sum.inl a:Key)=Sum.inl b)=(a == b):=by
 by_cases e:a=b
 ·subst e; simp
 ·have h:¬ (Sum.inl a:Key)=Sum.inl b:=fun q=>e (Sum.inl.inj q)
  rw [decide_eq_false h]
  exact (beq_eq_false_iff_ne.mpr e).symm
theorem zdQ (a b:Str):decide ((Sum.inr a:Key)=Sum.inr b)=decide (a=b):=by
 by_cases e:a=b
 ·subst e; simp
 ·have h:¬ (Sum.inr a:Key)=Sum.inr b:=fun q=>e (Sum.inr.inj q)
  rw [decide_eq_false h,decide_eq_false e]
theorem zdS (a:Int) (b:Str):decide ((Sum.inl a:Key)=Sum.inr b)=false:=decide_eq_false (fun q=>nomatch q)
theorem zdR (a:Str) (b:Int):decide ((Sum.inr a:Key)=Sum.inl b)=false:=decide_eq_false (fun q=>nomatch q)
def Tg (prog:Program) (w:World):PySem.KeyKind prog w Key where
 is:=zc8
 hash:=keyH w
 inj:=fun v a b ha hb=>by
  rcases yG ha with ⟨i,t,rfl,rfl⟩ | ⟨x,t,rfl,rfl⟩
  ·rcases yG hb with ⟨j,u,rfl,e⟩ | ⟨y,u,rfl,e⟩
   ·injection e with e1 _; rw [e1]
   ·exact nomatch e
  ·rcases yG hb with ⟨j,u,rfl,e⟩ | ⟨y,u,rfl,e⟩
   ·exact nomatch e
   ·injection e with e1 _; rw [e1]
 byValue:=fun k v h=>by
  rcases yG h with ⟨i,t,rfl,rfl⟩ | ⟨x,t,rfl,rfl⟩ <;> rfl
 pyHash:=fun hv h=>by
  rcases yG hv with ⟨i,t,rfl,rfl⟩ | ⟨x,t,rfl,rfl⟩
  ·exact wpAny_pyHash_int h
  ·exact wpAny_pyHash_str h
 eqBool:=fun hu hv h=>by
  rcases yG hu with ⟨i,t,rfl,rfl⟩ | ⟨x,t,rfl,rfl⟩
  ·rcases yG hv with ⟨j,u,rfl,rfl⟩ | ⟨y,u,rfl,rfl⟩
   ·rw [zdT] at h; exact wpAny_eqBool_int h
   ·rw [zdS] at h; exact SeqAt.EqAt.int_str i t y u _ _ _ _ h
  ·rcases yG hv with ⟨j,u,rfl,rfl⟩ | ⟨y,u,rfl,rfl⟩
   ·rw [zdR] at h; exact SeqAt.EqAt.str_int x t j u _ _ _ _ h
   ·rw [zdQ] at h; exact wpAny_eqBool_str h
 «strs»:=fun k x t v h=>by
  rcases yG h with ⟨i,u,rfl,e⟩ | ⟨y,u,rfl,e⟩
  ·exact nomatch e
  ·injection e with e1 _
   subst e1
   cases v <;> rfl
inductive V where
 | non | bl (b:Bool) | int (i:Int) | str (x:Str) | byt (b:Array UInt8) | flt (b:UInt64) | ref (a:Addr) | ty (n:String)
 deriving DecidableEq
def RelV:V→Value→Prop
 | .non,u=>u=Value.none
 | .bl b,u=>u=Value.bool b
 | .int i,u=>∃ t,u=Value.int i t
 | .str x,u=>∃ t,u=Value.str x t
 | .byt b,u=>∃ t,u=Value.bytes b t
 | .flt b,u=>∃ t,u=Value.float b t
 | .ref a,u=>u=Value.ref a
 | .ty n,u=>u=Value.type n
abbrev Vals:List V→List Value→Prop:=Paired RelV
theorem Vals.length {xs:List V} {us:List Value} (r:Vals xs us):xs.length=us.length:=Paired.length r
theorem Vals.get:∀ {xs:List V} {us:List Value} {i:Nat} {x:V},Vals xs us→xs[i]?=some x→∃ u,us[i]?=some u∧RelV x u
 | _,_,_,_,.nil,e=>by simp at e
 | _,_,0,_,.cons r _,e=>by simp at e; subst e; exact ⟨_,rfl,r⟩
 | _,_,i + 1,x,.cons _ t,e=>by
  obtain ⟨u,h1,h2⟩:=Vals.get (i:=i) (x:=x) t (by simpa using e)
  exact ⟨u,by simpa using h1,h2⟩
theorem Vals.set {x:V} {u:Value} (r:RelV x u):∀ {xs:List V} {us:List Value} (i:Nat),Vals xs us→Vals (xs.set i x) (us.set i u)
 | _,_,_,.nil=>.nil
 | _,_,0,.cons _ t=>.cons r t
 | _,_,i + 1,.cons q t=>.cons q (Vals.set r i t)
theorem Vals.append:∀ {xs ys:List V} {us ws:List Value},Vals xs us→Vals ys ws→Vals (xs ++ ys) (us ++ ws)
 | _,_,_,_,.nil,s=>s
 | _,_,_,_,.cons r t,s=>.cons r (Vals.append t s)
theorem Vals.take:∀ {xs:List V} {us:List Value} (n:Nat),Vals xs us→Vals (xs.take n) (us.take n)
 | _,_,0,_=>.nil
 | _,_,_ + 1,.nil=>.nil
 | _,_,n + 1,.cons r t=>.cons r (Vals.take n t)
theorem Vals.drop:∀ {xs:List V} {us:List Value} (n:Nat),Vals xs us→Vals (xs.drop n) (us.drop n)
 | _,_,0,r=>r
 | _,_,_ + 1,.nil=>.nil
 | _,_,n + 1,.cons _ t=>Vals.drop n t
def RelO:Option V→Option Value→Prop
 | some v,some u=>RelV v u
 | none,none=>True
 | _,_=>False
def KV {κ:Type}:List (κ×V)→List (κ×Value)→Prop:=Paired fun (p:κ×V) (q:κ×Value)=>p.1=q.1∧RelV p.2 q.2
def kV:Key→V
 | .inl i=>.int i
 | .inr x=>.str x
inductive HO where
 | lst (xs:List V)
 | tup (xs:List V)
 | dK (kvs:List (Key×V)) | dT (kvs:List (List Key×V))
 | set (S:Int→Bool) (n:Nat)
 | ins (C dx:Addr) (fs:List (Str×V))
 | own (x:Addr)
 | xd (fs:List (Str×V))
 | met (f x:Addr)
 | rng (lo hi:Int)
 | frz (o:Obj) (u:HO)
 | tbl (ps:Array Value)
 | ext (φ:Heap→Prop)
abbrev Hp:=Addr→Option HO
def upd (H:Hp) (a:Addr) (o:HO):Hp:=fun b=>if b=a then some o else H b
theorem zp {H:Hp} {a:Addr} {o:HO}:upd H a o a=some o:=by unfold upd; rw [if_pos rfl]
theorem zt {H:Hp} {a b:Addr} {o:HO} (h:b≠a):upd H a o b=H b:=by unfold upd; rw [if_neg h]
theorem zK {H:Hp} {a b:Addr} {o:HO} (h:H a=some o) (h':H b=none):a≠b:=by
 intro e; subst e; rw [h] at h'; cases h'
def zeI (H:Hp) (b:Addr) (ys:List V):Prop:=H b=some (.tup ys)∨∃ o:Obj,(∀ v,o.data≠.cell v)∧H b=some (.frz o (.tup ys))
def tagQ (ps:Array Value):Str:=match (ps[0]?:Option Value) with | some (.str q _)=>q | _ => ""
section
variable (P:Program) (w:World)
def yR (H:Hp) (h:Heap) (a:Addr):HO→Prop
 | .lst xs=>xs.length≤sizeLine∧∃ (its:List Value) (n:Nat),Vals xs its∧h.get? a=some { cls:=.type "list", data:=.seq its.toArray n }
 | .tup xs=>xs.length≤sizeLine∧∃ its:List Value,Vals xs its∧IsTup h a its.toArray
 | .dK kvs=>kvs.length≤sizeLine∧(a == sysModules)=false∧∃ vs,KV kvs vs∧h.DictOf (Tg P w) a vs
 | .dT kvs=>kvs.length≤sizeLine∧(a == sysModules)=false∧∃ xs:List (List Key×Addr×Value),
   Paired (fun (p:List Key×V) (q:List Key×Addr×Value)=>p.1=q.1∧zeI H q.2.1 (p.1.map kV)∧RelV p.2 q.2.2) kvs xs ∧
   ∃ o es ep,h.get? a=some o∧o.ExactDict∧o.data=.dict es ep∧es.toList=xs.map (entryOfKey (tupleKind (Tg P w)))∧(xs.map (·.1)).Nodup
 | .set S n=>h.SetOf (intKind P w) a S n
 | .ins C dx fs=>H dx=some (.own a)∧fs.length≤1000∧dx≠a∧h.get? a=some (PySem.W.instObj C dx) ∧
   ∃ mA,h.Ns1 dx mA∧(∀ f,RelO (fs.lookup f) (mA f))∧PySem.Within mA (fs.map (·.1))
 | .own _=>∃ o,h.get? a=some o
 | .xd fs=>∃ mA,h.Ns1 a mA∧∀ f,RelO (fs.lookup f) (mA f)
 | .rng lo hi=>∃ t u v,h.get? a=some { cls:=.type "range", data:=.fields #[.int lo t,.int hi u,.int 1 v] }
 | .frz o u=>h.get? a=some o∧yR H h a u
 | .tbl ps=>∃ vs:Array Value,h.get? a=some (PySem.W.tabObj vs)∧TriplesOk vs.toList∧∀ p v,codeAmong p vs.toList=some v→∃ b o fs t,v=.ref b∧H b=some (.frz o (.ext fun _=>True))∧o.data=.fields fs∧fs[1]?=some (.str (tagQ ps) t)
 | .met f x=>h.get? a=some (PySem.W.methodObj (.ref f) (.ref x))
 | .ext φ=>φ h∧(∃ o,h.get? a=some o)∧∀ h1 h2:Heap,φ h1→(∀ o,h1.get? a=some o→h2.get? a=some o)→φ h2
def HOk (H:Hp) (h:Heap):Prop:=∀ a o,H a=some o→yR P w H h a o
end
section
variable {P:Program} {w:World} {H H':Hp} {h h':Heap} {a:Addr} {o:HO}
theorem yR.lt (x:yR P w H h a o):a < h.objs.size:=by
 cases o with
 | lst xs=>obtain ⟨_,_,_,_,e⟩:=x; exact ζn e
 | tup xs=>obtain ⟨_,_,_,p⟩:=x; exact p.lt
 | dK kvs=>obtain ⟨_,_,_,_,o,_,_,e,_⟩:=x; exact ζn e
 | dT kvs=>obtain ⟨_,_,_,_,o,_,_,e,_⟩:=x; exact ζn e
 | set S n=>obtain ⟨o,_,_,_,e,_⟩:=x; exact ζn e
 | ins C dx fs=>obtain ⟨_,_,_,e,_⟩:=x; exact ζn e
 | own y=>obtain ⟨_,e⟩:=x; exact ζn e
 | xd fs=>obtain ⟨_,⟨_,_,_,e,_⟩,_⟩:=x; exact ζn e
 | rng lo hi=>obtain ⟨_,_,_,e⟩:=x; exact ζn e
 | frz ob u=>obtain ⟨e,_⟩:=x; exact ζn e
 | tbl ps=>obtain ⟨_,e,_⟩:=x; exact ζn e
 | met f y=>exact ζn (show h.get? a=some _ from x)
 | ext φ=>obtain ⟨_,⟨_,e⟩,_⟩:=x; exact ζn e
theorem Paired.mapP {α β:Type} {F G:α→β→Prop}:∀ {l₁:List α} {l₂:List β},Paired F l₁ l₂→(∀ a b,F a b→G a b)→Paired G l₁ l₂
 | _,_,.nil,_=>.nil
 | _,_,.cons r t,f=>.cons (f _ _ r) (Paired.mapP t f)
theorem yR.stay (x:yR P w H h a o) (k:∀ b u,(b=a∨H b=some (.own a))→h.get? b=some u→h'.get? b=some u)
  (ho:∀ b,H b=some (.own a)→H' b=some (.own a)) (ht:∀ b xs,H b=some (.tup xs)→H' b=some (.tup xs))
  (hc:∀ b o u,H b=some (.frz o u)→(∀ v,o.data≠.cell v)→H' b=some (.frz o u):=by first | exact fun _ _ _ q _=>q | (intro b o u z _; rw [zt (zK z (by assumption))]; exact z) | (intro b o u z _; rw [zt (fun e=>by subst e; simp_all [Mut])]; exact z)):yR P w H' h' a o:=by
 induction o with
 | lst xs=>obtain ⟨z,its,n,r,e⟩:=x; exact ⟨z,its,n,r,k _ _ (.inl rfl) e⟩
 | tup xs=>obtain ⟨z,its,r,ob,e,c⟩:=x; exact ⟨z,its,r,ob,k _ _ (.inl rfl) e,c⟩
 | dK kvs=>obtain ⟨z,y,vs,r,ob,es,ep,e,c⟩:=x; exact ⟨z,y,vs,r,ob,es,ep,k _ _ (.inl rfl) e,c⟩
 | dT kvs =>
  obtain ⟨z,y,xs,r,ob,es,ep,e,c⟩:=x
  exact ⟨z,y,xs,Paired.mapP r fun p q z=>⟨z.1,z.2.1.imp (ht _ _) fun ⟨o,n,y⟩=>⟨o,n,hc _ _ _ y n⟩,z.2.2⟩,ob,es,ep,k _ _ (.inl rfl) e,c⟩
 | set S n=>obtain ⟨ob,es,ep,t,e,c⟩:=x; exact ⟨ob,es,ep,t,k _ _ (.inl rfl) e,c⟩
 | ins C dx fs =>
  obtain ⟨d,z,ne,e,mA,⟨od,es,ep,e2,c⟩,r⟩:=x
  exact ⟨ho _ d,z,ne,k _ _ (.inl rfl) e,mA,⟨od,es,ep,k _ _ (.inr d) e2,c⟩,r⟩
 | own y=>obtain ⟨ob,e⟩:=x; exact ⟨ob,k _ _ (.inl rfl) e⟩
 | xd fs=>obtain ⟨mA,⟨od,es,ep,e,c⟩,r⟩:=x; exact ⟨mA,⟨od,es,ep,k _ _ (.inl rfl) e,c⟩,r⟩
 | rng lo hi=>obtain ⟨t,u,v,e⟩:=x; exact ⟨t,u,v,k _ _ (.inl rfl) e⟩
 | frz ob u ih=>obtain ⟨e,q⟩:=x; exact ⟨k _ _ (.inl rfl) e,ih q⟩
 | tbl ps=>obtain ⟨vs,e,t,z⟩:=x; exact ⟨vs,k _ _ (.inl rfl) e,t,fun p v y=>let ⟨b,o,fs,t,e1,e2,e3⟩:=z p v y; ⟨b,o,fs,t,e1,hc _ _ _ e2 (fun v y=>by rw [e3.1] at y; cases y),e3⟩⟩
 | met f y =>
  have e:h.get? a=some (PySem.W.methodObj (.ref f) (.ref y)):=x
  show h'.get? a=some (PySem.W.methodObj (.ref f) (.ref y))
  exact k a _ (.inl rfl) e
 | ext φ=>obtain ⟨p,⟨o,e⟩,st⟩:=x; exact ⟨st _ _ p fun o q=>k _ _ (.inl rfl) q,⟨o,k _ _ (.inl rfl) e⟩,st⟩
theorem HOk.lt (x:HOk P w H h) (e:H a=some o):a < h.objs.size:=(x a o e).lt
theorem HOk.fresh (x:HOk P w H h) (e:h.objs.size≤a):H a=none:=by
 cases q:H a with
 | none=>rfl
 | some u=>exact absurd (ζB (x.lt q) e) (ζ3 _)
theorem HOk.kept (x:HOk P w H h) (k:∀ b u,h.get? b=some u→h'.get? b=some u):HOk P w H h':=fun a o e =>
 (x a o e).stay (fun b u _ q=>k b u q) (fun _ q=>q) fun _ _ q=>q
theorem HOk.laid (x:HOk P w H h) (k:∀ b u,h.get? b=some u→h'.get? b=some u) (hp:h.objs.size≤a) (new:yR P w (upd H a o) h' a o):HOk P w (upd H a o) h':=fun b u e=>by
 have hn:=x.fresh hp
 by_cases hb:b=a
 ·subst hb; rw [zp] at e; cases e; exact new
 ·rw [zt hb] at e
  exact (x b u e).stay (fun c v _ q=>k c v q) (fun c q=>by rw [zt (zK q hn)]; exact q) fun c xs q=>by rw [zt (zK q hn)]; exact q
end
def Rd (H:Hp) (a:Addr) (u:HO):Prop:=H a=some u∨∃ o,H a=some (.frz o u)
theorem Rd.ok {P:Program} {w:World} {H:Hp} {h:Heap} {a:Addr} {u:HO} (r:Rd H a u) (x:HOk P w H h):yR P w H h a u:=by
 rcases r with r | ⟨o,r⟩
 ·exact x a u r
 ·obtain ⟨_,q⟩:=x a _ r
  exact q
def Mut:Option HO→Prop
 | some (.lst _)=>True
 | some (.dK _)=>True
 | some (.dT _)=>True
 | some (.set _ _)=>True
 | some (.ins _ _ _)=>True
 | some (.ext _)=>True
 | _=>False
section
variable {P:Program} {w:World} {H:Hp} {h h':Heap} {x e:Addr} {o':HO}
theorem HOk.write (ok:HOk P w H h) (mu:Mut (H x)) (he:e=x∨H e=some (.own x)) (k:∀ b u,b≠e→h.get? b=some u→h'.get? b=some u) (heo:∃ u,h'.get? e=some u)
  (new:yR P w (upd H x o') h' x o'):HOk P w (upd H x o') h':=fun b u q=>by
 have nown:∀ c y,H c=some (.own y)→c≠x:=fun c y r z=>by subst z; rw [r] at mu; exact mu
 have ntup:∀ c xs,H c=some (.tup xs)→c≠x:=fun c xs r z=>by subst z; rw [r] at mu; exact mu
 by_cases hb:b=x
 ·subst hb; rw [zp] at q; cases q; exact new
 ·rw [zt hb] at q
  by_cases hbe:b=e
  ·have q':H b=some (.own x):=by
    rcases he with z | z
    ·exact absurd (hbe.trans z) hb
    ·rw [hbe]; exact z
   rw [q] at q'; cases q'
   obtain ⟨v,hv⟩:=heo
   exact ⟨v,by rw [hbe]; exact hv⟩
  ·refine (ok b u q).stay (fun c v hc r=>k c v ?_ r) (fun c r=>by rw [zt (nown c b r)]; exact r) fun c xs r=>by rw [zt (ntup c xs r)]; exact r
   rcases hc with rfl | hc
   ·exact hbe
   ·rintro rfl
    rcases he with z | z
    ·exact nown c b hc z
    ·rw [hc] at z; cases z; exact hb rfl
end
structure Un (fs ex:List Addr) (H H':Hp) (h h':Heap):Prop where
 keep:∀ b o,h.get? b=some o→H b=none→b∉fs→b∉ex→h'.get? b=some o
 slot:∀ b o,h.get? b=some o→H b=none→b∈fs→b∉ex→∃ sl,h'.get? b=some { o with slots:=sl }
 free:∀ b o,h.get? b=some o→H b=none→b∉ex→H' b=none
 there:∀ b o,h.get? b=some o→b∉ex→∃ o',h'.get? b=some o'
 tups:∀ b xs,H b=some (.tup xs)→H' b=some (.tup xs)
 frzs:∀ b o u,H b=some (.frz o u)→H' b=some (.frz o u)
 tbls:∀ b ps,H b=some (.tbl ps)→∃ more,H' b=some (.tbl (ps ++ more))
section
variable {fs fs' ex ex':List Addr} {H H1 H2:Hp} {h h1 h2 h':Heap} {a x e:Addr} {o:HO}
theorem Un.any (u:Un fs ex H H1 h h1) {b:Addr} {ob:Obj} (q:h.get? b=some ob) (n:H b=none) (hx:b∉ex):∃ sl,h1.get? b=some { ob with slots:=sl }:=by
 by_cases hb:b∈fs
 ·exact u.slot b ob q n hb hx
 ·exact ⟨ob.slots,u.keep b ob q n hb hx⟩
theorem Un.kept (k:∀ b u,h.get? b=some u→h'.get? b=some u):Un fs ex H H h h' :=
 ⟨fun b ob q _ _ _=>k b ob q,fun b ob q _ _ _=>⟨ob.slots,k b ob q⟩,fun _ _ _ n _=>n,fun b ob q _=>⟨ob,k b ob q⟩,fun _ _ q=>q,fun _ _ _ q=>q,fun _ ps q=>⟨#[],by rw [q]; simp⟩⟩
theorem Un.refl:Un fs ex H H h h:=Un.kept fun _ _ q=>q
theorem Un.laid (k:∀ b u,h.get? b=some u→h'.get? b=some u) (hp:h.objs.size≤a) (hn:H a=none):Un fs ex H (upd H a o) h h' where
 keep:=fun b u q _ _ _=>k b u q
 slot:=fun b u q _ _ _=>⟨u.slots,k b u q⟩
 free:=fun b u q n _=>by rw [zt (ζG (ζB (ζn q) hp))]; exact n
 there:=fun b u q _=>⟨u,k b u q⟩
 tups:=fun b xs q=>by rw [zt (zK q hn)]; exact q
 frzs:=fun b u xs q=>by rw [zt (zK q hn)]; exact q
 tbls:=fun b ps q=>⟨#[],by rw [zt (zK q hn),q]; simp⟩
theorem Un.write (mu:Mut (H x)) (he:e=x∨H e=some (.own x)) (k:∀ b u,b≠e→h.get? b=some u→h'.get? b=some u) (heo:∃ u,h'.get? e=some u):Un fs ex H (upd H x o) h h':=by
 have hx:∀ b,H b=none→b≠x:=fun b n z=>by subst z; rw [n] at mu; exact mu
 have hb:∀ b,H b=none→b≠e:=fun b n z=>by
  subst z
  rcases he with r | r
  ·exact hx b n r
  ·rw [n] at r; cases r
 have hm:∀ b u,H b=some u→¬ Mut (some u)→b≠x:=fun b u q nm z=>by subst z; rw [q] at mu; exact nm mu
 refine ⟨fun b u q n _ _=>k b u (hb b n) q,fun b u q n _ _=>⟨u.slots,k b u (hb b n) q⟩,fun b u q n _=>by rw [zt (hx b n)]; exact n,fun b u q _=>?_,
  fun b xs q=>by rw [zt (hm b _ q fun z=>z)]; exact q,fun b u xs q=>by rw [zt (hm b _ q fun z=>z)]; exact q,fun b ps q=>⟨#[],by rw [zt (hm b _ q fun z=>z),q]; simp⟩⟩
 by_cases hbe:b=e
 ·subst hbe; exact heo
 ·exact ⟨u,k b u hbe q⟩
end
def trk (h:Heap) (H:Hp):List Addr:=(List.range h.objs.size).filter fun a=>(H a).isSome
def hidT (h:Heap) (H:Hp):Heap:=PySem.W.hideAll h (trk h H)
theorem Qp (h:Heap) (H:Hp):(hidT h H).objs.size=h.objs.size:=PySem.W.hideAll_size _ _
theorem zaR {h:Heap} {H:Hp} {b:Addr} {o:Obj} (e:h.get? b=some o) (n:H b=none):(hidT h H).get? b=some o :=
 PySem.W.hideAll_get _ e fun hm=>by
  have q:(H b).isSome=true:=(ζ6.mp hm).2
  rw [n] at q; simp at q
theorem zca {h:Heap} {H:Hp} {b:Addr} {o:Obj} (e:(hidT h H).get? b=some o):h.get? b=some o∧H b=none:=by
 have e':h.get? b=some o:=PySem.W.of_hideAll (trk h H) e
 refine ⟨e',?_⟩
 cases q:H b with
 | none=>rfl
 | some x =>
  have hm:b∈trk h H:=List.mem_filter.mpr ⟨List.mem_range.mpr (Heap.lt_size e'),by simp [q]⟩
  have z:(hidT h H).get? b=none:=PySem.W.hideAll_none (trk h H) hm
  rw [z] at e; cases e
def zcF (g h:Heap) (L:Addr):List (Addr×Obj):=(List.range h.objs.size).filterMap fun a=>if a=L∨(g.get? a).isSome=true then none else (h.get? a).map fun o=>(a,o)
def rest (g h:Heap) (L d:Addr):List (Addr×Obj):=(zcF g h L).filter fun p=>decide (p.1≠d)
def zaI:List Str:=["above", "beneath", "above_in", "clumps", "reach", "least_parting", "least_set", "why_not"]
def zcM (o:Obj):Option (Addr×Str):=match o.cls,o.data with
 | .type "code", .fields vs=>(match (vs[1]?:Option Value),(vs[11]?:Option Value) with
  | some (.str q _),some (.ref P)=>if zaI.contains q then some (P,q ++ ".<locals>.<lambda>") else none
  | _,_=>none)
 | _,_=>none
def yS (K:ζb):List (Addr×Str):=K.filterMap fun p=>(K.lookup p.1).bind zcM
def Xi (K:ζb):Bool:=(yS K).all fun p=>(K.lookup p.1).isNone && (yS K).all fun q=>decide (p.1=q.1→p.2=q.2)
def TbOk (K:ζb) (H:Hp):Prop:=∀ p∈yS K,∃ t more,H p.1=some (.tbl (#[.str p.2 t] ++ more))
theorem TbOk.un {K:ζb} {fs ex:List Addr} {H H':Hp} {h h':Heap} (t:TbOk K H) (u:Un fs ex H H' h h'):TbOk K H':=fun p hp=>by
 obtain ⟨k,m,e⟩:=t p hp
 obtain ⟨m',e'⟩:=u.tbls _ _ e
 exact ⟨k,m ++ m',by rw [e',Array.append_assoc]⟩
structure Mod (K:ζb) (mg:Str→Option Value) (base:Heap):Prop where
 kin:K.In base
 glob:base.Ns mainGlobals mg
 blt:∃ mb,base.Ns builtinsNs mb∧∀ x:Str,x ≠ "__name__" → mb x=bootBuiltins x
 nolimit:base.NoLimit
 bm:∃ bm ob,mg "__builtins__" = some (.ref bm)∧bm≠builtinsNs∧base.get? bm=some ob∧ob.cls=.type "module" ∧ ob.dict=some builtinsNs∧ob.data=.plain
structure Cx where
 prog:Program
 w:World
 K:ζb
 mg:Str→Option Value
 base:Heap
 A:Around
 N:List Str
 s₀:Shared
 H₀:Hp
 env:Env
 outer:List Env
 stack:List Env
 ex:List Addr
 fn:Str→Bool
 calm:Bool
 pn:List (Addr×Obj)
 xe:Value→Shared→Prop
def frs (l:List Env):List Addr:=l.filterMap (·.frame)
abbrev Cx.fs (X:Cx):List Addr:=frs X.outer
def Vis (sc:Scope) (x:Str):Prop:=sc.names.lookup x=some .local∨sc.names.lookup x=some .cell∨sc.names.lookup x=some .free
def Loc (sc:Scope) (x:Str):Prop:=sc.names.lookup x=some .local∨sc.names.lookup x=some .cell
def Look (env:Env) (h:Heap) (m:Str→Option Value) (x:Str) (u:Value):Prop :=
 (env.kindOf x=some .local∧m x=some u)∨((env.kindOf x=some .cell∨env.kindOf x=some .free)∧∃ c,env.cells.lookup x=some c∧h.IsCell c (some u))
structure Cx.Ok (X:Cx):Prop where
 mod:Mod X.K X.mg X.base
 kind:X.env.scope.kind=.function
 glob:X.env.globals=mainGlobals
 blt:X.env.builtins=builtinsNs
 above:X.s₀.heap.objs.size≤X.env.locals
 inj:∀ x y c,X.env.cells.lookup x=some c→X.env.cells.lookup y=some c→x=y
 has:∀ x,(X.env.kindOf x=some .cell∨X.env.kindOf x=some .free)→∃ c,X.env.cells.lookup x=some c
 cab:∀ x c,X.fn x=true→X.env.cells.lookup x=some c→X.s₀.heap.objs.size≤c
 hd:X.calm=true→X.A.handled=none
 frames:X.A.frames=some X.stack
 stk:X.stack=X.outer∨(X.stack=X.env :: X.outer∧X.env.frame=some X.env.locals)
 exf:∀ b∈X.ex,b≠X.env.locals∧∀ x c,X.env.cells.lookup x=some c→c≠b
 bs:∀ b o,X.base.get? b=some o→X.s₀.heap.get? b=some o∧X.H₀ b=none
 bsz:X.base.objs.size≤X.s₀.heap.objs.size
 noex:∀ b o,X.base.get? b=some o→b∉X.ex
 exfs:∀ b∈X.ex,b∉X.fs
 funs:X.s₀.heap.FunFrames X.base X.outer
 frf:∀ b∈X.fs,X.H₀ b=none
 tb:TbOk X.K X.H₀
structure Inv (X:Cx) (pins:List (Addr×Obj)) (σ:List (Option V)) (H:Hp) (s:Shared):Prop where
 ok:X.Ok
 os:s.os=X.s₀.os
 bare:AllBare s.gens
 base:Un X.fs X.ex X.H₀ H X.s₀.heap s.heap
 loc:∃ m,s.heap.Ns X.env.locals m∧∀ (i:Nat) (x:Str) (v:V),X.N[i]?=some x→σ[i]?=some (some v)→Vis X.env.scope x→∃ u,RelV v u∧Look X.env s.heap m x u
 cell:∀ x c,X.env.cells.lookup x=some c→∃ v,s.heap.IsCell c v
 free:H X.env.locals=none
 freeC:∀ x c,X.env.cells.lookup x=some c→H c=none∨X.fn x=false∧∃ o u,H c=some (.frz o u)
 pin:∀ p∈X.pn ++ pins,s.heap.get? p.1=some p.2∧H p.1=none∧p.1≠X.env.locals∧p.1∉X.fs∧∀ v,p.2.data≠.cell v
 hok:HOk X.prog X.w H s.heap
 len:σ.length=X.N.length
section
variable {X:Cx} {pins:List (Addr×Obj)} {σ:List (Option V)} {H H':Hp} {s:Shared} {h':Heap}
theorem Cx.Ok.nofr (ok:X.Ok) {b:Addr} {o:Obj} (e:X.base.get? b=some o):b∉X.fs:=fun hb=>by
 have:=(ok.funs.mem hb).1
 rw [e] at this; cases this
theorem Inv.bs (I:Inv X pins σ H s):∀ b o,X.base.get? b=some o→s.heap.get? b=some o∧H b=none:=fun b o e =>
 ⟨I.base.keep b o (I.ok.bs b o e).1 (I.ok.bs b o e).2 (I.ok.nofr e) (I.ok.noex b o e),I.base.free b o (I.ok.bs b o e).1 (I.ok.bs b o e).2 (I.ok.noex b o e)⟩
theorem Inv.bk (I:Inv X pins σ H s):∀ b o,X.base.get? b=some o→s.heap.get? b=some o:=fun b o e=>(I.bs b o e).1
theorem Inv.mod (I:Inv X pins σ H s):Mod X.K X.mg X.base:=I.ok.mod
theorem Inv.kIn (I:Inv X pins σ H s):X.K.In s.heap:=I.ok.mod.kin.keeps I.bk
theorem Inv.fr (I:Inv X pins σ H s):∃ m,Fr X.base X.env.locals s.heap m :=
 let ⟨m,hn,_⟩:=I.loc
 ⟨m,hn,I.bk,ζM I.ok.bsz I.ok.above⟩
theorem Inv.lt (I:Inv X pins σ H s):X.env.locals < s.heap.objs.size:=let ⟨_,hn,_⟩:=I.loc; hn.lt
theorem Inv.sz (I:Inv X pins σ H s):X.s₀.heap.objs.size≤s.heap.objs.size:=ζM I.ok.above (Nat.le_of_lt I.lt)
theorem Inv.nofs (I:Inv X pins σ H s) {a:Addr} (h:s.heap.objs.size≤a):a∉X.fs:=fun hb=>by
 obtain ⟨_,o,ho,_⟩:=I.ok.funs.mem hb
 exact absurd (ζB (ζn ho) (ζM I.sz h)) (ζ3 _)
theorem Inv.cne (I:Inv X pins σ H s):∀ x c,X.env.cells.lookup x=some c→c≠X.env.locals:=fun x c e z=>by
 obtain ⟨v,o,ho,hd⟩:=I.cell x c e
 obtain ⟨m,⟨o',es,ep,ho',hd',_⟩,_⟩:=I.loc
 rw [z,ho'] at ho; cases ho; rw [hd'] at hd; cases hd
theorem Inv.funs (I:Inv X pins σ H s):s.heap.FunFrames X.base X.outer:=by
 have all:∀ (l:List Env),(∀ b∈frs l,b∈X.fs)→X.s₀.heap.FunFrames X.base l→s.heap.FunFrames X.base l:=by
  intro l
  induction l with
  | nil=>intro _ _; trivial
  | cons env r ih =>
   intro hs hl
   obtain ⟨hk,⟨L,o,hf,hn,ho,hd⟩,hr⟩:=hl
   have hL:L∈X.fs:=hs L (by unfold frs; rw [List.filterMap_cons,hf]; exact List.mem_cons_self)
   obtain ⟨sl,e⟩:=I.base.slot L o ho (I.ok.frf L hL) hL fun z=>I.ok.exfs L z hL
   exact ⟨hk,⟨L,_,hf,hn,e,hd⟩,ih (fun b hb=>hs b (by unfold frs; rw [List.filterMap_cons,hf]; exact List.mem_cons_of_mem _ hb)) hr⟩
 exact all X.outer (fun _ hb=>hb) I.ok.funs
theorem Inv.stack (I:Inv X pins σ H s):s.heap.FunFrames X.base X.stack:=by
 rcases I.ok.stk with e | ⟨e,hf⟩
 ·rw [e]; exact I.funs
 ·rw [e]
  obtain ⟨m,hn,_⟩:=I.loc
  refine .cons (by rw [I.ok.kind]; decide) hf hn ?_ I.funs
  exact Heap.get?_none_of_le (ζM I.ok.bsz I.ok.above)
theorem Inv.stkSub (I:Inv X pins σ H s):∀ b∈frs X.stack,b∈X.env.locals :: X.fs:=fun b hb=>by
 rcases I.ok.stk with e | ⟨e,hf⟩
 ·rw [e] at hb; exact ζk _ hb
 ·rw [e] at hb
  unfold frs at hb
  rw [List.filterMap_cons,hf] at hb
  exact hb
theorem Inv.stkFree (I:Inv X pins σ H s):∀ b∈frs X.stack,H b=none:=fun b hb=>by
 rcases ζs.mp (I.stkSub b hb) with e | hb
 ·rw [e]; exact I.free
 ·obtain ⟨_,o,ho,_⟩:=I.ok.funs.mem hb
  exact I.base.free b o ho (I.ok.frf b hb) fun z=>I.ok.exfs b z hb
theorem Inv.step {g':Array GenState} {t':Nat} {d':Drawn} {ch:List Addr} (I:Inv X pins σ H s)
  (hch:∀ b∈ch,(b∈X.ex∨X.s₀.heap.objs.size≤b)∧b≠X.env.locals∧(∀ x c,X.env.cells.lookup x=some c→c≠b)∧∀ p∈X.pn ++ pins,p.1≠b)
  (keep:∀ b o,b≠X.env.locals→b∉X.fs→b∉ch→s.heap.get? b=some o→H b=none→h'.get? b=some o)
  (slot:∀ b o,b≠X.env.locals→b∈X.fs→b∉ch→s.heap.get? b=some o→H b=none→∃ sl,h'.get? b=some { o with slots:=sl }) (free:∀ b o,b∉ch→s.heap.get? b=some o→H b=none→H' b=none)
  (there:∀ b o,b∉ch→s.heap.get? b=some o→∃ o',h'.get? b=some o')
  (tups:∀ b xs,H b=some (.tup xs)→H' b=some (.tup xs)) (frzs:∀ b o u,H b=some (.frz o u)→H' b=some (.frz o u)) (tbls:∀ b ps,H b=some (.tbl ps)→∃ more,H' b=some (.tbl (ps ++ more)))
  (ns:∀ m,s.heap.Ns X.env.locals m→h'.Ns X.env.locals m) (hok:HOk X.prog X.w H' h') (hg:AllBare g') :
  Inv X pins σ H' { s with heap:=h',gens:=g',drawn:=d',toks:=t' }:=by
 have neL:∀ b o,X.s₀.heap.get? b=some o→b≠X.env.locals:=fun b o e=>ζG (ζB (ζn e) I.ok.above)
 have neC:∀ b o,X.s₀.heap.get? b=some o→b∉X.ex→b∉ch:=fun b o e hx hb=>by
  rcases (hch b hb).1 with z | z
  ·exact hx z
  ·exact absurd (ζB (ζn e) z) (ζ3 _)
 have cellK:∀ x c,X.env.cells.lookup x=some c→∀ v,s.heap.IsCell c v→h'.IsCell c v:=fun x c e v ⟨o,ho,hd⟩=>by
  have nch:c∉ch:=fun z=>(hch c z).2.2.1 x c e rfl
  rcases I.freeC x c e with hn | ⟨_,o1,u1,hn⟩
  ·by_cases hc:c∈X.fs
   ·obtain ⟨sl,q⟩:=slot c o (I.cne x c e) hc nch ho hn
    exact ⟨_,q,hd⟩
   ·exact ⟨o,keep c o (I.cne x c e) hc nch ho hn,hd⟩
  ·have q1:=(I.hok c _ hn).1
   rw [ho] at q1
   cases q1
   exact ⟨o,(hok c _ (frzs c _ _ hn)).1,hd⟩
 refine ⟨I.ok,I.os,hg,⟨fun b o e n hb hx=>?_,fun b o e n hb hx=>?_,fun b o e n hx=>?_,fun b o e hx=>?_,fun b xs e=>tups b xs (I.base.tups b xs e),fun b o xs e=>frzs b o xs (I.base.frzs b o xs e),fun b ps e=>?_⟩,?_,fun x c e=>?_,?_,fun x c e=>?_,fun p hp=>?_,hok,I.len⟩
 ·exact keep b o (neL b o e) hb (neC b o e hx) (I.base.keep b o e n hb hx) (I.base.free b o e n hx)
 ·obtain ⟨sl,e1⟩:=I.base.slot b o e n hb hx
  obtain ⟨sl',e2⟩:=slot b _ (neL b o e) hb (neC b o e hx) e1 (I.base.free b o e n hx)
  exact ⟨sl',e2⟩
 ·obtain ⟨o',e1⟩:=I.base.there b o e hx
  exact free b o' (neC b o e hx) e1 (I.base.free b o e n hx)
 ·obtain ⟨o',e1⟩:=I.base.there b o e hx
  exact there b o' (neC b o e hx) e1
 ·obtain ⟨m1,e1⟩:=I.base.tbls b ps e
  obtain ⟨m2,e2⟩:=tbls b _ e1
  exact ⟨m1 ++ m2,by rw [e2,Array.append_assoc]⟩
 ·obtain ⟨m,hn,hl⟩:=I.loc
  refine ⟨m,ns m hn,fun i x v e1 e2 e3=>?_⟩
  obtain ⟨u,r,l⟩:=hl i x v e1 e2 e3
  refine ⟨u,r,?_⟩
  rcases l with l | ⟨k,c,e,z⟩
  ·exact .inl l
  ·exact .inr ⟨k,c,e,cellK x c e _ z⟩
 ·obtain ⟨v,z⟩:=I.cell x c e
  exact ⟨v,cellK x c e v z⟩
 ·obtain ⟨m,⟨o,_,_,ho,_⟩,_⟩:=I.loc
  exact free _ o (fun z=>(hch _ z).2.1 rfl) ho I.free
 ·obtain ⟨v,o,ho,hd⟩:=I.cell x c e
  exact (I.freeC x c e).elim (fun n=>.inl (free c o (fun z=>(hch c z).2.2.1 x c e rfl) ho n)) fun ⟨y1,o1,u1,y2⟩=>.inr ⟨y1,o1,u1,frzs c o1 u1 y2⟩
 ·obtain ⟨e,n,ne,nf,d⟩:=I.pin p hp
  have nch:p.1∉ch:=fun z=>(hch p.1 z).2.2.2 p hp rfl
  exact ⟨keep p.1 p.2 ne nf nch e n,free p.1 p.2 nch e n,ne,nf,d⟩
theorem Inv.un {t':Nat} (I:Inv X pins σ H s) (u:Un X.fs [] H H' s.heap h') (hok:HOk X.prog X.w H' h'):Inv X pins σ H' { s with heap:=h',toks:=t' }:=by
 obtain ⟨m,⟨o,es,ep,ho,r⟩,_⟩:=id I.loc
 obtain ⟨sl,hL⟩:=u.any ho I.free (by simp)
 exact I.step (g':=s.gens) (d':=s.drawn) (ch:=[]) (fun _ z=>nomatch z) (fun b o _ hb _ e n=>u.keep b o e n hb (by simp)) (fun b o _ hb _ e n=>u.slot b o e n hb (by simp)) (fun b o _ e n=>u.free b o e n (by simp)) (fun b o _ e=>u.there b o e (by simp)) u.tups u.frzs u.tbls (fun m' hm=>by
  obtain ⟨o',es',ep',ho',r'⟩:=hm
  rw [ho] at ho'; cases ho'
  exact ⟨_,es',ep',hL,r'⟩) hok I.bare
theorem Inv.call {g':Array GenState} {t':Nat} {d':Drawn} {ch:List Addr} (I:Inv X pins σ H s) (u:Un (frs X.stack) ch H H' s.heap h') (hok:HOk X.prog X.w H' h') (hg:AllBare g')
  (hch:∀ b∈ch,(b∈X.ex∨X.s₀.heap.objs.size≤b)∧b≠X.env.locals∧(∀ x c,X.env.cells.lookup x=some c→c≠b)∧∀ p∈X.pn ++ pins,p.1≠b) :
  Inv X pins σ H' { s with heap:=h',gens:=g',drawn:=d',toks:=t' }:=by
 obtain ⟨m,⟨o,es,ep,ho,r⟩,_⟩:=id I.loc
 obtain ⟨sl,hL⟩:=u.any ho I.free fun z=>(hch _ z).2.1 rfl
 exact I.step (ch:=ch) hch (fun b o hL hb hc e n=>u.keep b o e n (fun z=>(ζs.mp (I.stkSub b z)).elim hL hb) hc) (fun b o _ _ hc e n=>u.any e n hc) (fun b o hc e n=>u.free b o e n hc) (fun b o hc e=>u.there b o e hc) u.tups u.frzs u.tbls (fun m' hm=>by
  obtain ⟨o',es',ep',ho',r'⟩:=hm
  rw [ho] at ho'; cases ho'
  exact ⟨_,es',ep',hL,r'⟩) hok hg
theorem Inv.turned {t':Nat} {it:Addr} (I:Inv X pins σ H s) (k:∀ b o,b≠it→s.heap.get? b=some o→h'.get? b=some o) (hn:H it=none) (hL:it≠X.env.locals)
  (h1:it∈X.ex∨X.s₀.heap.objs.size≤it) (h2:∀ x c,X.env.cells.lookup x=some c→c≠it) (h3:∀ p∈X.pn ++ pins,p.1≠it):Inv X pins σ H { s with heap:=h',toks:=t' }:=by
 have nit:∀ b u,H b=some u→b≠it:=fun b u e z=>by rw [z,hn] at e; cases e
 refine I.step (g':=s.gens) (d':=s.drawn) (ch:=[it]) (fun b hb=>?_) (fun b o _ _ hc e _=>k b o (fun z=>hc (by simp [z])) e) (fun b o _ _ hc e _=>⟨o.slots,k b o (fun z=>hc (by simp [z])) e⟩) (fun _ _ _ _ n=>n)
  (fun b o hc e=>⟨o,k b o (fun z=>hc (by simp [z])) e⟩) (fun _ _ e=>e) (fun _ _ _ e=>e) (fun b ps e=>⟨#[],by rw [e]; simp⟩) (fun m hm=>?_) (fun b u e=>?_) I.bare
 ·have e:b=it:=by simpa using hb
  subst e
  exact ⟨h1,hL,h2,h3⟩
 ·obtain ⟨o,es,ep,ho,r⟩:=hm
  exact ⟨o,es,ep,k _ o (Ne.symm hL) ho,r⟩
 ·refine (I.hok b u e).stay (fun c v hc q=>k c v ?_ q) (fun _ q=>q) fun _ _ q=>q
  rcases hc with z | z
  ·rw [z]; exact nit b u e
  ·exact nit c _ z
theorem Inv.tok (I:Inv X pins σ H s) (t:Nat):Inv X pins σ H { s with toks:=t }:=I.un (h':=s.heap) (t':=t) Un.refl I.hok
theorem Inv.kept {t':Nat} (I:Inv X pins σ H s) (k:∀ b u,s.heap.get? b=some u→h'.get? b=some u):Inv X pins σ H { s with heap:=h',toks:=t' }:=I.un (Un.kept k) (I.hok.kept k)
theorem Inv.laid {a:Addr} {o:HO} {t':Nat} (I:Inv X pins σ H s) (k:∀ b u,s.heap.get? b=some u→h'.get? b=some u) (hp:s.heap.objs.size≤a) (new:yR X.prog X.w (upd H a o) h' a o) :
  Inv X pins σ (upd H a o) { s with heap:=h',toks:=t' }:=I.un (Un.laid k hp (I.hok.fresh hp)) (I.hok.laid k hp new)
theorem Inv.write {x e:Addr} {o:HO} {t':Nat} (I:Inv X pins σ H s) (mu:Mut (H x)) (he:e=x∨H e=some (.own x)) (k:∀ b u,b≠e→s.heap.get? b=some u→h'.get? b=some u) (heo:∃ u,h'.get? e=some u)
  (new:yR X.prog X.w (upd H x o) h' x o):Inv X pins σ (upd H x o) { s with heap:=h',toks:=t' }:=I.un (Un.write mu he k heo) (I.hok.write mu he k heo new)
theorem Inv.weak {σ':List (Option V)} (I:Inv X pins σ H s) (hl:σ'.length=σ.length) (w:∀ (i:Nat) v,σ'[i]?=some (some v)→σ[i]?=some (some v)):Inv X pins σ' H s :=
 ⟨I.ok,I.os,I.bare,I.base,let ⟨m,hn,hl'⟩:=I.loc; ⟨m,hn,fun i x v e1 e2 e3=>hl' i x v e1 (w i v e2) e3⟩,I.cell,I.free,I.freeC,I.pin,I.hok,hl.trans I.len⟩
theorem Inv.pins_of {pins':List (Addr×Obj)} (I:Inv X pins σ H s) (h:∀ p∈pins',s.heap.get? p.1=some p.2∧H p.1=none∧p.1≠X.env.locals∧p.1∉X.fs∧∀ v,p.2.data≠.cell v):Inv X pins' σ H s :=
 ⟨I.ok,I.os,I.bare,I.base,I.loc,I.cell,I.free,I.freeC,fun p hp=>(ζu.mp hp).elim (fun z=>I.pin p (ζ7 _ z)) (h p),I.hok,I.len⟩
theorem Vo {N:List Str} (hN:N.Nodup) {i j:Nat} {x:Str} (a:N[i]?=some x) (b:N[j]?=some x):i=j:=by
 obtain ⟨h1,e1⟩:=ζe.mp a
 obtain ⟨h2,e2⟩:=ζe.mp b
 exact (List.getElem_inj hN).mp (e1.trans e2.symm)
theorem YN {M:Model} {A:Around} {E:Value→Shared→Prop} {i:Nat} {x:Str} {v:V} {u:Value} {Q:Unit→Shared→Prop} (I:Inv X pins σ H s) (hN:X.N.Nodup) (hi:X.N[i]?=some x) (hx:Loc X.env.scope x) (r:RelV v u)
  (h:∀ s',Inv X pins (σ.set i (some v)) H s'→(∃ a,Heap.SameBut a s.heap s'.heap∧(a=X.env.locals∨X.env.cells.lookup x=some a))→Q () s') (hf:X.fn x=true∨X.env.scope.names.lookup x=some .local:=by first | exact .inl rfl | exact .inr rfl | assumption):wpAny M A (storeName X.env x u) Q E s:=by
 obtain ⟨m,hn,hl⟩:=id I.loc
 have hcls:(X.env.scope.kind == .class || (X.env.scope.kind == .module && X.env.locals != X.env.globals))=false:=by rw [I.ok.kind]; rfl
 have hiσ:i < σ.length:=by rw [I.len]; exact (ζe.mp hi).1
 have cne:=I.cne
 have tracked:∀ {a:Addr} {h':Heap},(∃ o,s.heap.get? a=some o∧H a=none)→Heap.SameBut a s.heap h'→HOk X.prog X.w H h':=fun {a h'} ha hs b ob e=>by
  obtain ⟨_,_,hfree⟩:=ha
  refine (I.hok b ob e).stay (fun c w' hc q=>(hs.2 c ?_).trans q) (fun _ q=>q) fun _ _ q=>q
  rintro rfl
  rcases hc with rfl | hc
  ·rw [hfree] at e; cases e
  ·rw [hfree] at hc; cases hc
 rcases hx with hk | hk
 ·refine wpAny_storeName_local hk hn (fun h' hn' hs=>?_) hcls
  obtain ⟨oL,_,_,hoL,_⟩:=id hn
  refine h _ ⟨I.ok,I.os,I.bare,⟨fun b o e n hb hx=>?_,fun b o e n hb hx=>?_,I.base.free,fun b o e hx=>?_,I.base.tups,I.base.frzs,I.base.tbls⟩,⟨_,hn',fun j y v' e1 e2 e3=>?_⟩,fun y c e=>?_,I.free,I.freeC,fun p hp=>?_,tracked ⟨oL,hoL,I.free⟩ hs,by simpa using I.len⟩ ⟨_,hs,.inl rfl⟩
  ·exact (hs.2 b (ζG (ζB (ζn e) I.ok.above))).trans (I.base.keep b o e n hb hx)
  ·obtain ⟨sl,e1⟩:=I.base.slot b o e n hb hx
   exact ⟨sl,(hs.2 b (ζG (ζB (ζn e) I.ok.above))).trans e1⟩
  ·obtain ⟨o',e1⟩:=I.base.there b o e hx
   exact ⟨o',(hs.2 b (ζG (ζB (ζn e) I.ok.above))).trans e1⟩
  ·by_cases hj:j=i
   ·subst hj
    rw [hi] at e1; cases e1
    rw [ζt hiσ] at e2
    cases e2
    exact ⟨u,r,.inl ⟨hk,by simp⟩⟩
   ·rw [ζx (Ne.symm hj)] at e2
    obtain ⟨u',r',q⟩:=hl j y v' e1 e2 e3
    refine ⟨u',r',?_⟩
    rcases q with ⟨k,e⟩ | ⟨k,c,e,z⟩
    ·refine .inl ⟨k,?_⟩
     have:y≠x:=fun e=>hj (Vo hN e1 (e ▸ hi))
     simp [this,e]
    ·exact .inr ⟨k,c,e,z.sameBut hs (cne y c e)⟩
  ·obtain ⟨w',z⟩:=I.cell y c e
   exact ⟨w',z.sameBut hs (cne y c e)⟩
  ·obtain ⟨e,n,ne,nf,d⟩:=I.pin p hp
   exact ⟨(hs.2 p.1 ne).trans e,n,ne,nf,d⟩
 ·have hfn:X.fn x=true:=by
   rcases hf with z | z
   ·exact z
   ·rw [z] at hk; cases hk
  obtain ⟨c,hc⟩:=I.ok.has x (.inl hk)
  obtain ⟨w',z⟩:=I.cell x c hc
  refine wpAny_storeName_cell I.ok.kind hk hc z (fun h' hc' hs=>?_)
  obtain ⟨oc,hoc,hocd⟩:=id z
  refine h { s with heap:=h' } ⟨I.ok,I.os,I.bare,⟨fun b o e n hb hx=>?_,fun b o e n hb hx=>?_,I.base.free,fun b o e hx=>?_,I.base.tups,I.base.frzs,I.base.tbls⟩,⟨m,hn.sameBut hs (Ne.symm (cne x c hc)),fun j y v' e1 e2 e3=>?_⟩,fun y c' e=>?_,I.free,I.freeC,fun p hp=>?_,tracked ⟨oc,hoc,(I.freeC x c hc).elim (fun n=>n) fun z=>by rw [hfn] at z; cases z.1⟩ hs,by simpa using I.len⟩ ⟨c,hs,.inr hc⟩
  ·exact (hs.2 b (ζG (ζB (ζn e) (I.ok.cab x c hfn hc)))).trans (I.base.keep b o e n hb hx)
  ·obtain ⟨sl,e1⟩:=I.base.slot b o e n hb hx
   exact ⟨sl,(hs.2 b (ζG (ζB (ζn e) (I.ok.cab x c hfn hc)))).trans e1⟩
  ·obtain ⟨o',e1⟩:=I.base.there b o e hx
   exact ⟨o',(hs.2 b (ζG (ζB (ζn e) (I.ok.cab x c hfn hc)))).trans e1⟩
  ·by_cases hj:j=i
   ·subst hj
    rw [hi] at e1; cases e1
    rw [ζt hiσ] at e2
    cases e2
    exact ⟨u,r,.inr ⟨.inl hk,c,hc,hc'⟩⟩
   ·rw [ζx (Ne.symm hj)] at e2
    obtain ⟨u',r',q⟩:=hl j y v' e1 e2 e3
    refine ⟨u',r',?_⟩
    rcases q with q | ⟨k,c',e,z'⟩
    ·exact .inl q
    ·refine .inr ⟨k,c',e,z'.sameBut hs ?_⟩
     rintro rfl
     exact hj (Vo hN e1 (I.ok.inj _ _ _ e hc ▸ hi))
  ·by_cases hcc:c'=c
   ·subst hcc; exact ⟨_,hc'⟩
   ·obtain ⟨w2,z2⟩:=I.cell y c' e
    exact ⟨w2,z2.sameBut hs hcc⟩
  ·obtain ⟨e,n,ne,nf,d⟩:=I.pin p hp
   refine ⟨(hs.2 p.1 ?_).trans e,n,ne,nf,d⟩
   intro q
   rw [q,hoc] at e
   have q':oc=p.2:=ζD e
   exact d w' (by rw [← q']; exact hocd)
theorem WN {M:Model} {A:Around} {E:Value→Shared→Prop} {i:Nat} {x:Str} {v:V} {u:Value} {Q:Unit→Shared→Prop} (I:Inv X pins σ H s) (hN:X.N.Nodup) (hi:X.N[i]?=some x) (hx:Loc X.env.scope x) (r:RelV v u)
  (h:∀ s',Inv X pins (σ.set i (some v)) H s'→Q () s') (hf:X.fn x=true∨X.env.scope.names.lookup x=some .local:=by first | exact .inl rfl | exact .inr rfl | assumption):wpAny M A (storeName X.env x u) Q E s :=
 YN I hN hi hx r (fun s' I' _=>h s' I') hf
theorem Inv.call' {s':Shared} {ch:List Addr} (I:Inv X pins σ H s) (ho:s'.os=s.os) (u:Un (frs X.stack) ch H H' s.heap s'.heap) (hok:HOk X.prog X.w H' s'.heap) (hg:AllBare s'.gens)
  (hch:∀ b∈ch,(b∈X.ex∨X.s₀.heap.objs.size≤b)∧b≠X.env.locals∧(∀ x c,X.env.cells.lookup x=some c→c≠b)∧∀ p∈X.pn ++ pins,p.1≠b):Inv X pins σ H' s':=by
 obtain ⟨h',g',d',t',o'⟩:=s'
 have e:o'=s.os:=ho
 subst e
 exact I.call (g':=g') (t':=t') (d':=d') u hok hg hch
end
abbrev XK:=Value→Option Addr→Hp→Prop
abbrev St:=List (Option V)
abbrev VK:=V→Hp→Prop
abbrev TE:=St→Hp→VK→Prop
abbrev TT:=St→Hp→(Bool→Hp→Prop)→Prop
abbrev TA:=St→Hp→(List V→Hp→Prop)→Prop
structure Ends where
 nx:St→Hp→Prop
 rt:VK
 bk:St→Hp→Prop:=fun _ _=>False
 ct:St→Hp→Prop:=fun _ _=>False
abbrev TS:=Ends→St→Hp→Prop
def EP (X:Cx) (pins:List (Addr×Obj)) (σ:St) (Q:VK) (u:Value) (s':Shared):Prop:=∃ v H',Inv X pins σ H' s'∧RelV v u∧Q v H'
def TP (X:Cx) (pins:List (Addr×Obj)) (σ:St) (Q:Bool→Hp→Prop) (b:Bool) (s':Shared):Prop:=∃ H',Inv X pins σ H' s'∧Q b H'
def AP (X:Cx) (pins:List (Addr×Obj)) (σ:St) (Q:List V→Hp→Prop) (us:List Value) (s':Shared):Prop:=∃ vs H',Inv X pins σ H' s'∧Vals vs us∧Q vs H'
def SP (X:Cx) (pins:List (Addr×Obj)) (D:Ends) (f:Flow) (s':Shared):Prop :=
 match f with
 | .next=>∃ σ' H',Inv X pins σ' H' s'∧D.nx σ' H'
 | .brk=>∃ σ' H',Inv X pins σ' H' s'∧D.bk σ' H'
 | .cont=>∃ σ' H',Inv X pins σ' H' s'∧D.ct σ' H'
 | .ret u=>∃ v σ' H',Inv X pins σ' H' s'∧RelV v u∧D.rt v H'
def PE (X:Cx) (e:Expr) (t:TE):Prop :=
 ∀ (pins:List (Addr×Obj)) (s:Shared) (σ:St) (H:Hp) (Q:VK),Inv X pins σ H s→t σ H Q→wpAny (model X.prog X.w) X.A (eval e X.env) (EP X pins σ Q) X.xe s
def PT (X:Cx) (e:Expr) (t:TT):Prop :=
 ∀ (pins:List (Addr×Obj)) (s:Shared) (σ:St) (H:Hp) (Q:Bool→Hp→Prop),Inv X pins σ H s→t σ H Q→wpAny (model X.prog X.w) X.A (isTrue e X.env (eval e X.env)) (TP X pins σ Q) X.xe s
def PW (X:Cx) (e:Expr) (t:TT):Prop :=
 ∀ (whole:Sem Value) (pins:List (Addr×Obj)) (s:Shared) (σ:St) (H:Hp) (Q:Bool→Hp→Prop),Inv X pins σ H s→t σ H Q→wpAny (model X.prog X.w) X.A (isTrue e X.env whole) (TP X pins σ Q) X.xe s
theorem PW.pt {X:Cx} {e:Expr} {t:TT} (h:PW X e t):PT X e t:=h _
def PA (X:Cx) (es:List Expr) (t:TA):Prop :=
 ∀ (pos:Pos) (pins:List (Addr×Obj)) (s:Shared) (σ:St) (H:Hp) (Q:List V→Hp→Prop),Inv X pins σ H s→t σ H Q→wpAny (model X.prog X.w) X.A (spliced (backTo pos (starEach es X.env))) (AP X pins σ Q) X.xe s
def PS (X:Cx) (st:Stmt) (t:TS):Prop :=
 ∀ (pins:List (Addr×Obj)) (s:Shared) (σ:St) (H:Hp) (D:Ends),Inv X pins σ H s→t D σ H→wpAny (model X.prog X.w) X.A (exec st X.env) (SP X pins D) X.xe s
def PSs (X:Cx) (st:List Stmt) (t:TS):Prop :=
 ∀ (pins:List (Addr×Obj)) (s:Shared) (σ:St) (H:Hp) (D:Ends),Inv X pins σ H s→t D σ H→wpAny (model X.prog X.w) X.A (execs st X.env) (SP X pins D) X.xe s
theorem thn {α:Type} {t:Sem α} {Q Q':α→Shared→Prop} {M:Model} {A:Around} {E:Value→Shared→Prop} {s:Shared} (h:wpAny M A t Q E s) (hQ:∀ a s,Q a s→Q' a s):wpAny M A t Q' E s:=wpAny_mono h hQ fun _ _ x=>x
section
variable {X:Cx}
def tVar (i:Nat):TE:=fun σ H Q=>∃ v,σ[i]?=some (some v)∧Q v H
def tC (v:V):TE:=fun _ H Q=>Q v H
theorem zdE {i:Nat} {x:Str} {pos:Pos} (hN:X.N[i]?=some x) (hv:Vis X.env.scope x) (hd:(x == ("__debug__" : Str))=false:=by decide) (hcd:(x == ("__classdict__" : Str))=false:=by decide):PE X (.Name x pos) (tVar i):=by
 intro pins s σ H Q I h
 obtain ⟨v,e,h⟩:=h
 obtain ⟨m,hn,hl⟩:=I.loc
 obtain ⟨u,r,l⟩:=hl i x v hN e hv
 have fin:EP X pins σ Q u s:=⟨v,H,I,r,h⟩
 rcases l with ⟨hk,hm⟩ | ⟨hk,c,hc,hcell⟩
 ·exact wpAny_Name (wpAny_loadName_local I.ok.kind hk hn hm fin) hd
 ·rcases hk with hk | hk
  ·exact wpAny_Name (wpAny_loadName_cell I.ok.kind hk hc hcell fin) hd
  ·exact wpAny_Name (wpAny_loadName_free I.ok.kind hk hc hcell fin hcd) hd
theorem zh {i j pos}:PE X (.Constant (.int i) j pos) (tC (.int i)):=fun _ _ _ H _ I h=>wpAny_Constant_int ⟨.int i,H,I.tok _,⟨_,rfl⟩,h⟩
theorem tQ {b j pos}:PE X (.Constant (.bool b) j pos) (tC (.bl b)):=fun _ _ _ H _ I h=>Constant_bool ⟨.bl b,H,I,rfl,h⟩
theorem Uc {j pos}:PE X (.Constant .none j pos) (tC .non):=fun _ _ _ H _ I h=>Constant_none ⟨.non,H,I,rfl,h⟩
theorem yI {x j pos}:PE X (.Constant (.str x) j pos) (tC (.str x)):=fun _ _ _ H _ I h=>Calls.Constant_str ⟨.str x,H,I.tok _,⟨_,rfl⟩,h⟩
def Gl (X:Cx) (x:Str):Prop:=X.env.kindOf x=some .globalImplicit
theorem Tj {E:Value→Shared→Prop} {pins:List (Addr×Obj)} {s:Shared} {σ:St} {H:Hp} {x:Str} {u:Value} {pos:Pos} {Q:Value→Shared→Prop} (I:Inv X pins σ H s) (hg:Gl X x) (hm:X.mg x=some u) (h:Q u s)
  (hd:(x == ("__debug__" : Str))=false:=by decide):wpAny (model X.prog X.w) X.A (eval (.Name x pos) X.env) Q E s :=
 Calls.Name_function_global I.ok.kind hg (Calls.loadGlobal_global (by rw [I.ok.glob]; exact I.mod.glob.keeps I.bk) hm h) hd
theorem uj {E:Value→Shared→Prop} {pins:List (Addr×Obj)} {s:Shared} {σ:St} {H:Hp} {x:Str} {u:Value} {pos:Pos} {Q:Value→Shared→Prop} (I:Inv X pins σ H s) (hg:Gl X x) (hm:X.mg x=none) (hv:bootBuiltins x=some u) (h:Q u s)
  (hn:x ≠ "__name__" := by decide) (hd:(x == ("__debug__" : Str))=false:=by decide):wpAny (model X.prog X.w) X.A (eval (.Name x pos) X.env) Q E s:=by
 obtain ⟨mb,h1,h2⟩:=I.mod.blt
 exact Calls.Name_function_global I.ok.kind hg (Calls.loadGlobal_builtin (by rw [I.ok.glob]; exact I.mod.glob.keeps I.bk) hm (by rw [I.ok.blt]; exact h1.keeps I.bk) ((h2 x hn).trans hv) h) hd
theorem wx {x:Str} {v:V} {u:Value} {pos:Pos} (hg:Gl X x) (hm:X.mg x=some u) (r:RelV v u) (hd:(x == ("__debug__" : Str))=false:=by decide):PE X (.Name x pos) (tC v) :=
 fun _ _ _ H _ I h=>Tj I hg hm ⟨v,H,I,r,h⟩ hd
theorem xW {x:Str} {v:V} {u:Value} {pos:Pos} (hg:Gl X x) (hm:X.mg x=none) (hv:bootBuiltins x=some u) (r:RelV v u) (hn:x ≠ "__name__" := by decide) (hd:(x == ("__debug__" : Str))=false:=by decide):PE X (.Name x pos) (tC v) :=
 fun _ _ _ H _ I h=>uj I hg hm hv ⟨v,H,I,r,h⟩ hn hd
variable {a b:Expr} {ta tb:TE} {pos:Pos}
def tB (t:TE):TT:=fun σ H Q=>t σ H fun x H1=>∃ c,x=.bl c∧Q c H1
theorem yC {e:Expr} {t:TE} (h:PE X e t) (he:∀ whole,isTrue e X.env whole=(do let v ← whole; standAt e.pos; holding [v] (truthy v)):=by intro _; rfl):PT X e (tB t):=by
 intro pins s σ H Q I hw
 refine isTrue_plain (thn (h pins s σ H _ I hw) fun v s1 ⟨x,H1,I1,r1,q1⟩=>?_) (he _)
 obtain ⟨d,rfl,q⟩:=q1
 cases r1
 exact wpAny_truthy_bool ⟨H1,I1,q⟩
variable {tA tB':TT} {rest:List Expr}
def tAnd (t u:TT):TT:=fun σ H Q=>t σ H fun c H1=>if c=true then u σ H1 Q else Q false H1
def tOr (t u:TT):TT:=fun σ H Q=>t σ H fun c H1=>if c=true then Q true H1 else u σ H1 Q
def tNot (t:TT):TT:=fun σ H Q=>t σ H fun c H1=>Q (!c) H1
theorem U6 (ha:PT X a tA):PW X (.BoolOp .And [a] pos) tA:=by
 intro wh pins s σ H Q I h
 refine isTrue_and (thn (ha pins s σ H Q I h) fun c s1 e=>?_)
 cases c with
 | true=>exact isTrue_and_nil e
 | false=>exact e
theorem Zx (ha:PT X a tA):PW X (.BoolOp .Or [a] pos) tA:=by
 intro wh pins s σ H Q I h
 refine isTrue_or (thn (ha pins s σ H Q I h) fun c s1 e=>?_)
 cases c with
 | false=>exact isTrue_or_nil e
 | true=>exact e
theorem zaf (ha:PT X a tA) (hb:PW X (.BoolOp .And (b :: rest) pos) tB'):PW X (.BoolOp .And (a :: b :: rest) pos) (tAnd tA tB'):=by
 intro wh pins s σ H Q I h
 refine isTrue_and (thn (ha pins s σ H _ I h) fun c s1 ⟨H1,I1,q1⟩=>?_)
 cases c with
 | true=>exact hb wh pins s1 σ H1 Q I1 q1
 | false=>exact ⟨H1,I1,q1⟩
theorem Zy (ha:PT X a tA) (hb:PW X (.BoolOp .Or (b :: rest) pos) tB'):PW X (.BoolOp .Or (a :: b :: rest) pos) (tOr tA tB'):=by
 intro wh pins s σ H Q I h
 refine isTrue_or (thn (ha pins s σ H _ I h) fun c s1 ⟨H1,I1,q1⟩=>?_)
 cases c with
 | true=>exact ⟨H1,I1,q1⟩
 | false=>exact hb wh pins s1 σ H1 Q I1 q1
theorem yU (ha:PT X a tA):PT X (.UnaryOp .Not a pos) (tNot tA):=by
 intro pins s σ H Q I h
 exact isTrue_not (ha pins s σ H (fun c H1=>Q (!c) H1) I h)
def zcP (ta tb:TE):TE:=fun σ H Q=>ta σ H fun x H1=>∃ c,x=.bl c∧if c=true then tb σ H1 Q else Q (.bl false) H1
def tOrV (ta tb:TE):TE:=fun σ H Q=>ta σ H fun x H1=>∃ c,x=.bl c∧if c=true then Q (.bl true) H1 else tb σ H1 Q
def zcO (ta:TE):TE:=fun σ H Q=>ta σ H fun x H1=>∃ c,x=.bl c∧Q (.bl (!c)) H1
theorem xO {op} {t:TE} (h:PE X a t):PE X (.BoolOp op [a] pos) t:=fun pins s σ H Q I hw=>BoolOp_one (h pins s σ H Q I hw)
theorem xT (ha:PE X a ta) (hb:PE X (.BoolOp .And (b :: rest) pos) tb):PE X (.BoolOp .And (a :: b :: rest) pos) (zcP ta tb):=by
 intro pins s σ H Q I h
 refine BoolOp_and (thn (ha pins s σ H _ I h) fun v s1 ⟨x,H1,I1,r1,q1⟩=>?_)
 obtain ⟨c,rfl,q1⟩:=q1
 cases r1
 refine wpAny_truthy_bool ?_
 cases c with
 | true=>exact hb pins s1 σ H1 Q I1 q1
 | false=>exact ⟨.bl false,H1,I1,rfl,q1⟩
theorem zc5 (ha:PE X a ta) (hb:PE X (.BoolOp .Or (b :: rest) pos) tb):PE X (.BoolOp .Or (a :: b :: rest) pos) (tOrV ta tb):=by
 intro pins s σ H Q I h
 refine BoolOp_or (thn (ha pins s σ H _ I h) fun v s1 ⟨x,H1,I1,r1,q1⟩=>?_)
 obtain ⟨c,rfl,q1⟩:=q1
 cases r1
 refine wpAny_truthy_bool ?_
 cases c with
 | false=>exact hb pins s1 σ H1 Q I1 q1
 | true=>exact ⟨.bl true,H1,I1,rfl,q1⟩
theorem zan (ha:PE X a ta):PE X (.UnaryOp .Not a pos) (zcO ta):=by
 intro pins s σ H Q I h
 refine UnaryOp_ (thn (ha pins s σ H _ I h) fun v s1 ⟨x,H1,I1,r1,q1⟩=>?_)
 obtain ⟨c,rfl,q1⟩:=q1
 cases r1
 exact not_of (wpAny_truthy_bool ⟨.bl (!c),H1,I1,rfl,q1⟩)
def tIf (t:TT) (ta tb:TE):TE:=fun σ H Q=>t σ H fun c H1=>if c=true then ta σ H1 Q else tb σ H1 Q
theorem Va {c:Expr} (hc:PT X c tA) (ha:PE X a ta) (hb:PE X b tb):PE X (.IfExp c a b pos) (tIf tA ta tb):=by
 intro pins s σ H Q I h
 refine wpAny_IfExp (thn (hc pins s σ H _ I h) fun d s1 ⟨H1,I1,q1⟩=>?_)
 cases d with
 | true=>exact ha pins s1 σ H1 Q I1 q1
 | false=>exact hb pins s1 σ H1 Q I1 q1
end
def SqL (K:ζb) (H:Hp) (a:Addr) (xs:List V):Prop :=
 Rd H a (.lst xs) ∨
  ∃ (o:Obj) (its:Array Value) (n:Nat),K.lookup a=some o∧o.cls=.type "list" ∧ o.dict=none∧o.data=.seq its n∧its.size≤sizeLine∧Vals xs its.toList
def SqT (K:ζb) (H:Hp) (a:Addr) (xs:List V):Prop :=
 Rd H a (.tup xs) ∨
  ∃ (o:Obj) (its:Array Value) (n:Nat),K.lookup a=some o∧o.cls=.type "tuple" ∧ o.data=.seq its n∧its.size≤sizeLine∧Vals xs its.toList
def absV:Value→Option V
 | .none=>some .non
 | .bool b=>some (.bl b)
 | .int i _=>some (.int i)
 | .str x _=>some (.str x)
 | .bytes b _=>some (.byt b)
 | .float b _=>some (.flt b)
 | .ref a=>some (.ref a)
 | .type n=>some (.ty n)
 | _=>none
theorem RelV.abs {x:V} {u:Value} (r:RelV x u):absV u=some x:=by
 cases x with
 | non=>cases r; rfl
 | bl _=>cases r; rfl
 | int _=>obtain ⟨t,rfl⟩:=r; rfl
 | str _=>obtain ⟨t,rfl⟩:=r; rfl
 | byt _=>obtain ⟨t,rfl⟩:=r; rfl
 | flt _=>obtain ⟨t,rfl⟩:=r; rfl
 | ref _=>cases r; rfl
 | ty _=>cases r; rfl
theorem RelV.inj {x y:V} {u:Value} (r:RelV x u) (q:RelV y u):x=y:=ζD (r.abs.symm.trans q.abs)
theorem Vals.inj:∀ {xs ys:List V} {us:List Value},Vals xs us→Vals ys us→xs=ys
 | _,_,_,.nil,.nil=>rfl
 | _,_,_,.cons r t,.cons r' t'=>by rw [r.inj r',Vals.inj t t']
section
variable {X:Cx} {pins:List (Addr×Obj)} {σ:St} {H:Hp} {s:Shared} {a:Addr} {xs ys:List V}
theorem SqL.of {K:ζb} (h:H a=some (.lst xs)):SqL K H a xs:=.inl (.inl h)
theorem SqT.of {K:ζb} (h:H a=some (.tup xs)):SqT K H a xs:=.inl (.inl h)
theorem Inv.list (I:Inv X pins σ H s) (h:SqL X.K H a xs):∃ its:List Value,Vals xs its∧PlainL s.heap a its.toArray∧xs.length≤sizeLine:=by
 rcases h with h | ⟨o,its,n,hk,hc,hd,hs,hz,r⟩
 ·obtain ⟨z,its,n,r,e⟩:=h.ok I.hok
  exact ⟨its,r,⟨_,n,e,rfl,rfl,rfl⟩,z⟩
 ·refine ⟨its.toList,r,⟨o,n,I.kIn a o hk,hc,hd,by simpa using hs⟩,?_⟩
  have e:=r.length
  simp only [Array.length_toList] at e
  omega
theorem Inv.tuple (I:Inv X pins σ H s) (h:SqT X.K H a xs):∃ its:List Value,Vals xs its∧IsTup s.heap a its.toArray∧xs.length≤sizeLine:=by
 rcases h with h | ⟨o,its,n,hk,hc,hs,hz,r⟩
 ·obtain ⟨z,its,r,p⟩:=h.ok I.hok
  exact ⟨its,r,p,z⟩
 ·refine ⟨its.toList,r,⟨o,I.kIn a o hk,hc,n,by simpa using hs⟩,?_⟩
  have e:=r.length
  simp only [Array.length_toList] at e
  omega
theorem Inv.list_inj (I:Inv X pins σ H s) (h:SqL X.K H a xs) (h':SqL X.K H a ys):xs=ys:=by
 obtain ⟨its,r,⟨o,n,e,_,_,d⟩,_⟩:=I.list h
 obtain ⟨its',r',⟨o',n',e',_,_,d'⟩,_⟩:=I.list h'
 rw [e] at e'; cases e'
 rw [d] at d'
 injection d' with d1 _
 have:its=its':=by simpa using congrArg Array.toList d1
 subst this
 exact r.inj r'
theorem Inv.tuple_inj (I:Inv X pins σ H s) (h:SqT X.K H a xs) (h':SqT X.K H a ys):xs=ys:=by
 obtain ⟨its,r,⟨o,e,_,n,d⟩,_⟩:=I.tuple h
 obtain ⟨its',r',⟨o',e',_,n',d'⟩,_⟩:=I.tuple h'
 rw [e] at e'; cases e'
 rw [d] at d'
 injection d' with d1 _
 have:its=its':=by simpa using congrArg Array.toList d1
 subst this
 exact r.inj r'
end
abbrev Cx.wish (X:Cx) (E:Value→Shared→Prop):Cx:={ X with xe:=E }
abbrev Cx.nox (X:Cx):Cx:=X.wish fun _ _=>False
theorem Cx.Ok.wish {X:Cx} (ok:X.Ok) (E:Value→Shared→Prop):(X.wish E).Ok :=
 ⟨ok.mod,ok.kind,ok.glob,ok.blt,ok.above,ok.inj,ok.has,ok.cab,ok.hd,ok.frames,ok.stk,ok.exf,ok.bs,ok.bsz,ok.noex,ok.exfs,ok.funs,ok.frf,ok.tb⟩
theorem Cx.Ok.unwish {X:Cx} {E:Value→Shared→Prop} (ok:(X.wish E).Ok):X.Ok :=
 ⟨ok.mod,ok.kind,ok.glob,ok.blt,ok.above,ok.inj,ok.has,ok.cab,ok.hd,ok.frames,ok.stk,ok.exf,ok.bs,ok.bsz,ok.noex,ok.exfs,ok.funs,ok.frf,ok.tb⟩
section
variable {X:Cx} {pins:List (Addr×Obj)} {σ:St} {H:Hp} {s:Shared} {E:Value→Shared→Prop}
theorem Inv.wish (I:Inv X pins σ H s) (E:Value→Shared→Prop):Inv (X.wish E) pins σ H s:=⟨I.ok.wish E,I.os,I.bare,I.base,I.loc,I.cell,I.free,I.freeC,I.pin,I.hok,I.len⟩
theorem Inv.unwish (I:Inv (X.wish E) pins σ H s):Inv X pins σ H s:=⟨I.ok.unwish,I.os,I.bare,I.base,I.loc,I.cell,I.free,I.freeC,I.pin,I.hok,I.len⟩
theorem SP.unwish {D:Ends} {f:Flow} {s':Shared} (h:SP (X.wish E) pins D f s'):SP X pins D f s':=by
 cases f with
 | next=>obtain ⟨σ',H',I,q⟩:=h; exact ⟨σ',H',I.unwish,q⟩
 | brk=>obtain ⟨σ',H',I,q⟩:=h; exact ⟨σ',H',I.unwish,q⟩
 | cont=>obtain ⟨σ',H',I,q⟩:=h; exact ⟨σ',H',I.unwish,q⟩
 | ret u=>obtain ⟨v,σ',H',I,r,q⟩:=h; exact ⟨v,σ',H',I.unwish,r,q⟩
theorem PSs.nox {st:List Stmt} {t:TS} (h:PSs X.nox st t):PSs X st t:=fun pins s σ H D I hw =>
 wpAny_mono (h pins s σ H D (I.wish _) hw) (fun _ _ q=>q.unwish) fun _ _ z=>False.elim z
end
section
variable {X:Cx} {st:Stmt} {rest:List Stmt} {t u:TS} {e:Expr} {te:TE} {pos:Pos}
def YM:TS:=fun D σ H=>D.nx σ H
def tSeq (t u:TS):TS:=fun D σ H=>t { D with nx:=u D } σ H
theorem yc:PSs X [] YM:=fun _ _ σ H _ I h=>wpAny_execs_nil ⟨σ,H,I,h⟩
theorem ze (h1:PS X st t) (h2:PSs X rest u):PSs X (st :: rest) (tSeq t u):=by
 intro pins s σ H D I h
 refine wpAny_execs_cons (thn (h1 pins s σ H { D with nx:=u D } I h) fun f s1 q=>?_)
 cases f with
 | next =>
  obtain ⟨σ',H',I',q⟩:=q
  exact h2 pins s1 σ' H' D I' q
 | ret v=>exact q
 | brk=>exact q
 | cont=>exact q
theorem zg (h1:PS X st t):PSs X [st] t:=by
 intro pins s σ H D I h
 refine wpAny_execs_cons (thn (h1 pins s σ H D I h) fun f s1 q=>?_)
 cases f with
 | next=>exact wpAny_execs_nil q
 | ret v=>exact q
 | brk=>exact q
 | cont=>exact q
theorem Inv.quiet {pins:List (Addr×Obj)} {σ:St} {H:Hp} {s:Shared} (I:Inv X pins σ H s):interactive X.env=false:=by simp [interactive,I.ok.kind]
def xH (te:TE):TS:=fun D σ H=>te σ H fun _ H1=>D.nx σ H1
theorem yd (he:PE X e te) (hs:swapsWith e none pos.line X.env=pure false:=by rfl):PS X (.Expr e pos) (xH te):=by
 intro pins s σ H D I h
 exact wpAny_Expr_any (thn (he pins s σ H _ I h) fun v s1 ⟨x,H1,I1,r1,q1⟩=>⟨σ,H1,I1,q1⟩) I.quiet hs
def tRet (te:TE):TS:=fun D σ H=>te σ H D.rt
theorem zH (he:PE X e te):PS X (.Return (some e) pos) (tRet te):=by
 intro pins s σ H D I h
 exact wpAny_Return_some (thn (he pins s σ H _ I h) fun v s1 ⟨x,H1,I1,r1,q1⟩=>⟨x,σ,H1,I1,r1,q1⟩)
def tIfS (c:TT) (t u:TS):TS:=fun D σ H=>c σ H fun b H1=>if b=true then t D σ H1 else u D σ H1
theorem yF {c:Expr} {a b:List Stmt} {tc:TT} (hc:PT X c tc) (ha:PSs X a t) (hb:PSs X b u):PS X (.If c a b pos) (tIfS tc t u):=by
 intro pins s σ H D I h
 refine wpAny_If (thn (hc pins s σ H _ I h) fun d s1 ⟨H1,I1,q1⟩=>?_)
 cases d with
 | true=>exact ha pins s1 σ H1 D I1 q1
 | false=>exact hb pins s1 σ H1 D I1 q1
def zdm:TS:=fun _ _ _=>False
theorem yY:PS X st zdm:=fun _ _ _ _ _ _ h=>h.elim
end
abbrev TG:=V→St→Hp→(St→Hp→Prop)→Prop
abbrev TGs:=List V→St→Hp→(St→Hp→Prop)→Prop
def PG (X:Cx) (target:Expr) (t:TG):Prop :=
 ∀ (pins:List (Addr×Obj)) (s:Shared) (σ:St) (H:Hp) (v:V) (u:Value) (Q:St→Hp→Prop),Inv X pins σ H s→RelV v u→t v σ H Q →
  wpAny (model X.prog X.w) X.A (assign target X.env u) (fun _ s'=>∃ σ' H',Inv X pins σ' H' s'∧Q σ' H') X.xe s
def PGs (X:Cx) (ts:List Expr) (t:TGs):Prop :=
 ∀ (pins:List (Addr×Obj)) (s:Shared) (σ:St) (H:Hp) (vs:List V) (us:List Value) (Q:St→Hp→Prop),Inv X pins σ H s→Vals vs us→t vs σ H Q →
  wpAny (model X.prog X.w) X.A (assignInOrder ((assignEach ts X.env).map (·.2)) us) (fun _ s'=>∃ σ' H',Inv X pins σ' H' s'∧Q σ' H') X.xe s
abbrev TSet:=V→V→V→Hp→(Hp→Prop)→Prop
def PSet (X:Cx) (t:TSet):Prop :=
 ∀ (pins:List (Addr×Obj)) (s:Shared) (σ:St) (H:Hp) (o i v:V) (ov iv u:Value) (Q:Hp→Prop),Inv X pins σ H s→RelV o ov→RelV i iv→RelV v u→t o i v H Q →
  wpAny (model X.prog X.w) X.A (setItem ov iv u) (fun _ s'=>∃ H',Inv X pins σ H' s'∧Q H') X.xe s
section
variable {X:Cx} {pos:Pos}
def xa (i:Nat):TG:=fun v σ H Q=>Q (σ.set i (some v)) H
theorem zk {i:Nat} {x:Str} (hN:X.N.Nodup) (hi:X.N[i]?=some x) (hx:Loc X.env.scope x) (hf:X.fn x=true∨X.env.scope.names.lookup x=some .local:=by first | exact .inl rfl | exact .inr rfl | assumption):PG X (.Name x pos) (xa i):=by
 intro pins s σ H v u Q I r h
 exact wpAny_assign_Name (WN I hN hi hx r (fun s' I'=>⟨_,H,I',h⟩) hf)
def gNil:TGs:=fun vs σ H Q=>vs=[]∧Q σ H
def tR (t:TG) (u:TGs):TGs:=fun vs σ H Q=>∃ v r,vs=v :: r∧t v σ H fun σ' H'=>u r σ' H' Q
theorem wv:PGs X [] gNil:=by
 intro pins s σ H vs us Q I r h
 obtain ⟨e,h⟩:=h
 subst e
 cases r
 exact assignInOrder_nil ⟨σ,H,I,h⟩
theorem yo {e:Expr} {es:List Expr} {t:TG} {u:TGs} (h1:PG X e t) (h2:PGs X es u)
  (hs:(assignEach (e :: es) X.env).map (·.2)=assign e X.env :: (assignEach es X.env).map (·.2):=by rfl):PGs X (e :: es) (tR t u):=by
 intro pins s σ H vs us Q I r h
 obtain ⟨v,vr,e1,h⟩:=h
 subst e1
 cases r with
 | cons r rr =>
  rw [hs]
  refine assignInOrder_cons (thn (h1 pins s σ H _ _ _ I r h) fun _ s1 ⟨σ1,H1,I1,q1⟩=>?_)
  exact h2 pins s1 σ1 H1 _ _ Q I1 rr q1
def gTup (K:ζb) (n:Nat) (t:TGs):TG:=fun v σ H Q=>∃ a xs,v=.ref a∧SqT K H a xs∧xs.length=n∧t xs σ H Q
theorem zdD {es:List Expr} {k:Nat} {t:TGs} {n:Nat} (hc:X.calm=true) (h:PGs X es t)
  (hn:(assignEach es X.env).length=n:=by rfl) (hst:(assignEach es X.env).findIdx? (·.1)=none:=by rfl):PG X (.Tuple es k pos) (gTup X.K n t):=by
 intro pins s σ H v u Q I r hw
 obtain ⟨a,xs,e1,hq,hl,hw⟩:=hw
 subst e1
 cases r
 obtain ⟨its,rv,ht,hz⟩:=I.tuple hq
 refine assign_Tuple_tuple (I.ok.hd hc) ht (by simp [hn,← hl,rv.length]) hst fun h' hx=>?_
 have I1:Inv X pins σ H { s with heap:=h' }:=I.kept (t':=s.toks) fun b o e=>hx b o (ζG (ζn e)) e
 exact h pins _ σ H xs _ Q I1 (by simpa using rv) hw
def gSub (to ti:TE) (t:TSet):TG:=fun v σ H Q=>to σ H fun o H1=>ti σ H1 fun i H2=>t o i v H2 fun H3=>Q σ H3
theorem zal {o i:Expr} {to ti:TE} {t:TSet} (ho:PE X o to) (hi:PE X i ti) (hs:PSet X t)
  (ha:∀ v,assign (.Subscript o i pos) X.env v=(do
   let ov ← holding [v] (eval o X.env)
   let iv ← holding [v,ov] (eval i X.env)
   standAt pos
   holding [v,ov,iv] (setItem ov iv v)
   release [v,ov,iv] []):=by intro _; rfl):PG X (.Subscript o i pos) (gSub to ti t):=by
 intro pins s σ H v u Q I r h
 rw [ha]
 refine wpAny_bind (wpAny_holding (thn (ho pins s σ H _ I h) fun ov s1 ⟨x,H1,I1,r1,q1⟩=>?_))
 refine wpAny_bind (wpAny_holding (thn (hi pins s1 σ H1 _ I1 q1) fun iv s2 ⟨y,H2,I2,r2,q2⟩=>?_))
 refine wpAny_bind (wpAny_standAt (wpAny_bind (wpAny_holding (thn (hs pins s2 σ H2 x y v ov iv u _ I2 r1 r2 r q2) fun _ s3 ⟨H3,I3,q3⟩=>?_))))
 exact wpAny_release ⟨σ,H3,I3,q3⟩
def tAsg (te:TE) (g:TG):TS:=fun D σ H=>te σ H fun x H1=>g x σ H1 D.nx
theorem XF {tg e:Expr} {te:TE} {g:TG} (he:PE X e te) (hg:PG X tg g) (hs:swapsWithSole [tg] e pos.line X.env=pure false:=by rfl) (hw:swappedStores [tg] e X.env=pure none:=by rfl)
  (h1:(assignEach [tg] X.env).map (·.2)=[assign tg X.env]:=by rfl):PS X (.Assign [tg] e pos) (tAsg te g):=by
 intro pins s σ H D I h
 refine wpAny_Assign_stores (thn (he pins s σ H _ I h) fun v s1 ⟨x,H1,I1,r1,q1⟩=>?_) hs hw
 rw [h1]
 exact thn (hg pins s1 σ H1 x v _ I1 r1 q1) fun _ s2 q=>q
theorem zF {i:Nat} {x:Str} {e:Expr} {te:TE} {pos':Pos} (hN:X.N.Nodup) (hi:X.N[i]?=some x) (hx:Loc X.env.scope x) (he:PE X e te) (hs:swapsWith e (some (.Name x pos')) pos.line X.env=pure false:=by rfl) (hf:X.fn x=true∨X.env.scope.names.lookup x=some .local:=by first | exact .inl rfl | exact .inr rfl | assumption) :
  PS X (.Assign [.Name x pos'] e pos) (tAsg te (xa i)):=by
 intro pins s σ H D I h
 refine wpAny_Assign_Name (thn (he pins s σ H _ I h) fun v s1 ⟨y,H1,I1,r1,q1⟩=>?_) hs
 exact WN I1 hN hi hx r1 (fun s2 I2=>⟨_,H1,I2,q1⟩) hf
def QR (c:TT) (tb:TS):TS:=fun D σ H=>∃ W:Nat→St→Hp→Prop,(∃ m,W m σ H)∧∀ m σ H,W m σ H →
 c σ H fun b H1=>if b=true then ∃ N:St→Hp→Prop,(∀ σ' H',N σ' H'→∃ m',m' < m∧W m' σ' H')∧tb { D with nx:=N,ct:=N,bk:=D.nx } σ H1 else D.nx σ H1
theorem zah {c:Expr} {body:List Stmt} {tc:TT} {tb:TS} (hp:PassesOwn (model X.prog X.w) X.A X.env X.xe) (hc:PT X c tc) (hb:PSs X body tb):PS X (.While c body [] pos) (QR tc tb):=by
 intro pins s σ H D I h
 obtain ⟨W,⟨m0,w0⟩,turn⟩:=h
 refine wpAny_While (codeAny_whileLoop (fun n s'=>∃ σ' H',Inv X pins σ' H' s'∧W n σ' H') ?_ m0 ⟨σ,H,I,w0⟩)
 rintro n s1 ⟨σ1,H1,I1,w1⟩
 refine wpAny_passesOwn hp (thn (hc pins s1 σ1 H1 _ I1 (turn n σ1 H1 w1)) fun b s2 ⟨H2,I2,q2⟩=>?_)
 cases b with
 | true =>
  obtain ⟨N,hN,q2⟩:=q2
  rw [if_pos rfl]
  refine wpAny_passesOwn hp (thn (hb pins s2 σ1 H2 _ I2 q2) fun f s3 q3=>?_)
  cases f with
  | next =>
   obtain ⟨σ3,H3,I3,n3⟩:=q3
   obtain ⟨m',hm,w3⟩:=hN σ3 H3 n3
   exact ⟨m',hm,σ3,H3,I3,w3⟩
  | cont =>
   obtain ⟨σ3,H3,I3,n3⟩:=q3
   obtain ⟨m',hm,w3⟩:=hN σ3 H3 n3
   exact ⟨m',hm,σ3,H3,I3,w3⟩
  | brk=>exact q3
  | ret v=>exact q3
 | false =>
  rw [if_neg ζC]
  exact wpAny_execs_nil ⟨σ1,H2,I2,q2⟩
end
structure It where
 go:Nat→Hp→Prop
 yld:Nat→Hp→V→Hp→Prop
 stop:Nat→Hp→Prop
def FpOk (X:Cx) (pins:List (Addr×Obj)) (H:Hp) (b:Addr):Prop :=
 H b=none∧b≠X.env.locals∧b∉X.fs∧(b∈X.ex∨X.s₀.heap.objs.size≤b)∧(∀ x c,X.env.cells.lookup x=some c→c≠b)∧∀ p∈X.pn ++ pins,p.1≠b
theorem Inv.fpOk {X:Cx} {pins:List (Addr×Obj)} {σ:St} {H H':Hp} {s:Shared} {b:Addr} (I:Inv X pins σ H s) (hb:s.heap.objs.size≤b) (hn:H' b=none):FpOk X pins H' b:=by
 refine ⟨hn,ξb (ζB I.lt hb),I.nofs hb,.inr (ζM I.sz hb),fun x c e z=>?_,fun p hp z=>?_⟩
 ·obtain ⟨v,q⟩:=I.cell x c e
  exact absurd (ζB q.lt (by rw [z]; exact hb)) (ζ3 _)
 ·exact absurd (ζB (ζn (I.pin p hp).1) (by rw [z]; exact hb)) (ζ3 _)
structure Turn (P:Program) (w:World) (K:ζb) (tg:Expr) (J:It) (fp:List Addr) (it:Addr) (tn:Nat→Heap→Prop):Prop where
 mem:it∈fp
 obj:∀ i h,tn i h→∀ b∈fp,∃ o,h.get? b=some o∧∀ v,o.data≠.cell v
 keep:∀ i h h',tn i h→(∀ b∈fp,∀ o,h.get? b=some o→h'.get? b=some o)→tn i h'
 item:∀ (X:Cx),X.prog=P→X.w=w→X.K=K→X.calm=true→∀ (i:Nat) (pins:List (Addr×Obj)) (s:Shared) (σ:St) (H:Hp) (E:Value→Shared→Prop),Inv X pins σ H s→(∀ b∈fp,FpOk X pins H b)→tn i s.heap→J.go i H →
  wpAny (model P w) X.A (pyNext (.ref it)) (fun r s1=>∃ u,r=some u ∧
   wpAny (model P w) X.A (letOwnedTupleGo tg (.ref it) u) (fun _ s2=>∃ x H',Inv X pins σ H' s2∧RelV x u∧J.yld i H x H'∧tn (i + 1) s2.heap∧∀ b∈fp,H' b=none) E s1) E s
 done:∀ (X:Cx),X.prog=P→X.w=w→X.K=K→X.calm=true→∀ (i:Nat) (pins:List (Addr×Obj)) (s:Shared) (σ:St) (H:Hp) (E:Value→Shared→Prop),Inv X pins σ H s→(∀ b∈fp,FpOk X pins H b)→tn i s.heap→J.stop i H →
  wpAny (model P w) X.A (pyNext (.ref it)) (fun r s1=>r=none∧Inv X pins σ H s1) E s
 self:∀ (A:Around) (i:Nat) (s:Shared) (Q:Value→Shared→Prop) (E:Value→Shared→Prop),tn i s.heap→Q (.ref it) s→wpAny (model P w) A (pyIter (.ref it)) Q E s
abbrev TI:=St→Hp→(It→Hp→Prop)→Prop
def PIE (X:Cx) (pins:List (Addr×Obj)) (σ:St) (tg:Expr) (R:It→Hp→Prop) (itv:Value) (s2:Shared):Prop :=
 ∃ (it:Addr) (fp:List Addr) (tn:Nat→Heap→Prop) (J:It) (H':Hp),itv=.ref it∧Inv X pins σ H' s2∧Turn X.prog X.w X.K tg J fp it tn∧tn 0 s2.heap∧(∀ b∈fp,FpOk X pins H' b)∧R J H'
def PI (X:Cx) (tg iter:Expr) (wi:TI):Prop :=
 ∀ (pins:List (Addr×Obj)) (s:Shared) (σ:St) (H:Hp) (R:It→Hp→Prop),Inv X pins σ H s→wi σ H R →
  wpAny (model X.prog X.w) X.A (eval iter X.env) (fun v s1=>wpAny (model X.prog X.w) X.A (pyIter v) (PIE X pins σ tg R) X.xe s1) X.xe s
theorem Tq {M:Model} {A:Around} {E:Value→Shared→Prop} {s:Shared} {tg:Expr} {it:Addr} {u:Value} {o:Obj} {n:String} {vs:Array Value} {Q:Unit→Shared→Prop} (ho:s.heap.get? it=some o) (hc:o.cls=.type n) (hd:o.data=.fields vs)
  (hn:["enumerate", "zip", "dict_itemiterator", "dict_reverseitemiterator", "odict_iterator", "itertools.zip_longest", "itertools.pairwise"].contains n=false) (hQ:Q () s):wpAny M A (letOwnedTupleGo tg (.ref it) u) Q E s:=by
 unfold letOwnedTupleGo
 cases tg <;> first
  | exact wpAny_pure hQ
  | (cases u <;> first
    | exact wpAny_pure hQ
    | (refine wpAny_bind (wpAny_load ho ?_)
       rw [hc,hd]
       show wpAny M A (if (["enumerate", "zip", "dict_itemiterator", "dict_reverseitemiterator", "odict_iterator", "itertools.zip_longest", "itertools.pairwise"].contains n && vs[0]? == some (rawInt _))=true then _ else _) Q E s
       rw [if_neg (by intro h; rw [hn,Bool.false_and] at h; cases h)]
       exact wpAny_pure hQ))
def Itl (K:ζb) (a:Addr):It :=
 ⟨fun i H=>∃ xs x,SqL K H a xs∧xs[i]?=some x,fun i H x H'=>H'=H∧∀ xs,SqL K H a xs→xs[i]?=some x,fun i H=>∃ xs,SqL K H a xs∧xs.length≤i⟩
def Itt (K:ζb) (a:Addr):It :=
 ⟨fun i H=>∃ xs x,SqT K H a xs∧xs[i]?=some x,fun i H x H'=>H'=H∧∀ xs,SqT K H a xs→xs[i]?=some x,fun i H=>∃ xs,SqT K H a xs∧xs.length≤i⟩
def Itr (lo:Int) (n:Nat):It:=⟨fun i _=>i < n,fun i H x H'=>H'=H∧x=.int (lo + i),fun i _=>n≤i⟩
theorem TV {P:Program} {w:World} {K:ζb} {tg:Expr} (a it:Addr):Turn P w K tg (Itl K a) [it] it (fun i h=>h.IsListIter it a i) where
 mem:=by simp
 obj:=fun i h st b hb=>by
  have e:b=it:=by simpa using hb
  subst e
  obtain ⟨o,e,c,d⟩:=st
  exact ⟨o,e,fun v z=>by rw [d] at z; cases z⟩
 keep:=fun i h h' st k=>st.at fun o e=>k it (by simp) o e
 item:=by
  intro X hP hw hK hc i pins s σ H E I hf st hg
  subst hP hw hK
  obtain ⟨xs,x,hq,hx⟩:=hg
  obtain ⟨its,rv,p,hz⟩:=I.list hq
  obtain ⟨u,hu,ru⟩:=rv.get hx
  obtain ⟨f0,f1,f2,f3,f4,f5⟩:=hf it (by simp)
  refine wpAny_pyNext_list_item st p.isList (x:=u) (by simpa using hu) fun h' st' sb=>?_
  have I1:Inv X pins σ H { s with heap:=h' }:=I.turned (t':=s.toks) (fun b o hb e=>(sb.2 b hb).trans e) f0 f1 f3 f4 f5
  obtain ⟨o,e,c,d⟩:=id st'
  exact ⟨u,rfl,Tq (s:={ s with heap:=h' }) e c d (by decide) ⟨x,H,I1,ru,⟨rfl,fun ys hy=>by rw [I.list_inj hy hq]; exact hx⟩,st',fun b hb=>(hf b hb).1⟩⟩
 done:=by
  intro X hP hw hK hc i pins s σ H E I hf st hg
  subst hP hw hK
  obtain ⟨xs,hq,hx⟩:=hg
  obtain ⟨its,rv,p,hz⟩:=I.list hq
  obtain ⟨f0,f1,f2,f3,f4,f5⟩:=hf it (by simp)
  have hl:=rv.length
  exact wpAny_pyNext_list_end (I.ok.hd hc) st p.isList (by simp; omega) fun h' eb=>⟨rfl,I.turned (t':=s.toks) (fun b o hb e=>eb b o hb e) f0 f1 f3 f4 f5⟩
 self:=fun _ _ _ _ _ st h=>wpAny_pyIter_listiter st h
theorem VV {P:Program} {w:World} {K:ζb} {tg:Expr} (a it:Addr):Turn P w K tg (Itt K a) [it] it (fun i h=>h.IsTupleIter it a i) where
 mem:=by simp
 obj:=fun i h st b hb=>by
  have e:b=it:=by simpa using hb
  subst e
  obtain ⟨o,e,c,d⟩:=st
  exact ⟨o,e,fun v z=>by rw [d] at z; cases z⟩
 keep:=fun i h h' st k=>st.at fun o e=>k it (by simp) o e
 item:=by
  intro X hP hw hK hc i pins s σ H E I hf st hg
  subst hP hw hK
  obtain ⟨xs,x,hq,hx⟩:=hg
  obtain ⟨its,rv,p,hz⟩:=I.tuple hq
  obtain ⟨u,hu,ru⟩:=rv.get hx
  obtain ⟨f0,f1,f2,f3,f4,f5⟩:=hf it (by simp)
  refine wpAny_pyNext_tuple_item st (show s.heap.IsTuple a its.toArray from p) (x:=u) (by simpa using hu) fun h' st' sb=>?_
  have I1:Inv X pins σ H { s with heap:=h' }:=I.turned (t':=s.toks) (fun b o hb e=>(sb.2 b hb).trans e) f0 f1 f3 f4 f5
  obtain ⟨o,e,c,d⟩:=id st'
  exact ⟨u,rfl,Tq (s:={ s with heap:=h' }) e c d (by decide) ⟨x,H,I1,ru,⟨rfl,fun ys hy=>by rw [I.tuple_inj hy hq]; exact hx⟩,st',fun b hb=>(hf b hb).1⟩⟩
 done:=by
  intro X hP hw hK hc i pins s σ H E I hf st hg
  subst hP hw hK
  obtain ⟨xs,hq,hx⟩:=hg
  obtain ⟨its,rv,p,hz⟩:=I.tuple hq
  obtain ⟨f0,f1,f2,f3,f4,f5⟩:=hf it (by simp)
  have hl:=rv.length
  exact wpAny_pyNext_tuple_end (I.ok.hd hc) st (show s.heap.IsTuple a its.toArray from p) (by simp; omega) fun h' eb=>⟨rfl,I.turned (t':=s.toks) (fun b o hb e=>eb b o hb e) f0 f1 f3 f4 f5⟩
 self:=fun _ _ _ _ _ st h=>wpAny_pyIter_tupleiter st h
theorem VW {P:Program} {w:World} {K:ζb} {tg:Expr} (it:Addr) (lo:Int) (n:Nat):Turn P w K tg (Itr lo n) [it] it (fun i h=>IsRangeIter h it (lo + (i:Nat) * 1) ((n:Int) - (i:Nat)) 1) where
 mem:=by simp
 obj:=fun i h st b hb=>by
  have e:b=it:=by simpa using hb
  subst e
  exact ⟨_,st,fun v z=>by
   have z':Data.fields _=Data.cell v:=z
   cases z'⟩
 keep:=fun i h h' st k=>k it (by simp) _ st
 item:=by
  intro X hP hw hK hc i pins s σ H E I hf st hg
  subst hP hw hK
  obtain ⟨f0,f1,f2,f3,f4,f5⟩:=hf it (by simp)
  have W:=Walks.range (prog:=X.prog) (w:=X.w) (I.ok.hd hc) it lo 1 n
  refine W.item i s _ _ hg st fun v h' tk hv st' kk=>?_
  obtain ⟨t,rfl⟩:=hv
  have I1:Inv X pins σ H { s with heap:=h',toks:=tk }:=I.turned (fun b o hb e=>kk b o (by simpa using hb) e) f0 f1 f3 f4 f5
  refine ⟨_,rfl,Tq (s:={ s with heap:=h',toks:=tk }) (n := "range_iterator") st' rfl rfl (by decide) ⟨.int (lo + i),H,I1,⟨t,?_⟩,⟨rfl,rfl⟩,st',fun b hb=>(hf b hb).1⟩⟩
  rw [Int.mul_one]
 done:=by
  intro X hP hw hK hc i pins s σ H E I hf st hg
  subst hP hw hK
  obtain ⟨f0,f1,f2,f3,f4,f5⟩:=hf it (by simp)
  exact wpAny_pyNext_range_end (I.ok.hd hc) st (by have:n≤i:=hg; omega) fun h' eb=>⟨rfl,I.turned (t':=s.toks) (fun b o hb e=>eb b o hb e) f0 f1 f3 f4 f5⟩
 self:=fun _ _ _ _ _ st h=>wpAny_pyIter_rangeiter st h
section
variable {X:Cx} {tg:Expr}
def Vy (K:ζb) (tl:TE):TI:=fun σ H R=>tl σ H fun x H1=>∃ a,x=.ref a∧(∃ xs,SqL K H1 a xs)∧R (Itl K a) H1
def iTup (K:ζb) (tl:TE):TI:=fun σ H R=>tl σ H fun x H1=>∃ a,x=.ref a∧(∃ xs,SqT K H1 a xs)∧R (Itt K a) H1
theorem zbZ {l:Expr} {tl:TE} (hl:PE X l tl):PI X tg l (Vy X.K tl):=by
 intro pins s σ H R I h
 refine thn (hl pins s σ H _ I h) fun v s1 ⟨x,H1,I1,r1,q1⟩=>?_
 obtain ⟨a,e,⟨xs,hq⟩,q⟩:=q1
 subst e
 cases r1
 obtain ⟨its,rv,p,hz⟩:=I1.list hq
 refine wpAny_pyIter_list p.isList ?_
 refine ⟨s1.heap.objs.size,[s1.heap.objs.size],_,_,H1,rfl,I1.kept (t':=s1.toks) fun b o e=>ζg _ e,TV a _,⟨_,ζp _ rfl,rfl,rfl⟩,fun b hb=>?_,q⟩
 have e:b=s1.heap.objs.size:=by simpa using hb
 subst e
 exact I1.fpOk (ζm _) (I1.hok.fresh (ζm _))
theorem zdC {l:Expr} {tl:TE} (hl:PE X l tl):PI X tg l (iTup X.K tl):=by
 intro pins s σ H R I h
 refine thn (hl pins s σ H _ I h) fun v s1 ⟨x,H1,I1,r1,q1⟩=>?_
 obtain ⟨a,e,⟨xs,hq⟩,q⟩:=q1
 subst e
 cases r1
 obtain ⟨its,rv,p,hz⟩:=I1.tuple hq
 refine wpAny_pyIter_tuple (show s1.heap.IsTuple a its.toArray from p) ?_
 refine ⟨s1.heap.objs.size,[s1.heap.objs.size],_,_,H1,rfl,I1.kept (t':=s1.toks) fun b o e=>ζg _ e,VV a _,⟨_,ζp _ rfl,rfl,rfl⟩,fun b hb=>?_,q⟩
 have e:b=s1.heap.objs.size:=by simpa using hb
 subst e
 exact I1.fpOk (ζm _) (I1.hok.fresh (ζm _))
theorem Q8 {pins:List (Addr×Obj)} {σ:St} {H:Hp} {s:Shared} {R:It→Hp→Prop} {E:Value→Shared→Prop} {lo hi:Int} {t u v:Tok} {tk:Nat} (I:Inv X pins σ H s) (h1:-(2 ^ 62)≤lo) (h2:lo < 2 ^ 62) (h3:-(2 ^ 62)≤hi) (h4:hi < 2 ^ 62)
  (q:R (Itr lo (hi - lo).toNat) H):wpAny (model X.prog X.w) X.A (pyIter (.ref s.heap.objs.size)) (PIE X pins σ tg R) E { s with heap:=s.heap.push { cls:=.type "range", data:=.fields #[.int lo t,.int hi u,.int 1 v] },toks:=tk }:=by
 refine wpAny_pyIter_range (IsRange.new ..) (small_one h1 h2 h3 h4) ?_
 have I1:Inv X pins σ H { s with heap:=s.heap.push { cls:=.type "range", data:=.fields #[.int lo t,.int hi u,.int 1 v] },toks:=tk }:=I.kept fun b o e=>ζg _ e
 refine ⟨(s.heap.push { cls:=.type "range", data:=.fields #[.int lo t,.int hi u,.int 1 v] }).objs.size,[(s.heap.push { cls:=.type "range", data:=.fields #[.int lo t,.int hi u,.int 1 v] }).objs.size],_,_,H,rfl,
  I1.kept (t':=tk) fun b o e=>ζg _ e,VW _ lo (hi - lo).toNat,?_,fun b hb=>?_,q⟩
 ·have e1:lo + ((0:Nat):Int) * 1=lo:=by simp
  have e2:(((hi - lo).toNat:Nat):Int) - ((0:Nat):Int)=Builtin.Range.rangeSize lo hi 1:=by rw [rangeSize_one]; split <;> omega
  show IsRangeIter _ _ (lo + ((0:Nat):Int) * 1) ((((hi - lo).toNat:Nat):Int) - ((0:Nat):Int)) 1
  rw [e1,e2]
  exact ζp _ rfl
 ·have e:b=(s.heap.push { cls:=.type "range", data:=.fields #[.int lo t,.int hi u,.int 1 v] }).objs.size:=by simpa using hb
  subst e
  exact I1.fpOk (ζm _) (I1.hok.fresh (ζm _))
def zaP (ta:TA):TI:=fun σ H R=>ta σ H fun vs H1=>∃ j:Int,vs=[.int j]∧-(2 ^ 62)≤j∧j < 2 ^ 62∧R (Itr 0 j.toNat) H1
theorem yt {a:Expr} {ta:TA} {p pos:Pos} (hg:Gl X "range") (hm:X.mg "range" = none) (ha:PA X [a] ta) (hs:starEach [a] X.env=[(false,eval a X.env)]:=by rfl):PI X tg (.Call (.Name "range" p) [a] [] pos) (zaP ta):=by
 intro pins s σ H R I h
 refine Call_ (uj I hg hm boot_range (PyProof.Rows.callWith_type1 (thn (ha pos pins s σ H _ I h) fun us s1 ⟨vs,H1,I1,r1,q1⟩=>?_) hs rfl))
 obtain ⟨j,e,q1,q2,q⟩:=q1
 subst e
 cases r1 with
 | cons r rr =>
  cases rr
  obtain ⟨t,rfl⟩:=r
  exact call_range_1 (Q8 I1 (by omega) (by omega) q1 q2 (by simpa using q))
def tFor (wi:TI) (g:TG) (tb:TS):TS:=fun D σ H=>wi σ H fun J H1=>∃ W:Nat→Nat→St→Hp→Prop,(∃ m,W 0 m σ H1)∧∀ i m σ H,W i m σ H →
 (J.stop i H∧D.nx σ H)∨(J.go i H∧∃ N:St→Hp→Prop,(∀ σ' H',N σ' H'→∃ m',m' < m∧W (i + 1) m' σ' H')∧∀ x H',J.yld i H x H'→g x σ H' fun σ2 H2=>tb { D with nx:=N,ct:=N,bk:=D.nx } σ2 H2)
def ZC (fp:List Addr) (h:Heap):List (Addr×Obj):=fp.filterMap fun b=>(h.get? b).map fun o=>(b,o)
theorem vH {fp:List Addr} {h:Heap} {b:Addr} {o:Obj} (hb:b∈fp) (e:h.get? b=some o):(b,o)∈ZC fp h:=ξd.mpr ⟨b,hb,by rw [e]; rfl⟩
theorem Qe {fp:List Addr} {h:Heap} {p:Addr×Obj} (hp:p∈ZC fp h):p.1∈fp∧h.get? p.1=some p.2:=by
 obtain ⟨b,hb,e⟩:=ξd.mp hp
 cases q:h.get? b with
 | none=>rw [q] at e; cases e
 | some o =>
  rw [q] at e
  have e':(b,o)=p:=ζD e
  subst e'
  exact ⟨hb,q⟩
theorem Inv.pinned {pins:List (Addr×Obj)} {σ:St} {H:Hp} {s:Shared} {fp:List Addr} (I:Inv X pins σ H s) (hf:∀ b∈fp,FpOk X pins H b) (ho:∀ b∈fp,∃ o,s.heap.get? b=some o∧∀ v,o.data≠.cell v):Inv X (pins ++ ZC fp s.heap) σ H s :=
 I.pins_of fun p hp=>(ζu.mp hp).elim (fun z=>I.pin p (ζJ _ z)) fun z=>by
  obtain ⟨hb,e⟩:=Qe z
  obtain ⟨f0,f1,f2,_⟩:=hf p.1 hb
  obtain ⟨o,e',d⟩:=ho p.1 hb
  rw [e] at e'; cases e'
  exact ⟨e,f0,f1,f2,d⟩
theorem Inv.unpinned {pins pl:List (Addr×Obj)} {σ:St} {H:Hp} {s:Shared} (I:Inv X (pins ++ pl) σ H s):Inv X pins σ H s:=I.pins_of fun p hp=>I.pin p (ζJ _ (ζ7 _ hp))
theorem yi {iter:Expr} {body:List Stmt} {wi:TI} {g:TG} {tb:TS} {pos:Pos} (hp:PassesOwn (model X.prog X.w) X.A X.env X.xe) (hc:X.calm=true) (hi:PI X tg iter wi) (hg:PG X tg g) (hb:PSs X body tb)
  (hs:∀ x,foldedSetIterable iter X.env x=pure x:=by intro _; rfl):PS X (.For tg iter body [] pos) (tFor wi g tb):=by
 intro pins s σ H D I h
 refine wpAny_For (thn (hi pins s σ H _ I h) fun v s1 h1=>thn h1 fun itv s2 h2=>?_) hs
 obtain ⟨it,fp,tn,J,H2,e,I2,T,st2,f2,W,⟨m0,w0⟩,turn⟩:=h2
 subst e
 have stat:∀ {H':Hp},(∀ b∈fp,H' b=none)→∀ b∈fp,FpOk X pins H' b:=fun hn b hb=>⟨hn b hb,(f2 b hb).2⟩
 refine codeAny_forLoop_any (fun n s'=>∃ i σ' H',Inv X pins σ' H' s'∧tn i s'.heap∧(∀ b∈fp,H' b=none)∧W i n σ' H') ?_ m0 ⟨0,σ,H2,I2,st2,fun b hb=>(f2 b hb).1,w0⟩
 rintro n s3 ⟨i,σ3,H3,I3,st3,fr3,w3⟩
 rcases turn i n σ3 H3 w3 with ⟨stop,qn⟩ | ⟨go,N,hN,step⟩
 ·refine wpAny_passesOwn hp (thn (T.done X rfl rfl rfl hc i pins s3 σ3 H3 X.xe I3 (stat fr3) st3 stop) fun r s4 ⟨hr,I4⟩=>?_)
  subst hr
  exact wpAny_execs_nil ⟨σ3,H3,I4,qn⟩
 ·refine wpAny_passesOwn hp (thn (T.item X rfl rfl rfl hc i pins s3 σ3 H3 X.xe I3 (stat fr3) st3 go) fun r s4 ⟨u,hr,h4⟩=>?_)
  subst hr
  refine wpAny_passesOwn hp (thn h4 fun _ s5 ⟨x,H5,I5,r5,y5,st5,fr5⟩=>?_)
  have I5':=I5.pinned (stat fr5) (T.obj _ _ st5)
  refine wpAny_passesOwn hp (thn (hg _ s5 σ3 H5 x u _ I5' r5 (step x H5 y5)) fun _ s6 ⟨σ6,H6,I6,q6⟩=>?_)
  refine wpAny_passesOwn hp (thn (hb _ s6 σ6 H6 _ I6 q6) fun f s7 q7=>?_)
  have again:∀ {σ7:St} {H7:Hp},Inv X (pins ++ ZC fp s5.heap) σ7 H7 s7→N σ7 H7→∃ m,m < n∧∃ i σ' H',Inv X pins σ' H' s7∧tn i s7.heap∧(∀ b∈fp,H' b=none)∧W i m σ' H':=fun {σ7 H7} I7 n7=>by
   obtain ⟨m',hm,w7⟩:=hN σ7 H7 n7
   refine ⟨m',hm,i + 1,σ7,H7,I7.unpinned,T.keep _ _ _ st5 fun b hb o e=>(I7.pin (b,o) (ζJ _ (ζJ _ (vH hb e)))).1,fun b hb=>?_,w7⟩
   obtain ⟨o,e,d⟩:=T.obj _ _ st5 b hb
   exact (I7.pin (b,o) (ζJ _ (ζJ _ (vH hb e)))).2.1
  cases f with
  | next=>obtain ⟨σ7,H7,I7,n7⟩:=q7; exact again I7 n7
  | cont=>obtain ⟨σ7,H7,I7,n7⟩:=q7; exact again I7 n7
  | brk=>obtain ⟨σ7,H7,I7,q7⟩:=q7; exact ⟨σ7,H7,I7.unpinned,q7⟩
  | ret v=>obtain ⟨x7,σ7,H7,I7,r7,q7⟩:=q7; exact ⟨x7,σ7,H7,I7.unpinned,r7,q7⟩
end
theorem zaT {K:ζb} {a:Addr} {xs:List V} {g:TG} {tb:TS} {D:Ends} {σ:St} {H:Hp} (Pv:Nat→St→Hp→Prop) (h0:Pv 0 σ H) (hl:∀ i σ H,i≤xs.length→Pv i σ H→SqL K H a xs)
  (hs:∀ i x σ H,xs[i]?=some x→Pv i σ H→g x σ H fun σ2 H2=>tb { D with nx:=Pv (i + 1),ct:=Pv (i + 1),bk:=D.nx } σ2 H2) (hd:∀ σ H,Pv xs.length σ H→D.nx σ H) :
  ∃ W:Nat→Nat→St→Hp→Prop,(∃ m,W 0 m σ H)∧∀ i m σ H,W i m σ H →
   ((Itl K a).stop i H∧D.nx σ H)∨((Itl K a).go i H∧∃ N:St→Hp→Prop,(∀ σ' H',N σ' H'→∃ m',m' < m∧W (i + 1) m' σ' H')∧∀ x H',(Itl K a).yld i H x H'→g x σ H' fun σ2 H2=>tb { D with nx:=N,ct:=N,bk:=D.nx } σ2 H2):=by
 refine ⟨fun i m σ H=>m=xs.length - i∧i≤xs.length∧Pv i σ H,⟨xs.length,by simp,Nat.zero_le _,h0⟩,?_⟩
 rintro i m σ H ⟨rfl,hi,p⟩
 have q:=hl i σ H hi p
 by_cases hlt:i < xs.length
 ·refine .inr ⟨⟨xs,xs[i],q,by simp [hlt]⟩,Pv (i + 1),fun σ' H' p'=>⟨xs.length - (i + 1),by omega,rfl,hlt,p'⟩,fun x H' y=>?_⟩
  obtain ⟨e,y⟩:=y
  subst e
  exact hs i x σ _ (y xs q) p
 ·have e:i=xs.length:=by omega
  subst e
  exact .inl ⟨⟨xs,q,ζm _⟩,hd σ H p⟩
theorem zcl {K:ζb} {a:Addr} {xs:List V} {g:TG} {tb:TS} {D:Ends} {σ:St} {H:Hp} (Pv:Nat→St→Hp→Prop) (h0:Pv 0 σ H) (hl:∀ i σ H,i≤xs.length→Pv i σ H→SqT K H a xs)
  (hs:∀ i x σ H,xs[i]?=some x→Pv i σ H→g x σ H fun σ2 H2=>tb { D with nx:=Pv (i + 1),ct:=Pv (i + 1),bk:=D.nx } σ2 H2) (hd:∀ σ H,Pv xs.length σ H→D.nx σ H) :
  ∃ W:Nat→Nat→St→Hp→Prop,(∃ m,W 0 m σ H)∧∀ i m σ H,W i m σ H →
   ((Itt K a).stop i H∧D.nx σ H)∨((Itt K a).go i H∧∃ N:St→Hp→Prop,(∀ σ' H',N σ' H'→∃ m',m' < m∧W (i + 1) m' σ' H')∧∀ x H',(Itt K a).yld i H x H'→g x σ H' fun σ2 H2=>tb { D with nx:=N,ct:=N,bk:=D.nx } σ2 H2):=by
 refine ⟨fun i m σ H=>m=xs.length - i∧i≤xs.length∧Pv i σ H,⟨xs.length,by simp,Nat.zero_le _,h0⟩,?_⟩
 rintro i m σ H ⟨rfl,hi,p⟩
 have q:=hl i σ H hi p
 by_cases hlt:i < xs.length
 ·refine .inr ⟨⟨xs,xs[i],q,by simp [hlt]⟩,Pv (i + 1),fun σ' H' p'=>⟨xs.length - (i + 1),by omega,rfl,hlt,p'⟩,fun x H' y=>?_⟩
  obtain ⟨e,y⟩:=y
  subst e
  exact hs i x σ _ (y xs q) p
 ·have e:i=xs.length:=by omega
  subst e
  exact .inl ⟨⟨xs,q,ζm _⟩,hd σ H p⟩
abbrev R2:=V→V→Hp→VK→Prop
def OpR (X:Cx) (f:Value→Value→Sem Value) (r:R2):Prop :=
 ∀ (pins:List (Addr×Obj)) (s:Shared) (σ:St) (H:Hp) (x y:V) (v u:Value) (Q:VK),Inv X pins σ H s→RelV x v→RelV y u→r x y H Q →
  wpAny (model X.prog X.w) X.A (f v u) (EP X pins σ Q) X.xe s
def UnR (X:Cx) (f:Value→Sem Value) (r:V→Hp→VK→Prop):Prop :=
 ∀ (pins:List (Addr×Obj)) (s:Shared) (σ:St) (H:Hp) (x:V) (v:Value) (Q:VK),Inv X pins σ H s→RelV x v→r x H Q →
  wpAny (model X.prog X.w) X.A (f v) (EP X pins σ Q) X.xe s
def yB (X:Cx) (f:Value) (r:List V→Hp→VK→Prop):Prop :=
 ∀ (pins:List (Addr×Obj)) (s:Shared) (σ:St) (H:Hp) (xs:List V) (us:List Value) (Q:VK),Inv X pins σ H s→Vals xs us→r xs H Q →
  wpAny (model X.prog X.w) X.A (call f us) (EP X pins σ Q) X.xe s
def tOp (r:R2) (ta tb:TE):TE:=fun σ H Q=>ta σ H fun x H1=>tb σ H1 fun y H2=>r x y H2 Q
def tUn (r:V→Hp→VK→Prop) (ta:TE):TE:=fun σ H Q=>ta σ H fun x H1=>r x H1 Q
def rI (C:Int→Int→Prop) (g:Int→Int→V):R2:=fun x y H Q=>∃ i j,x=.int i∧y=.int j∧C i j∧Q (g i j) H
def rI0 (g:Int→Int→V):R2:=fun x y H Q=>∃ i j,x=.int i∧y=.int j∧Q (g i j) H
def rU (g:Int→V):V→Hp→VK→Prop:=fun x H Q=>∃ i,x=.int i∧Q (g i) H
section
variable {X:Cx} {a b c:Expr} {ta tb tc:TE} {pos:Pos}
theorem binT (ha:PE X a ta) (hb:PE X b tb) {pins:List (Addr×Obj)} {s:Shared} {σ:St} {H:Hp} {R:V→V→Hp→Prop} (I:Inv X pins σ H s)
  (h:ta σ H fun x H1=>tb σ H1 fun y H2=>R x y H2) {Q:Value→Shared→Prop} {f:Value→Value→Sem Value}
  (hf:∀ v u s2 x y H2,Inv X pins σ H2 s2→RelV x v→RelV y u→R x y H2→wpAny (model X.prog X.w) X.A (f v u) Q X.xe s2) :
  wpAny (model X.prog X.w) X.A (eval a X.env) (fun v s₁=>wpAny (model X.prog X.w) X.A (eval b X.env) (fun u s₂=>wpAny (model X.prog X.w) X.A (f v u) Q X.xe s₂) X.xe s₁) X.xe s:=by
 refine thn (ha pins s σ H _ I h) fun v s1 ⟨x,H1,I1,r1,q1⟩=>?_
 refine thn (hb pins s1 σ H1 _ I1 q1) fun u s2 ⟨y,H2,I2,r2,q2⟩=>?_
 exact hf v u s2 x y H2 I2 r1 r2 q2
theorem zv {op:Operator} {r:R2} (ho:OpR X (binaryOp op) r) (ha:PE X a ta) (hb:PE X b tb):PE X (.BinOp a op b pos) (tOp r ta tb):=by
 intro pins s σ H Q I h
 exact wpAny_BinOp (binT ha hb I h fun v u s2 x y H2 I2 rx ry q=>ho pins s2 σ H2 x y v u Q I2 rx ry q)
theorem zam {op:UnaryOp} {r:V→Hp→VK→Prop} (ho:UnR X (unaryOp op) r) (ha:PE X a ta):PE X (.UnaryOp op a pos) (tUn r ta):=by
 intro pins s σ H Q I h
 exact UnaryOp_ (thn (ha pins s σ H _ I h) fun v s1 ⟨x,H1,I1,r1,q1⟩=>ho pins s1 σ H1 x v Q I1 r1 q1)
theorem opI {f:Value→Value→Sem Value} {C:Int→Int→Prop} {g:Int→Int→Int}
  (rule:∀ (i j:Int) (t u:Tok) (s:Shared) (Q:Value→Shared→Prop) (E:Value→Shared→Prop),C i j→Q (.int (g i j) s.toks) { s with toks:=s.toks + 1 }→wpAny (model X.prog X.w) X.A (f (.int i t) (.int j u)) Q E s) :
  OpR X f (rI C fun i j=>.int (g i j)):=by
 intro pins s σ H x y v u Q I rx ry h
 obtain ⟨i,j,rfl,rfl,hc,q⟩:=h
 obtain ⟨t,rfl⟩:=rx
 obtain ⟨t',rfl⟩:=ry
 exact rule i j t t' s _ _ hc ⟨.int (g i j),H,I.tok _,⟨_,rfl⟩,q⟩
theorem opI0 {f:Value→Value→Sem Value} {g:Int→Int→Int}
  (rule:∀ (i j:Int) (t u:Tok) (s:Shared) (Q:Value→Shared→Prop) (E:Value→Shared→Prop),Q (.int (g i j) s.toks) { s with toks:=s.toks + 1 }→wpAny (model X.prog X.w) X.A (f (.int i t) (.int j u)) Q E s) :
  OpR X f (rI0 fun i j=>.int (g i j)):=by
 intro pins s σ H x y v u Q I rx ry h
 obtain ⟨i,j,rfl,rfl,q⟩:=h
 obtain ⟨t,rfl⟩:=rx
 obtain ⟨t',rfl⟩:=ry
 exact rule i j t t' s _ _ ⟨.int (g i j),H,I.tok _,⟨_,rfl⟩,q⟩
theorem opB0 {f:Value→Value→Sem Value} {g:Int→Int→Bool}
  (rule:∀ (i j:Int) (t u:Tok) (s:Shared) (Q:Value→Shared→Prop) (E:Value→Shared→Prop),Q (.bool (g i j)) s→wpAny (model X.prog X.w) X.A (f (.int i t) (.int j u)) Q E s) :
  OpR X f (rI0 fun i j=>.bl (g i j)):=by
 intro pins s σ H x y v u Q I rx ry h
 obtain ⟨i,j,rfl,rfl,q⟩:=h
 obtain ⟨t,rfl⟩:=rx
 obtain ⟨t',rfl⟩:=ry
 exact rule i j t t' s _ _ ⟨.bl (g i j),H,I,rfl,q⟩
def CDiv (i j:Int):Prop:=0 < j∧j < 1073741824
def CPow (i j:Int):Prop:=0≤j∧j≤1000000∧i.natAbs < 2 ^ 64
theorem yp:OpR X (binaryOp .Add) (rI0 fun i j=>.int (i + j)):=opI0 fun _ _ _ _ _ _ _ q=>add_int q
theorem zap:OpR X (binaryOp .Sub) (rI0 fun i j=>.int (i - j)):=opI0 fun _ _ _ _ _ _ _ q=>sub_int q
theorem xA:OpR X (binaryOp .FloorDiv) (rI CDiv fun i j=>.int (i / j)):=opI fun i j _ _ _ _ _ hc q=>by
 have h1:(0:Int) < j:=hc.1
 have h2:j < 1073741824:=hc.2
 exact floordiv_int (by omega) (by rw [Int.fdiv_eq_ediv_of_nonneg i (by omega)]; exact q) (.inl (PyProof.noPylong_small (by omega)))
theorem yw:OpR X (binaryOp .Mod) (rI (fun _ j=>0 < j) fun i j=>.int (i % j)):=opI fun i j _ _ _ _ _ hc q=>by
 have h1:(0:Int) < j:=hc
 exact mod_int' (by omega) (by rw [Int.fmod_eq_emod_of_nonneg i (by omega)]; exact q)
theorem zar:OpR X (binaryOp .Pow) (rI CPow fun i j=>.int (i ^ j.toNat)):=opI fun _ _ _ _ _ _ _ hc q=>pow_int_small hc.1 hc.2.1 hc.2.2 q
theorem unI {f:Value→Sem Value} {g:Int→Int}
  (rule:∀ (i:Int) (t:Tok) (s:Shared) (Q:Value→Shared→Prop) (E:Value→Shared→Prop),Q (.int (g i) s.toks) { s with toks:=s.toks + 1 }→wpAny (model X.prog X.w) X.A (f (.int i t)) Q E s) :
  UnR X f (rU fun i=>.int (g i)):=by
 intro pins s σ H x v Q I rx h
 obtain ⟨i,rfl,q⟩:=h
 obtain ⟨t,rfl⟩:=rx
 exact rule i t s _ _ ⟨.int (g i),H,I.tok _,⟨_,rfl⟩,q⟩
theorem VU:UnR X (unaryOp .USub) (rU fun i=>.int (-i)):=unI fun _ _ _ _ _ q=>neg_int q
end
def scal:V→V→Bool
 | .non,.non=>true | .non,.int _=>true | .int _,.non=>true | .non,.bl _=>true | .bl _,.non=>true | .non,.str _=>true | .str _,.non=>true
 | .int _,.int _=>true | .bl _,.bl _=>true | .str _,.str _=>true | .byt _,.byt _=>true
 | .int _,.str _=>true | .str _,.int _=>true | .bl _,.str _=>true | .str _,.bl _=>true
 | _,_=>false
def rEq:R2:=fun x y H Q=>scal x y=true∧Q (.bl (decide (x=y))) H
def rNe:R2:=fun x y H Q=>scal x y=true∧Q (.bl (!decide (x=y))) H
theorem uS {i j:Int}:decide (V.int i=V.int j)=(i == j):=by
 rw [ξA]
 simp
theorem zbp {i j:Bool}:decide (V.bl i=V.bl j)=(i == j):=by
 rw [ξA]
 simp
theorem TH {i j:Str}:decide (V.str i=V.str j)=(i == j):=by
 rw [ξA]
 simp
theorem TJ {i j:Array UInt8}:decide (V.byt i=V.byt j)=(i.toList == j.toList):=by
 rw [ξA]
 cases i
 cases j
 simp
section
variable {X:Cx} {a b c:Expr} {ta tb tc:TE} {pos:Pos}
theorem yj {pins:List (Addr×Obj)} {σ:St} {H:Hp} {s:Shared} {Q:VK} {k k':Bool} (I:Inv X pins σ H s) (q:Q (.bl k) H) (e:k=k'):EP X pins σ Q (.bool k') s:=by
 subst e
 exact ⟨.bl k,H,I,rfl,q⟩
theorem v8:OpR X (compareOp .Eq) rEq:=by
 intro pins s σ H x y v u Q I rx ry h
 obtain ⟨hs,q⟩:=h
 cases x with
 | non =>
  cases rx
  cases y with
  | non=>cases ry; exact PySem.EqNone.eq_none_none (yj I q (by simp))
  | bl j=>cases ry; exact PySem.EqNone.eq_none_bool (yj I q (by simp))
  | int j=>obtain ⟨t',rfl⟩:=ry; exact PySem.EqNone.eq_none_int (yj I q (by simp))
  | str j=>obtain ⟨t',rfl⟩:=ry; exact PySem.EqNone.eq_none_str (yj I q (by simp))
  | _=>exact absurd (show false=true from hs) ζC
 | bl i =>
  cases rx
  cases y with
  | non=>cases ry; exact PySem.EqNone.eq_bool_none (yj I q (by simp))
  | bl j=>cases ry; exact eq_bool (yj I q zbp)
  | str j=>obtain ⟨t',rfl⟩:=ry; exact PySem.EqMixed.eq_bool_str (yj I q (by simp))
  | _=>exact absurd (show false=true from hs) ζC
 | int i =>
  obtain ⟨t,rfl⟩:=rx
  cases y with
  | non=>cases ry; exact PySem.EqNone.eq_int_none (yj I q (by simp))
  | int j=>obtain ⟨t',rfl⟩:=ry; exact eq_int (yj I q uS)
  | str j=>obtain ⟨t',rfl⟩:=ry; exact PySem.EqMixed.eq_int_str (yj I q (by simp))
  | _=>exact absurd (show false=true from hs) ζC
 | str i =>
  obtain ⟨t,rfl⟩:=rx
  cases y with
  | non=>cases ry; exact PySem.EqNone.eq_str_none (yj I q (by simp))
  | bl j=>cases ry; exact PySem.EqMixed.eq_str_bool (yj I q (by simp))
  | int j=>obtain ⟨t',rfl⟩:=ry; exact PySem.EqMixed.eq_str_int (yj I q (by simp))
  | str j=>obtain ⟨t',rfl⟩:=ry; exact eq_str (yj I q TH)
  | _=>exact absurd (show false=true from hs) ζC
 | byt i =>
  obtain ⟨t,rfl⟩:=rx
  cases y with
  | byt j=>obtain ⟨t',rfl⟩:=ry; exact PySem.W.eq_bytes (yj I q TJ)
  | _=>exact absurd (show false=true from hs) ζC
 | _=>cases y <;> exact absurd (show false=true from hs) ζC
theorem zas:OpR X (compareOp .NotEq) rNe:=by
 intro pins s σ H x y v u Q I rx ry h
 obtain ⟨hs,q⟩:=h
 cases x with
 | non =>
  cases rx
  cases y with
  | non=>cases ry; exact PySem.EqNone.ne_none_none (yj I q (by simp))
  | bl j=>cases ry; exact PySem.EqNone.ne_none_bool (yj I q (by simp))
  | int j=>obtain ⟨t',rfl⟩:=ry; exact PySem.EqNone.ne_none_int (yj I q (by simp))
  | str j=>obtain ⟨t',rfl⟩:=ry; exact PySem.EqNone.ne_none_str (yj I q (by simp))
  | _=>exact absurd (show false=true from hs) ζC
 | bl i =>
  cases rx
  cases y with
  | non=>cases ry; exact PySem.EqNone.ne_bool_none (yj I q (by simp))
  | bl j=>cases ry; exact ne_bool (yj I q (congrArg not zbp))
  | str j=>obtain ⟨t',rfl⟩:=ry; exact PySem.EqMixed.ne_bool_str (yj I q (by simp))
  | _=>exact absurd (show false=true from hs) ζC
 | int i =>
  obtain ⟨t,rfl⟩:=rx
  cases y with
  | non=>cases ry; exact PySem.EqNone.ne_int_none (yj I q (by simp))
  | int j=>obtain ⟨t',rfl⟩:=ry; exact ne_int (yj I q (congrArg not uS))
  | str j=>obtain ⟨t',rfl⟩:=ry; exact PySem.EqMixed.ne_int_str (yj I q (by simp))
  | _=>exact absurd (show false=true from hs) ζC
 | str i =>
  obtain ⟨t,rfl⟩:=rx
  cases y with
  | non=>cases ry; exact PySem.EqNone.ne_str_none (yj I q (by simp))
  | bl j=>cases ry; exact PySem.EqMixed.ne_str_bool (yj I q (by simp))
  | int j=>obtain ⟨t',rfl⟩:=ry; exact PySem.EqMixed.ne_str_int (yj I q (by simp))
  | str j=>obtain ⟨t',rfl⟩:=ry; exact ne_str (yj I q (congrArg not TH))
  | _=>exact absurd (show false=true from hs) ζC
 | byt i =>
  obtain ⟨t,rfl⟩:=rx
  cases y with
  | byt j=>obtain ⟨t',rfl⟩:=ry; exact PySem.W.ne_bytes (yj I q (congrArg not TJ))
  | _=>exact absurd (show false=true from hs) ζC
 | _=>cases y <;> exact absurd (show false=true from hs) ζC
theorem U8:OpR X (compareOp .Lt) (rI0 fun i j=>.bl (decide (i < j))):=opB0 fun _ _ _ _ _ _ _ q=>lt_int q
theorem YT:OpR X (compareOp .LtE) (rI0 fun i j=>.bl (decide (i≤j))):=opB0 fun _ _ _ _ _ _ _ q=>le_int q
theorem YU:OpR X (compareOp .Gt) (rI0 fun i j=>.bl (decide (j < i))):=opB0 fun _ _ _ _ _ _ _ q=>gt_int q
theorem zep:OpR X (compareOp .GtE) (rI0 fun i j=>.bl (decide (j≤i))):=opB0 fun _ _ _ _ _ _ _ q=>ge_int q
theorem zdH:OpR X (compareOp .Is) (fun x y H Q=>y=.non∧Q (.bl (decide (x=.non))) H):=by
 intro pins s σ H x y v u Q I rx ry h
 obtain ⟨rfl,q⟩:=h
 cases ry
 refine is_none_gen (yj I q ?_)
 cases x <;> first
  | (cases rx; rfl)
  | (obtain ⟨t,rfl⟩:=rx; rfl)
theorem ye (b:Expr) {op:CmpOp} (h:op≠.In:=by decide) (h2:op≠.NotIn:=by decide):behindInMarks op b=false:=by
 have e1:(op == CmpOp.In)=false:=by cases op <;> first | rfl | exact absurd rfl h
 have e2:(op == CmpOp.NotIn)=false:=by cases op <;> first | rfl | exact absurd rfl h2
 cases b <;> simp [behindInMarks,e1,e2]
theorem yA {op:CmpOp} {r:R2} (ho:OpR X (compareOp op) r) (ha:PE X a ta) (hb:PE X b tb) (hm:behindInMarks op b=false):PE X (.Compare a [op] [b] pos) (tOp r ta tb):=by
 intro pins s σ H Q I h
 exact wpAny_Compare1 (binT ha hb I h fun v u s2 x y H2 I2 rx ry q=>ho pins s2 σ H2 x y v u Q I2 rx ry q) hm
def QS (t:TE):TT:=fun σ H Q=>t σ H fun x H'=>∃ k,x=.bl k∧Q k H'
theorem yn {op:CmpOp} {r:R2} (ho:OpR X (compareOp op) r) (ha:PE X a ta) (hb:PE X b tb) (hm:behindInMarks op b=false):PT X (.Compare a [op] [b] pos) (QS (tOp r ta tb)):=by
 intro pins s σ H Q I h
 refine wpAny_isTrue_Compare1 (thn (ha pins s σ H _ I h) fun v s1 ⟨x,H1,I1,r1,q1⟩=>thn (hb pins s1 σ H1 _ I1 q1) fun u s2 ⟨y,H2,I2,r2,q2⟩ =>
  thn (ho pins s2 σ H2 x y v u _ I2 r1 r2 q2) fun c s3 ⟨z,H3,I3,r3,k,e,q3⟩=>?_) hm
 subst e
 cases r3
 exact wpAny_truthy_bool ⟨H3,I3,q3⟩
def V1 (r r':R2) (ta tb tc:TE):TE:=fun σ H Q=>ta σ H fun x H1=>tb σ H1 fun y H2=>r x y H2 fun z H3=>∃ k,z=.bl k ∧
 (if k=true then tc σ H3 fun w' H4=>r' y w' H4 Q else Q (.bl false) H3)
theorem Vb {op op':CmpOp} {r r':R2} (ho:OpR X (compareOp op) r) (ho':OpR X (compareOp op') r') (ha:PE X a ta) (hb:PE X b tb) (hc:PE X c tc)
  (hm:lastMarks [op,op'] [b,c]=false:=by with_unfolding_all rfl):PE X (.Compare a [op,op'] [b,c] pos) (V1 r r' ta tb tc):=by
 intro pins s σ H Q I h
 refine Compare_chain (thn (ha pins s σ H _ I h) fun v s1 ⟨x,H1,I1,r1,q1⟩=>chain_link (thn (hb pins s1 σ H1 _ I1 q1) fun u s2 ⟨y,H2,I2,r2,q2⟩ =>
  thn (ho pins s2 σ H2 x y v u _ I2 r1 r2 q2) fun d s3 ⟨z,H3,I3,r3,k,e,q3⟩=>?_)) hm
 subst e
 cases r3
 refine wpAny_truthy_bool ?_
 cases k with
 | false=>exact ite_ff ⟨.bl false,H3,I3,rfl,q3⟩
 | true=>exact ite_tt (chain_last (thn (hc pins s3 σ H3 _ I3 q3) fun w' s4 ⟨z',H4,I4,r4,q4⟩=>ho' pins s4 σ H4 y z' u w' Q I4 r2 r4 q4))
theorem zag {op op':CmpOp} {r r':R2} (ho:OpR X (compareOp op) r) (ho':OpR X (compareOp op') r') (ha:PE X a ta) (hb:PE X b tb) (hc:PE X c tc)
  (hm:lastMarks [op,op'] [b,c]=false:=by with_unfolding_all rfl):PT X (.Compare a [op,op'] [b,c] pos) (QS (V1 r r' ta tb tc)):=by
 intro pins s σ H Q I h
 refine isTrue_chain (thn (ha pins s σ H _ I h) fun v s1 ⟨x,H1,I1,r1,q1⟩=>test_link (thn (hb pins s1 σ H1 _ I1 q1) fun u s2 ⟨y,H2,I2,r2,q2⟩ =>
  thn (ho pins s2 σ H2 x y v u _ I2 r1 r2 q2) fun d s3 ⟨z,H3,I3,r3,k,e,q3⟩=>?_)) hm
 subst e
 cases r3
 refine wpAny_truthy_bool ?_
 cases k with
 | false =>
  obtain ⟨k',e',q'⟩:=q3
  cases e'
  exact ite_ff ⟨H3,I3,q'⟩
 | true =>
  refine ite_tt (test_last (thn (hc pins s3 σ H3 _ I3 q3) fun w' s4 ⟨z',H4,I4,r4,q4⟩=>thn (ho' pins s4 σ H4 y z' u w' _ I4 r2 r4 q4) fun d' s5 ⟨z2,H5,I5,r5,k2,e2,q5⟩=>?_))
  subst e2
  cases r5
  exact wpAny_truthy_bool ⟨H5,I5,q5⟩
theorem tm:(sizeLine:Nat) < 2 ^ 63:=by rw [sizeLine_eq]; decide
theorem Uf:OpR X (binaryOp .Add) (fun x y H Q=>∃ i j,x=.str i∧y=.str j∧i.length + j.length≤sizeLine∧Q (.str (i ++ j)) H):=by
 intro pins s σ H x y v u Q I rx ry h
 obtain ⟨i,j,rfl,rfl,hz,q⟩:=h
 obtain ⟨t,rfl⟩:=rx
 obtain ⟨t',rfl⟩:=ry
 exact add_str (fun t' tk=>⟨.str (i ++ j),H,I.tok _,⟨_,rfl⟩,q⟩) hz
theorem xJ {x:V} {us:List Value} (r:Vals [x] us):∃ u,us=[u]∧RelV x u:=by
 cases r with
 | cons r1 r2=>cases r2; exact ⟨_,rfl,r1⟩
theorem QI:yB X (.type "int") (fun xs H Q=>(∃ i,xs=[.int i]∧Q (.int i) H)∨∃ k,xs=[.bl k]∧Q (.int (if k then 1 else 0)) H):=by
 intro pins s σ H xs us Q I r h
 rcases h with ⟨i,rfl,q⟩ | ⟨k,rfl,q⟩
 ·obtain ⟨u,rfl,t,rfl⟩:=xJ r
  exact call_int_int ⟨.int i,H,I,⟨_,rfl⟩,q⟩
 ·obtain ⟨u,rfl,r1⟩:=xJ r
  cases r1
  exact call_int_bool ⟨.int (if k then 1 else 0),H,I.tok _,⟨_,rfl⟩,q⟩
theorem uU:yB X (.type "str") (fun xs H Q=>∃ i,xs=[.int i]∧i.natAbs.log2 < 1920∧Q (.str (toString i)) H):=by
 intro pins s σ H xs us Q I r h
 obtain ⟨i,rfl,hz,q⟩:=h
 obtain ⟨u,rfl,t,rfl⟩:=xJ r
 exact PySem.P.str_of_int hz ⟨.str _,H,I.tok _,⟨_,rfl⟩,q⟩
end
structure ObjM (h:Heap) (x dx C:Addr) (mA:Str→Option Value):Prop where
 obj:h.get? x=some (PySem.W.instObj C dx)
 ns:h.Ns1 dx mA
 ne:dx≠x
theorem Qk {h:Heap} {dx:Addr} {mA:Str→Option Value} (n:h.Ns1 dx mA):∃ od,h.get? dx=some od∧∀ name,PySem.W.lookIn name od=some (mA name):=by
 obtain ⟨o,es,ep,ho,hd,hk,_,hm⟩:=n
 refine ⟨o,ho,fun name=>?_⟩
 have e:=hm name
 unfold nsFind findBy at e
 rw [← Array.find?_toList] at e
 unfold PySem.W.lookIn
 rw [hd]
 dsimp only
 split
 ·rename_i y q
  rw [q] at e
  exact congrArg some e
 ·rename_i q
  rw [q] at e
  have a:es.toList.any (·.refKey)=false:=by
   rw [List.any_eq_false]
   intro y hy
   obtain ⟨z,t,hkey⟩:=hk y (Array.mem_toList_iff.mp hy)
   simp [DictEntry.refKey,hkey]
  have a':¬ es.toList.any (·.refKey)=true:=by rw [a]; exact ζC
  rw [if_neg a']
  exact congrArg some e
theorem ObjM.look {h:Heap} {x dx C:Addr} {mA:Str→Option Value} (I:ObjM h x dx C mA):∃ od,PySem.W.InstAt h x (PySem.W.instObj C dx) C (some od)∧∀ name,PySem.W.lookIn name od=some (mA name) :=
 let ⟨od,ho,hl⟩:=Qk I.ns
 ⟨od,⟨I.obj,rfl,rfl,ho⟩,hl⟩
section
variable {prog:Program} {w:World} {A:Around} {E:Value→Shared→Prop} {s:Shared} {K:ζb} {x dx C f:Addr} {mA:Str→Option Value} {name:Str} {v:Value}
end
section
variable {P:Program} {w:World} {H H':Hp} {h h':Heap} {a C dx:Addr} {fs fs':List (Str×V)}
theorem zcg (hok:HOk P w H h) (e:H a=some (.ins C dx fs)):∃ mA,ObjM h a dx C mA∧(∀ f,RelO (fs.lookup f) (mA f))∧PySem.Within mA (fs.map (·.1))∧fs.length≤1000∧H dx=some (.own a):=by
 obtain ⟨d,z,ne,ob,mA,n,r,q⟩:=(show yR P w H h a (.ins C dx fs) from hok a _ e)
 exact ⟨mA,⟨ob,n,ne⟩,r,q,z,d⟩
end
structure Cls (K:ζb) (C:Addr):Prop where
 pg:PySem.W.plainGet K C Str.empty=true
 hd:PySem.W.hasDictIn K C=true
 po:PySem.W.plainOver K C=true
 sa:PySem.W.findIn K (.ref C) "__setattr__" = some (some (.builtin "object.__setattr__"))
theorem Cls.get {K:ζb} {C:Addr} (c:Cls K C) (f:Str):PySem.W.plainGet K C f=true:=c.pg
section
variable {X:Cx} {pins:List (Addr×Obj)} {σ:St} {H:Hp} {s:Shared} {a C dx:Addr} {fs:List (Str×V)} {f:Str} {v:V} {A:Around} {E:Value→Shared→Prop}
end
section
variable {X:Cx} {o e value:Expr} {f:Str} {pos pos' tpos:Pos} {ta tv:TE}
end
section
variable {X:Cx} {pins:List (Addr×Obj)} {σ:St} {H:Hp} {s:Shared} {A:Around} {E:Value→Shared→Prop} {Q:Value→Shared→Prop} {c:Value} {b:Bool}
inductive TyOf (K:ζb) (H:Hp):V→Value→Prop where
 | non:TyOf K H .non (.type "NoneType")
 | bl (x:Bool):TyOf K H (.bl x) (.type "bool")
 | int (i:Int):TyOf K H (.int i) (.type "int")
 | str (x:Str):TyOf K H (.str x) (.type "str")
 | flt (x:UInt64):TyOf K H (.flt x) (.type "float")
 | lst {a:Addr} {xs:List V} (e:H a=some (.lst xs)):TyOf K H (.ref a) (.type "list")
 | frz {a:Addr} {o:Obj} {xs:List V} (e:H a=some (.frz o (.lst xs))):TyOf K H (.ref a) (.type "list")
 | tup {a:Addr} {xs:List V} (e:H a=some (.tup xs)):TyOf K H (.ref a) (.type "tuple")
 | dK {a:Addr} {kvs:List (Key×V)} (e:H a=some (.dK kvs)):TyOf K H (.ref a) (.type "dict")
 | dT {a:Addr} {kvs:List (List Key×V)} (e:H a=some (.dT kvs)):TyOf K H (.ref a) (.type "dict")
 | ins {a C dx:Addr} {fs:List (Str×V)} (e:H a=some (.ins C dx fs)) (cl:Cls K C) (ha:PySem.W.findIn K (.ref C) "__class__" = some (some (.builtin "object.__class__")))
   (hn:PySem.W.specialIn K (.builtin "object.__class__") "__get__" = some (some (.builtin "getset_descriptor.__get__"))) (htk:PySem.W.takesIn K (.builtin "object.__class__")=some true)
   (hm:PySem.W.mroIn K C (.type "object")=some true):TyOf K H (.ref a) (.ref C)
theorem Qn {x:V} {u t:Value} (I:Inv X pins σ H s) (rx:RelV x u) (ty:TyOf X.K H x t) (e:PySem.W.kitOne X.K t c=some b) (h:∀ tk,Q (.bool b) { s with toks:=tk }) :
  wpAny (model X.prog X.w) A (call (.builtin "isinstance") [u,c]) Q E s:=by
 cases ty with
 | non=>cases (show u=Value.none from rx); exact PySem.W.kia_one PySem.W.kitx_none I.kIn True.intro e (fun z=>nomatch z) h
 | bl y=>cases (show u=Value.bool y from rx); exact PySem.W.kia_one PySem.W.kitx_bool I.kIn True.intro e (fun z=>nomatch z) h
 | int i=>obtain ⟨t,q⟩:=(show ∃ t,u=Value.int i t from rx); cases q; exact PySem.W.kia_one PySem.W.kitx_int I.kIn True.intro e (fun z=>nomatch z) h
 | str y=>obtain ⟨t,q⟩:=(show ∃ t,u=Value.str y t from rx); cases q; exact PySem.W.kia_one PySem.W.kitx_str I.kIn True.intro e (fun z=>nomatch z) h
 | flt y=>obtain ⟨t,q⟩:=(show ∃ t,u=Value.float y t from rx); cases q; exact PySem.W.kia_one PySem.W.kitx_float I.kIn True.intro e (fun z=>nomatch z) h
 | @lst a xs ea =>
  cases (show u=Value.ref a from rx)
  obtain ⟨_,_,n,_,h1⟩:=(show yR X.prog X.w H s.heap a (.lst xs) from I.hok a _ ea)
  exact PySem.W.kia_one PySem.W.kitx_list I.kIn ⟨_,h1,rfl⟩ e (fun z=>nomatch z) h
 | @frz a ob xs ea =>
  cases (show u=Value.ref a from rx)
  obtain ⟨_,_,_,n,_,h1⟩:=(show yR X.prog X.w H s.heap a (.frz ob (.lst xs)) from I.hok a _ ea)
  exact PySem.W.kia_one PySem.W.kitx_list I.kIn ⟨_,h1,rfl⟩ e (fun z=>nomatch z) h
 | @tup a xs ea =>
  cases (show u=Value.ref a from rx)
  obtain ⟨_,_,_,p⟩:=(show yR X.prog X.w H s.heap a (.tup xs) from I.hok a _ ea)
  obtain ⟨o,h1,h2,_⟩:=p
  exact PySem.W.kia_one PySem.W.kitx_tuple I.kIn ⟨o,h1,h2⟩ e (fun z=>nomatch z) h
 | @dK a kvs ea =>
  cases (show u=Value.ref a from rx)
  obtain ⟨_,_,vs,_,p⟩:=(show yR X.prog X.w H s.heap a (.dK kvs) from I.hok a _ ea)
  obtain ⟨o,es,ep,h1,h2,_⟩:=p
  exact PySem.W.kia_one PySem.W.kitx_dict I.kIn ⟨o,h1,h2.1⟩ e (fun z=>nomatch z) h
 | @dT a kvs ea =>
  cases (show u=Value.ref a from rx)
  obtain ⟨_,_,xs,_,o,es,ep,h1,h2,_⟩:=(show yR X.prog X.w H s.heap a (.dT kvs) from I.hok a _ ea)
  exact PySem.W.kia_one PySem.W.kitx_dict I.kIn ⟨o,h1,h2.1⟩ e (fun z=>nomatch z) h
 | @ins a C dx fs ea cl ha hn htk hm =>
  cases (show u=Value.ref a from rx)
  obtain ⟨mA,O,_⟩:=zcg I.hok ea
  obtain ⟨od,J,_⟩:=O.look
  exact PySem.W.kia_one (PySem.W.kitx_own (cl.get _) cl.hd ha hn htk hm) I.kIn J e (fun z=>nomatch z) h
end
structure Room (k:Nat) (A:Around):Prop where
 hd:A.handled=none
 dp:A.depth + 3 * k + 5 < recursionLimit
 un:A.units + 16 * k + 200 < cLine
theorem Room.mono {j k:Nat} {A:Around} (r:Room k A) (h:j≤k):Room j A:=⟨r.hd,by have:=r.dp; omega,by have:=r.un; omega⟩
theorem Room.deeper {k:Nat} {A:Around} (r:Room (k + 1) A) (env:Env):Room k (A.deeper env) :=
 ⟨r.hd,by have:=r.dp; show A.depth + 1 + 3 * k + 5 < _; omega,by have:=r.un; show A.units + 3 + 16 * k + 200 < _; omega⟩
theorem Room.depth {k:Nat} {A:Around} (r:Room k A):A.depth < recursionLimit:=by have:=r.dp; omega
theorem Room.units {k:Nat} {A:Around} (r:Room k A):A.units + 64 < cLine:=by have:=r.un; omega
def tNil:TA:=fun _ H Q=>Q [] H
def zE (ta:TE) (tr:TA):TA:=fun σ H Q=>ta σ H fun x H1=>tr σ H1 fun xs H2=>Q (x :: xs) H2
section
variable {X:Cx} {e:Expr} {es:List Expr} {te:TE} {t:TA} {pos:Pos}
theorem zd:PA X [] tNil:=fun _ _ _ _ H Q I h=>Calls.spliced_nil ⟨[],H,I,.nil,h⟩
theorem zb (ha:PE X e te) (hr:PA X es t) (hs:starEach (e :: es) X.env=(false,eval e X.env) :: starEach es X.env:=by rfl):PA X (e :: es) (zE te t):=by
 intro pos pins s σ H Q I h
 rw [hs]
 show wpAny _ _ (spliced ((false,eval e X.env) :: backTo pos (starEach es X.env))) _ _ s
 refine Calls.spliced_cons (thn (ha pins s σ H _ I h) fun u s1 ⟨x,H1,I1,r1,q1⟩=>?_)
 exact thn (hr pos pins s1 σ H1 _ I1 q1) fun us s2 ⟨xs,H2,I2,r2,q2⟩=>⟨x :: xs,H2,I2,.cons r1 r2,q2⟩
def tTup (t:TA):TE:=fun σ H Q=>t σ H fun xs H1=>xs.length≤sizeLine∧∀ p,H1 p=none→Q (.ref p) (upd H1 p (.tup xs))
def tLst (t:TA):TE:=fun σ H Q=>t σ H fun xs H1=>xs.length≤sizeLine∧∀ p,H1 p=none→Q (.ref p) (upd H1 p (.lst xs))
theorem vG {x1} (h:PA X es t):PE X (.Tuple es x1 pos) (tTup t):=by
 intro pins s σ H Q I hq
 refine wpAny_Tuple_spliced (thn (h pos pins s σ H _ I hq) fun us s1 ⟨xs,H1,I1,r,z,q⟩=>⟨by rw [← r.length]; exact z,?_⟩)
 have hf:H1 s1.heap.objs.size=none:=I1.hok.fresh (ζm _)
 refine ⟨.ref s1.heap.objs.size,upd H1 s1.heap.objs.size (.tup xs),I1.laid (t':=s1.toks) (fun b u e=>ζg _ e) (ζm _) ?_,rfl,q _ hf⟩
 exact ⟨z,us,r,⟨_,ζp _ rfl,rfl,_,rfl⟩⟩
theorem zW (h:PA X es t):PE X (.List es pos) (tLst t):=by
 intro pins s σ H Q I hq
 refine wpAny_List_spliced (thn (h pos pins s σ H _ I hq) fun us s1 ⟨xs,H1,I1,r,z,q⟩=>⟨by rw [← r.length]; exact z,?_⟩)
 have hf:H1 s1.heap.objs.size=none:=I1.hok.fresh (ζm _)
 refine ⟨.ref s1.heap.objs.size,upd H1 s1.heap.objs.size (.lst xs),I1.laid (t':=s1.toks) (fun b u e=>ζg _ e) (ζm _) ?_,rfl,q _ hf⟩
 exact ⟨z,us,0,r,ζp _ rfl⟩
end
abbrev Sp:=List V→Hp→VK→XK→Prop
abbrev CXT:=List Env→Hp→Shared→XK→Value→Shared→Prop
structure Env0 (P:Program) (w:World) (K:ζb) (mg:Str→Option Value) (base:Heap) (A:Around) (outer:List Env) (s:Shared) (H:Hp):Prop where
 frames:A.frames=some outer
 mod:Mod K mg base
 bs:∀ b o,base.get? b=some o→s.heap.get? b=some o∧H b=none
 bsz:base.objs.size≤s.heap.objs.size
 funs:s.heap.FunFrames base outer
 frf:∀ b∈frs outer,H b=none
 hok:HOk P w H s.heap
 bare:AllBare s.gens
 tb:TbOk K H
def CE (outer:List Env) (P:Program) (w:World) (H:Hp) (s:Shared) (Q:VK) (u:Value) (s':Shared):Prop :=
 ∃ v H',s'.os=s.os∧AllBare s'.gens∧Un (frs outer) [] H H' s.heap s'.heap∧HOk P w H' s'.heap∧RelV v u∧Q v H'
def CR (CX:CXT) (outer:List Env) (P:Program) (w:World) (H:Hp) (s:Shared) (Q:VK) (E:XK) (r:Result) (s':Shared):Prop :=
 match r with
 | .ok (.ret u)=>CE outer P w H s Q u s'
 | .ok _=>False
 | .error e=>CX outer H s E e s'
structure FnOk (P:Program) (w:World) (K:ζb) (mg:Str→Option Value) (base:Heap) (CX:CXT) (k:Nat) (f:Addr) (fd:FuncData) (ps:List Str) (sp:Sp):Prop where
 len:∀ vs H Q E,sp vs H Q E→vs.length=ps.length
 run:∀ (A:Around) (outer:List Env) (s:Shared) (H:Hp) (args:Args) (us:List Value) (vs:List V) (Q:VK) (E:XK),Room k A→Env0 P w K mg base A outer s H→BindsTo s fd args (ps.zip us)→Vals vs us→sp vs H Q E →
  codeAny (model P w) A (.call (.ref f) args) (CR CX outer P w H s Q E) s
section
variable {X:Cx} {pins:List (Addr×Obj)} {σ:St} {H:Hp} {s s':Shared}
theorem Inv.env0 (I:Inv X pins σ H s):Env0 X.prog X.w X.K X.mg X.base X.A X.stack s H :=
 ⟨I.ok.frames,I.ok.mod,I.bs,ζM I.ok.bsz I.sz,I.stack,I.stkFree,I.hok,I.bare,I.ok.tb.un I.base⟩
theorem Inv.after {Q:VK} {u:Value} (I:Inv X pins σ H s) (h:CE X.stack X.prog X.w H s Q u s'):EP X pins σ Q u s':=by
 obtain ⟨v,H',os,bare,un,hok,r,q⟩:=h
 obtain ⟨hh,g,d,t,os'⟩:=s'
 obtain rfl:os'=s.os:=os
 exact ⟨v,H',I.call (h':=hh) (g':=g) (d':=d) (t':=t) (ch:=[]) un hok bare (fun b z=>absurd z (by simp)),r,q⟩
end
def uv (sp:Sp) (dvs:List V) (E:XK) (t:TA):TE:=fun σ H Q=>t σ H fun vs H1=>sp (vs ++ dvs) H1 Q E
def Z9 (K:ζb) (fd:FuncData) (ps:List Str) (ds:List Value):Prop :=
 ∀ (s:Shared) (us:List Value),K.In s.heap→(us ++ ds).length=ps.length→BindsTo s fd ⟨us,[]⟩ (ps.zip (us ++ ds))
theorem Z9.all {K:ζb} {fd:FuncData} {ps:List Str} (h:∀ us:List Value,us.length=ps.length→bindArgs fd ⟨us,[]⟩=pure (ps.zip us)):Z9 K fd ps []:=fun s us _ hl=>by
 rw [ζW] at hl ⊢
 exact .of_eq (h us hl)
def WA (CX:CXT) (X:Cx) (E:XK):Prop:=∀ (pins:List (Addr×Obj)) (σ:St) (H:Hp) (s:Shared) (e:Value) (s':Shared),Inv X pins σ H s→CX X.stack H s E e s'→X.xe e s'
section
variable {X:Cx} {CX:CXT} {k:Nat} {f C:Addr} {fd:FuncData} {ps:List Str} {sp:Sp} {dvs:List V} {ds:List Value} {E:XK} {x m:Str} {p pos apos:Pos} {e o:Expr} {es:List Expr} {ta:TE} {t:TA}
theorem zdr {pins:List (Addr×Obj)} {σ:St} {H:Hp} {s:Shared} {Q:VK} {us:List Value} {vs:List V} (F:FnOk X.prog X.w X.K X.mg X.base CX k f fd ps sp) (hr:Room k X.A) (hb:Z9 X.K fd ps ds) (hd:Vals dvs ds) (hx:WA CX X E)
  (I:Inv X pins σ H s) (r:Vals vs us) (h:sp (vs ++ dvs) H Q E):wpAny (model X.prog X.w) X.A (call (.ref f) us) (EP X pins σ Q) X.xe s:=by
 have r2:Vals (vs ++ dvs) (us ++ ds):=r.append hd
 have hl:(us ++ ds).length=ps.length:=by rw [← r2.length]; exact F.len _ _ _ _ h
 refine wpAny_call (codeAny_mono (F.run X.A X.stack s H ⟨us,[]⟩ (us ++ ds) (vs ++ dvs) Q E hr I.env0 (hb s us I.kIn hl) r2 h) fun r s' hq=>?_)
 cases r with
 | error e=>exact hx pins σ H s e s' I hq
 | ok fl =>
  cases fl with
  | ret u=>exact I.after hq
  | next=>exact False.elim hq
  | brk=>exact False.elim hq
  | cont=>exact False.elim hq
theorem zb0 (F:FnOk X.prog X.w X.K X.mg X.base CX k f fd ps sp) (hr:Room k X.A) (hg:Gl X x) (hm:X.mg x=some (.ref f)) (hk:PySem.W.keepIn X.K (.ref f)=true) (hb:Z9 X.K fd ps ds) (hd:Vals dvs ds) (hx:WA CX X E)
  (ha:PA X (e :: es) t) (hdb:(x == ("__debug__" : Str))=false:=by decide) (he:starEach (e :: es) X.env=(false,eval e X.env) :: starEach es X.env:=by rfl) (hpl:(backTo pos (starEach es X.env)).any (·.1)=false:=by rfl) :
  PE X (.Call (.Name x p) (e :: es) [] pos) (uv sp dvs E t):=by
 intro pins s σ H Q I h
 refine wpAny_Call_Name_kw (Tj I hg hm ?_ hdb)
 refine PySem.W.callWith_K (h₀:=X.base) I.ok.mod.kin hk (thn (ha pos pins s σ H _ I h) fun us s1 ⟨vs,H1,I1,r,q⟩=>⟨I1.kIn,?_⟩) he hpl
 exact zdr F hr hb hd hx I1 r q
end
section
variable {X:Cx} {CX:CXT} {k:Nat} {f C:Addr} {fd:FuncData} {ps ks:List Str} {sp:Sp} {E:XK} {x m:Str} {p pos apos kpos:Pos} {e o:Expr} {es:List Expr} {kws:List Keyword} {te ta:TE} {t tk:TA} {nm:Option Str}
variable {g:List Value→List Value→List Value} {gV:List V→List V→List V}
end
structure zB (N P:List Str) (sc:Scope):Prop where
 kind:sc.kind=.function
 co:sc.isCoroutine=false
 gen:sc.isGenerator=false
 nd:N.Nodup
 pre:N.take P.length=P
 par:∀ x∈P,sc.names.lookup x=some .local∨sc.names.lookup x=some .cell
 nofree:∀ y∈sc.names,y.2≠.free
theorem Xc {kindOf:Str→Option NameKind} {x:Str}:∀ {binds:List (Str×Value)} {m:Str→Option Value},(∀ v,(x,v)∉binds)→bindL kindOf binds m x=m x
 | [],_,_=>rfl
 | (n,v) :: r,m,h=>by
  unfold bindL
  rw [Xc fun w hw=>h w (ζk _ hw)]
  split
  ·have:x≠n:=by rintro rfl; exact h v ζi
   simp [this]
  ·rfl
theorem Xe {kindOf:Str→Option NameKind} {x:Str}:∀ {binds:List (Str×Value)} {m:Str→Option Value},(∀ v,(x,v)∉binds)→bindC kindOf binds m x=m x
 | [],_,_=>rfl
 | (n,v) :: r,m,h=>by
  unfold bindC
  rw [Xe fun w hw=>h w (ζk _ hw)]
  split
  ·rfl
  ·have:x≠n:=by rintro rfl; exact h v ζi
   simp [this]
theorem Xd {kindOf:Str→Option NameKind} {x:Str} {v:Value}:∀ {P:List Str} {vs:List Value} {i:Nat} {m:Str→Option Value},P.Nodup→P[i]?=some x→vs[i]?=some v→kindOf x=some .local →
  bindL kindOf (P.zip vs) m x=some v
 | [],_,_,_,_,h,_,_=>by simp at h
 | _ :: _,[],_,_,_,_,h,_=>by simp at h
 | p :: P,w :: vs,0,m,nd,h1,h2,hk=>by
  simp at h1 h2; subst h1; subst h2
  show bindL kindOf ((p,w) :: P.zip vs) m p=_
  unfold bindL
  rw [Xc fun v hv=>(ξI.mp nd).1 (List.of_mem_zip hv).1,if_pos hk]
  simp
 | p :: P,w :: vs,i + 1,m,nd,h1,h2,hk=>by
  show bindL kindOf ((p,w) :: P.zip vs) m x=_
  unfold bindL
  exact Xd (i:=i) (List.nodup_cons.mp nd).2 (by simpa using h1) (by simpa using h2) hk
theorem Xf {kindOf:Str→Option NameKind} {x:Str} {v:Value}:∀ {P:List Str} {vs:List Value} {i:Nat} {m:Str→Option Value},P.Nodup→P[i]?=some x→vs[i]?=some v→kindOf x≠some .local →
  bindC kindOf (P.zip vs) m x=some v
 | [],_,_,_,_,h,_,_=>by simp at h
 | _ :: _,[],_,_,_,_,h,_=>by simp at h
 | p :: P,w :: vs,0,m,nd,h1,h2,hk=>by
  simp at h1 h2; subst h1; subst h2
  show bindC kindOf ((p,w) :: P.zip vs) m p=_
  unfold bindC
  rw [Xe fun v hv=>(ξI.mp nd).1 (List.of_mem_zip hv).1,if_neg hk]
  simp
 | p :: P,w :: vs,i + 1,m,nd,h1,h2,hk=>by
  show bindC kindOf ((p,w) :: P.zip vs) m x=_
  unfold bindC
  exact Xf (i:=i) (List.nodup_cons.mp nd).2 (by simpa using h1) (by simpa using h2) hk
def start (N:List Str) (vs:List V):St:=vs.map some ++ List.replicate (N.length - vs.length) none
def cxOf (CX:CXT) (P:Program) (w:World) (K:ζb) (mg:Str→Option Value) (base:Heap) (N:List Str) (qual:Str) (scope:Scope) (f:Addr) (cd:Value) (A:Around) (outer:List Env) (s:Shared) (H:Hp) (E:XK):Cx where
 prog:=P
 w:=w
 K:=K
 mg:=mg
 base:=base
 A:=A.deeper (envOfC qual scope s.heap.objs.size f cd)
 N:=N
 s₀:=s
 H₀:=H
 env:=envOfC qual scope s.heap.objs.size f cd
 outer:=outer
 stack:=envOfC qual scope s.heap.objs.size f cd :: outer
 ex:=[]
 calm:=true
 fn:=fun _=>true
 pn:=[]
 xe:=fun e s'=>wpAny (model P w) (A.deeper (envOfC qual scope s.heap.objs.size f cd)) (leaving (envOfC qual scope s.heap.objs.size f cd) e) (fun _ s''=>CX outer H s E e s'') (fun e' s''=>CX outer H s E e' s'') s'
theorem VN {sc:Scope} {n:Nat} {x:Str} (h:sc.names.lookup x=some .cell):∃ c,(cellsFrom n sc.names []).lookup x=some c:=by
 have q:=PySem.W.cellsFrom_some sc.names n [] (.inl h)
 exact ξ0.mp q
theorem Qo {CX:CXT} {P:Program} {w:World} {K:ζb} {mg:Str→Option Value} {base:Heap} {N ps:List Str} {qual:Str} {scope:Scope} {f:Addr} {cd:Value} {A:Around} {outer:List Env} {s s1:Shared} {H:Hp} {E:XK} {us:List Value} {vs:List V}
  (S:zB N ps scope) (hd:A.handled=none) (e0:Env0 P w K mg base A outer s H) (hl:vs.length=ps.length) (r:Vals vs us)
  (x:InCallC s s.heap.objs.size (bindL (envOfC qual scope s.heap.objs.size f cd).kindOf (ps.zip us) fun _=>none) (cellsFrom (s.heap.objs.size + 1) scope.names []) (bindC (envOfC qual scope s.heap.objs.size f cd).kindOf (ps.zip us) fun _=>none) s1) :
  Inv (cxOf CX P w K mg base N qual scope f cd A outer s H E) [] (start N vs) H s1:=by
 have hpl:ps.length≤N.length:=by have:=congrArg List.length S.pre; rw [ζy] at this; omega
 obtain ⟨h1,tk,rfl,hk⟩:=x.done
 have noA:∀ b:Addr,b∉(cxOf CX P w K mg base N qual scope f cd A outer s H E).ex:=fun b z=>absurd (show b∈([]:List Addr) from z) (by simp)
 refine ⟨⟨e0.mod,S.kind,rfl,rfl,ζm _,fun y z c h1 h2=>?_,fun y hy=>?_,fun y c _ h=>?_,fun _=>hd,Around.frames_deeper e0.frames,.inr ⟨rfl,rfl⟩,fun b z=>absurd z (noA b),e0.bs,e0.bsz,fun b _ _=>noA b,fun b z=>absurd z (noA b),e0.funs,e0.frf,e0.tb⟩,
  rfl,e0.bare,Un.kept hk,⟨_,x.toInCall.ns,fun i y v h1 h2 h3=>?_⟩,fun y c h=>⟨_,x.cell y c h⟩,e0.hok.fresh (Nat.le_refl _),fun y c h=>?_,fun p hp=>absurd (show p∈([]:List (Addr×Obj)) from hp) (by simp),e0.hok.kept hk,?_⟩
 ·exact name_of_addr x.apart (PySem.mem_of_lookup h1) (PySem.mem_of_lookup h2)
 ·have hy:scope.names.lookup y=some .cell∨scope.names.lookup y=some .free:=hy
  rcases hy with hy | hy
  ·exact VN hy
  ·exact absurd rfl (S.nofree _ (PySem.mem_of_lookup hy))
 ·exact Nat.le_of_lt (x.above y c (PySem.mem_of_lookup h))
 ·have hi:i < vs.length:=by
   unfold start at h2
   by_cases hi:i < vs.length
   ·exact hi
   ·rw [List.getElem?_append_right (by simpa using hi)] at h2
    rw [ξJ] at h2
    split at h2 <;> cases h2
  have ha:vs[i]?=some v:=by
   unfold start at h2
   rw [List.getElem?_append_left (by simpa using hi),List.getElem?_map] at h2
   cases e:vs[i]? with
   | none=>rw [e] at h2; cases h2
   | some a=>rw [e] at h2; cases h2; rfl
  obtain ⟨u,hu,rv⟩:=r.get ha
  have hp:ps[i]?=some y:=by
   rw [← S.pre,ξG (by omega)]; exact h1
  have ndP:ps.Nodup:=by rw [← S.pre]; exact S.nd.sublist (List.take_sublist _ _)
  refine ⟨u,rv,?_⟩
  rcases S.par y (ζd hp) with k | k
  ·exact .inl ⟨k,Xd ndP hp hu k⟩
  ·obtain ⟨c,e⟩:=VN (n:=s.heap.objs.size + 1) k
   refine .inr ⟨.inl k,c,e,?_⟩
   have q:=x.cell y c e
   rw [Xf ndP hp hu (by show scope.names.lookup y≠_; rw [k]; decide)] at q
   exact q
 ·exact .inl (e0.hok.fresh (Nat.le_of_lt (x.above y c (PySem.mem_of_lookup h))))
 ·unfold start
  show _=N.length
  rw [ζj,ζa,ξc]
  omega
theorem zex {CX:CXT} {P:Program} {w:World} {K:ζb} {mg:Str→Option Value} {base:Heap} {k:Nat} {f:Addr} {name qual:Str} {params:Arguments} {body:List Stmt} {scope:Scope} {dV kV doc pm cdv ct oc:Value} {an od:Option Addr}
  {osl:Array (Option Value)} {N ps:List Str} {sp:Sp} (lk:K.lookup f=some ⟨oc,od,.func (PySem.W.fnOf name qual params body scope dV kV doc pm an cdv ct),osl⟩) (hcd:PySem.W.codeIn K cdv qual=true) (S:zB N ps scope)
  (len:∀ vs H Q E,sp vs H Q E→vs.length=ps.length)
  (hbody:∀ (A:Around) (outer:List Env) (s:Shared) (H:Hp) (vs:List V) (Q:VK) (E:XK),Room k (A.deeper (envOfC qual scope s.heap.objs.size f cdv))→sp vs H Q E →
   ∃ t,PSs (cxOf CX P w K mg base N qual scope f cdv A outer s H E) body t∧t { nx:=fun _ H'=>Q .non H',rt:=Q } (start N vs) H) :
  FnOk P w K mg base CX (k + 1) f (PySem.W.fnOf name qual params body scope dV kV doc pm an cdv ct) ps sp:=by
 refine ⟨len,fun A outer s H args us vs Q E hr e0 hb r hsp=>?_⟩
 have hl:=len _ _ _ _ hsp
 have KX:K.In s.heap:=e0.mod.kin.keeps fun b o e=>(e0.bs b o e).1
 have lim:s.heap.NoLimit:=e0.mod.nolimit.keeps fun b o e=>(e0.bs b o e).1
 have hkind:∀ y∈ps.zip us,scope.names.lookup y.1=some .local∨(scope.names.lookup y.1=some .cell∧((cellsFrom (s.heap.objs.size + 1) scope.names []).lookup y.1).isSome=true):=fun ⟨n,v⟩ hy=>by
  rcases S.par n (List.of_mem_zip hy).1 with q | q
  ·exact .inl q
  ·exact .inr ⟨q,PySem.W.cellsFrom_some _ _ _ (.inl q)⟩
 refine codeAny_call_function hr.depth (KX _ _ lk) rfl S.co S.gen rfl (PySem.W.codeRec_of KX hcd) (hb _ _ _ _ ?_)
 refine wpAny_newFunctionEnv_cells S.kind hkind fun env he s1 x=>?_
 subst he
 refine ⟨lim.keeps x.toInCall.keep,codeAny_func ?_⟩
 obtain ⟨t,ht,hq⟩:=hbody A outer s H vs Q E (hr.deeper _) hsp
 have I:Inv (cxOf CX P w K mg base N qual scope f cdv A outer s H E) [] (start N vs) H s1:=Qo S hr.hd e0 hl r x
 refine wpAny_mono (ht [] s1 (start N vs) H _ I hq) (fun fl s' hs=>?_) fun e s' hs=>hs
 have fin:∀ {σ':St} {H':Hp} {v:V} {u:Value},Inv (cxOf CX P w K mg base N qual scope f cdv A outer s H E) [] σ' H' s'→RelV v u→Q v H'→CE outer P w H s Q u s' :=
  fun {σ' H' v u} J rv q=>⟨v,H',J.os,J.bare,J.base,J.hok,rv,q⟩
 cases fl with
 | ret u =>
  obtain ⟨v,σ',H',J,rv,q⟩:=hs
  exact fin J rv q
 | next =>
  obtain ⟨σ',H',J,q⟩:=hs
  exact fin (v:=V.non) (u:=Value.none) J rfl q
 | brk =>
  obtain ⟨_,_,_,q⟩:=hs
  exact False.elim q
 | cont =>
  obtain ⟨_,_,_,q⟩:=hs
  exact False.elim q
section
variable {X:Cx} {x:Str} {p pos:Pos} {e:Expr} {es:List Expr} {t:TA} {id T:String} {r:List V→Hp→VK→Prop}
def tCB (r:List V→Hp→VK→Prop) (t:TA):TE:=fun σ H Q=>t σ H fun vs H1=>r vs H1 Q
theorem zq (hc:yB X (.builtin id) r) (hg:Gl X x) (hm:X.mg x=none) (hv:bootBuiltins x=some (.builtin id)) (ha:PA X (e :: es) t) (hn:x ≠ "__name__" := by decide) (hdb:(x == ("__debug__" : Str))=false:=by decide)
  (he:starEach (e :: es) X.env=(false,eval e X.env) :: starEach es X.env:=by rfl) (hpl:(backTo pos (starEach es X.env)).any (·.1)=false:=by rfl):PE X (.Call (.Name x p) (e :: es) [] pos) (tCB r t):=by
 intro pins s σ H Q I h
 refine wpAny_Call_Name_kw (uj I hg hm hv ?_ hn hdb)
 exact PyProof.Rows.callWith_builtin1 (thn (ha pos pins s σ H _ I h) fun us s1 ⟨vs,H1,I1,r1,q1⟩=>hc pins s1 σ H1 vs us Q I1 r1 q1) he hpl
theorem yD (hc:yB X (.type T) r) (hg:Gl X x) (hm:X.mg x=none) (hv:bootBuiltins x=some (.type T)) (ha:PA X (e :: es) t) (hn:x ≠ "__name__" := by decide) (hdb:(x == ("__debug__" : Str))=false:=by decide)
  (he:starEach (e :: es) X.env=(false,eval e X.env) :: starEach es X.env:=by rfl) (hpl:(backTo pos (starEach es X.env)).any (·.1)=false:=by rfl):PE X (.Call (.Name x p) (e :: es) [] pos) (tCB r t):=by
 intro pins s σ H Q I h
 refine wpAny_Call_Name_kw (uj I hg hm hv ?_ hn hdb)
 exact PyProof.Rows.callWith_type1 (thn (ha pos pins s σ H _ I h) fun us s1 ⟨vs,H1,I1,r1,q1⟩=>hc pins s1 σ H1 vs us Q I1 r1 q1) he hpl
end
end L2
namespace HT
open PySem PyProof.Rows
section
open PySem.SeqAt
open PySem.AutoSeq1 (wpAny_loadPart')
open PySem.MeetsSeq PySem.MeetsSeq2 PySem.MeetsSeq3
end
section
variable {prog:Program} {w:World} {A:Around} {E:Value→Shared→Prop} {s:Shared}
def sIx (n d:Nat):Option Int→Nat
 | none=>d
 | some v=>if v < 0 then (v + (n:Int)).toNat else min v.toNat n
theorem XA (n d k:Nat):sIx n d (some (k:Int))=min k n:=by
 show (if (k:Int) < 0 then ((k:Int) + (n:Int)).toNat else min (k:Int).toNat n)=min k n
 rw [if_neg (by omega),ζI]
end
end HT
namespace L2
open PySem PySem.Spec PyProof.Rows
abbrev TO:=St→Hp→(Option Int→Hp→Prop)→Prop
def PO (X:Cx) (e:Option Expr) (t:TO):Prop :=
 ∀ (pins:List (Addr×Obj)) (s:Shared) (σ:St) (H:Hp) (Q:Option Int→Hp→Prop),Inv X pins σ H s→t σ H Q →
  wpAny (model X.prog X.w) X.A (evalPart e X.env) (fun u s'=>∃ o H',Inv X pins σ H' s'∧IsPart u o∧Q o H') X.xe s
def UT:TO:=fun _ H Q=>Q none H
def zcN (t:TE):TO:=fun σ H Q=>t σ H fun x H1=>∃ i,x=.int i∧Q (some i) H1
theorem wM {ns:List Int}:∀ {us:List Value},Vals (ns.map V.int) us→IntsAre us ns:=by
 induction ns with
 | nil=>intro us r; rw [List.map_nil] at r; cases r; exact .nil
 | cons n ns ih =>
  intro us r
  rw [ζT] at r
  cases r with
  | cons r1 r2 =>
   obtain ⟨t,e⟩:=r1
   subst e
   exact .cons n t (ih r2)
section
variable {X:Cx} {e:Expr} {te:TE} {lo hi:Option Expr} {tl th:TO} {pos p2:Pos}
theorem xN:PO X none UT:=by
 intro pins s σ H Q I h
 rw [evalPart_none]
 exact wpAny_pure ⟨none,H,I,.none,h⟩
theorem xt (h:PE X e te):PO X (some e) (zcN te):=by
 intro pins s σ H Q I hw
 rw [evalPart_some]
 refine thn (h pins s σ H _ I hw) fun u s1 ⟨x,H1,I1,r1,q1⟩=>?_
 obtain ⟨i,rfl,q⟩:=q1
 obtain ⟨t,rfl⟩:=r1
 exact ⟨some i,H1,I1,.int i t,q⟩
def SlR (X:Cx) (r:V→Option Int→Option Int→Hp→VK→Prop):Prop :=
 ∀ (pins:List (Addr×Obj)) (s:Shared) (σ:St) (H:Hp) (x:V) (v vl vu:Value) (lo hi:Option Int) (sl:Addr) (Q:VK),Inv X pins σ H s→RelV x v→s.heap.IsSliceOf sl vl vu .none→IsPart vl lo→IsPart vu hi→r x lo hi H Q →
  ∃ T id,typeLookup (.type T) "__getitem__" = pure (some (.builtin id))∧s.TypeIs v T∧wpAny (model X.prog X.w) X.A (getItem v (.ref sl)) (EP X pins σ Q) X.xe s
def tSl (r:V→Option Int→Option Int→Hp→VK→Prop) (te:TE) (tl th:TO):TE:=fun σ H Q=>te σ H fun x H1=>tl σ H1 fun l H2=>th σ H2 fun u H3=>r x l u H3 Q
theorem yZ {r:V→Option Int→Option Int→Hp→VK→Prop} (hr:SlR X r) (he:PE X e te) (hl:PO X lo tl) (hu:PO X hi th):PE X (.Subscript e (.Slice lo hi none p2) pos) (tSl r te tl th):=by
 intro pins s σ H Q I h
 refine Subscript_ (thn (he pins s σ H _ I h) fun v s1 ⟨x,H1,I1,r1,q1⟩=>?_)
 refine wpAny_Slice (thn (hl pins s1 σ H1 _ I1 q1) fun vl s2 ⟨l,H2,I2,pl,q2⟩=>thn (hu pins s2 σ H2 _ I2 q2) fun vu s3 ⟨u,H3,I3,pu,q3⟩=>?_)
 rw [evalPart_none]
 refine wpAny_pure ?_
 have I4:Inv X pins σ H3 { s3 with heap:=s3.heap.push { cls:=.type "slice", data:=.fields #[vl,vu,.none] } }:=I3.kept (t':=s3.toks) fun b ob q=>ζg _ q
 obtain ⟨T,id,hT,ht,hg⟩:=hr pins { s3 with heap:=s3.heap.push { cls:=.type "slice", data:=.fields #[vl,vu,.none] } } σ H3 x v vl vu l u s3.heap.objs.size Q I4 r1 (Heap.IsSliceOf.new ..) pl pu q3
 show wpAny (model X.prog X.w) X.A (subscriptTail e (.Slice lo hi none p2) v (.ref s3.heap.objs.size)) (EP X pins σ Q) X.xe { s3 with heap:=s3.heap.push { cls:=.type "slice", data:=.fields #[vl,vu,.none] } }
 exact tail_any (ops:=[.ref s3.heap.objs.size,v]) ht hT hg (by with_unfolding_all rfl)
def cutV (xs:List V) (lo hi:Option Int):List V:=(xs.drop (HT.sIx xs.length 0 lo)).take (HT.sIx xs.length xs.length hi - HT.sIx xs.length 0 lo)
theorem VM (xs:List V) (lo hi:Option Int):(cutV xs lo hi).length≤xs.length:=by
 unfold cutV
 rw [ζy,ζR]
 omega
end
def ixN (n:Nat) (i:Int):Option Nat:=if 0≤i then (if i < n then some i.toNat else none) else if -(n:Int)≤i then some (i + n).toNat else none
def atI {α:Type} (xs:List α) (i:Int):Option α:=(ixN xs.length i).bind fun j=>xs[j]?
theorem Tl {n:Nat} {i:Int} {j:Nat} (h:ixN n i=some j):seqIndex? i n=some j∧j < n∧-(n:Int)≤i∧i < n:=by
 unfold ixN at h
 by_cases h0:0≤i
 ·rw [if_pos h0] at h
  by_cases h1:i < n
  ·rw [if_pos h1] at h
   have e:i.toNat=j:=ζD h
   exact ⟨by rw [seqIndex_of h0 h1,e],by omega,by omega,h1⟩
  ·rw [if_neg h1] at h; cases h
 ·rw [if_neg h0] at h
  by_cases h1:-(n:Int)≤i
  ·rw [if_pos h1] at h
   have e:(i + n).toNat=j:=ζD h
   exact ⟨by rw [seqIndex_neg (by omega) h1,e],by omega,h1,by omega⟩
  ·rw [if_neg h1] at h; cases h
theorem Wx {α:Type} {xs:List α} {i:Int} {v:α} (h:atI xs i=some v):∃ j,seqIndex? i xs.length=some j∧xs[j]?=some v∧j < xs.length∧-(xs.length:Int)≤i∧i < xs.length:=by
 unfold atI at h
 cases e:ixN xs.length i with
 | none=>rw [e] at h; cases h
 | some j =>
  rw [e] at h
  obtain ⟨h1,h2,h3,h4⟩:=Tl e
  exact ⟨j,h1,h,h2,h3,h4⟩
theorem yX {α:Type} {xs:List α} {j:Nat} {v:α} (h:xs[j]?=some v):atI xs (j:Int)=some v:=by
 have hj:j < xs.length:=(ζe.mp h).1
 have e:ixN xs.length (j:Int)=some j:=by
  unfold ixN
  rw [if_pos (by omega),if_pos (by omega)]; simp
 unfold atI; rw [e]; exact h
def zcG (b:Expr):Prop:=∀ o i,subscripted b false o i=operate [o,i] (getItem o i)
def IxR (X:Cx) (r:R2):Prop :=
 ∀ (value slice:Expr) (pins:List (Addr×Obj)) (s:Shared) (σ:St) (H:Hp) (x y:V) (v u:Value) (Q:VK),Inv X pins σ H s→RelV x v→RelV y u→r x y H Q →
  subscripted slice false v u=operate [v,u] (getItem v u)→wpAny (model X.prog X.w) X.A (subscriptTail value slice v u) (EP X pins σ Q) X.xe s
def MtR (X:Cx) (id:String) (r:V→List V→Hp→VK→Prop):Prop :=
 ∀ (pins:List (Addr×Obj)) (s:Shared) (σ:St) (H:Hp) (x:V) (xs:List V) (v:Value) (us:List Value) (Q:VK),Inv X pins σ H s→RelV x v→Vals xs us→r x xs H Q →
  wpAny (model X.prog X.w) X.A (call (.builtin id) (v :: us)) (EP X pins σ Q) X.xe s
section
variable {X:Cx} {a b:Expr} {ta tb:TE} {pos:Pos}
theorem zL {r:R2} (hr:IxR X r) (ha:PE X a ta) (hb:PE X b tb) (hs:zcG b):PE X (.Subscript a b pos) (tOp r ta tb):=by
 intro pins s σ H Q I h
 exact Subscript_ (binT ha hb I h fun v u s2 x y H2 I2 rx ry q=>hr a b pins s2 σ H2 x y v u Q I2 rx ry q (hs _ _))
def rIxL (K:ζb):R2:=fun x y H Q=>∃ p xs i v,x=.ref p∧y=.int i∧SqL K H p xs∧atI xs i=some v∧Q v H
def rIxT (K:ζb):R2:=fun x y H Q=>∃ p xs i v,x=.ref p∧y=.int i∧SqT K H p xs∧atI xs i=some v∧Q v H
def rIxS:R2:=fun x y H Q=>∃ z i c,x=.str z∧y=.int i∧z.length≤sizeLine∧atI z.cps.toList i=some c∧Q (.str ⟨#[c]⟩) H
theorem zcf:IxR X (rIxL X.K):=by
 intro value slice pins s σ H x y v u Q I rx ry h hs
 obtain ⟨p,xs,i,z,rfl,rfl,hq,he,q⟩:=h
 cases rx
 obtain ⟨t,rfl⟩:=ry
 obtain ⟨its,r,pl,hz⟩:=I.list hq
 obtain ⟨j,h1,h2,h3,h4,h5⟩:=Wx he
 obtain ⟨w,ew,rw'⟩:=r.get h2
 have hl:=r.length
 have hn:=tm
 have fin:EP X pins σ Q w s:=⟨z,H,I,rw',q⟩
 by_cases h0:0≤i
 ·have hj:i.toNat=j:=by
   rw [seqIndex_of h0 h5] at h1
   exact ζD h1
  exact item_listR pl.isList h0 (by omega) (by rw [hj]; simpa using ew) fin hs
 ·have hj:(i + (its.toArray.size:Int)).toNat=j:=by
   rw [seqIndex_neg (by omega) h4] at h1
   rw [ζP,← hl]
   exact ζD h1
  exact subscriptTail_builtinR (x:=w) pl.isList.typeIs slot_list_getitem.lookup
   (wpAny_getItem_list_neg (Q:=fun r s'=>r=w∧EP X pins σ Q r s') pl.isList (by omega) (by rw [List.size_toArray] <;> omega) (by omega) (by rw [hj]; simpa using ew) ⟨rfl,fin⟩) hs
theorem zdU:IxR X (rIxT X.K):=by
 intro value slice pins s σ H x y v u Q I rx ry h hs
 obtain ⟨p,xs,i,z,rfl,rfl,hq,he,q⟩:=h
 cases rx
 obtain ⟨t,rfl⟩:=ry
 obtain ⟨its,r,pl,hz⟩:=I.tuple hq
 obtain ⟨j,h1,h2,h3,h4,h5⟩:=Wx he
 obtain ⟨w,ew,rw'⟩:=r.get h2
 have hl:=r.length
 have hn:=tm
 have fin:EP X pins σ Q w s:=⟨z,H,I,rw',q⟩
 exact subscriptTail_builtinR (x:=w) pl.typeIs slot_tuple_getitem.lookup
  (getItem_tuple (j:=j) (Q:=fun r s'=>r=w∧EP X pins σ Q r s') pl (by omega) (by omega) (by rw [List.size_toArray,← hl]; exact h1) (by simpa using ew) ⟨rfl,fin⟩) hs
theorem X8:IxR X rIxS:=by
 intro value slice pins s σ H x y v u Q I rx ry h hs
 obtain ⟨z,i,c,rfl,rfl,hz,he,q⟩:=h
 obtain ⟨t,rfl⟩:=rx
 obtain ⟨t',rfl⟩:=ry
 obtain ⟨j,h1,h2,h3,h4,h5⟩:=Wx he
 have hl:z.cps.toList.length=z.length:=by simp [Str.length]
 rw [hl] at h1 h4 h5
 have hn:=tm
 exact tail_any (typeIs_str s z t) slot_str_getitem.lookup (getItem_str (c:=c) (by
  have e1:decide (i < -(2 ^ 63:Int))=false:=decide_eq_false (by omega)
  have e2:decide (i≥2 ^ 63)=false:=decide_eq_false (by omega)
  rw [e1,e2,Bool.or_false]) (by rw [h1]; simpa using h2) ⟨.str ⟨#[c]⟩,H,I.tok _,⟨_,rfl⟩,q⟩) hs
theorem Uk (its:List Value) (n j:Nat) (u:Value):Obj.mapSeq (·.setIfInBounds j u) { cls:=.type "list", data:=.seq its.toArray n }={ cls:=.type "list", data:=.seq (its.set j u).toArray n }:=by
 simp [Obj.mapSeq]
theorem Inv.lst {pins:List (Addr×Obj)} {σ:St} {H:Hp} {s:Shared} {p:Addr} {xs:List V} (I:Inv X pins σ H s) (h:H p=some (.lst xs)) :
  ∃ (its:List Value) (n:Nat),Vals xs its∧s.heap.get? p=some { cls:=.type "list", data:=.seq its.toArray n }∧xs.length≤sizeLine:=by
 obtain ⟨z,its,n,r,e⟩:=I.hok p _ h
 exact ⟨its,n,r,e,z⟩
theorem Inv.lstUpd {pins:List (Addr×Obj)} {σ:St} {H:Hp} {s:Shared} {p:Addr} {xs ys:List V} {its its':List Value} {n n':Nat} {f:Obj→Obj} (I:Inv X pins σ H s) (h:H p=some (.lst xs))
  (ho:s.heap.get? p=some { cls:=.type "list", data:=.seq its.toArray n }) (hf:f { cls:=.type "list", data:=.seq its.toArray n }={ cls:=.type "list", data:=.seq its'.toArray n' }) (r:Vals ys its') (hz:ys.length≤sizeLine) (t:Nat) :
  Inv X pins σ (upd H p (.lst ys)) { s with heap:=s.heap.update p f,toks:=t }:=by
 have e:(s.heap.update p f).get? p=some { cls:=.type "list", data:=.seq its'.toArray n' }:=by
  rw [ζX f ho (by rw [hf] <;> rfl),hf]
 refine I.write (x:=p) (e:=p) (by rw [h]; trivial) (.inl rfl) (fun b u hb q=>(ξV _ _ (Ne.symm hb)).trans q) ⟨_,e⟩ ?_
 exact ⟨hz,its',n',r,e⟩
def zaa:V→V→V→Hp→(Hp→Prop)→Prop:=fun o i v H Q=>∃ p xs k j,o=.ref p∧i=.int k∧H p=some (.lst xs)∧ixN xs.length k=some j∧Q (upd H p (.lst (xs.set j v)))
theorem WP:PSet X zaa:=by
 intro pins s σ H o i v ov iv u Q I ro ri rv h
 obtain ⟨p,xs,k,j,rfl,rfl,hp,hj,q⟩:=h
 cases ro
 obtain ⟨t,rfl⟩:=ri
 obtain ⟨its,n,r,ho,hz⟩:=I.lst hp
 obtain ⟨h1,h2,h3,h4⟩:=Tl hj
 have hl:=r.length
 have hn:=tm
 have I':Inv X pins σ (upd H p (.lst (xs.set j v))) { s with heap:=s.heap.update p (Obj.mapSeq (·.setIfInBounds j u)) } :=
  I.lstUpd hp ho (Uk its n j u) (r.set rv j) (by rw [ξr]; exact hz) s.toks
 by_cases h0:0≤k
 ·have hk:k.toNat=j:=by
   rw [seqIndex_of h0 h4] at h1
   exact ζD h1
  exact PySem.W.ki_setAt ho h0 (by omega) (by rw [ζP,← hl]; exact h4) (by rw [hk]; exact ⟨_,I',q⟩)
 ·have hk:(k + (its.toArray.size:Int)).toNat=j:=by
   rw [seqIndex_neg (by omega) h3] at h1
   rw [ζP,← hl]
   exact ζD h1
  exact PySem.W.ki_setBack ho (by omega) (by rw [ζP,← hl]; exact h3) (by omega) (by rw [hk]; exact ⟨_,I',q⟩)
theorem Xl (lo hi:Option Int) (n:Nat):(sliceBounds lo hi none n).1=((HT.sIx n 0 lo:Nat):Int)∧(sliceBounds lo hi none n).2.1=((HT.sIx n n hi:Nat):Int)∧(sliceBounds lo hi none n).2.2=1:=by
 refine ⟨?_,?_,rfl⟩
 ·cases lo with
  | none=>simp [sliceBounds,HT.sIx]
  | some i =>
   simp only [sliceBounds,HT.sIx,Option.getD_none,show (1:Int) > 0 by decide,if_true]
   by_cases h:i < 0
   ·simp only [h,if_true] <;> omega
   ·simp only [h,if_false] <;> omega
 ·cases hi with
  | none=>simp [sliceBounds,HT.sIx]
  | some i =>
   simp only [sliceBounds,HT.sIx,Option.getD_none,show (1:Int) > 0 by decide,if_true]
   by_cases h:i < 0
   ·simp only [h,if_true] <;> omega
   ·simp only [h,if_false] <;> omega
theorem Ya (its:List Value) (lo hi:Option Int):slicePick its.toArray lo hi none=((its.drop (HT.sIx its.length 0 lo)).take (HT.sIx its.length its.length hi - HT.sIx its.length 0 lo)).toArray:=by
 obtain ⟨h1,h2,h3⟩:=Xl lo hi its.toArray.size
 unfold slicePick
 rw [h1,h2,h3]
 simp only [sliceRange_one,pick_run,List.size_toArray] <;> rfl
def rSlL (K:ζb):V→Option Int→Option Int→Hp→VK→Prop:=fun x lo hi H Q=>∃ a xs,x=.ref a∧SqL K H a xs∧∀ p,H p=none→Q (.ref p) (upd H p (.lst (cutV xs lo hi)))
theorem zbI:SlR X (rSlL X.K):=by
 intro pins s σ H x v vl vu lo hi sl Q I rx hs pl pu h
 obtain ⟨a,xs,rfl,hx,q⟩:=h
 cases rx
 obtain ⟨its,r,ht,hz⟩:=I.list hx
 have hlen:=r.length
 refine ⟨"list", _,slot_list_getitem.lookup,ht.isList.typeIs,?_⟩
 refine wpAny_getItem_list_slice ht.isList hs pl pu .none (by simp) ?_ (by rw [List.size_toArray] <;> omega)
 rw [Ya,← hlen]
 refine ⟨.ref s.heap.objs.size,_,I.laid (t':=s.toks) (o:=.lst (cutV xs lo hi)) (fun b ob q=>ζg _ q) (ζm _) ?_,rfl,q _ (I.hok.fresh (ζm _))⟩
 exact ⟨ζM (VM xs lo hi) hz,_,0,(r.drop (HT.sIx xs.length 0 lo)).take (HT.sIx xs.length xs.length hi - HT.sIx xs.length 0 lo),ζp _ rfl⟩
def uO:V→Bool
 | .non=>true
 | .bl _=>true
 | .int _=>true
 | .str _=>true
 | _=>false
def eqV:V→V→Bool
 | .non,.non=>true
 | .bl a,.bl b=>a == b
 | .bl a,.int b=>(if a then 1 else 0) == b
 | .int a,.bl b=>a == (if b then 1 else 0)
 | .int a,.int b=>a == b
 | .str a,.str b=>a == b
 | _,_=>false
theorem zd9 {A:Around} {s:Shared} {y x:V} {u v:Value} (ry:RelV y u) (rx:RelV x v) (fy:uO y=true) (fx:uO x=true):SeqAt.EqAt A s u v (eqV y x):=by
 cases y with
 | non =>
  cases ry
  cases x with
  | non=>cases rx; exact SeqAt.EqAt.same _
  | bl b=>cases rx; exact SeqAt.EqAt.none_bool b
  | int b=>obtain ⟨t,rfl⟩:=rx; exact SeqAt.EqAt.none_int b t
  | str b=>obtain ⟨t,rfl⟩:=rx; exact SeqAt.EqAt.none_str b t
  | _=>exact absurd (show false=true from fx) ζC
 | bl a =>
  cases ry
  cases x with
  | non=>cases rx; exact SeqAt.EqAt.bool_none a
  | bl b=>cases rx; exact SeqAt.EqAt.bool_bool a b
  | int b=>obtain ⟨t,rfl⟩:=rx; exact SeqAt.EqAt.bool_int a b t
  | str b=>obtain ⟨t,rfl⟩:=rx; exact SeqAt.EqAt.bool_str a b t
  | _=>exact absurd (show false=true from fx) ζC
 | int a =>
  obtain ⟨t',rfl⟩:=ry
  cases x with
  | non=>cases rx; exact SeqAt.EqAt.int_none a t'
  | bl b=>cases rx; exact SeqAt.EqAt.int_bool a t' b
  | int b=>obtain ⟨t,rfl⟩:=rx; exact SeqAt.EqAt.int_int a t' b t
  | str b=>obtain ⟨t,rfl⟩:=rx; exact SeqAt.EqAt.int_str a t' b t
  | _=>exact absurd (show false=true from fx) ζC
 | str a =>
  obtain ⟨t',rfl⟩:=ry
  cases x with
  | non=>cases rx; exact SeqAt.EqAt.str_none a t'
  | bl b=>cases rx; exact SeqAt.EqAt.str_bool a t' b
  | int b=>obtain ⟨t,rfl⟩:=rx; exact SeqAt.EqAt.str_int a t' b t
  | str b=>obtain ⟨t,rfl⟩:=rx; exact SeqAt.EqAt.str_str a t' b t
  | _=>exact absurd (show false=true from fx) ζC
 | _=>exact absurd (show false=true from fy) ζC
def eqU (x:V) (u:Value):Bool:=match u with
 | .none=>eqV .non x
 | .bool b=>eqV (.bl b) x
 | .int i _=>eqV (.int i) x
 | .str z _=>eqV (.str z) x
 | _=>false
theorem zbl {x y:V} {u:Value} (r:RelV y u) (f:uO y=true):eqU x u=eqV y x:=by
 cases y with
 | non=>cases r; rfl
 | bl b=>cases r; rfl
 | int i=>obtain ⟨t,rfl⟩:=r; rfl
 | str z=>obtain ⟨t,rfl⟩:=r; rfl
 | _=>exact absurd (show false=true from f) ζC
theorem Wy {x:V}:∀ {xs:List V} {us:List Value},Vals xs us→xs.all uO=true→us.any (eqU x)=xs.any fun y=>eqV y x
 | _,_,.nil,_=>rfl
 | y :: xs,u :: us,.cons r t,f=>by
  rw [List.all_cons,Bool.and_eq_true] at f
  rw [List.any_cons,List.any_cons,zbl r f.1,Wy t f.2]
theorem ZI {A:Around} {s:Shared} {x:V} {v:Value} (rx:RelV x v) (fx:uO x=true):∀ {xs:List V} {us:List Value},Vals xs us→xs.all uO=true→∀ u∈us,SeqAt.EqAt A s u v (eqU x u)
 | _,_,.nil,_=>fun u hu=>by cases hu
 | y :: xs,u :: us,.cons r t,f=>fun u' hu=>by
  rw [List.all_cons,Bool.and_eq_true] at f
  rcases ζs.mp hu with rfl | hu
  ·rw [zbl r f.1]; exact zd9 r rx f.1 fx
  ·exact ZI rx fx t f.2 u' hu
def inV (x:V) (xs:List V):Bool:=xs.any fun y=>eqV y x
def rIn (K:ζb) (neg:Bool):R2:=fun x y H Q=>∃ p xs,y=.ref p∧(SqL K H p xs∨SqT K H p xs)∧uO x=true∧xs.all uO=true∧Q (.bl (if neg then !inV x xs else inV x xs)) H
theorem T9:OpR X (compareOp .In) (rIn X.K false):=by
 intro pins s σ H x y v u Q I rx ry h
 obtain ⟨p,xs,rfl,hq,fx,fs,q⟩:=h
 cases ry
 rcases hq with hq | hq
 ·obtain ⟨its,r,pl,hz⟩:=I.list hq
  refine SeqAt.in_listAt (eqU x) pl.isList (fun w hw=>ZI rx fx r fs w (by simpa using hw)) ⟨.bl _,H,I,rfl,?_⟩
  rw [show its.toArray.any (eqU x)=its.any (eqU x) by simp,Wy r fs]
  exact q
 ·obtain ⟨its,r,pl,hz⟩:=I.tuple hq
  refine SeqAt.in_tupleAt (eqU x) pl (fun w hw=>ZI rx fx r fs w (by simpa using hw)) ⟨.bl _,H,I,rfl,?_⟩
  rw [show its.toArray.any (eqU x)=its.any (eqU x) by simp,Wy r fs]
  exact q
theorem Wv:yB X (.builtin "len") (fun xs H Q=>∃ p ys,xs=[.ref p]∧(SqL X.K H p ys∨SqT X.K H p ys)∧Q (.int ys.length) H):=by
 intro pins s σ H xs us Q I r h
 obtain ⟨p,ys,rfl,hq,q⟩:=h
 obtain ⟨u,rfl,rx⟩:=xJ r
 cases rx
 have hn:=tm
 rcases hq with hq | hq
 ·obtain ⟨its,r',pl,hz⟩:=I.list hq
  have hlen:=r'.length
  exact Calls.call_len_list pl.isList (by simp only [List.size_toArray] <;> omega) ⟨.int ys.length,H,I.tok _,⟨s.toks + 1,by rw [List.size_toArray,hlen]⟩,q⟩
 ·obtain ⟨its,r',pl,hz⟩:=I.tuple hq
  have hlen:=r'.length
  exact len_tuple pl (by simp only [List.size_toArray] <;> omega) ⟨.int ys.length,H,I.tok _,⟨s.toks + 1,by rw [List.size_toArray,hlen]⟩,q⟩
theorem Wu:yB X (.builtin "len") (fun xs H Q=>∃ z,xs=[.str z]∧z.length≤sizeLine∧Q (.int z.length) H):=by
 intro pins s σ H xs us Q I r h
 obtain ⟨z,rfl,hz,q⟩:=h
 obtain ⟨u,rfl,t,rfl⟩:=xJ r
 have hn:=tm
 exact len_str (by omega) ⟨.int z.length,H,I.tok _,⟨_,rfl⟩,q⟩
theorem Ws:yB X (.type "list") (fun xs H Q=>∃ p ys,xs=[.ref p]∧(SqL X.K H p ys∨SqT X.K H p ys)∧∀ l,H l=none→Q (.ref l) (upd H l (.lst ys))):=by
 intro pins s σ H xs us Q I r h
 obtain ⟨p,ys,rfl,hq,q⟩:=h
 obtain ⟨u,rfl,rx⟩:=xJ r
 cases rx
 have fin:∀ (its:List Value),Vals ys its→ys.length≤sizeLine→∀ (h':Heap) (c':Nat),(∀ b o',s.heap.get? b=some o'→h'.get? b=some o') →
   h'.get? s.heap.objs.size=some { cls:=.type "list", dict:=none,data:=.seq its.toArray c',slots:=#[] }→EP X pins σ Q (.ref s.heap.objs.size) { s with heap:=h' }:=fun its r' hz h' c' kp e =>
  ⟨.ref s.heap.objs.size,_,I.laid (t':=s.toks) kp (ζm _) (show yR X.prog X.w _ h' _ (.lst ys) from ⟨hz,its,c',r',e⟩),rfl,q _ (I.hok.fresh (ζm _))⟩
 rcases hq with hq | hq
 ·obtain ⟨its,r',pl,hz⟩:=I.list hq
  have hlen:=r'.length
  obtain ⟨o,ho,hc,n,hd⟩:=pl.isList
  exact call_list_seq p (.inl rfl) ho hc hd (fun h' c' kp e=>fin its r' hz h' c' kp e) (by simp only [List.size_toArray] <;> omega)
 ·obtain ⟨its,r',pl,hz⟩:=I.tuple hq
  have hlen:=r'.length
  obtain ⟨o,ho,hc,n,hd⟩:=pl
  exact call_list_seq p (.inr rfl) ho hc hd (fun h' c' kp e=>fin its r' hz h' c' kp e) (by simp only [List.size_toArray] <;> omega)
def tyV (K:ζb) (T:String) (x:V) (H:Hp):Prop:=match x with
 | .str _=>T = "str"
 | .int _=>T = "int"
 | .ref p=>(T = "list" ∧ ∃ xs,SqL K H p xs)∨(T = "tuple" ∧ ∃ o,K.lookup p=some o∧o.cls=.type "tuple" ∧ o.dict=none) ∨
   (T = "dict" ∧ ((∃ kvs,H p=some (.dK kvs))∨∃ kvs,H p=some (.dT kvs)))∨(T = "set" ∧ ∃ S n,H p=some (.set S n))
 | _=>False
theorem zdj {pins:List (Addr×Obj)} {σ:St} {H:Hp} {s:Shared} {T:String} {x:V} {v:Value} (I:Inv X pins σ H s) (r:RelV x v) (ty:tyV X.K T x H) :
  s.TypeIs v T∧∀ a,v=.ref a→∃ ob,s.heap.get? a=some ob∧ob.dict=none:=by
 cases x with
 | str z =>
  obtain ⟨t,rfl⟩:=r
  cases (show T = "str" from ty)
  exact ⟨typeIs_str s z t,fun _ e=>nomatch e⟩
 | int i =>
  obtain ⟨t,rfl⟩:=r
  cases (show T = "int" from ty)
  exact ⟨typeIs_int s i t,fun _ e=>nomatch e⟩
 | ref p =>
  cases r
  rcases ty with ⟨rfl,xs,hq⟩ | ⟨rfl,o,hk,hc,hd⟩ | ⟨rfl,hk⟩ | ⟨rfl,S,n,hk⟩
  ·obtain ⟨its,_,pl,_⟩:=I.list hq
   refine ⟨pl.isList.typeIs,fun a e=>?_⟩
   cases e
   obtain ⟨o,n,e,c,hd,_⟩:=pl
   exact ⟨o,e,hd⟩
  ·refine ⟨⟨o,I.kIn p o hk,hc⟩,fun a e=>?_⟩
   cases e
   exact ⟨o,I.kIn _ o hk,hd⟩
  ·have z:∃ o,s.heap.get? p=some o∧o.ExactDict:=by
    rcases hk with ⟨kvs,hk⟩ | ⟨kvs,hk⟩
    ·obtain ⟨_,_,_,_,o,_,_,e,ex,_⟩:=I.hok p _ hk
     exact ⟨o,e,ex⟩
    ·obtain ⟨_,_,_,_,o,_,_,e,ex,_⟩:=I.hok p _ hk
     exact ⟨o,e,ex⟩
   obtain ⟨o,e,ex⟩:=z
   refine ⟨⟨o,e,ex.1⟩,fun a e2=>?_⟩
   cases e2
   exact ⟨o,e,ex.2.1⟩
  ·obtain ⟨o,_,_,_,e,ex,_⟩:=I.hok p _ hk
   refine ⟨⟨o,e,ex.1⟩,fun a e2=>?_⟩
   cases e2
   exact ⟨o,e,ex.2.1⟩
 | _=>exact False.elim ty
def tBM (K:ζb) (T:String) (r:V→List V→Hp→VK→Prop) (to:TE) (t:TA):TE:=fun σ H Q=>to σ H fun x H1=>tyV K T x H1∧t σ H1 fun xs H2=>r x xs H2 Q
variable {o e:Expr} {es:List Expr} {to:TE} {t:TA} {name:Str} {apos cpos:Pos} {T id:String} {r:V→List V→Hp→VK→Prop}
theorem zeo (pa:PlainAttrs T) (slot:Slot T name id) (hty:typeOf (.builtin id)=pure (.type "method_descriptor")) (hm:MtR X id r) (ho:PE X o to) (ha:PA X (e :: es) t)
  (hbase:attributeBase o name X.env (eval o X.env)=eval o X.env:=by rfl)
  (hfew:((backTo cpos (starEach (e :: es) X.env)).all (fun x=>!x.1) && (backToKw cpos (keywordEach [] X.env)).all (fun x=>x.1.isSome)
   && decide ((e :: es).length + ([]:List Keyword).length + (if ([]:List Keyword).isEmpty then 0 else 1) < 30))=true:=by rfl)
  (hline:(apos.endLine == cpos.line)=true:=by rfl) (hs:starEach (e :: es) X.env=(false,eval e X.env) :: starEach es X.env:=by rfl) (hplain:(backTo cpos (starEach es X.env)).any (·.1)=false:=by rfl) :
  PE X (.Call (.Attribute o name apos) (e :: es) [] cpos) (tBM X.K T r to t):=by
 intro pins s σ H Q I h
 refine wpAny_Call_method_late hbase hfew hline rfl (thn (ho pins s σ H _ I h) fun v s1 ⟨x,H1,I1,r1,ty,q1⟩=>?_)
 obtain ⟨h1,h2⟩:=zdj I1 r1 ty
 refine ⟨T,id,pa,slot,hty,h1,h2,?_⟩
 have hA:=ha cpos pins s1 σ H1 _ I1 q1
 rw [hs] at hA ⊢
 refine Calls.callWith_builtin (by show (false || (backTo cpos (starEach es X.env)).any (·.1))=false; rw [hplain] <;> rfl) (Calls.evalArgs_plain ?_)
 exact thn hA fun us s2 ⟨vs,H2,I2,r2,q2⟩=>hm pins s2 σ H2 x vs v us Q I2 r1 r2 q2
end
def MtM (X:Cx) (id:String) (r:V→List V→Hp→VK→Prop):Prop :=
 ∀ (pins:List (Addr×Obj)) (s:Shared) (σ:St) (H:Hp) (x:V) (xs:List V) (v:Value) (us:List Value) (Q:VK),Inv X pins σ H s→RelV x v→Vals xs us→r x xs H Q →
  wpAny (model X.prog X.w) X.A (call (.builtin id) (v :: us)) (EP X pins σ Q) X.xe s
theorem Vals.one:∀ {x:V} {us:List Value},Vals [x] us→∃ u,us=[u]∧RelV x u
 | _,_,.cons r .nil=>⟨_,rfl,r⟩
theorem Vals.two:∀ {x y:V} {us:List Value},Vals [x,y] us→∃ u v,us=[u,v]∧RelV x u∧RelV y v
 | _,_,_,.cons r (.cons q .nil)=>⟨_,_,rfl,r,q⟩
theorem Vals.reverse {xs:List V} {us:List Value} (h:Vals xs us):Vals xs.reverse us.reverse:=by
 induction h with
 | nil=>exact .nil
 | cons r t ih=>rw [ξh,ξh]; exact Vals.append ih (.cons r .nil)
theorem Vals.rep {xs:List V} {us:List Value} (h:Vals xs us):∀ k:Nat,Vals (List.replicate k xs).flatten (List.replicate k us).flatten
 | 0=>.nil
 | k + 1=>by
  rw [ζ5,ζ5,ξt,ξt]
  exact Vals.append h (Vals.rep h k)
theorem Y1 (its:List Value):∀ (k:Nat) (acc:List Value),
  List.foldl (fun x1 x2=>x1 ++ x2) acc.toArray (List.replicate k its.toArray)=(acc ++ (List.replicate k its).flatten).toArray
 | 0,acc=>by simp
 | k + 1,acc=>by
  have e:acc.toArray ++ its.toArray=(acc ++ its).toArray:=by simp
  have e2:(acc ++ its) ++ (List.replicate k its).flatten=acc ++ (List.replicate (k + 1) its).flatten:=by
   rw [ζ5,ξt,ζS]
  rw [← e2,← Y1 its k (acc ++ its),← e,ζ5,List.foldl_cons]
section
variable {X:Cx} {pins:List (Addr×Obj)} {σ:St} {H:Hp} {s:Shared} {l b:Addr} {xs ys zs:List V}
theorem Inv.lset {its its':List Value} {n:Nat} {f:Array Value→Array Value} {t':Nat} (I:Inv X pins σ H s) (hH:H l=some (.lst xs))
  (e:s.heap.get? l=some { cls:=.type "list", data:=.seq its.toArray n }) (hf:f its.toArray=its'.toArray) (hv:Vals ys its') (hz:ys.length≤sizeLine) :
  Inv X pins σ (upd H l (.lst ys)) { s with heap:=s.heap.update l (Obj.mapSeq f),toks:=t' }:=by
 have q:=PySem.IsL.update e f
 rw [hf] at q
 refine I.write (x:=l) (e:=l) (by rw [hH]; exact trivial) (.inl rfl) (fun b' u hb hu=>(ξV s.heap (Obj.mapSeq f) (Ne.symm hb)).trans hu) ⟨_,q⟩ ?_
 exact ⟨hz,its',_,hv,q⟩
theorem Inv.lnew {its:List Value} {t':Nat} (I:Inv X pins σ H s) (hv:Vals ys its) (hz:ys.length≤sizeLine) :
  Inv X pins σ (upd H s.heap.objs.size (.lst ys)) { s with heap:=s.heap.push { cls:=.type "list", data:=.seq its.toArray },toks:=t' } :=
 I.laid (fun _ _ q=>ζg _ q) (ζm _) ⟨hz,its,0,hv,ζp _ rfl⟩
theorem Inv.fresh (I:Inv X pins σ H s):H s.heap.objs.size=none:=I.hok.fresh (ζm _)
theorem Inv.lstM (I:Inv X pins σ H s) (hH:H l=some (.lst xs)):xs.length≤sizeLine∧∃ (its:List Value) (n:Nat),Vals xs its∧xs.length=its.length∧s.heap.get? l=some { cls:=.type "list", data:=.seq its.toArray n }:=by
 obtain ⟨z,its,n,r,e⟩:=I.hok l _ hH
 exact ⟨z,its,n,r,r.length,e⟩
theorem zaw {n:Nat} (h:n≤sizeLine):Builtin.List.listTooLong n=false:=by
 unfold Builtin.List.listTooLong
 exact decide_eq_false (by omega)
end
section
variable {X:Cx}
def y8:V→List V→Hp→VK→Prop:=fun x vs H Q=>∃ l xs y,x=.ref l∧vs=[y]∧H l=some (.lst xs)∧xs.length < sizeLine∧Q .non (upd H l (.lst (xs ++ [y])))
theorem zV:MtM X "list.append" y8:=by
 intro pins s σ H x vs v us Q I rx rv h
 obtain ⟨l,xs,y,rfl,rfl,hH,hz,q⟩:=h
 cases rx
 obtain ⟨u,rfl,ru⟩:=rv.one
 obtain ⟨z,its,n,r,hl,e⟩:=I.lstM hH
 refine call_meets F.slot_list_append ⟨_,e,rfl⟩ F.entry_list_append (F.args_list_append_2 _ _) (PySem.list_append l its.toArray n u (by rw [ζP]; omega)) ⟨e,?_⟩
 refine ⟨.non,_,I.lset (its':=its ++ [u]) hH e (by simp) (r.append (.cons ru .nil)) ?_,rfl,q⟩
 rw [ζj,List.length_singleton]
 omega
def rRep:R2:=fun x y H Q=>∃ l k xs,x=.ref l∧y=.int k∧H l=some (.lst xs)∧-(2 ^ 63)≤k∧k < 2 ^ 63∧xs.length * k.toNat≤sizeLine ∧
 ∀ p,H p=none→Q (.ref p) (upd H p (.lst (List.replicate k.toNat xs).flatten))
theorem zce {α:Type} (xs:List α) (k:Nat):(List.replicate k xs).flatten.length=k * xs.length:=by
 induction k with
 | zero=>simp
 | succ k ih=>rw [ζ5,ξt,ζj,ih,Nat.succ_mul,Nat.add_comm]
theorem zaq:OpR X (binaryOp .Mult) rRep:=by
 intro pins s σ H x y v u Q I rx ry h
 obtain ⟨l,k,xs,rfl,rfl,hH,h1,h2,hz,q⟩:=h
 cases rx
 obtain ⟨t,rfl⟩:=ry
 obtain ⟨z,its,n,r,hl,e⟩:=I.lstM hH
 have hlen:its.toArray.size * k.toNat≤sizeLine:=by rw [ζP,← hl]; exact hz
 have hcap:¬ its.toArray.size * k.toNat > (2 ^ 63 - 1) / 8:=by
  have:(sizeLine:Nat)≤(2 ^ 63 - 1) / 8:=by decide
  omega
 have hfit:¬ (!Builtin.List.listFitsIndex k)=true:=by
  rw [fitsIndex_both h1 h2]
  exact ζC
 have hlong:¬ Builtin.List.listTooLong (its.toArray.size * k.toNat)=true:=by
  rw [zaw hlen]
  exact ζC
 have hnew:List.foldl (fun x1 x2=>x1 ++ x2) #[] (List.replicate (if its.toArray.isEmpty=true then 0 else k.toNat) its.toArray)=(List.replicate k.toNat its).flatten.toArray:=by
  have f0:∀ m:Nat,List.foldl (fun x1 x2=>x1 ++ x2) #[] (List.replicate m its.toArray)=(List.replicate m its).flatten.toArray:=fun m=>by
   have:=Y1 its m []
   rw [List.nil_append] at this
   exact this
  rw [f0]
  cases its with
  | nil=>simp
  | cons a r'=>rw [if_neg (by simp)]
 refine wpAny_binaryOp_repeat_ref (T := "list") (U := "int") (by decide) ⟨_,e,rfl⟩ (fun s'=>typeIs_int s' k t) noFill_list_mul F.fills_int_mul F.slot_int_rmul repeat_list F.slot_int_index.lookup
  (call_meets F.slot_int_rmul (typeIs_int s k t) F.entry_int_rmul (F.args_int_rmul_2 _ _) (int___rmul___int_list k t l its.toArray n)
   ⟨e,rfl,⟨_,e,rfl⟩,call_meets F.slot_list_mul ⟨_,e,rfl⟩ F.entry_list_mul (F.args_list_mul_2 _ _) (AutoListH.list___mul___list_int_3 l its.toArray n k t hfit hcap hlong) ⟨e,?_⟩⟩)
 rw [hnew]
 exact ⟨.ref _,_,I.lnew (t':=s.toks) (r.rep k.toNat) (by rw [zce,Nat.mul_comm]; exact hz),rfl,q _ I.fresh⟩
end
section
variable {prog:Program} {w:World} {A:Around} {E:Value→Shared→Prop} {s:Shared}
end
section
variable {X:Cx}
end
end L2
namespace Att
open PySem PySem.W PySem.Calls PyProof.Rows
theorem t8 {P:Params} {h:Heap}:∀ (ns:List Int) (vs:List Value),WellAll P h vs (ns.map WData.int)→IntsAre vs ns:=by
 intro ns
 induction ns with
 | nil =>
  intro vs w
  rw [List.map_nil] at w
  cases w
  exact .nil
 | cons n ns ih =>
  intro vs w
  rw [ζT] at w
  cases w with
  | cons a b =>
   cases a
   exact .cons _ _ (ih _ b)
theorem TZ {l:OpenLaw} {n:Nat} (hn:l.most=some n) {P:Params} {h:Heap} {args:List WData} {vals:List Value}
  (hpre:l.row.toRowW.claim.pre args=true) (hwl:WellAll P h vals args) :
  ∃ a vs ns,vals=[Value.ref a]∧args=[WData.list (ns.map WData.int)]∧h.get? a=some { cls:=.type "list", data:=.seq vs.toArray }∧IntsAre vs ns∧ns.length≤n:=by
 have hsh:WShape.hasAll [] args [.list .int]=true:=(pre_splitW hpre).1
 have hc:l.pre.holds [] { args:=args }=true:=(pre_splitW hpre).2
 obtain ⟨d,r,rfl,h1,h2⟩:=hasAllW_cons hsh
 obtain rfl:=hasAllW_nil h2
 obtain ⟨xs,rfl,h3⟩:=hasW_list h1
 obtain ⟨ns,rfl⟩:=items_int h3
 have hlen:ns.length≤n:=by
  unfold OpenLaw.pre at hc
  have h4:(WTm.not (.lt (.lit (.int (n:Int))) (.len (.arg 0)))).holds [] { args:=[.list (ns.map .int)] }=true:=by
   have h4:=(holds_andW hc).1
   rw [hn] at h4
   exact h4
  have h5:=condW_of h4 (w_not (w_lt w_lit (w_len_list (w_arg rfl))))
  rw [ζa] at h5
  refine Nat.le_of_not_lt fun q=>?_
  have q':(n:Int) < ((ns.length:Nat):Int):=by omega
  first
   | (rw [decide_eq_true q'] at h5; exact absurd h5 (by decide))
   | (simp at h5; omega)
 cases hwl with
 | cons w1 w2 =>
  cases w2
  cases w1 with
  | list ho hall=>exact ⟨_,_,ns,rfl,rfl,ho,t8 ns _ hall,hlen⟩
theorem T5 (l:OpenLaw) (args:List WData):l.row.toRowW.claim.post args (.bool true) args=true :=
 postW_of (r:=l.row.toRowW) (X:=(true == true))
  (show WShape.has [] (.bool true) .bool=true by first | rfl | decide | simp [WShape.has,WShape.arms,WShape.armsAll])
  (show (WTm.eq .res (.lit (.bool true))).value [] { args:=args,res:=some (.bool true),after:=args }=some (.bool (true == true)) from w_eq_bool (w_res rfl) w_lit) rfl
theorem VP {l:OpenLaw} {n:Nat} {q:Program} {loose:List Str} {XP:(Str→Option Value)→Heap→Prop} {YP:World→Heap→Prop} {d:DefRec}
  (hn:l.most=some n) (hdf:d.params.defaults=[])
  (call:∀ (w:World) (s₀ s₁:Shared) (mg mb:Str→Option Value) (fa:Addr) (o:Obj) (pm cd doc:Value) (a:Addr) (vs:List Value) (ns:List Int),
   Ground q loose [] XP w s₀ mg mb s₁.heap→YP w s₁.heap →
   s₁.heap.get? fa=some o→o.data=.func (docDef d.name d.params d.body d.scope pm cd doc)→s₁.heap.CodeRec cd d.name→mg d.name=some (.ref fa) →
   s₁.heap.get? a=some { cls:=.type "list", data:=.seq vs.toArray }→IntsAre vs ns→ns.length≤n→s₁.gens=#[] →
   codeAny (model l.prog w) callerA (.call (.ref fa) ⟨[.ref a],[]⟩) (fun r s'=>r=.ok (.ret (.bool true))∧OldK s₁.heap s'.heap∧s'.os=s₁.os∧AllBare s'.gens) s₁) :
  WalkO q loose XP YP l.row.toRowW d [] (fun f vs=>PySem.call f vs):=by
 intro w s₀ s₁ mg mb G Y fa o pm cd doc dV kV ho hd hcd hD hmg hg args vals as hpre hlay hrd hwl hlo
 obtain rfl:dV=.none:=Dflts.none hD hdf
 obtain rfl:kV=.none:=Dflts.noKw hD
 obtain ⟨a,vs,ns,rfl,rfl,hobj,hints,hlen⟩:=TZ hn hpre hwl
 refine enter_call (codeAny_mono (call w s₀ s₁ mg mb fa o pm cd doc a vs ns G Y ho (fd_plain hd) hcd hmg hobj hints hlen hg) fun r s' hq=>?_)
 obtain ⟨rfl,h2,h3,h4⟩:=hq
 exact ⟨.inl ⟨.bool true,.bool true,[],rfl,fun _=>rfl,.bool true,T5 l _,fun _=>⟨List.Pairwise.nil,fun _ hm=>(nomatch hm)⟩⟩,h2,h3,h4⟩
section
variable {prog:Program} {w:World} {A:Around} {E:Value→Shared→Prop} {s:Shared} {K:Frag}
end
end Att
namespace L2
open PySem PySem.Spec PyProof.Rows
theorem YK:∀ {vs:List Value} {ns:List Int},IntsAre vs ns→Vals (ns.map V.int) vs
 | _,_,.nil=>.nil
 | _,_,.cons n t h=>.cons ⟨t,rfl⟩ (YK h)
theorem V0 {K:ζb} {p:Addr×Str} (h:p∈yS K):∃ c o vs,K.lookup c=some o∧o.cls=.type "code" ∧ o.data=.fields vs∧vs[11]?=some (.ref p.1):=by
 obtain ⟨⟨c,_⟩,_,e⟩:=ξd.mp h
 obtain ⟨o,e1,e2⟩:=Option.bind_eq_some_iff.mp e
 unfold zcM at e2
 split at e2
 ·rename_i vs h1 h2
  split at e2
  ·rename_i q t P h3 h4
   split at e2
   ·cases e2
    exact ⟨c,o,vs,e1,h1,h2,h4⟩
   ·cases e2
  ·cases e2
 ·cases e2
theorem zaH {P:Program} {w:World} {K:ζb} {mg mb:Str→Option Value} {CX:CXT} {k:Nat} {fa a:Addr} {fd:FuncData} {x:Str} {sp:Sp} {s₁:Shared} {vs:List Value} {ns:List Int}
  (KX:K.In s₁.heap) (hT0:(∀ p∈yS K,s₁.heap.get? p.1=some (PySem.W.tabObj #[]))∧Xi K=true)
  (hbm:∃ bm ob,mg "__builtins__" = some (.ref bm)∧bm≠builtinsNs∧s₁.heap.get? bm=some ob∧ob.cls=.type "module" ∧ ob.dict=some builtinsNs∧ob.data=.plain)
  (hns:s₁.heap.Ns mainGlobals mg) (hb:s₁.heap.Ns builtinsNs mb) (hbb:∀ x:Str,x ≠ "__name__" → mb x=bootBuiltins x) (hlim:s₁.heap.NoLimit) (hg:s₁.gens=#[])
  (ha:s₁.heap.get? a=some { cls:=.type "list", data:=.seq vs.toArray }) (hi:IntsAre vs ns) (hl:ns.length≤sizeLine) (hr:Room k callerA)
  (F:∀ base:Heap,K.In base→base.Ns mainGlobals mg→FnOk P w K mg base CX k fa fd [x] sp) (hbind:∀ (s:Shared) (u:Value),BindsTo s fd ⟨[u],[]⟩ [(x,u)])
  (hsp:∀ H:Hp,SqL K H a (ns.map V.int)→sp [.ref a] H (fun v _=>v=.bl true) fun _ _ _=>False)
  (hCX:∀ H e s',CX [] H s₁ (fun _ _ _=>False) e s'→False) :
  codeAny (model P w) callerA (.call (.ref fa) ⟨[.ref a],[]⟩) (fun r s'=>r=.ok (.ret (.bool true))∧OldK s₁.heap s'.heap∧s'.os=s₁.os∧AllBare s'.gens) s₁:=by
 have uq:=hT0.2
 unfold Xi at uq
 have hT:∀ p∈yS K,s₁.heap.get? p.1=some (PySem.W.tabObj #[])∧K.lookup p.1=none:=fun p hp=>⟨hT0.1 p hp,by
  have:=ζ9.mp uq p hp
  simp only [Bool.and_eq_true] at this
  exact Option.isNone_iff_eq_none.mp this.1⟩
 have one:∀ p q:Addr×Str,p∈yS K→q∈yS K→p.1=q.1→p.2=q.2:=fun p q hp hq e=>by
  have:=ζ9.mp uq p hp
  simp only [Bool.and_eq_true] at this
  have:=ζ9.mp this.2 q hq
  simpa [e] using this
 have rv:=YK hi
 have lenV:=hi.length
 have core:∀ H:Hp,SqL K H a (ns.map V.int)→HOk P w H s₁.heap→(∀ b,H b=none∨(b=a∧∃ o xs,H b=some (.frz o (.lst xs)))∨∃ p∈yS K,b=p.1∧∃ ps,H b=some (.tbl ps))→(H a≠none→K.lookup a=none)→TbOk K H →
   codeAny (model P w) callerA (.call (.ref fa) ⟨[.ref a],[]⟩) (fun r s'=>r=.ok (.ret (.bool true))∧OldK s₁.heap s'.heap∧s'.os=s₁.os∧AllBare s'.gens) s₁:=by
  intro H hS hok hA hK hTb
  have base_of:∀ {b:Addr} {o:Obj},s₁.heap.get? b=some o→H b=none→(hidT s₁.heap H).get? b=some o:=fun e n=>zaR e n
  have noA:∀ {b:Addr} {o:Obj},s₁.heap.get? b=some o→(∀ vs:Array Value,∀ n,o.data≠.seq vs n)→(∀ vs,o.data≠.fields vs)→H b=none:=fun {b o} e d1 d2=>by
   rcases hA b with z | ⟨rfl,_⟩ | ⟨p,hp,rfl,_⟩
   ·exact z
   ·rw [ha] at e; cases e
    exact absurd rfl (d1 _ _)
   ·rw [(hT p hp).1] at e; cases e
    exact absurd rfl (d2 _)
  have nsK:∀ {b:Addr} {m:Str→Option Value},s₁.heap.Ns b m→(hidT s₁.heap H).Ns b m:=fun {b m} ⟨o,es,ep,e,d,r⟩=>⟨o,es,ep,base_of e (noA e (fun _ _ z=>by rw [d] at z; cases z) fun _ z=>by rw [d] at z; cases z),d,r⟩
  have hKb:K.In (hidT s₁.heap H):=fun b o e=>base_of (KX b o e) (by
   rcases hA b with z | ⟨rfl,_,_,z⟩ | ⟨p,hp,rfl,_⟩
   ·exact z
   ·rw [hK (by rw [z]; simp)] at e; cases e
   ·rw [(hT p hp).2] at e; cases e)
  have hM:Mod K mg (hidT s₁.heap H):=⟨hKb,nsK hns,⟨mb,nsK hb,hbb⟩,let ⟨mc,h1,h2⟩:=hlim; ⟨mc,nsK h1,h2⟩,let ⟨bm,ob,q1,q2,q3,q4,q5,q6⟩:=hbm; ⟨bm,ob,q1,q2,base_of q3 (noA q3 (fun _ _ z=>by rw [q6] at z; cases z) fun _ z=>by rw [q6] at z; cases z),q4,q5,q6⟩⟩
  have e0:Env0 P w K mg (hidT s₁.heap H) callerA [] s₁ H:=⟨rfl,hM,fun b o e=>zca e,Nat.le_of_eq (Qp _ _),trivial,fun b hb=>absurd (show b∈([]:List Addr) from hb) (by simp),hok,.of_eq hg,hTb⟩
  refine codeAny_mono ((F _ hKb (nsK hns)).run callerA [] s₁ H ⟨[.ref a],[]⟩ [.ref a] [.ref a] _ _ hr e0 (hbind s₁ (.ref a)) (.cons rfl .nil) (hsp H hS)) fun r s' h=>?_
  cases r with
  | error e=>exact (hCX H e s' h).elim
  | ok fl =>
   cases fl with
   | next=>exact False.elim h
   | brk=>exact False.elim h
   | cont=>exact False.elim h
   | ret u =>
    obtain ⟨v,H',os,bare,un,hok',r',q⟩:=h
    have q':v=.bl true:=q
    subst q'
    obtain rfl:u=Value.bool true:=r'
    refine ⟨rfl,⟨fun b o e=>?_,fun b o e=>un.there b o e (by simp)⟩,os,bare⟩
    rcases hA b with z | ⟨rfl,ob,xs,z⟩ | ⟨p,hp,rfl,ps,z⟩
    ·exact .inl (un.keep b o e z (by intro z; exact absurd (show b∈([]:List Addr) from z) (by simp)) (by simp))
    ·have z2:=un.frzs _ ob _ z
     obtain ⟨e1,_⟩:=hok _ _ z
     obtain ⟨e2,_⟩:=hok' _ _ z2
     rw [e] at e1; cases e1
     exact .inl e2
    ·obtain ⟨m,z2⟩:=un.tbls _ _ z
     obtain ⟨vs',e2,_⟩:=hok' _ _ z2
     obtain ⟨c,oc,cs,k1,k2,k3,k4⟩:=V0 hp
     rw [(hT p hp).1] at e
     cases e
     exact .inr (.inl ⟨⟨c,oc,cs,KX _ _ k1,k2,k3,k4⟩,rfl,#[],vs',rfl,by simpa using e2⟩)
 have tabH:∀ {H:Hp} {p:Addr×Str},p∈yS K→yR P w H s₁.heap p.1 (.tbl #[.str p.2 0]):=fun {H p} hp=>⟨#[],(hT p hp).1,trivial,fun q v z=>by cases z⟩
 let HT:Hp:=fun b=>((yS K).find? fun p=>p.1 == b).map fun p=>HO.tbl #[.str p.2 0]
 have HTat:∀ b,HT b=none∨∃ p∈yS K,b=p.1∧HT b=some (.tbl #[.str p.2 0]):=fun b=>by
  cases q:(yS K).find? fun p=>p.1 == b with
  | none=>exact .inl (by show Option.map _ _=none; rw [q]; rfl)
  | some p=>exact .inr ⟨p,List.mem_of_find?_eq_some q,(show p.1=b by have:=List.find?_some q; simpa using this).symm,by show Option.map _ _=_; rw [q]; rfl⟩
 have HTok:TbOk K HT:=fun p hp=>by
  rcases HTat p.1 with z | ⟨q,hq,e,z⟩
  ·exfalso
   have z':Option.map _ ((yS K).find? fun q=>q.1 == p.1)=none:=z
   rw [Option.map_eq_none_iff,List.find?_eq_none] at z'
   exact z' p hp (by simp)
  ·exact ⟨0,#[],by rw [z,one p q hp hq e]; simp⟩
 cases hk:K.lookup a with
 | some o =>
  have e:=KX a o hk
  rw [ha] at e
  cases e
  refine core HT (.inr ⟨_,vs.toArray,_,hk,rfl,rfl,rfl,by rw [List.size_toArray,lenV]; exact hl,by simpa using rv⟩) (fun b u z=>?_) (fun b=>?_) (fun z=>?_) HTok
  ·rcases HTat b with y | ⟨p,hp,rfl,y⟩
   ·rw [y] at z; cases z
   ·rw [y] at z; cases z; exact tabH hp
  ·rcases HTat b with y | ⟨p,hp,e,y⟩
   ·exact .inl y
   ·exact .inr (.inr ⟨p,hp,e,_,y⟩)
  ·rcases HTat a with y | ⟨p,hp,rfl,y⟩
   ·exact absurd y z
   ·exact (hT p hp).2
 | none =>
  have na:∀ p∈yS K,p.1≠a:=fun p hp e=>by
   have:=(hT p hp).1
   rw [e,ha] at this; cases this
  refine core (fun b=>if b=a then some (.frz { cls:=.type "list", data:=.seq vs.toArray } (.lst (ns.map V.int))) else HT b) (.inl (.inr ⟨{ cls:=.type "list", data:=.seq vs.toArray },if_pos rfl⟩)) (fun b u z=>?_) (fun b=>?_) (fun _=>hk) fun p hp=>?_
  ·by_cases hb:b=a
   ·have z':=(if_pos hb).symm.trans z
    cases z'
    subst hb
    exact ⟨ha,by rw [ζa]; exact hl,vs,_,rv,ha⟩
   ·have z':=(if_neg hb).symm.trans z
    rcases HTat b with y | ⟨p,hp,rfl,y⟩
    ·rw [y] at z'; cases z'
    ·rw [y] at z'; cases z'; exact tabH hp
  ·by_cases hb:b=a
   ·exact .inr (.inl ⟨hb,_,_,if_pos hb⟩)
   ·rcases HTat b with y | ⟨p,hp,e,y⟩
    ·exact .inl ((if_neg hb).trans y)
    ·exact .inr (.inr ⟨p,hp,e,_,(if_neg hb).trans y⟩)
  ·obtain ⟨t,m,e⟩:=HTok p hp
   exact ⟨t,m,(if_neg (na p hp)).trans e⟩
theorem zbB {l:PySem.W.OpenLaw} {n k:Nat} {q:Program} {loose:List Str} {XP:(Str→Option Value)→Heap→Prop} {YP:World→Heap→Prop} {d:DefRec} {K:Params→ζb} {CX:World→CXT} {sp:World→Sp} {x:Str}
  (hn:l.most=some n) (hn2:n≤sizeLine) (hdf:d.params.defaults=[]) (hr:Room k callerA)
  (hY:∀ (w:World) (h:Heap),YP w h→(K w.params).In h) (hT:∀ (w:World) (h:Heap),YP w h→(∀ p∈yS (K w.params),h.get? p.1=some (PySem.W.tabObj #[]))∧Xi (K w.params)=true)
  (F:∀ (w:World) (mg:Str→Option Value) (fa:Addr) (h:Heap),(K w.params).In h→h.Ns mainGlobals mg→mg d.name=some (.ref fa) →
   ∃ fd:FuncData,(∀ (s:Shared) (u:Value),BindsTo s fd ⟨[u],[]⟩ [(x,u)]) ∧
    ∀ base:Heap,(K w.params).In base→base.Ns mainGlobals mg→FnOk l.prog w (K w.params) mg base (CX w) k fa fd [x] (sp w))
  (hsp:∀ (w:World) (H:Hp) (a:Addr) (ns:List Int),ns.length≤n→SqL (K w.params) H a (ns.map V.int)→sp w [.ref a] H (fun v _=>v=.bl true) fun _ _ _=>False)
  (hCX:∀ (w:World) (H:Hp) (s:Shared) (e:Value) (s':Shared),CX w [] H s (fun _ _ _=>False) e s'→False) :
  PySem.W.WalkO q loose XP YP l.row.toRowW d [] (fun f vs=>PySem.call f vs):=by
 refine Att.VP hn hdf fun w s₀ s₁ mg mb fa o pm cd doc a vs ns G Y ho hd hcd hmg hobj hints hlen hg=>?_
 have KX:=hY w _ Y
 obtain ⟨fd,hb,hF⟩:=F w mg fa _ KX G.T.g hmg
 exact zaH KX (hT w _ Y) G.T.bmain G.T.g G.T.b G.T.builtins G.T.nolimit hg hobj hints (ζM hlen hn2) hr hF hb (fun H hS=>hsp w H a ns hlen hS) fun H e s'=>hCX w H s₁ e s'
def vL (s:Stmt):Arguments:=match s with
 | .FunctionDef _ a _ _ _ _ _ _ _ _=>a
 | _=>{ posonlyargs:=[],args:=[],vararg:=none,kwonlyargs:=[],kw_defaults:=[],kwarg:=none,defaults:=[] }
def wU (s:Stmt):List Stmt:=match s with
 | .FunctionDef _ _ b _ _ _ _ _ _ _=>b
 | _=>[]
def zm (s:Stmt):Scope:=match s with
 | .FunctionDef _ _ _ _ _ _ sc _ _ _=>sc
 | _=>{ kind:=.function,names:=[],isGenerator:=false,isCoroutine:=false }
abbrev CX0:CXT:=fun _ _ _ _ _ _=>False
abbrev E0:XK:=fun _ _ _=>False
theorem zN {X:Cx}:WA CX0 X E0:=fun _ _ _ _ _ _ _ h=>h.elim
structure Fun (K:ζb) (x qual:Str) (st:Stmt) (f:Addr) (fd:FuncData):Prop where
 ex:∃ (oc:Value) (od:Option Addr) (kV doc pm:Value) (an:Option Addr) (cdv ct:Value) (osl:Array (Option Value)),
  fd=PySem.W.fnOf x qual (vL st) (wU st) (zm st) .none kV doc pm an cdv ct∧K.lookup f=some ⟨oc,od,.func fd,osl⟩∧PySem.W.codeIn K cdv qual=true
 kp:PySem.W.keepIn K (.ref f)=true
section
variable {P:Program} {w:World} {K:ζb} {mg:Str→Option Value} {base:Heap}
theorem Fun.ok {x qual:Str} {st:Stmt} {f:Addr} {fd:FuncData} {N ps:List Str} {k:Nat} {sp:Sp} (F:Fun K x qual st f fd) (S:zB N ps (zm st)) (len:∀ vs H Q E,sp vs H Q E→vs.length=ps.length)
  (hbody:∀ (cdv:Value) (A:Around) (outer:List Env) (s:Shared) (H:Hp) (vs:List V) (Q:VK) (E:XK),Room k (A.deeper (envOfC qual (zm st) s.heap.objs.size f cdv))→sp vs H Q E →
   ∃ t,PSs (cxOf CX0 P w K mg base N qual (zm st) f cdv A outer s H E).nox (wU st) t∧t { nx:=fun _ H'=>Q .non H',rt:=Q } (start N vs) H):FnOk P w K mg base CX0 (k + 1) f fd ps sp:=by
 obtain ⟨oc,od,kV,doc,pm,an,cdv,ct,osl,rfl,lk,hcd⟩:=F.ex
 refine zex lk hcd S len fun A outer s H vs Q E hr hsp=>?_
 obtain ⟨t,h,q⟩:=hbody cdv A outer s H vs Q E hr hsp
 exact ⟨t,h.nox,q⟩
theorem Fun.binds {x qual:Str} {st:Stmt} {f:Addr} {fd:FuncData} {ps:List Str} (F:Fun K x qual st f fd)
  (h:∀ (kV doc pm:Value) (an:Option Addr) (cdv ct:Value) (us:List Value),us.length=ps.length→bindArgs (PySem.W.fnOf x qual (vL st) (wU st) (zm st) .none kV doc pm an cdv ct) ⟨us,[]⟩=pure (ps.zip us)):Z9 K fd ps []:=by
 obtain ⟨oc,od,kV,doc,pm,an,cdv,ct,osl,rfl,lk,hcd⟩:=F.ex
 exact .all (h kV doc pm an cdv ct)
theorem zaS {x qual:Str} {st:Stmt} {f:Addr} {oc:Value} {od an:Option Addr} {osl:Array (Option Value)} {kV doc pm cdv ct:Value} (l:K.lookup f=some ⟨oc,od,.func (PySem.W.fnOf x qual (vL st) (wU st) (zm st) .none kV doc pm an cdv ct),osl⟩)
  (c:PySem.W.codeIn K cdv qual=true) (k:PySem.W.keepIn K (.ref f)=true):Fun K x qual st f (PySem.W.fnOf x qual (vL st) (wU st) (zm st) .none kV doc pm an cdv ct):=⟨⟨oc,od,kV,doc,pm,an,cdv,ct,osl,rfl,l,c⟩,k⟩
end
section
variable {X:Cx}
theorem pv (i:Nat) {x:Str} {pos:Pos} (hN:X.N[i]?=some x:=by rfl) (hv:Vis X.env.scope x:=by first | exact Or.inl rfl | exact Or.inr (Or.inl rfl) | exact Or.inr (Or.inr rfl)) (hd:(x == ("__debug__" : Str))=false:=by decide)
  (hcd:(x == ("__classdict__" : Str))=false:=by decide):PE X (.Name x pos) (tVar i):=zdE hN hv hd hcd
end
theorem iteF {A B:Prop} (h:B):if false=true then A else B:=by
 rw [if_neg ζC]
 exact h
theorem iteT {A B:Prop} (h:A):if true=true then A else B:=by
 rw [if_pos rfl]
 exact h
def Same (H H':Hp):Prop:=∀ b o,H b=some o→H' b=some o
theorem Same.refl (H:Hp):Same H H:=fun _ _ h=>h
theorem Same.trans {H H1 H2:Hp} (a:Same H H1) (b:Same H1 H2):Same H H2:=fun c o h=>b c o (a c o h)
theorem Same.free {H H':Hp} (e:Same H H') {l:Addr} (h:H' l=Option.none):H l=Option.none:=by
 cases q:H l with
 | none=>rfl
 | some o =>
  rw [e l o q] at h
  cases h
theorem Same.seq {K:ζb} {H H':Hp} {a:Addr} {xs:List V} (e:Same H H') (h:SqL K H a xs):SqL K H' a xs:=by
 rcases h with (h | ⟨o,h⟩) | h
 ·exact .inl (.inl (e _ _ h))
 ·exact .inl (.inr ⟨o,e _ _ h⟩)
 ·exact .inr h
end L2
set_option maxHeartbeats 1000000
namespace Sh
theorem T6 {g y:Int} (h:0 < g * y) (g0:0 < g):0 < y:=by
 have h2:g * 0 < g * y:=by rw [Int.mul_zero]; exact h
 exact Int.lt_of_mul_lt_mul_left h2 (by omega)
abbrev co (a b:Int):Prop:=Int.gcd a b=1
theorem zck {a b:Int} (h:0 < b):0 < ((Int.gcd a b:Nat):Int):=by
 have:0 < Int.gcd a b:=Int.gcd_pos_of_ne_zero_right a (by omega)
 omega
theorem zc6 {a b:Int} (hb:0 < b):∃ g x y:Int,((Int.gcd a b:Nat):Int)=g∧0 < g∧a=g * x∧b=g * y∧0 < y∧co x y∧a / g=x∧b / g=y:=by
 have g0:=zck (a:=a) hb
 obtain ⟨x,hx⟩:=Int.gcd_dvd_left a b
 obtain ⟨y,hy⟩:=Int.gcd_dvd_right a b
 refine ⟨_,x,y,rfl,g0,hx,hy,?_,?_,?_,?_⟩
 ·exact T6 (by rw [← hy]; exact hb) g0
 ·have e:Int.gcd (((Int.gcd a b:Nat):Int) * x) (((Int.gcd a b:Nat):Int) * y)=Int.gcd a b:=by rw [← hx,← hy]
  rw [Int.gcd_mul_left] at e
  have e2:(((Int.gcd a b:Nat):Int)).natAbs=Int.gcd a b:=Int.natAbs_natCast _
  rw [e2] at e
  have p:0 < Int.gcd a b:=by omega
  have e3:Int.gcd a b * Int.gcd x y=Int.gcd a b * 1:=by rw [e,Nat.mul_one]
  exact Nat.eq_of_mul_eq_mul_left p e3
 ·conv=>lhs; lhs; rw [hx]
  exact Int.mul_ediv_cancel_left x (by omega)
 ·conv=>lhs; lhs; rw [hy]
  exact Int.mul_ediv_cancel_left y (by omega)
def mk (a b:Int):Int×Int:=(a / (Int.gcd a b:Nat),b / (Int.gcd a b:Nat))
def pl (a b c d:Int):Int×Int :=
 let g:Int:=(Int.gcd b d:Nat)
 let t:=a * (d / g) + c * (b / g)
 let r:Int:=(Int.gcd t g:Nat)
 (t / r,(b / g) * (d / r))
theorem zai {m n:Nat} (h:m≤n):2 ^ m≤2 ^ n:=Nat.pow_le_pow_right (by decide) h
theorem up {a:Int} {m n:Nat} (h1:a.natAbs < 2 ^ m) (h:m≤n):a.natAbs < 2 ^ n:=ζB h1 (zai h)
end Sh
namespace Wd
def digs:List Int→Int→List Int
 | [],_=>[]
 | s :: r,p=>(p % s) :: digs r (p / s)
def prod:List Int→Int
 | []=>1
 | s :: r=>s * prod r
def rk:List Int→List Int→Int
 | s :: r,d :: e=>rk r e * s + d
 | _,_=>0
theorem uR:∀ (ss:List Int) (p:Int),(digs ss p).length=ss.length
 | [],_=>rfl
 | _ :: r,p=>congrArg (· + 1) (uR r _)
theorem uC:∀ {ss:List Int},(∀ s∈ss,0 < s)→0 < prod ss
 | [],_=>by decide
 | s :: r,h=>Int.mul_pos (h s ζi) (uC fun x hx=>h x (ζk _ hx))
theorem U3:∀ {ss:List Int} {p:Int},(∀ s∈ss,0 < s)→0≤p→p < prod ss→rk ss (digs ss p)=p
 | [],p,_,h0,h1=>by
  have:p < 1:=h1
  show (0:Int)=p
  omega
 | s :: r,p,h,h0,h1=>by
  have hs:0 < s:=h s ζi
  have hlt:p / s < prod r:=Int.ediv_lt_of_lt_mul hs (by rw [Int.mul_comm]; exact h1)
  have ih:=U3 (ss:=r) (p:=p / s) (fun x hx=>h x (ζk _ hx)) (Int.ediv_nonneg h0 (by omega)) hlt
  show rk r (digs r (p / s)) * s + p % s=p
  rw [ih,Int.mul_comm]
  exact Int.mul_ediv_add_emod p s
def rkF (ss ws:List Int):Int:=(ss.zip ws).foldl (fun a x=>a * x.1 + x.2) 0
theorem W2:∀ (ss ws:List Int),rk ss ws=(ss.zip ws).foldr (fun x a=>a * x.1 + x.2) 0
 | [],_=>by rw [List.zip_nil_left]; rfl
 | _ :: _,[]=>by rw [List.zip_nil_right]; rfl
 | s :: r,w :: e=>by
  show rk r e * s + w=_
  rw [W2 r e]
  rfl
theorem UK {α β:Type}:∀ {a:List α} {b:List β},a.length=b.length→a.reverse.zip b.reverse=(a.zip b).reverse
 | [],[],_=>rfl
 | x :: a,y :: b,h=>by
  have h':a.length=b.length:=by simpa using h
  rw [List.reverse_cons,List.reverse_cons,List.zip_append (by simpa using h'),UK h']
  simp
theorem zbU {ss ws:List Int} (h:ss.length=ws.length):rkF ss.reverse ws.reverse=rk ss ws:=by
 unfold rkF
 rw [UK h,List.foldl_reverse,W2]
def wld (ss:List Int) (p:Int):List Int:=(digs ss.reverse p).reverse
theorem vT:∀ (a b:List Int),prod (a ++ b)=prod a * prod b
 | [],b=>(Int.one_mul _).symm
 | s :: r,b=>by
  show s * prod (r ++ b)=s * prod r * prod b
  rw [vT r b,Int.mul_assoc]
theorem W9:∀ (a:List Int),prod a.reverse=prod a
 | []=>rfl
 | s :: r=>by
  rw [ξh,vT,W9 r]
  show prod r * (s * 1)=s * prod r
  rw [Int.mul_one,Int.mul_comm]
theorem UN (ss:List Int) (p:Int):(wld ss p).length=ss.length:=by unfold wld; rw [List.length_reverse,uR,List.length_reverse]
theorem zbT {ss:List Int} {p:Int} (h:∀ s∈ss,0 < s) (h0:0≤p) (h1:p < prod ss):rkF ss (wld ss p)=p:=by
 have e:ss=ss.reverse.reverse:=(List.reverse_reverse ss).symm
 conv=>lhs; arg 1; rw [e]
 unfold wld
 rw [zbU (by rw [uR])]
 exact U3 (fun s hs=>h s (ξ9.mp hs)) h0 (by rw [W9]; exact h1)
def rng (n:Nat):List Int:=(List.range n).map fun (i:Nat)=>(i:Int)
def chs (s:Int) (k:Option Int):List Int:=(rng s.toNat).filter fun v=>match k with | none=>true | some x=>decide (v=x)
def grow (hs:List (List Int)) (cs:List Int):List (List Int):=hs.flatMap fun h=>cs.map fun c=>h ++ [c]
def wbyF (fd:List (List Int)):List (Int×Option Int)→List (List Int)
 | []=>fd
 | x :: r=>wbyF (grow fd (chs x.1 x.2)) r
def wby (ss:List Int) (vw:List (Option Int)):List (List Int):=wbyF [[]] (ss.zip vw)
theorem uY:∀ (l:List (Int×Option Int)) (fd:List (List Int)) (x:Int×Option Int),wbyF fd (l ++ [x])=grow (wbyF fd l) (chs x.1 x.2)
 | [],_,_=>rfl
 | y :: r,fd,x=>uY r (grow fd (chs y.1 y.2)) x
theorem uN (hs:List (List Int)) (cs:List Int):(grow hs cs).length=hs.length * cs.length:=by
 induction hs with
 | nil=>simp [grow]
 | cons h r ih =>
  show ((cs.map fun c=>h ++ [c]) ++ grow r cs).length=_
  rw [ζj,ζa,ih,ζL,Nat.succ_mul,Nat.add_comm]
theorem TM (s:Int) (k:Option Int):(chs s k).length≤s.toNat:=by
 refine ζM (ξl _ _) ?_
 unfold rng
 rw [ζa,ζz]
 exact ζm _
theorem zbs (s:Int):chs s none=rng s.toNat:=by
 unfold chs
 rw [List.filter_eq_self]
 intro a _
 rfl
theorem YZ (hs:List (List Int)) (h:List Int) (cs:List Int):grow (hs ++ [h]) cs=grow hs cs ++ cs.map fun c=>h ++ [c]:=by
 unfold grow
 rw [List.flatMap_append]
 simp
theorem u6 (ss:List Int) (s:Int):prod (ss ++ [s])=prod ss * s:=by
 rw [vT]
 show prod ss * (s * 1)=_
 rw [Int.mul_one]
theorem T4 (n s:Nat) {α:Type} (f:Nat→α):(List.range (n * s)).map f=(List.range n).flatMap fun q=>(List.range s).map fun r=>f (q * s + r):=by
 induction n with
 | zero=>simp
 | succ n ih =>
  rw [Nat.succ_mul,List.range_add,ζE,ih,ξX,List.flatMap_append]
  congr 1
  simp
def wds (ss:List Int):List (List Int):=(rng (prod ss).toNat).map fun i=>wld ss i
theorem WD (ss:List Int) (s p:Int):wld (ss ++ [s]) p=wld ss (p / s) ++ [p % s]:=by
 unfold wld
 rw [List.reverse_append]
 show (digs (s :: ss.reverse) p).reverse=_
 show ((p % s) :: digs ss.reverse (p / s)).reverse=_
 rw [ξh]
theorem WE {ss:List Int} {s:Int} (h:∀ x∈ss,0 < x) (hs:0 < s):wds (ss ++ [s])=grow (wds ss) (rng s.toNat):=by
 have pp:=uC h
 have e:(prod (ss ++ [s])).toNat=(prod ss).toNat * s.toNat:=by
  rw [u6]
  have h1:prod ss=((prod ss).toNat:Int):=by omega
  have h2:s=(s.toNat:Int):=by omega
  conv=>lhs; rw [h1,h2,← ξL]
  rw [ζI]
 unfold wds rng grow
 rw [e,ζr,T4,ζr]
 simp only [List.flatMap_map,List.map_map]
 congr 1
 funext q
 refine ζK fun r hr=>?_
 have hr':r < s.toNat:=ζQ.mp hr
 show wld (ss ++ [s]) ((q * s.toNat + r:Nat):Int)=wld ss (q:Int) ++ [(r:Int)]
 rw [WD]
 have h2:((q * s.toNat + r:Nat):Int)=(r:Int) + s * (q:Int):=by
  have:s=(s.toNat:Int):=by omega
  conv=>rhs; rw [this]
  rw [ζ2,ξL,Int.mul_comm,Int.add_comm]
 rw [h2,Int.add_mul_ediv_left _ _ (by omega),Int.add_mul_emod_self_left,Int.ediv_eq_zero_of_lt (by omega) (by omega),ξ3 (by omega) (by omega),Int.zero_add]
theorem zbA:∀ (n:Nat) (ss:List Int),ss.length=n→(∀ x∈ss,0 < x)→wby ss (List.replicate n none)=wds ss:=by
 intro n
 induction n with
 | zero =>
  intro ss h _
  have e:ss=[]:=ξT h
  subst e
  rfl
 | succ n ih =>
  intro ss h hp
  obtain ⟨t,s,rfl⟩:∃ t s,ss=t ++ [s]:=⟨ss.dropLast,ss.getLast (by intro e; rw [e] at h; cases h),(ξx _).symm⟩
  have hl:t.length=n:=by rw [List.length_append] at h; simpa using h
  have e:(t ++ [s]).zip (List.replicate (n + 1) (none:Option Int))=t.zip (List.replicate n none) ++ [(s,none)]:=by
   rw [List.replicate_succ',List.zip_append (by rw [hl,ξc])]
   rfl
  unfold wby
  rw [e,uY]
  have ih':=ih t hl fun x hx=>hp x (ζ7 _ hx)
  unfold wby at ih'
  rw [ih',zbs]
  exact (WE (fun x hx=>hp x (List.mem_append_left _ hx)) (hp s (by simp))).symm
theorem XB (n:Nat):(rng n).length=n:=by unfold rng; rw [List.length_map,List.length_range]
theorem U2 {n i:Nat} (h:i < n):(rng n)[i]?=some (i:Int):=by
 unfold rng
 rw [ζl,ζV h]
 rfl
theorem Za (ss:List Int):(wds ss).length=(prod ss).toNat:=by unfold wds; rw [List.length_map,XB]
theorem UO {ss:List Int} {i:Nat} (h:i < (prod ss).toNat):(wds ss)[i]?=some (wld ss i):=by
 unfold wds
 rw [ζl,U2 h]
 rfl
def nxt:List Int→List Int→Option (List Int)
 | s :: r,d :: e=>if d + 1 < s then some ((d + 1) :: e) else (nxt r e).map fun x=>0 :: x
 | _,_=>none
end Wd
namespace L2
open PySem PySem.Spec PyProof.Rows PySem.SeqAt
section
variable {X:Cx}
theorem xu:OpR X (binaryOp .Mult) (rI IntMulOk fun i j=>.int (i * j)):=opI fun _ _ _ _ _ _ _ hc q=>mul_int q hc
def rIsi (K:ζb):List V→Hp→VK→Prop:=fun xs H Q=>∃ x T t b,xs=[x,.ty T]∧TyOf K H x t∧PySem.W.kitOne K t (.type T)=some b∧Q (.bl b) H
theorem zbu:yB X (.builtin "isinstance") (rIsi X.K):=by
 intro pins s σ H xs us Q I r h
 obtain ⟨x,T,t,b,rfl,ty,e,q⟩:=h
 obtain ⟨u,v,rfl,ru,rv⟩:=r.two
 cases (show v=Value.type T from rv)
 exact Qn I ru ty e fun tk=>⟨.bl b,H,I.tok tk,rfl,q⟩
mutual
inductive Dp (K:ζb) (H:Hp):V→PyData→Prop
 | non:Dp K H .non .none
 | bl (b:Bool):Dp K H (.bl b) (.bool b)
 | int (i:Int):Dp K H (.int i) (.int i)
 | str (x:Str):Dp K H (.str x) (.str x)
 | lst {a:Addr} {xs:List V} {ds:List PyData}:SqL K H a xs→zT K H xs ds→Dp K H (.ref a) (.list ds)
 | tup {a:Addr} {xs:List V} {ds:List PyData}:SqT K H a xs→zT K H xs ds→Dp K H (.ref a) (.tuple ds)
inductive zT (K:ζb) (H:Hp):List V→List PyData→Prop
 | nil:zT K H [] []
 | cons {v:V} {vs:List V} {d:PyData} {ds:List PyData}:Dp K H v d→zT K H vs ds→zT K H (v :: vs) (d :: ds)
end
mutual
theorem Dp.reads {pins:List (Addr×Obj)} {σ:St} {H:Hp} {s:Shared} (I:Inv X pins σ H s):∀ {x:V} {d:PyData} {u:Value},Dp X.K H x d→RelV x u→∃ as,Reads s.heap u d as
 | _,_,u,.non,r=>by cases (show u=Value.none from r); exact ⟨_,.none⟩
 | _,_,u,.bl b,r=>by cases (show u=Value.bool b from r); exact ⟨_,.bool b⟩
 | _,_,u,.int i,r=>by obtain ⟨t,e⟩:=(show ∃ t,u=Value.int i t from r); subst e; exact ⟨_,.int i t⟩
 | _,_,u,.str x,r=>by obtain ⟨t,e⟩:=(show ∃ t,u=Value.str x t from r); subst e; exact ⟨_,.str x t⟩
 | _,_,u,@Dp.lst _ _ a xs ds h k,r=>by
  cases (show u=Value.ref a from r)
  obtain ⟨its,rv,⟨o,n,e,c,_,d⟩,_⟩:=I.list h
  obtain ⟨as,ra⟩:=zT.reads I k rv
  exact ⟨_,.list e c d (by simpa using ra)⟩
 | _,_,u,@Dp.tup _ _ a xs ds h k,r=>by
  cases (show u=Value.ref a from r)
  obtain ⟨its,rv,⟨o,e,c,n,d⟩,_⟩:=I.tuple h
  obtain ⟨as,ra⟩:=zT.reads I k rv
  exact ⟨_,.tuple e c d (by simpa using ra)⟩
theorem zT.reads {pins:List (Addr×Obj)} {σ:St} {H:Hp} {s:Shared} (I:Inv X pins σ H s):∀ {xs:List V} {ds:List PyData} {us:List Value},zT X.K H xs ds→Vals xs us→∃ as,ReadsAll s.heap us ds as
 | _,_,_,.nil,.nil=>⟨_,.nil⟩
 | _,_,_,.cons h k,.cons r t=>by
  obtain ⟨as,ra⟩:=Dp.reads I h r
  obtain ⟨bs,rb⟩:=zT.reads I k t
  exact ⟨_,.cons ra rb⟩
end
def rEqD (K:ζb) (neg:Bool):R2:=fun x y H Q=>∃ d e,Dp K H x d∧Dp K H y e∧shaped d=true∧shaped e=true∧Q (.bl (if neg then !PyData.eqv d e else PyData.eqv d e)) H
theorem zdK (hu:X.A.units + 64 < cLine):OpR X (compareOp .Eq) (rEqD X.K false):=by
 intro pins s σ H x y v u Q I rx ry h
 obtain ⟨d,e,h1,h2,z1,z2,q⟩:=h
 obtain ⟨as,ra⟩:=h1.reads I rx
 obtain ⟨bs,rb⟩:=h2.reads I ry
 exact eq_dataH ra rb z1 z2 hu ⟨.bl (PyData.eqv d e),H,I,rfl,q⟩
theorem zdG (hu:X.A.units + 64 < cLine):OpR X (compareOp .NotEq) (rEqD X.K true):=by
 intro pins s σ H x y v u Q I rx ry h
 obtain ⟨d,e,h1,h2,z1,z2,q⟩:=h
 obtain ⟨as,ra⟩:=h1.reads I rx
 obtain ⟨bs,rb⟩:=h2.reads I ry
 exact ne_dataH ra rb z1 z2 hu ⟨.bl (!PyData.eqv d e),H,I,rfl,q⟩
theorem Inv.turnNew {pins:List (Addr×Obj)} {σ:St} {H:Hp} {s:Shared} {h':Heap} {fp:List Addr} {T:Addr} {o:HO} {t':Nat} (I:Inv X pins σ H s) (hf:∀ b∈fp,FpOk X pins H b)
  (k:∀ b u,b∉fp→s.heap.get? b=some u→h'.get? b=some u) (hT:s.heap.objs.size≤T) (new:yR X.prog X.w (upd H T o) h' T o):Inv X pins σ (upd H T o) { s with heap:=h',toks:=t' }:=by
 have hn:H T=none:=I.hok.fresh hT
 have nfp:∀ b u,H b=some u→b∉fp:=fun b u e z=>by rw [(hf b z).1] at e; cases e
 have neT:∀ b u,s.heap.get? b=some u→b≠T:=fun b u e=>ζG (ζB (ζn e) hT)
 refine I.step (g':=s.gens) (d':=s.drawn) (ch:=fp) (fun b hb=>⟨(hf b hb).2.2.2.1,(hf b hb).2.1,(hf b hb).2.2.2.2.1,(hf b hb).2.2.2.2.2⟩) (fun b u _ _ hc e _=>k b u hc e) (fun b u _ _ hc e _=>⟨u.slots,k b u hc e⟩)
  (fun b u _ e n=>by rw [zt (neT b u e)]; exact n) (fun b u hc e=>⟨u,k b u hc e⟩) (fun b xs e=>by rw [zt (zK e hn)]; exact e) (fun b u v e=>by rw [zt (zK e hn)]; exact e) (fun b ps e=>⟨#[],by rw [zt (zK e hn),e]; simp⟩)
  (fun m hm=>?_) (fun b u e=>?_) I.bare
 ·obtain ⟨ob,es,ep,ho,r⟩:=hm
  exact ⟨ob,es,ep,k _ ob (fun z=>(hf _ z).2.1 rfl) ho,r⟩
 ·by_cases hb:b=T
  ·subst hb; rw [zp] at e; cases e; exact new
  ·rw [zt hb] at e
   refine (I.hok b u e).stay (fun c v hc q=>k c v ?_ q) (fun c q=>by rw [zt (zK q hn)]; exact q) fun c xs q=>by rw [zt (zK q hn)]; exact q
   rcases hc with z | z
   ·rw [z]; exact nfp b u e
   ·exact nfp c _ z
theorem Inv.turnAll {pins:List (Addr×Obj)} {σ:St} {H:Hp} {s:Shared} {h':Heap} {fp:List Addr} {t':Nat} (I:Inv X pins σ H s) (hf:∀ b∈fp,FpOk X pins H b)
  (k:∀ b u,b∉fp→s.heap.get? b=some u→h'.get? b=some u):Inv X pins σ H { s with heap:=h',toks:=t' }:=by
 have nfp:∀ b u,H b=some u→b∉fp:=fun b u e z=>by rw [(hf b z).1] at e; cases e
 refine I.step (g':=s.gens) (d':=s.drawn) (ch:=fp) (fun b hb=>⟨(hf b hb).2.2.2.1,(hf b hb).2.1,(hf b hb).2.2.2.2.1,(hf b hb).2.2.2.2.2⟩) (fun b u _ _ hc e _=>k b u hc e) (fun b u _ _ hc e _=>⟨u.slots,k b u hc e⟩)
  (fun b u _ e n=>n) (fun b u hc e=>⟨u,k b u hc e⟩) (fun b xs e=>e) (fun b u v e=>e) (fun b ps e=>⟨#[],by rw [e]; simp⟩)
  (fun m hm=>?_) (fun b u e=>?_) I.bare
 ·obtain ⟨ob,es,ep,ho,r⟩:=hm
  exact ⟨ob,es,ep,k _ ob (fun z=>(hf _ z).2.1 rfl) ho,r⟩
 ·refine (I.hok b u e).stay (fun c v hc q=>k c v ?_ q) (fun c q=>q) fun c xs q=>q
  rcases hc with z | z
  ·rw [z]; exact nfp b u e
  ·exact nfp c _ z
end
theorem ad {m n:Nat} (h:m≠n):(show Addr from m)≠(show Addr from n):=h
def Itz (K:ζb) (a b:Addr):It :=
 ⟨fun i H=>∃ xs x ys y,SqL K H a xs∧xs[i]?=some x∧SqL K H b ys∧ys[i]?=some y,
  fun i H x H'=>∃ T u v,H T=none∧x=.ref T∧H'=upd H T (.tup [u,v])∧(∀ xs,SqL K H a xs→xs[i]?=some u)∧∀ ys,SqL K H b ys→ys[i]?=some v,
  fun i H=>∃ xs ys,SqL K H a xs∧SqL K H b ys∧(xs.length≤i∨ys.length≤i)⟩
theorem QO {P:Program} {w:World} {K:ζb} {es:List Expr} {k:Nat} {tpos:Pos} (a b n:Addr) :
  Turn P w K (.Tuple es k tpos) (Itz K a b) [n + 4,n + 2,n + 3,n,n + 1] (n + 4)
   (fun i h=>IsZip h (n + 4) (n + 2) (n + 3) .none∧IsPair h (n + 2) (.ref n) (.ref (n + 1))∧(∃ u v,IsPair h (n + 3) u v)∧h.IsListIter n a i∧h.IsListIter (n + 1) b i) where
 mem:=by simp
 obj:=fun i h st c hc=>by
  obtain ⟨hz,hI,⟨u,v,hO⟩,⟨o1,e1,_,d1⟩,⟨o2,e2,_,d2⟩⟩:=st
  simp only [List.mem_cons,List.not_mem_nil,or_false] at hc
  rcases hc with rfl | rfl | rfl | rfl | rfl
  ·exact ⟨_,hz,fun v z=>by have z':Data.fields _=Data.cell v:=z; cases z'⟩
  ·exact ⟨_,hI,fun v z=>by have z':Data.seq _ _=Data.cell v:=z; cases z'⟩
  ·exact ⟨_,hO,fun v z=>by have z':Data.seq _ _=Data.cell v:=z; cases z'⟩
  ·exact ⟨_,e1,fun v z=>by rw [d1] at z; cases z⟩
  ·exact ⟨_,e2,fun v z=>by rw [d2] at z; cases z⟩
 keep:=fun i h h' st k=>by
  obtain ⟨hz,hI,⟨u,v,hO⟩,h1,h2⟩:=st
  exact ⟨k _ (by simp) _ hz,k _ (by simp) _ hI,⟨u,v,k _ (by simp) _ hO⟩,h1.at fun o e=>k _ (by simp) o e,h2.at fun o e=>k _ (by simp) o e⟩
 item:=by
  intro X hP hw hK hc i pins s σ H E I hf st hg
  subst hP hw hK
  obtain ⟨hz,hI,⟨u0,v0,hO⟩,h1,h2⟩:=st
  obtain ⟨xs,x,ys,y,hxs,hx,hys,hy⟩:=hg
  obtain ⟨its,rx,px,zx⟩:=I.list hxs
  obtain ⟨jts,ry,py,zy⟩:=I.list hys
  obtain ⟨u,hu,ru⟩:=rx.get hx
  obtain ⟨v,hv,rv⟩:=ry.get hy
  have nofp:∀ {c:Addr} {zs:List V},SqL X.K H c zs→∀ d∈[n + 4,n + 2,n + 3,n,n + 1],c≠d:=fun {c zs} hq d hd e=>by
   subst e
   have hn:=(hf c hd).1
   rcases hq with (q | ⟨o,q⟩) | ⟨o,its,m,q,_⟩
   ·rw [hn] at q; cases q
   ·rw [hn] at q; cases q
   ·have hb:X.base.get? c=some o:=I.ok.mod.kin c o q
    rcases (hf c hd).2.2.2.1 with z | z
    ·exact I.ok.noex c o hb z
    ·exact absurd (ζB (ζn hb) (ζM I.ok.bsz z)) (ζ3 _)
  have D:ZipApart (n + 4) (n + 2) (n + 3) n (n + 1) a b:=by
   have na:=nofp hxs
   have nb:=nofp hys
   exact ⟨ad (by omega),ad (by omega),ad (by omega),ad (by omega),ad (by omega),ad (by omega),ad (by omega),ad (by omega),ad (by omega),ad (by omega),na _ (by simp),na _ (by simp),na _ (by simp),na _ (by simp),nb _ (by simp),nb _ (by simp),nb _ (by simp),nb _ (by simp)⟩
  refine wpAny_pyNext_zip_item D hz hI hO h1 h2 px.isList py.isList (x:=u) (y:=v) (by simpa using hu) (by simpa using hv) fun h' z' o' i1' i2' t' sz' kp=>?_
  refine ⟨_,rfl,wpAny_letOwnedTupleGo_zip z' fun h'' z'' sb=>?_⟩
  have kp2:∀ c o,c∉[n + 4,n + 2,n + 3,n,n + 1]→s.heap.get? c=some o→h''.get? c=some o:=fun c o hc e =>
   (sb.2 c (fun z=>hc (by simp [z]))).trans (kp c o (fun z=>hc (by simp [z])) (fun z=>hc (by simp [z])) (fun z=>hc (by simp [z])) (fun z=>hc (by simp [z])) e)
  have lts:∀ c∈[n + 4,n + 2,n + 3,n,n + 1],c < s.heap.objs.size:=fun c hc=>by
   obtain ⟨_,e1,_⟩:=id h1
   obtain ⟨_,e2,_⟩:=id h2
   simp only [List.mem_cons,List.not_mem_nil,or_false] at hc
   rcases hc with rfl | rfl | rfl | rfl | rfl
   ·exact ζn hz
   ·exact ζn hI
   ·exact ζn hO
   ·exact ζn e1
   ·exact ζn e2
  have nez:∀ {c:Addr},c∈[n + 2,n + 3,n,n + 1]→c≠n + 4:=fun {c} hc=>by
   simp only [List.mem_cons,List.not_mem_nil,or_false] at hc
   rcases hc with rfl | rfl | rfl | rfl
   ·exact ad (by omega)
   ·exact ad (by omega)
   ·exact ad (by omega)
   ·exact ad (by omega)
  have tz:s.heap.objs.size≠n + 4:=Nat.ne_of_gt (lts _ (by simp))
  refine ⟨.ref s.heap.objs.size,upd H s.heap.objs.size (.tup [x,y]),I.turnNew (t':=s.toks) hf kp2 (ζm _) ?_,rfl,⟨_,x,y,I.hok.fresh (ζm _),rfl,rfl,fun zs hq=>by rw [I.list_inj hq hxs]; exact hx,fun zs hq=>by rw [I.list_inj hq hys]; exact hy⟩,?_,fun c hc=>?_⟩
  ·refine ⟨by show 2≤sizeLine; decide,[u,v],.cons ru (.cons rv .nil),⟨_,(sb.2 _ tz).trans t',rfl,_,rfl⟩⟩
  ·refine ⟨z'',?_,⟨_,_,(sb.2 _ (nez (by simp))).trans o'⟩,i1'.at fun o e=>(sb.2 _ (nez (by simp))).trans e,i2'.at fun o e=>(sb.2 _ (nez (by simp))).trans e⟩
   exact (sb.2 _ (nez (by simp))).trans (kp _ _ (ad (by omega)) (ad (by omega)) (ad (by omega)) (ad (by omega)) hI)
  ·rw [zt (ζG (lts c hc))]
   exact (hf c hc).1
 done:=by
  intro X hP hw hK hc i pins s σ H E I hf st hg
  subst hP hw hK
  obtain ⟨hz,hI,⟨u0,v0,hO⟩,h1,h2⟩:=st
  obtain ⟨xs,ys,hxs,hys,hl⟩:=hg
  obtain ⟨its,rx,px,zx⟩:=I.list hxs
  obtain ⟨jts,ry,py,zy⟩:=I.list hys
  have nofp:∀ {c:Addr} {zs:List V},SqL X.K H c zs→∀ d∈[n + 4,n + 2,n + 3,n,n + 1],c≠d:=fun {c zs} hq d hd e=>by
   subst e
   have hn:=(hf c hd).1
   rcases hq with (q | ⟨o,q⟩) | ⟨o,its,m,q,_⟩
   ·rw [hn] at q; cases q
   ·rw [hn] at q; cases q
   ·have hb:X.base.get? c=some o:=I.ok.mod.kin c o q
    rcases (hf c hd).2.2.2.1 with z | z
    ·exact I.ok.noex c o hb z
    ·exact absurd (ζB (ζn hb) (ζM I.ok.bsz z)) (ζ3 _)
  have D:ZipApart (n + 4) (n + 2) (n + 3) n (n + 1) a b:=by
   have na:=nofp hxs
   have nb:=nofp hys
   exact ⟨ad (by omega),ad (by omega),ad (by omega),ad (by omega),ad (by omega),ad (by omega),ad (by omega),ad (by omega),ad (by omega),ad (by omega),na _ (by simp),na _ (by simp),na _ (by simp),na _ (by simp),nb _ (by simp),nb _ (by simp),nb _ (by simp),nb _ (by simp)⟩
  have l1:=rx.length
  have l2:=ry.length
  have hend:its.toArray[i]?=none∨jts.toArray[i]?=none:=by
   rcases hl with q | q
   ·left; simp; omega
   ·right; simp; omega
  refine wpAny_pyNext_zip_end (I.ok.hd hc) D hz hI hO h1 h2 px.isList py.isList hend fun h' kp=>⟨rfl,I.turnAll (t':=s.toks) hf fun c o hc e=>kp c o (fun z=>hc (by simp [z])) (fun z=>hc (by simp [z])) (fun z=>hc (by simp [z])) (fun z=>hc (by simp [z])) e⟩
 self:=fun _ _ _ _ _ st h=>wpAny_pyIter_zip st.1 h
section
variable {X:Cx}
def iZip (K:ζb) (ta:TA):TI:=fun σ H R=>ta σ H fun vs H1=>∃ a b,vs=[.ref a,.ref b]∧(∃ xs,SqL K H1 a xs)∧(∃ ys,SqL K H1 b ys)∧R (Itz K a b) H1
theorem zdB {a b:Expr} {ta:TA} {p pos:Pos} {es:List Expr} {k:Nat} {tpos:Pos} (hg:Gl X "zip") (hm:X.mg "zip" = none) (ha:PA X [a,b] ta) (he:starEach (a :: [b]) X.env=(false,eval a X.env) :: starEach [b] X.env:=by rfl)
  (hpl:(backTo pos (starEach [b] X.env)).any (·.1)=false:=by rfl):PI X (.Tuple es k tpos) (.Call (.Name "zip" p) [a,b] [] pos) (iZip X.K ta):=by
 intro pins s σ H R I h
 refine wpAny_Call_Name_kw (uj I hg hm (u:=.type "zip") (by decide +kernel) ?_ (by decide) (by decide))
 refine PyProof.Rows.callWith_type1 (thn (ha pos pins s σ H _ I h) fun us s1 ⟨vs,H1,I1,r1,q1⟩=>?_) he hpl
 obtain ⟨a1,b1,rfl,⟨xs,hx⟩,⟨ys,hy⟩,q⟩:=q1
 obtain ⟨u,v,rfl,ru,rv⟩:=r1.two
 cases (show u=Value.ref a1 from ru)
 cases (show v=Value.ref b1 from rv)
 obtain ⟨its,rx,px,zx⟩:=I1.list hx
 obtain ⟨jts,ry,py,zy⟩:=I1.list hy
 refine call_zip_2 px.isList py.isList fun h' hz hI hO h1 h2 sz kp=>?_
 refine wpAny_pyIter_zip hz ?_
 refine ⟨s1.heap.objs.size + 4,_,_,_,H1,rfl,I1.kept (t':=s1.toks) kp,QO a1 b1 s1.heap.objs.size,⟨hz,hI,⟨_,_,hO⟩,h1,h2⟩,fun c hc=>?_,q⟩
 have hc':s1.heap.objs.size≤c:=by
  simp only [List.mem_cons,List.not_mem_nil,or_false] at hc
  rcases hc with rfl | rfl | rfl | rfl | rfl
  ·exact ζ8 _ _
  ·exact ζ8 _ _
  ·exact ζ8 _ _
  ·exact ζm _
  ·exact ζ8 _ _
 exact I1.fpOk hc' (I1.hok.fresh hc')
end
end L2
namespace L2
open PySem PySem.Spec PyProof.Rows
def Cx.blk (X:Cx) (N:List Str) (scope:Scope) (cl:List (Str×Addr)) (C:Addr) (s:Shared) (H:Hp) (fp:List Addr):Cx :=
 { X with N:=N,s₀:=s,H₀:=H,env:=compEnvC scope cl C X.env,outer:=X.stack,stack:=X.stack,ex:=fp,fn:=fun _=>false,pn:=[],xe:=fun _ _=>False }
def capt (js:List (Option Nat)) (σ:St):St:=js.map fun o=>match o with | none=>none | some j=>(σ[j]?).join
structure vY (X:Cx) (N:List Str) (scope:Scope) (cl:List (Str×Addr)) (js:List (Option Nat)):Prop where
 clos:closureFor scope X.env=pure cl
 nocell:∀ y∈scope.names,y.2≠.cell
 kind:scope.kind=.function
 names:∀ y∈scope.names,y.2=.local→scope.names.lookup y.1=some .local
 cells:∀ p∈cl,X.env.cells.lookup p.1=some p.2
 has:∀ y∈scope.names,y.2=.free→(cl.lookup y.1).isSome=true
 len:js.length=N.length
 cap:∀ (i j:Nat),js[i]?=some (some j)→∃ x,N[i]?=some x∧X.N[j]?=some x∧scope.names.lookup x=some .free∧(X.env.scope.names.lookup x=some .cell∨X.env.scope.names.lookup x=some .free)
def Sub (σ σ':St):Prop:=σ.length=σ'.length∧∀ (i:Nat) v,σ[i]?=some (some v)→σ'[i]?=some (some v)
theorem uA {env:Env} (hk:env.scope.kind=.function):∀ {names:List (Str×NameKind)} {x:Str},names.lookup x=some .free→env.scope.names.lookup x=some .cell →
  (names.map fun (n,k)=>if (k == NameKind.free && env.scope.kind == .function && env.kindOf n == some .cell) then (n,NameKind.cell) else (n,k)).lookup x=some .cell
 | [],_,h,_=>by simp at h
 | (n,k) :: r,x,h,hc=>by
  have ih:=@uA env hk r x
  show List.lookup x ((if (k == NameKind.free && env.scope.kind == .function && env.kindOf n == some .cell)=true then (n,NameKind.cell) else (n,k)) :: _)=_
  cases hx:x == n with
  | true =>
   have e:x=n:=by simpa using hx
   subst e
   simp only [List.lookup_cons,hx] at h
   cases h
   have c:(NameKind.free == NameKind.free && env.scope.kind == .function && env.kindOf x == some .cell)=true:=by
    have q:env.kindOf x=some .cell:=hc
    rw [hk,q]; rfl
   rw [if_pos c,ξS,hx]
  | false =>
   simp only [List.lookup_cons,hx] at h
   by_cases hcc:(k == NameKind.free && env.scope.kind == .function && env.kindOf n == some .cell)=true
   ·rw [if_pos hcc,ξS,hx]; exact ih h hc
   ·rw [if_neg hcc,ξS,hx]; exact ih h hc
theorem uz {env:Env}:∀ {names:List (Str×NameKind)} {x:Str},names.lookup x=some .free→env.scope.names.lookup x=some .free →
  (names.map fun (n,k)=>if (k == NameKind.free && env.scope.kind == .function && env.kindOf n == some .cell) then (n,NameKind.cell) else (n,k)).lookup x=some .free
 | [],_,h,_=>by simp at h
 | (n,k) :: r,x,h,hc=>by
  have ih:=@uz env r x
  show List.lookup x ((if (k == NameKind.free && env.scope.kind == .function && env.kindOf n == some .cell)=true then (n,NameKind.cell) else (n,k)) :: _)=_
  cases hx:x == n with
  | true =>
   have e:x=n:=by simpa using hx
   subst e
   simp only [List.lookup_cons,hx] at h
   cases h
   have q:env.kindOf x=some .free:=hc
   rw [if_neg (by rw [q]; simp),List.lookup_cons,hx]
  | false =>
   simp only [List.lookup_cons,hx] at h
   by_cases hcc:(k == NameKind.free && env.scope.kind == .function && env.kindOf n == some .cell)=true
   ·rw [if_pos hcc,ξS,hx]; exact ih h hc
   ·rw [if_neg hcc,ξS,hx]; exact ih h hc
theorem uB {env:Env}:∀ {names:List (Str×NameKind)} {x:Str},(∀ y∈names,y.2≠.cell) →
  ((names.map fun (n,k)=>if (k == NameKind.free && env.scope.kind == .function && env.kindOf n == some .cell) then (n,NameKind.cell) else (n,k)).lookup x=some .cell ∨
   (names.map fun (n,k)=>if (k == NameKind.free && env.scope.kind == .function && env.kindOf n == some .cell) then (n,NameKind.cell) else (n,k)).lookup x=some .free)→∃ y∈names,y.1=x∧y.2=.free
 | [],_,_,h=>by simp at h
 | (n,k) :: r,x,hn,h=>by
  have ih:=@uB env r x (fun y hy=>hn y (ζk _ hy))
  have h':List.lookup x ((if (k == NameKind.free && env.scope.kind == .function && env.kindOf n == some .cell)=true then (n,NameKind.cell) else (n,k)) :: (r.map fun (n,k)=>if (k == NameKind.free && env.scope.kind == .function && env.kindOf n == some .cell) then (n,NameKind.cell) else (n,k)))=some .cell ∨
   List.lookup x ((if (k == NameKind.free && env.scope.kind == .function && env.kindOf n == some .cell)=true then (n,NameKind.cell) else (n,k)) :: (r.map fun (n,k)=>if (k == NameKind.free && env.scope.kind == .function && env.kindOf n == some .cell) then (n,NameKind.cell) else (n,k)))=some .free:=h
  cases hx:x == n with
  | true =>
   have e:x=n:=by simpa using hx
   subst e
   by_cases hcc:(k == NameKind.free && env.scope.kind == .function && env.kindOf x == some .cell)=true
   ·have kf:k=.free:=by
     cases k <;> first | rfl | (simp at hcc)
    exact ⟨(x,k),ζi,rfl,kf⟩
   ·rw [if_neg hcc] at h'
    simp only [List.lookup_cons,hx] at h'
    rcases h' with q | q
    ·cases q; exact absurd rfl (hn (x,.cell) ζi)
    ·cases q; exact ⟨(x,.free),ζi,rfl,rfl⟩
  | false =>
   by_cases hcc:(k == NameKind.free && env.scope.kind == .function && env.kindOf n == some .cell)=true
   ·rw [if_pos hcc] at h'
    simp only [List.lookup_cons,hx] at h'
    obtain ⟨y,hy,e⟩:=ih h'
    exact ⟨y,ζk _ hy,e⟩
   ·rw [if_neg hcc] at h'
    simp only [List.lookup_cons,hx] at h'
    obtain ⟨y,hy,e⟩:=ih h'
    exact ⟨y,ζk _ hy,e⟩
section
variable {X:Cx} {N:List Str} {scope:Scope} {cl:List (Str×Addr)} {js:List (Option Nat)} {pins:List (Addr×Obj)} {σ:St} {H:Hp} {s:Shared} {fp:List Addr}
theorem QJ (K:vY X N scope cl js) (I:Inv X pins σ H s) (hf:∀ b∈fp,FpOk X pins H b) (hlt:∀ b∈fp,b < s.heap.objs.size) {h1:Heap} {m1:Str→Option Value} {tk:Nat} (hn:h1.Ns s.heap.objs.size m1)
  (hk:∀ b o,s.heap.get? b=some o→h1.get? b=some o) :
  Inv (X.blk N scope cl s.heap.objs.size s H fp) [] (capt js σ) H { s with heap:=h1,toks:=tk }:=by
 have bigC:∀ b∈fp,b≠s.heap.objs.size:=fun b hb=>ζG (hlt b hb)
 have hcl:∀ x c,cl.lookup x=some c→X.env.cells.lookup x=some c:=fun x c e=>K.cells (x,c) (PySem.mem_of_lookup e)
 refine ⟨⟨I.ok.mod,K.kind,I.ok.glob,I.ok.blt,ζm _,fun x y c e1 e2=>I.ok.inj x y c (hcl x c e1) (hcl y c e2),fun x hx=>?_,fun x c z _=>absurd z (by intro q; cases q),I.ok.hd,I.ok.frames,.inl rfl,fun b hb=>⟨bigC b hb,fun x c e=>(hf b hb).2.2.2.2.1 x c (hcl x c e)⟩,
  I.bs,Nat.le_trans I.ok.bsz I.sz,fun b o e hb=>?_,fun b hb z=>?_,I.stack,I.stkFree,I.ok.tb.un I.base⟩,rfl,I.bare,Un.kept hk,⟨m1,hn,fun i x v e1 e2 e3=>?_⟩,fun x c e=>?_,I.hok.fresh (Nat.le_refl _),fun x c e=>(I.freeC x c (hcl x c e)).imp id fun z=>⟨rfl,z.2⟩,fun p hp=>absurd (show p∈([]:List (Addr×Obj)) from hp) (by simp),I.hok.kept hk,?_⟩
 ·obtain ⟨y,hy,e1,e2⟩:=uB K.nocell hx
  have q:=K.has y hy e2
  rw [e1] at q
  exact ξ0.mp q
 ·rcases (hf b hb).2.2.2.1 with z | z
  ·exact I.ok.noex b o e z
  ·exact absurd (ζB (ζn e) (ζM I.ok.bsz z)) (ζ3 _)
 ·rcases ζs.mp (I.stkSub b z) with q | q
  ·exact (hf b hb).2.1 q
  ·exact (hf b hb).2.2.1 q
 ·
  have hi:(capt js σ)[i]?=some (some v):=e2
  unfold capt at hi
  rw [ζl] at hi
  cases ej:js[i]? with
  | none=>rw [ej] at hi; cases hi
  | some o =>
   rw [ej] at hi
   cases o with
   | none=>cases hi
   | some j =>
    obtain ⟨y,h1',h2',h3',h4'⟩:=K.cap i j ej
    have e1':N[i]?=some x:=e1
    rw [h1'] at e1'
    cases e1'
    have hj:σ[j]?=some (some v):=by
     cases q:σ[j]? with
     | none=>have hi':(Option.join σ[j]?)=some v:=ζD hi; rw [q] at hi'; cases hi'
     | some w=>have hi':(Option.join σ[j]?)=some v:=ζD hi; rw [q] at hi'; cases w with
      | none=>cases hi'
      | some w=>exact congrArg some hi'
    obtain ⟨m,_,hl⟩:=I.loc
    obtain ⟨u,r,l⟩:=hl j x v h2' hj (.inr h4')
    refine ⟨u,r,.inr ⟨h4'.imp (fun z=>uA I.ok.kind h3' z) (fun z=>uz h3' z),?_⟩⟩
    rcases l with ⟨k,_⟩ | ⟨_,c,ec,hc⟩
    ·rcases h4' with h4' | h4' <;> exact absurd (k.symm.trans h4') (by intro z; cases z)
    ·obtain ⟨c',ec'⟩:=ξ0.mp (K.has (x,.free) (PySem.mem_of_lookup h3') rfl)
     have e3':=hcl x c' ec'
     rw [ec] at e3'
     cases e3'
     exact ⟨c,ec',hc.keeps hk⟩
 ·obtain ⟨v,hv⟩:=I.cell x c (hcl x c e)
  exact ⟨v,hv.keeps hk⟩
 ·show (capt js σ).length=N.length
  unfold capt
  rw [ζa]
  exact K.len
theorem TN {σ':St} {H':Hp} {s':Shared} {h':Heap} (I:Inv X pins σ H s) (hf:∀ b∈fp,FpOk X pins H b) (J:Inv (X.blk N scope cl s.heap.objs.size s H fp) [] σ' H' s') (hs:Heap.SameBut s.heap.objs.size s'.heap h') :
  Inv X pins σ H' { s' with heap:=h' }:=by
 have neC:∀ b o,s.heap.get? b=some o→b≠s.heap.objs.size:=fun b o e=>ζG (ζn e)
 have u:=J.base
 have u':Un (frs X.stack) fp H H' s.heap s'.heap:=u
 refine I.call' (s':={ s' with heap:=h' }) (ch:=fp) J.os ⟨fun b o e n hb hx=>?_,fun b o e n hb hx=>?_,u'.free,fun b o e hx=>?_,u'.tups,u'.frzs,u'.tbls⟩ (fun b ob e=>?_) J.bare fun b hb=>?_
 ·exact (hs.2 b (neC b o e)).trans (u'.keep b o e n hb hx)
 ·obtain ⟨sl,q⟩:=u'.slot b o e n hb hx
  exact ⟨sl,(hs.2 b (neC b o e)).trans q⟩
 ·obtain ⟨o',q⟩:=u'.there b o e hx
  exact ⟨o',(hs.2 b (neC b o e)).trans q⟩
 ·have hfree:H' s.heap.objs.size=none:=J.free
  refine (J.hok b ob e).stay (fun c w' hc q=>(hs.2 c ?_).trans q) (fun _ q=>q) fun _ _ q=>q
  rintro rfl
  rcases hc with rfl | hc
  ·rw [hfree] at e; cases e
  ·rw [hfree] at hc; cases hc
 ·obtain ⟨f0,f1,f2,f3,f4,f5⟩:=hf b hb
  exact ⟨f3,f1,f4,f5⟩
end
def PIf (X:Cx) (ifs:List Expr) (t:TT):Prop :=
 ∀ (pins:List (Addr×Obj)) (s:Shared) (σ:St) (H:Hp) (Q:Bool→Hp→Prop),Inv X pins σ H s→t σ H Q →
  wpAny (model X.prog X.w) X.A (forIn ifs true fun c r=>if r=true then (do let ok ← isTrue c X.env (eval c X.env); pure (ForInStep.yield ok)) else pure (ForInStep.yield r)) (TP X pins σ Q) X.xe s
def tYes:TT:=fun _ H Q=>Q true H
theorem yh {X:Cx}:PIf X [] tYes:=fun _ _ _ H _ I h=>wpAny_tests_nil ⟨H,I,h⟩
theorem uF {X:Cx} {c:Expr} {t:TT} (h:PT X c t):PIf X [c] t:=fun pins s σ H Q I q=>wpAny_tests_one (h pins s σ H Q I q)
def zde (J:It) (g:TG) (tt:TT) (te:TE) (σc:St) (Q:VK) (H1:Hp):Prop:=∀ D,H1 D=none →
 ∃ W:Nat→Nat→List V→Hp→Prop,(∃ m,W 0 m [] (upd H1 D (.lst [])))∧∀ i m ys H,W i m ys H →
  (J.stop i H∧Q (.ref D) H) ∨
  (J.go i H∧∃ N:List V→Hp→Prop,(∀ zs H',N zs H'→∃ m',m' < m∧W (i + 1) m' zs H')∧∀ x H',J.yld i H x H'→g x σc H' fun σ2 H2=>Sub σc σ2∧tt σ2 H2 fun b H3 =>
   if b=true then te σ2 H3 fun v H4=>H4 D=some (.lst ys)∧ys.length < sizeLine∧N (ys ++ [v]) (upd H4 D (.lst (ys ++ [v]))) else N ys H3)
def vi (js:List (Option Nat)) (wi:TI) (g:TG) (tt:TT) (te:TE):TE:=fun σ H Q=>wi σ H fun J H1=>zde J g tt te (capt js σ) Q H1
section
variable {prog:Program} {w:World} {A:Around} {R:Result→Shared→Prop} {s:Shared}
theorem Qy {elt tg iter:Expr} {ifs:List Expr} {scope:Scope} {pos:Pos} {it acc:Value} {env:Env} (Iv:Nat→Shared→Prop) (F:Value→Shared→Prop) (hF:∀ e s,¬ F e s)
  (turn:∀ n s,Iv n s→wpAny (model prog w) A (pyNext it) (fun r s1=>(r=none→R (.ok .next) s1)∧∀ v,r=some v →
   wpAny (model prog w) A (letOwnedTupleGo tg it v) (fun _ s2=>wpAny (model prog w) A (assign tg env v) (fun _ s3 =>
    wpAny (model prog w) A (forIn ifs true fun c r=>if r=true then (do let ok ← isTrue c env (eval c env); pure (ForInStep.yield ok)) else pure (ForInStep.yield r)) (fun ok s4 =>
     (ok=false→∃ m,m < n∧Iv m s4)∧(ok=true→wpAny (model prog w) A (eval elt env) (fun x s5=>wpAny (model prog w) A (call (.builtin "list.append") [acc,x]) (fun _ s6=>∃ m,m < n∧Iv m s6) F s5) F s4)) F s3) F s2) F s1) F s)
  (n:Nat) (h:Iv n s):codeAny (model prog w) A (.compLoop (.ListComp elt [⟨tg,iter,ifs,0⟩] scope pos) 0 it acc env) R s:=by
 refine codeAny_loop rfl Iv (fun n s hI=>?_) n h
 show wpAny _ A (Sem.onRaise (compTurn (.ListComp elt [⟨tg,iter,ifs,0⟩] scope pos) 0 it acc env) (fun x=>do noteFrame x env; theTreesLotGoes x)) _ _ s
 refine wpAny_noted ?_
 rw [compTurn_list]
 have ff:∀ {E:Value→Shared→Prop} (e:Value) (s:Shared),F e s→E e s:=fun e s z=>(hF e s z).elim
 refine wpAny_bind (wpAny_standAt (wpAny_bind (wpAny_mono (turn n s hI) (fun r s1 h1=>?_) ff)))
 obtain ⟨h0,h1⟩:=h1
 cases r with
 | none=>exact wpAny_pure (h0 rfl)
 | some v =>
  refine wpAny_bind (wpAny_mono (h1 v rfl) (fun _ s2 h2=>?_) ff)
  refine wpAny_bind (wpAny_mono h2 (fun _ s3 h3=>?_) ff)
  refine wpAny_bind (wpAny_mono h3 (fun ok s4 h4=>?_) ff)
  cases ok with
  | false=>exact wpAny_pure ⟨rfl,h4.1 rfl⟩
  | true =>
   refine wpAny_bind (wpAny_bind (wpAny_mono (h4.2 rfl) (fun x s5 h5=>?_) ff))
   exact wpAny_bind (wpAny_mono h5 (fun _ s6 h6=>wpAny_pure (wpAny_pure ⟨rfl,h6⟩)) ff)
end
section
variable {X:Cx} {N:List Str} {scope:Scope} {cl:List (Str×Addr)} {js:List (Option Nat)} {pins:List (Addr×Obj)} {σ:St} {H:Hp} {s:Shared}
theorem Y9 {elt tg iter:Expr} {ifs:List Expr} {pos:Pos} {J:It} {fp:List Addr} {it:Addr} {tn:Nat→Heap→Prop} {g:TG} {tt:TT} {te:TE} {Q:VK} {E:Value→Shared→Prop} {RR:Value→Addr→Result→Shared→Prop}
  (hc:X.calm=true) (K:vY X N scope cl js) (I:Inv X pins σ H s) (T:Turn X.prog X.w X.K tg J fp it tn) (st:tn 0 s.heap) (hf:∀ b∈fp,FpOk X pins H b)
  (hg:∀ C s H fp,PG (X.blk N scope cl C s H fp) tg g) (ht:∀ C s H fp,PIf (X.blk N scope cl C s H fp) ifs tt) (he:∀ C s H fp,PE (X.blk N scope cl C s H fp) elt te)
  (hq:zde J g tt te (capt js σ) Q H)
  (hRR:∀ (D:Addr) (s3 s':Shared) (H':Hp) (σ':St),Inv X pins σ (upd H D (.lst [])) s3→(∀ b∈fp,FpOk X pins (upd H D (.lst [])) b)→Inv (X.blk N scope cl s3.heap.objs.size s3 (upd H D (.lst [])) fp) [] σ' H' s'→Q (.ref D) H'→RR (.ref D) s3.heap.objs.size (.ok .next) s') :
  wpAny (model X.prog X.w) X.A (newList []) (fun acc s3=>wpAny (model X.prog X.w) X.A (newFunctionEnv scope X.env.globals cl [] X.env.qual none .none (some X.env)) (fun cenv s4 =>
   codeAny (model X.prog X.w) X.A (.compStart (.ListComp elt [⟨tg,iter,ifs,0⟩] scope pos) 0 (.ref it) acc { cenv with scope:=relabel scope X.env }) (RR acc cenv.locals) s4) E s3) E s:=by
 have fresh:H s.heap.objs.size=none:=I.fresh
 have lt:∀ b∈fp,b < s.heap.objs.size:=fun b hb=>by
  obtain ⟨o,e,_⟩:=T.obj _ _ st b hb
  exact ζn e
 obtain ⟨W,⟨m0,w0⟩,step⟩:=hq _ fresh
 refine wpAny_newObj_type ?_
 have I3:=I.lnew (ys:=[]) (its:=[]) (t':=s.toks) .nil (ζY _)
 have f3:∀ b∈fp,FpOk X pins (upd H s.heap.objs.size (.lst [])) b:=fun b hb=>⟨by rw [zt (ζG (lt b hb))]; exact (hf b hb).1,(hf b hb).2⟩
 generalize e3:({ s with heap:=s.heap.push { cls:=.type "list", data:=.seq ([]:List Value).toArray },toks:=s.toks }:Shared)=s3 at I3
 have st3:tn 0 s3.heap:=by
  rw [← e3]
  exact T.keep _ _ _ st fun b _ o e=>ζg _ e
 have lt3:∀ b∈fp,b < s3.heap.objs.size:=fun b hb=>by
  obtain ⟨o,e,_⟩:=T.obj _ _ st3 b hb
  exact ζn e
 refine wpAny_newFunctionEnv K.nocell (by intro y hy; simp at hy) (fun h4 n4 k4=>?_) K.kind
 have old:∀ b o,s3.heap.get? b=some o→h4.get? b=some o:=fun b o e=>(k4.2 b (ζG (ζn e))).trans (ζg _ e)
 have I4:=QJ K I3 f3 lt3 (tk:=s3.toks + ([]:List (Str×Value)).length) n4 old
 have st4:tn 0 h4:=T.keep _ _ _ st3 fun b _ o e=>old b o e
 have fpB:∀ {H':Hp},(∀ b∈fp,H' b=none)→∀ b∈fp,FpOk (X.blk N scope cl s3.heap.objs.size s3 (upd H s.heap.objs.size (.lst [])) fp) [] H' b:=fun hn b hb =>
  ⟨hn b hb,Nat.ne_of_lt (lt3 b hb),fun z=>(List.mem_cons.mp (I3.stkSub b z)).elim (f3 b hb).2.1 (f3 b hb).2.2.1,.inl hb,fun x c e=>(f3 b hb).2.2.2.2.1 x c (K.cells (x,c) (PySem.mem_of_lookup e)),fun p hp=>absurd (show p∈([]:List (Addr×Obj)) from hp) (by simp)⟩
 have loop:codeAny (model X.prog X.w) X.A (.compLoop (.ListComp elt [⟨tg,iter,ifs,0⟩] scope pos) 0 (.ref it) (.ref s.heap.objs.size) (compEnvC scope cl s3.heap.objs.size X.env)) (RR (.ref s.heap.objs.size) s3.heap.objs.size)
   ({ s3 with heap:=h4,toks:=s3.toks + ([]:List (Str×Value)).length }:Shared):=by
  refine Qy (fun n s'=>∃ i ys H',Inv (X.blk N scope cl s3.heap.objs.size s3 (upd H s.heap.objs.size (.lst [])) fp) [] (capt js σ) H' s'∧tn i s'.heap∧(∀ b∈fp,H' b=none)∧W i n ys H') (fun _ _=>False) (fun _ _ z=>z) ?_ m0
   ⟨0,[],_,I4,st4,fun b hb=>(f3 b hb).1,w0⟩
  rintro n s5 ⟨i,ys,H5,I5,st5,fr5,w5⟩
  rcases step i n ys H5 w5 with ⟨stop,qn⟩ | ⟨go,Nn,hN,nxt⟩
  ·refine thn (T.done (X.blk N scope cl s3.heap.objs.size s3 (upd H s.heap.objs.size (.lst [])) fp) rfl rfl rfl hc i [] s5 (capt js σ) H5 _ I5 (fpB fr5) st5 stop) fun r s6 ⟨hr,I6⟩=>⟨fun _=>?_,fun v e=>?_⟩
   ·exact hRR _ s3 s6 H5 _ I3 f3 I6 qn
   ·rw [hr] at e; cases e
  ·refine thn (T.item (X.blk N scope cl s3.heap.objs.size s3 (upd H s.heap.objs.size (.lst [])) fp) rfl rfl rfl hc i [] s5 (capt js σ) H5 _ I5 (fpB fr5) st5 go) fun r s6 ⟨u,hr,h6⟩=>⟨fun e=>?_,fun v e=>?_⟩
   ·rw [hr] at e; cases e
   rw [hr] at e; cases e
   refine thn h6 fun _ s7 ⟨x,H7,I7,r7,y7,st7,fr7⟩=>?_
   have I7':=I7.pinned (fpB fr7) (T.obj _ _ st7)
   have back:∀ {σ':St} {H':Hp} {s':Shared} {i' n':Nat} {zs:List V},Inv (X.blk N scope cl s3.heap.objs.size s3 (upd H s.heap.objs.size (.lst [])) fp) ([] ++ ZC fp s7.heap) σ' H' s'→Sub (capt js σ) σ'→W (i + 1) n' zs H' →
     ∃ i ys H',Inv (X.blk N scope cl s3.heap.objs.size s3 (upd H s.heap.objs.size (.lst [])) fp) [] (capt js σ) H' s'∧tn i s'.heap∧(∀ b∈fp,H' b=none)∧W i n' ys H':=fun {σ' H' s' i' n' zs} I' sb w'=>by
    refine ⟨i + 1,zs,H',(I'.unpinned).weak sb.1 sb.2,T.keep _ _ _ st7 fun b hb o e=>(I'.pin (b,o) (ζJ _ (ζJ _ (vH hb e)))).1,fun b hb=>?_,w'⟩
    obtain ⟨o,e,_⟩:=T.obj _ _ st7 b hb
    exact (I'.pin (b,o) (ζJ _ (ζJ _ (vH hb e)))).2.1
   refine thn (hg _ _ _ _ _ s7 (capt js σ) H7 x _ _ I7' r7 (nxt x H7 y7)) fun _ s8 ⟨σ8,H8,I8,sb8,q8⟩=>?_
   refine thn (ht _ _ _ _ _ s8 σ8 H8 _ I8 q8) fun ok s9 ⟨H9,I9,q9⟩=>⟨fun e=>?_,fun e=>?_⟩
   ·rw [e,if_neg ζC] at q9
    obtain ⟨m',hm,w'⟩:=hN _ _ q9
    exact ⟨m',hm,back (i':=0) I9 sb8 w'⟩
   ·rw [e,if_pos rfl] at q9
    refine thn (he _ _ _ _ _ s9 σ8 H9 _ I9 q9) fun xv sa ⟨v,Ha,Ia,ra,qa,za,nn⟩=>?_
    obtain ⟨m',hm,w'⟩:=hN _ _ nn
    refine thn (zV (X:=X.blk N scope cl s3.heap.objs.size s3 (upd H s.heap.objs.size (.lst [])) fp) _ sa σ8 Ha (.ref s.heap.objs.size) [v] (.ref s.heap.objs.size) [xv] (fun y H'=>H'=upd Ha s.heap.objs.size (.lst (ys ++ [v]))) Ia rfl (.cons ra .nil) ⟨_,ys,v,rfl,rfl,qa,za,rfl⟩) fun y sb ⟨z,Hb,Ib,_,eb⟩=>?_
    rw [eb] at Ib
    exact ⟨m',hm,back (i':=0) Ib sb8 w'⟩
 exact codeAny_compStart_list loop (T.self _ 0 _ _ _ st4 loop)
theorem yk {elt tg iter:Expr} {ifs:List Expr} {pos:Pos} {wi:TI} {g:TG} {tt:TT} {te:TE} (hc:X.calm=true) (K:vY X N scope cl js) (hi:PI X tg iter wi)
  (hg:∀ C s H fp,PG (X.blk N scope cl C s H fp) tg g) (ht:∀ C s H fp,PIf (X.blk N scope cl C s H fp) ifs tt) (he:∀ C s H fp,PE (X.blk N scope cl C s H fp) elt te)
  (hs:∀ x,foldedSetIterable iter X.env x=pure x:=by intro _; rfl):PE X (.ListComp elt [⟨tg,iter,ifs,0⟩] scope pos) (vi js wi g tt te):=by
 intro pins s σ H Q I h
 rw [eval_ListComp]
 refine wpAny_comprehension_free (use:=none) rfl hs K.clos K.kind K.names (thn (hi pins s σ H _ I h) fun v s1 h1=>thn h1 fun itv s2 h2=>?_)
 obtain ⟨it,fp,tn,J,H2,e,I2,T,st2,f2,hq⟩:=h2
 subst e
 refine Y9 (RR:=fun acc C=>compPost (model X.prog X.w) X.A X.xe none (EP X pins σ Q) acc C) hc K I2 T st2 f2 hg ht he hq ?_
 intro D s3 s' H' σ' I3 f3 J' q
 obtain ⟨m,hn,_⟩:=J'.loc
 exact ⟨m,hn,fun h'' hs''=>⟨.ref D,H',TN I3 f3 J' hs'',rfl,q⟩⟩
theorem xC {elt tg iter:Expr} {ifs:List Expr} {pos spos py:Pos} {i:Nat} {y:Str} {wi:TI} {g:TG} {tt:TT} {te:TE} (hc:X.calm=true) (hN:X.N.Nodup) (hiN:X.N[i]?=some y) (hy:X.env.scope.names.lookup y=some .local) (K:vY X N scope cl js) (hi:PI X tg iter wi)
  (hg:∀ C s H fp,PG (X.blk N scope cl C s H fp) tg g) (ht:∀ C s H fp,PIf (X.blk N scope cl C s H fp) ifs tt) (he:∀ C s H fp,PE (X.blk N scope cl C s H fp) elt te)
  (hsw:swapsWith (.ListComp elt [⟨tg,iter,ifs,0⟩] scope pos) (some (.Name y py)) spos.line X.env=pure true:=by rfl)
  (hs:∀ x,foldedSetIterable iter X.env x=pure x:=by intro _; rfl):PS X (.Assign [.Name y py] (.ListComp elt [⟨tg,iter,ifs,0⟩] scope pos) spos) (tAsg (vi js wi g tt te) (xa i)):=by
 intro pins s σ H D I h
 rw [exec_Assign_Name_used _ _ _ _ hsw]
 refine wpAny_bind (wpAny_standAt (wpAny_bind ?_))
 show wpAny _ X.A (do let _ ← comprehension (.ListComp elt [⟨tg,iter,ifs,0⟩] scope pos) scope X.env _ (newList []) false (eval iter X.env) (some (assign (.Name y py) X.env))) _ _ s
 refine wpAny_bind (wpAny_mono (wpAny_comprehension_free (use:=some (assign (.Name y py) X.env)) (Q:=fun _ s'=>SP X pins D .next s') rfl hs K.clos K.kind K.names
  (thn (hi pins s σ H _ I h) fun v s1 h1=>thn h1 fun itv s2 h2=>?_)) (fun _ s' hq=>wpAny_pure (wpAny_pure hq)) fun _ _ e=>e)
 obtain ⟨it,fp,tn,J,H2,e,I2,T,st2,f2,hq⟩:=h2
 subst e
 refine Y9 (RR:=fun acc C=>compPost (model X.prog X.w) X.A X.xe (some (assign (.Name y py) X.env)) (fun _ s'=>SP X pins D .next s') acc C) hc K I2 T st2 f2 hg ht he hq ?_
 intro Dl s3 s' H' σ' I3 f3 J' q
 have I':Inv X pins σ H' s':=TN I3 f3 J' (Heap.SameBut.refl ..)
 obtain ⟨m,hn,_⟩:=J'.loc
 have hC:s3.heap.objs.size≠X.env.locals:=Ne.symm (ζG I3.lt)
 have hcell:∀ x c,X.env.cells.lookup x=some c→c≠s3.heap.objs.size:=fun x c e z=>by
  obtain ⟨v,q⟩:=I3.cell x c e
  exact absurd q.lt (by rw [z]; exact ζ3 _)
 show wpAny _ X.A (assign (.Name y py) X.env (.ref Dl)) _ _ _
 refine wpAny_assign_Name (YN I' hN hiN (.inl hy) (v:=.ref Dl) rfl (fun s'' I'' ⟨a,hs2,ha⟩=>?_) (.inr hy))
 have ha':s3.heap.objs.size≠a:=by
  rcases ha with ha | ha
  ·rw [ha]; exact hC
  ·exact Ne.symm (hcell y a ha)
 refine ⟨m,hn.sameBut hs2 ha',fun h3 hs3=>?_⟩
 refine ⟨_,H',I''.turned (t':=s''.toks) (it:=s3.heap.objs.size) (fun b o hb e=>(hs3.2 b hb).trans e) J'.free hC (.inr I3.sz) hcell (fun p hp z=>?_),q⟩
 exact absurd (ζn (I3.pin p hp).1) (by rw [z]; exact ζ3 _)
end
structure zC (P:Program) (w:World) (K:ζb) (mg:Str→Option Value) (base:Heap) (CX:CXT) (x:Str) (ps:List Str) (k:Nat) (sp:Sp):Prop where
 ex:∃ f fd,FnOk P w K mg base CX k f fd ps sp∧mg x=some (.ref f)∧PySem.W.keepIn K (.ref f)=true∧Z9 K fd ps []
section
variable {X:Cx} {CX:CXT} {k:Nat} {ps:List Str} {sp:Sp} {E:XK} {x:Str} {p pos:Pos} {e:Expr} {es:List Expr} {t:TA}
theorem zM (C:zC X.prog X.w X.K X.mg X.base CX x ps k sp) (hr:Room k X.A) (hg:Gl X x) (hx:WA CX X E) (ha:PA X (e :: es) t)
  (hdb:(x == ("__debug__" : Str))=false:=by decide) (he:starEach (e :: es) X.env=(false,eval e X.env) :: starEach es X.env:=by rfl) (hpl:(backTo pos (starEach es X.env)).any (·.1)=false:=by rfl) :
  PE X (.Call (.Name x p) (e :: es) [] pos) (uv sp [] E t):=by
 intro pins s σ H Q I h
 obtain ⟨f,fd,F,hm,hk,hb⟩:=C.ex
 exact (zb0 F hr hg hm hk hb .nil hx ha hdb he hpl) pins s σ H Q I h
end
theorem vY.of {X:Cx} {N:List Str} {scope:Scope} {cl:List (Str×Addr)} {js:List (Option Nat)} (clos:closureFor scope X.env=pure cl) (nc:(scope.names.all fun y=>y.2 != .cell)=true) (kind:scope.kind=.function)
  (nm:(scope.names.all fun y=>y.2 != .local || (scope.names.lookup y.1 == some .local))=true) (cells:∀ p∈cl,X.env.cells.lookup p.1=some p.2) (has:(scope.names.all fun y=>y.2 != .free || (cl.lookup y.1).isSome)=true)
  (len:js.length=N.length) (cap:((js.zip N).all fun p=>match p.1 with | none=>true | some j=>(X.N[j]? == some p.2) && (scope.names.lookup p.2 == some .free) && (X.env.scope.names.lookup p.2 == some .cell || X.env.scope.names.lookup p.2 == some .free))=true):vY X N scope cl js:=by
 rw [ζ9] at nc nm has cap
 refine ⟨clos,fun y hy=>by simpa using nc y hy,kind,fun y hy e=>?_,cells,fun y hy e=>?_,len,fun i j e=>?_⟩
 ·have q:=nm y hy
  rw [e] at q
  simpa using q
 ·have q:=has y hy
  rw [e] at q
  simpa using q
 ·have hi:i < js.length:=(ζe.mp e).1
  have hx:N[i]?=some (N[i]'(by omega)):=ζf (by omega)
  have hz:(js.zip N)[i]?=some (some j,N[i]'(by omega)):=by
   rw [ξn]
   exact ⟨e,hx⟩
  have q:=cap _ (ζd hz)
  simp only [Bool.and_eq_true,Bool.or_eq_true,beq_iff_eq] at q
  exact ⟨_,hx,q.1.1,q.1.2,q.2⟩
theorem Same.new {H:Hp} {p:Addr} (h:H p=none) (o:HO):Same H (upd H p o):=fun b u q=>by rw [zt (zK q h)]; exact q
def UY (K:ζb):Sp:=fun vs H Q _=>∃ (a:Addr) (ns:List Int),vs=[.ref a]∧SqL K H a (ns.map V.int)∧ns.length≤63∧∀ H',Q (.bl true) H'
theorem TD {K:ζb} {H:Hp}:∀ ns:List Int,zT K H (ns.map V.int) (ns.map PyData.int)
 | []=>.nil
 | n :: r=>.cons (.int n) (TD r)
end L2
namespace PySem
section
variable {prog:Program} {w:World} {A:Around} {E:Value→Shared→Prop} {s:Shared} {R:Result→Shared→Prop}
end
end PySem
namespace L2
open PySem PySem.Spec PyProof.Rows
section
variable {X:Cx}
end
section
variable {X:Cx} {K:ζb}
theorem zA (hK:X.K=K):IxR X (rIxL K):=by subst hK; exact zcf
theorem yq (hK:X.K=K):IxR X (rIxT K):=by subst hK; exact zdU
theorem zw (hK:X.K=K):yB X (.builtin "len") (fun xs H Q=>∃ p ys,xs=[.ref p]∧(SqL K H p ys∨SqT K H p ys)∧Q (.int ys.length) H):=by subst hK; exact Wv
theorem QG (hK:X.K=K):yB X (.builtin "isinstance") (rIsi K):=by subst hK; exact zbu
theorem YI (hK:X.K=K):yB X (.type "list") (fun xs H Q=>∃ p ys,xs=[.ref p]∧(SqL K H p ys∨SqT K H p ys)∧∀ l,H l=none→Q (.ref l) (upd H l (.lst ys))):=by subst hK; exact Ws
theorem U9 (hK:X.K=K) (hu:X.A.units + 64 < cLine):OpR X (compareOp .Eq) (rEqD K false):=by subst hK; exact zdK hu
theorem U7 (hK:X.K=K) (hu:X.A.units + 64 < cLine):OpR X (compareOp .NotEq) (rEqD K true):=by subst hK; exact zdG hu
theorem xY (hK:X.K=K):SlR X (rSlL K):=by subst hK; exact zbI
theorem ZD (hK:X.K=K):OpR X (compareOp .In) (rIn K false):=by subst hK; exact T9
theorem ww {es:List Expr} {k:Nat} {t:TGs} {n:Nat} {pos:Pos} (hK:X.K=K) (hc:X.calm=true) (h:PGs X es t)
  (hn:(assignEach es X.env).length=n:=by rfl) (hst:(assignEach es X.env).findIdx? (·.1)=none:=by rfl):PG X (.Tuple es k pos) (gTup K n t):=by subst hK; exact zdD hc h hn hst
end
end L2
namespace L2
open PySem PySem.Spec PyProof.Rows PySem.SeqAt
section
variable {X:Cx} {K:ζb}
def rEqS (K:ζb):R2:=fun x y H Q=>∃ d,Dp K H x d∧Dp K H y d∧shaped d=true∧Q (.bl true) H
def rNeS (K:ζb):R2:=fun x y H Q=>∃ d,Dp K H x d∧Dp K H y d∧shaped d=true∧Q (.bl false) H
theorem zdJ (hu:X.A.units + 64 < cLine):OpR X (compareOp .Eq) (rEqS X.K):=by
 intro pins s σ H x y v u Q I rx ry h
 obtain ⟨d,h1,h2,z,q⟩:=h
 obtain ⟨as,ra⟩:=h1.reads I rx
 obtain ⟨bs,rb⟩:=h2.reads I ry
 refine eq_dataH ra rb z z hu ?_
 rw [eqv_refl d (canLay_of_shaped z)]
 exact ⟨.bl true,H,I,rfl,q⟩
theorem zdF (hu:X.A.units + 64 < cLine):OpR X (compareOp .NotEq) (rNeS X.K):=by
 intro pins s σ H x y v u Q I rx ry h
 obtain ⟨d,h1,h2,z,q⟩:=h
 obtain ⟨as,ra⟩:=h1.reads I rx
 obtain ⟨bs,rb⟩:=h2.reads I ry
 refine ne_dataH ra rb z z hu ?_
 rw [eqv_refl d (canLay_of_shaped z)]
 exact ⟨.bl false,H,I,rfl,q⟩
theorem Zc (hK:X.K=K) (hu:X.A.units + 64 < cLine):OpR X (compareOp .Eq) (rEqS K):=by subst hK; exact zdJ hu
theorem zb1 (hK:X.K=K) (hu:X.A.units + 64 < cLine):OpR X (compareOp .NotEq) (rNeS K):=by subst hK; exact zdF hu
end
end L2
namespace L2
open PySem PySem.Spec PyProof.Rows
section
end
end L2
namespace Cm
open PySem L2
theorem take_succ {α:Type} {xs:List α} {i:Nat} {x:α} (h:xs[i]?=some x):xs.take (i + 1)=xs.take i ++ [x]:=by
 rw [ξ1,h]; rfl
theorem zQ {P:Program} {w:World} {K:ζb} {mg:Str→Option Value} {base:Heap} {x:Str} {st:Stmt} {f:Addr} {fd:FuncData} {ps:List Str} {k:Nat} {sp:Sp} (F:Fun K x x st f fd) (hm:mg x=some (.ref f)) (hb:Z9 K fd ps []) (G:FnOk P w K mg base CX0 k f fd ps sp) :
  zC P w K mg base CX0 x ps k sp:=⟨f,fd,G,hm,F.kp,hb⟩
structure At (K:ζb) (x:Str) (st:Stmt) (f:Addr) (fd:FuncData):Prop where
 ns:PySem.W.nsIn K mainGlobals x=some (some (.ref f))
 fn:Fun K x x st f fd
theorem zO {K:ζb} {x:Str} {st:Stmt} {f:Addr} {oc:Value} {od an:Option Addr} {osl:Array (Option Value)} {kV doc pm cdv ct:Value} (a:PySem.W.nsIn K mainGlobals x=some (some (.ref f)))
  (l:K.lookup f=some ⟨oc,od,.func (PySem.W.fnOf x x (vL st) (wU st) (zm st) .none kV doc pm an cdv ct),osl⟩) (c:PySem.W.codeIn K cdv x=true) (k:PySem.W.keepIn K (.ref f)=true):∃ f fd,At K x st f fd:=⟨f,_,a,zaS l c k⟩
end Cm
namespace PD
open PySem L2
variable {K:ζb}
theorem Same.seqT {H H':Hp} {a:Addr} {xs:List V} (e:Same H H') (h:SqT K H a xs):SqT K H' a xs:=by
 rcases h with (h | ⟨o,h⟩) | h
 ·exact .inl (.inl (e _ _ h))
 ·exact .inl (.inr ⟨o,e _ _ h⟩)
 ·exact .inr h
mutual
theorem xX {F F':Hp} (e:Same F F'):∀ {v:V} {d:PyData},Dp K F v d→Dp K F' v d
 | _,_,.non=>.non
 | _,_,.bl b=>.bl b
 | _,_,.int i=>.int i
 | _,_,.str x=>.str x
 | _,_,.lst h k=>.lst (e.seq h) (xF e k)
 | _,_,.tup h k=>.tup (Same.seqT e h) (xF e k)
theorem xF {F F':Hp} (e:Same F F'):∀ {vs:List V} {ds:List PyData},zT K F vs ds→zT K F' vs ds
 | _,_,.nil=>.nil
 | _,_,.cons h k=>.cons (xX e h) (xF e k)
end
theorem zT.length {F:Hp}:∀ {vs:List V} {ds:List PyData},zT K F vs ds→vs.length=ds.length
 | _,_,.nil=>rfl
 | _,_,.cons _ k=>congrArg (· + 1) (zT.length k)
theorem zT.get {F:Hp}:∀ {vs:List V} {ds:List PyData} {i:Nat} {d:PyData},zT K F vs ds→ds[i]?=some d→∃ v,vs[i]?=some v∧Dp K F v d
 | _,_,_,_,.nil,e=>by simp at e
 | _,_,0,_,.cons h _,e=>by simp at e; subst e; exact ⟨_,rfl,h⟩
 | _,_,i + 1,d,.cons _ k,e=>by
  obtain ⟨v,h1,h2⟩:=zT.get (i:=i) k (by simpa using e)
  exact ⟨v,by simpa using h1,h2⟩
theorem zT.append {F:Hp}:∀ {vs ws:List V} {ds es:List PyData},zT K F vs ds→zT K F ws es→zT K F (vs ++ ws) (ds ++ es)
 | _,_,_,_,.nil,k=>k
 | _,_,_,_,.cons h t,k=>.cons h (zT.append t k)
theorem zT.reverse {F:Hp}:∀ {vs:List V} {ds:List PyData},zT K F vs ds→zT K F vs.reverse ds.reverse
 | _,_,.nil=>.nil
 | _,_,.cons h t=>by
  rw [ξh,ξh]
  exact zT.append (zT.reverse t) (.cons h .nil)
theorem uo {F:Hp} (ns:List Int):zT K F (ns.map V.int) (ns.map PyData.int):=TD ns
theorem yl {F:Hp}:∀ {vs:List V} {ns:List Int},zT K F vs (ns.map PyData.int)→vs=ns.map V.int
 | _,[],.nil=>rfl
 | _,n :: r,.cons h t=>by cases h; rw [ζT,yl t]
theorem vX {F:Hp} {v:V} {i:Int} (h:Dp K F v (.int i)):v=.int i:=by cases h; rfl
theorem zeE {F:Hp} {v:V} {b:Bool} (h:Dp K F v (.bool b)):v=.bl b:=by cases h; rfl
structure Gr (H F H' F':Hp):Prop where
 h:Same H H'
 f:Same F F'
 le:Same F' H'
 ap:∀ a o,H a=some o→F a=none→F' a=none
theorem Gr.refl {H F:Hp} (le:Same F H):Gr H F H F:=⟨.refl _,.refl _,le,fun _ _ _ h=>h⟩
theorem Gr.trans {H F H1 F1 H2 F2:Hp} (a:Gr H F H1 F1) (b:Gr H1 F1 H2 F2):Gr H F H2 F2:=⟨a.h.trans b.h,a.f.trans b.f,b.le,fun c o q n=>b.ap c o (a.h _ _ q) (a.ap c o q n)⟩
theorem Gr.new {H F:Hp} {p:Addr} (le:Same F H) (hp:H p=none) (o:HO):Gr H F (upd H p o) (upd F p o):=by
 have fp:F p=none:=le.free hp
 refine ⟨Same.new hp o,Same.new fp o,fun b u q=>?_,fun b u q n=>?_⟩
 ·by_cases e:b=p
  ·subst e; rw [zp] at q ⊢; exact q
  ·rw [zt e] at q ⊢; exact le _ _ q
 ·rw [zt (zK q hp)]; exact n
theorem Gr.newO {H F:Hp} {p:Addr} (le:Same F H) (hp:H p=none) (o:HO):Gr H F (upd H p o) F:=⟨Same.new hp o,.refl _,fun b u q=>by rw [zt (zK (le _ _ q) hp)]; exact le _ _ q,fun _ _ _ n=>n⟩
inductive Sx where
 | fresh | spoil (T:Addr→Prop)
def Sx.has (S:Sx) (H0:Hp) (a:Addr):Prop:=match S with | .fresh=>H0 a≠none | .spoil T=>H0 a≠none∨T a
def LN (K:ζb) (κ:Bool) (S:Sx) (H0 F:Hp) (a:Addr) (xs:List V):Prop:=match κ with
 | true=>F a=some (.lst xs)∧¬ S.has H0 a
 | false=>SqL K F a xs
theorem LN.sq {κ:Bool} {S:Sx} {H0 F:Hp} {a:Addr} {xs:List V} (h:LN K κ S H0 F a xs):SqL K F a xs:=by
 cases κ with
 | true=>exact SqL.of h.1
 | false=>exact h
theorem LN.mono {κ:Bool} {S:Sx} {H0 F F':Hp} {a:Addr} {xs:List V} (h:LN K κ S H0 F a xs) (e:Same F F'):LN K κ S H0 F' a xs:=by
 cases κ with
 | true=>exact ⟨e _ _ h.1,h.2⟩
 | false=>exact e.seq h
theorem LN.new {κ:Bool} {S:Sx} {H0 F:Hp} {a:Addr} {xs:List V} (h:¬ S.has H0 a):LN K κ S H0 (upd F a (.lst xs)) a xs:=by
 cases κ with
 | true=>exact ⟨zp,h⟩
 | false=>exact SqL.of zp
mutual
inductive Rp (K:ζb) (κ:Bool) (S:Sx) (H0 F:Hp):V→PyData→Prop
 | non:Rp K κ S H0 F .non .none
 | bl (b:Bool):Rp K κ S H0 F (.bl b) (.bool b)
 | int (i:Int):Rp K κ S H0 F (.int i) (.int i)
 | str (x:Str):Rp K κ S H0 F (.str x) (.str x)
 | lst {a:Addr} {xs:List V} {ds:List PyData}:LN K κ S H0 F a xs→zj K κ S H0 F xs ds→Rp K κ S H0 F (.ref a) (.list ds)
 | tup {a:Addr} {xs:List V} {ds:List PyData}:SqT K F a xs→zj K κ S H0 F xs ds→Rp K κ S H0 F (.ref a) (.tuple ds)
inductive zj (K:ζb) (κ:Bool) (S:Sx) (H0 F:Hp):List V→List PyData→Prop
 | nil:zj K κ S H0 F [] []
 | cons {v:V} {vs:List V} {d:PyData} {ds:List PyData}:Rp K κ S H0 F v d→zj K κ S H0 F vs ds→zj K κ S H0 F (v :: vs) (d :: ds)
end
section
variable {κ κ':Bool} {S S':Sx} {H0 H0' F F':Hp}
mutual
theorem wC (hl:∀ a xs,LN K κ S H0 F a xs→LN K κ' S' H0' F' a xs) (ht:∀ a xs,SqT K F a xs→SqT K F' a xs):∀ {v:V} {d:PyData},Rp K κ S H0 F v d→Rp K κ' S' H0' F' v d
 | _,_,.non=>.non
 | _,_,.bl b=>.bl b
 | _,_,.int i=>.int i
 | _,_,.str x=>.str x
 | _,_,.lst h k=>.lst (hl _ _ h) (xr hl ht k)
 | _,_,.tup h k=>.tup (ht _ _ h) (xr hl ht k)
theorem xr (hl:∀ a xs,LN K κ S H0 F a xs→LN K κ' S' H0' F' a xs) (ht:∀ a xs,SqT K F a xs→SqT K F' a xs):∀ {vs:List V} {ds:List PyData},zj K κ S H0 F vs ds→zj K κ' S' H0' F' vs ds
 | _,_,.nil=>.nil
 | _,_,.cons h k=>.cons (wC hl ht h) (xr hl ht k)
end
theorem yK (e:Same F F') {v:V} {d:PyData} (h:Rp K κ S H0 F v d):Rp K κ S H0 F' v d:=wC (fun _ _ z=>z.mono e) (fun _ _ z=>Same.seqT e z) h
theorem zD (e:Same F F') {vs:List V} {ds:List PyData} (h:zj K κ S H0 F vs ds):zj K κ S H0 F' vs ds:=xr (fun _ _ z=>z.mono e) (fun _ _ z=>Same.seqT e z) h
mutual
theorem wj:∀ {v:V} {d:PyData},Rp K κ S H0 F v d→Dp K F v d
 | _,_,.non=>.non
 | _,_,.bl b=>.bl b
 | _,_,.int i=>.int i
 | _,_,.str x=>.str x
 | _,_,.lst h k=>.lst h.sq (zU k)
 | _,_,.tup h k=>.tup h (zU k)
theorem zU:∀ {vs:List V} {ds:List PyData},zj K κ S H0 F vs ds→zT K F vs ds
 | _,_,.nil=>.nil
 | _,_,.cons h k=>.cons (wj h) (zU k)
end
mutual
theorem Z0:∀ {v:V} {d:PyData},Dp K F v d→Rp K false S H0 F v d
 | _,_,.non=>.non
 | _,_,.bl b=>.bl b
 | _,_,.int i=>.int i
 | _,_,.str x=>.str x
 | _,_,.lst h k=>.lst h (uP k)
 | _,_,.tup h k=>.tup h (uP k)
theorem uP:∀ {vs:List V} {ds:List PyData},zT K F vs ds→zj K false S H0 F vs ds
 | _,_,.nil=>.nil
 | _,_,.cons h k=>.cons (Z0 h) (uP k)
end
theorem Zb (hk:κ'=true→κ=true) {v:V} {d:PyData} (h:Rp K κ S H0 F v d):Rp K κ' S H0 F v d:=by
 cases κ' with
 | false=>exact Z0 (wj h)
 | true=>rw [hk rfl] at h; exact h
theorem zj.length {vs:List V} {ds:List PyData} (h:zj K κ S H0 F vs ds):vs.length=ds.length:=zT.length (zU h)
theorem zj.get:∀ {vs:List V} {ds:List PyData} {i:Nat} {d:PyData},zj K κ S H0 F vs ds→ds[i]?=some d→∃ v,vs[i]?=some v∧Rp K κ S H0 F v d
 | _,_,_,_,.nil,e=>by simp at e
 | _,_,0,_,.cons h _,e=>by simp at e; subst e; exact ⟨_,rfl,h⟩
 | _,_,i + 1,d,.cons _ k,e=>by
  obtain ⟨v,h1,h2⟩:=zj.get (i:=i) k (by simpa using e)
  exact ⟨v,by simpa using h1,h2⟩
theorem zj.get':∀ {vs:List V} {ds:List PyData} {i:Nat} {v:V},zj K κ S H0 F vs ds→vs[i]?=some v→∃ d,ds[i]?=some d∧Rp K κ S H0 F v d
 | _,_,_,_,.nil,e=>by simp at e
 | _,_,0,_,.cons h _,e=>by simp at e; subst e; exact ⟨_,rfl,h⟩
 | _,_,i + 1,d,.cons _ k,e=>by
  obtain ⟨v,h1,h2⟩:=zj.get' (i:=i) k (by simpa using e)
  exact ⟨v,by simpa using h1,h2⟩
theorem zj.append:∀ {vs ws:List V} {ds es:List PyData},zj K κ S H0 F vs ds→zj K κ S H0 F ws es→zj K κ S H0 F (vs ++ ws) (ds ++ es)
 | _,_,_,_,.nil,k=>k
 | _,_,_,_,.cons h t,k=>.cons h (zj.append t k)
theorem zj.take:∀ {vs:List V} {ds:List PyData} (n:Nat),zj K κ S H0 F vs ds→zj K κ S H0 F (vs.take n) (ds.take n)
 | _,_,0,_=>.nil
 | _,_,_ + 1,.nil=>.nil
 | _,_,n + 1,.cons h t=>.cons h (zj.take n t)
theorem zj.drop:∀ {vs:List V} {ds:List PyData} (n:Nat),zj K κ S H0 F vs ds→zj K κ S H0 F (vs.drop n) (ds.drop n)
 | _,_,0,r=>r
 | _,_,_ + 1,.nil=>.nil
 | _,_,n + 1,.cons _ t=>zj.drop n t
theorem zj.set {v:V} {d:PyData} (h:Rp K κ S H0 F v d):∀ {vs:List V} {ds:List PyData} (n:Nat),zj K κ S H0 F vs ds→zj K κ S H0 F (vs.set n v) (ds.set n d)
 | _,_,_,.nil=>.nil
 | _,_,0,.cons _ t=>.cons h t
 | _,_,n + 1,.cons q t=>.cons q (zj.set h n t)
theorem zj.reverse:∀ {vs:List V} {ds:List PyData},zj K κ S H0 F vs ds→zj K κ S H0 F vs.reverse ds.reverse
 | _,_,.nil=>.nil
 | _,_,.cons h t=>by
  rw [ξh,ξh]
  exact zj.append (zj.reverse t) (.cons h .nil)
theorem zj.rep {vs:List V} {ds:List PyData} (h:zj K κ S H0 F vs ds):∀ n:Nat,zj K κ S H0 F (List.replicate n vs).flatten (List.replicate n ds).flatten
 | 0=>.nil
 | n + 1=>by
  rw [ζ5,ζ5,ξt,ξt]
  exact zj.append h (zj.rep h n)
theorem yH {v:V} {i:Int} (h:Rp K κ S H0 F v (.int i)):v=.int i:=by cases h; rfl
theorem tM {v:V} {b:Bool} (h:Rp K κ S H0 F v (.bool b)):v=.bl b:=by cases h; rfl
theorem yT {v:V} {x:Str} (h:Rp K κ S H0 F v (.str x)):v=.str x:=by cases h; rfl
theorem x9 {v:V} {ds:List PyData} (h:Rp K κ S H0 F v (.list ds)):∃ a vs,v=.ref a∧LN K κ S H0 F a vs∧zj K κ S H0 F vs ds:=by cases h with | lst h k=>exact ⟨_,_,rfl,h,k⟩
theorem u5 {v:V} {ds:List PyData} (h:Rp K κ S H0 F v (.tuple ds)):∃ a vs,v=.ref a∧SqT K F a vs∧zj K κ S H0 F vs ds:=by cases h with | tup h k=>exact ⟨_,_,rfl,h,k⟩
end
def imm:PyData→Bool
 | .none=>true
 | .bool _=>true
 | .int _=>true
 | .str _=>true
 | .tuple ds=>immAll ds
 | _=>false
where immAll:List PyData→Bool
 | []=>true
 | d :: r=>imm d && immAll r
mutual
theorem Z1 {κ:Bool} {S:Sx} {H0 F:Hp}:∀ {v:V} {d:PyData},imm d=true→Dp K F v d→Rp K κ S H0 F v d
 | _,_,_,.non=>.non
 | _,_,_,.bl b=>.bl b
 | _,_,_,.int i=>.int i
 | _,_,_,.str x=>.str x
 | _,_,h,.lst _ _=>by unfold imm at h; cases h
 | _,_,h,.tup q k=>.tup q (tG (by unfold imm at h; exact h) k)
theorem tG {κ:Bool} {S:Sx} {H0 F:Hp}:∀ {vs:List V} {ds:List PyData},imm.immAll ds=true→zT K F vs ds→zj K κ S H0 F vs ds
 | _,_,_,.nil=>.nil
 | _,_,h,.cons p k=>by
  unfold imm.immAll at h
  rw [Bool.and_eq_true] at h
  exact .cons (Z1 h.1 p) (tG h.2 k)
end
theorem xG {κ:Bool} {S:Sx} {H0 F:Hp} {vs:List V} {ds:List PyData} (h:∀ d∈ds,imm d=true) (k:zT K F vs ds):zj K κ S H0 F vs ds:=by
 refine tG ?_ k
 clear k
 induction ds with
 | nil=>rfl
 | cons d r ih =>
  unfold imm.immAll
  rw [h d ζi,ih fun x hx=>h x (ζk _ hx)]
  rfl
inductive DV where
 | fz (κ:Bool) (d:PyData) | ow (κ:Bool) (ds:List PyData) | tn (d:PyData) | ox | o2 (r:Option Addr) (dss:List (List PyData)) | fn (a:Addr) | xn (o:Addr→HO) | oa (a:Addr) (κ:Bool) (ds:List PyData) | xp (φ:Hp→V→Prop) | od (o:HO) | og (ad:Hp→V→Addr→Prop) (ψ:Sx→Hp→Hp→Hp→V→Prop)
abbrev Ctx:=List (Option DV)
structure OwnO (S:Sx) (H0 H F:Hp) (a:Addr) (o:HO):Prop where
 h:H a=some o
 f:F a=none
 n:H0 a=none
 s:¬ S.has H0 a
abbrev vO (S:Sx) (H0 H F:Hp) (a:Addr) (vs:List V):Prop:=OwnO S H0 H F a (.lst vs)
structure IdA (r:Option Addr) (v:V) (a:Addr):Prop where
 eq:v=.ref a
 id:∀ b,r=some b→a=b
structure GOk (ad:Hp→V→Addr→Prop) (ψ:Sx→Hp→Hp→Hp→V→Prop):Prop where
 pl:∀ H H' v,(∀ a,ad H v a→H' a=H a)→∀ a,ad H' v a↔ad H v a
 ps:∀ S H0 H H' F F' v,(∀ a,ad H v a→H' a=H a)→Same F F'→ψ S H0 H F v→ψ S H0 H' F' v
def HasV (K:ζb) (S:Sx) (H0 H F:Hp) (v:V):DV→Prop
 | .fz κ d=>Rp K κ S H0 F v d
 | .ow κ ds=>∃ a vs,v=.ref a∧vO S H0 H F a vs∧zj K κ S H0 F vs ds
 | .tn d=>∃ T,S=.spoil T∧Rp K true (.spoil fun a=>¬ T a) (fun _=>none) F v d
 | .ox=>∃ a vs,v=.ref a∧vO S H0 H F a vs
 | .fn a=>v=.ref a
 | .xn o=>∃ a,v=.ref a∧F a=some (o a)
 | .oa a κ ds=>v=.ref a∧∃ vs,vO S H0 H F a vs∧zj K κ S H0 F vs ds
 | .xp φ=>∃ F1,Same F1 F∧φ F1 v
 | .od o=>∃ a,v=.ref a∧OwnO S H0 H F a o
 | .og ad ψ=>GOk ad ψ∧(∀ a,ad H v a→∃ o,OwnO S H0 H F a o)∧ψ S H0 H F v
 | .o2 r dss=>∃ a vs,IdA r v a∧vO S H0 H F a vs∧V.ref a∉vs∧vs.Nodup∧vs.length=dss.length∧∀ (j:Nat) x,vs[j]?=some x→∃ b us ds,x=.ref b∧vO S H0 H F b us∧dss[j]?=some ds∧zj K true S H0 F us ds
def Owns (H:Hp) (v:V):DV→Addr→Prop
 | .ow _ _,a=>v=.ref a
 | .ox,a=>v=.ref a
 | .oa _ _ _,a=>v=.ref a
 | .od _,a=>v=.ref a
 | .og ad _,a=>ad H v a
 | .o2 _ _,a=>v=.ref a∨∃ p vs,v=.ref p∧H p=some (.lst vs)∧V.ref a∈vs
 | _,_=>False
structure DEnv (K:ζb) (S:Sx) (H0 F0 H F:Hp) (σ:St) (Γ:Ctx):Prop where
 gr:Gr H0 F0 H F
 l0:Same F0 H0
 sd:∀ a,S.has H0 a→∃ o,H a=some o
 s0:∀ T,S=.spoil T→∀ a,T a→H0 a=none
 len:σ.length=Γ.length
 has:∀ (i:Nat) (x:DV),Γ[i]?=some (some x)→∃ v,σ[i]?=some (some v)∧HasV K S H0 H F v x
 ne:∀ (i j:Nat) (x y:DV) (v w:V) (a:Addr),Γ[i]?=some (some x)→Γ[j]?=some (some y)→σ[i]?=some (some v)→σ[j]?=some (some w)→Owns H v x a→Owns H w y a→i=j
variable {S:Sx} {κ:Bool}
theorem DEnv.le {H0 F0 H F:Hp} {σ:St} {Γ:Ctx} (e:DEnv K S H0 F0 H F σ Γ):Same F H:=e.gr.le
theorem DEnv.out {H0 F0 H F:Hp} {σ:St} {Γ:Ctx} (e:DEnv K S H0 F0 H F σ Γ) {p:Addr} (hp:H p=none):¬ S.has H0 p:=fun c=>by
 obtain ⟨o,q⟩:=e.sd p c
 rw [hp] at q; cases q
theorem OwnO.mono {H0 H F H' F':Hp} {a:Addr} {u:HO} (o:OwnO S H0 H F a u) (g:Gr H F H' F'):OwnO S H0 H' F' a u:=⟨g.h _ _ o.h,g.ap _ _ o.h o.f,o.n,o.s⟩
theorem HasV.mono {H0 H F H' F':Hp} {v:V} {x:DV} (h:HasV K S H0 H F v x) (g:Gr H F H' F'):HasV K S H0 H' F' v x:=by
 cases x with
 | fz κ d=>exact yK g.f h
 | ow κ ds=>obtain ⟨a,vs,e,o,k⟩:=h; exact ⟨a,vs,e,o.mono g,zD g.f k⟩
 | tn d=>obtain ⟨T,e,k⟩:=h; exact ⟨T,e,yK g.f k⟩
 | ox=>obtain ⟨a,vs,e,o⟩:=h; exact ⟨a,vs,e,o.mono g⟩
 | o2 r dss =>
  obtain ⟨a,vs,e,o,n1,n2,l,k⟩:=h
  refine ⟨a,vs,e,o.mono g,n1,n2,l,fun j x hx=>?_⟩
  obtain ⟨b,us,ds,e2,o2,h2,k2⟩:=k j x hx
  exact ⟨b,us,ds,e2,o2.mono g,h2,zD g.f k2⟩
 | fn a=>exact h
 | xn φ=>obtain ⟨a,e,k⟩:=h; exact ⟨a,e,g.f _ _ k⟩
 | oa a κ ds=>obtain ⟨e,vs,o,k⟩:=h; exact ⟨e,vs,o.mono g,zD g.f k⟩
 | xp φ=>obtain ⟨F1,s,k⟩:=h; exact ⟨F1,s.trans g.f,k⟩
 | od u=>obtain ⟨a,e,o⟩:=h; exact ⟨a,e,o.mono g⟩
 | og ad ψ =>
  obtain ⟨ok,w,p⟩:=h
  have eq:∀ a,ad H v a→H' a=H a:=fun a z=>by
   obtain ⟨o,y⟩:=w a z
   rw [y.h]
   exact g.h _ _ y.h
  refine ⟨ok,fun a z=>?_,ok.ps S H0 H H' F F' v eq g.f p⟩
  obtain ⟨o,y⟩:=w a ((ok.pl H H' v eq a).mp z)
  exact ⟨o,y.mono g⟩
theorem HasV.owns {H0 H F:Hp} {v:V} {x:DV} {a:Addr} (h:HasV K S H0 H F v x) (o:Owns H v x a):∃ u,OwnO S H0 H F a u:=by
 cases x with
 | fz _ _=>exact o.elim
 | tn _=>exact o.elim
 | ow κ ds=>obtain ⟨b,vs,e,w,_⟩:=h; cases (show v=.ref a from o); cases e; exact ⟨_,w⟩
 | ox=>obtain ⟨b,vs,e,w⟩:=h; cases (show v=.ref a from o); cases e; exact ⟨_,w⟩
 | o2 r dss =>
  obtain ⟨b,vs,e,w,_,_,_,k⟩:=h
  rcases o with o | ⟨p,us,e2,hp,hm⟩
  ·cases o; cases e.eq; exact ⟨_,w⟩
  ·cases e.eq
   cases e2
   have hw:=w.h
   rw [hp] at hw
   cases hw
   obtain ⟨j,hj⟩:=ζH.mp hm
   obtain ⟨c,ws,ds,e3,o3,_⟩:=k j _ hj
   cases e3
   exact ⟨_,o3⟩
 | fn _=>exact o.elim
 | xn _=>exact o.elim
 | oa b κ ds=>obtain ⟨e,vs,w,_⟩:=h; cases (show v=.ref a from o); cases e; exact ⟨_,w⟩
 | xp _=>exact o.elim
 | od u=>obtain ⟨b,e,w⟩:=h; cases (show v=.ref a from o); cases e; exact ⟨u,w⟩
 | og ad ψ=>exact h.2.1 a o
theorem Owns.back {H0 H F H':Hp} {v:V} {x:DV} {a:Addr} (h:HasV K S H0 H F v x) (g:∀ b u,OwnO S H0 H F b u→H' b=some u) (o:Owns H' v x a):Owns H v x a:=by
 cases x with
 | fz _ _=>exact o.elim
 | tn _=>exact o.elim
 | ow κ ds=>exact o
 | ox=>exact o
 | o2 r dss =>
  rcases o with o | ⟨p,us,e2,hp,hm⟩
  ·exact .inl o
  ·obtain ⟨b,vs,e',w,_⟩:=h
   have e:=e'.eq
   rw [e2] at e
   cases e
   rw [g _ _ w] at hp
   cases hp
   exact .inr ⟨p,_,e2,w.h,hm⟩
 | fn _=>exact o.elim
 | xn _=>exact o.elim
 | oa b κ ds=>exact o
 | xp _=>exact o.elim
 | od _=>exact o
 | og ad ψ =>
  obtain ⟨ok,w,p⟩:=h
  exact (ok.pl H H' v (fun b z=>by
   obtain ⟨u,y⟩:=w b z
   rw [g _ _ y,y.h]) a).mp o
theorem DEnv.mono {H0 F0 H F H' F':Hp} {σ:St} {Γ:Ctx} (e:DEnv K S H0 F0 H F σ Γ) (g:Gr H F H' F'):DEnv K S H0 F0 H' F' σ Γ where
 gr:=e.gr.trans g
 l0:=e.l0
 sd:=fun a h=>let ⟨o,q⟩:=e.sd a h; ⟨o,g.h _ _ q⟩
 s0:=e.s0
 len:=e.len
 has:=fun i x h=>let ⟨v,a,b⟩:=e.has i x h; ⟨v,a,b.mono g⟩
 ne:=fun i j x y v w a h1 h2 h3 h4 o1 o2=>by
  obtain ⟨v',q1,q2⟩:=e.has i x h1
  obtain ⟨w',q3,q4⟩:=e.has j y h2
  rw [h3] at q1
  cases q1
  rw [h4] at q3
  cases q3
  exact e.ne i j x y v w a h1 h2 h3 h4 (o1.back q2 fun _ _ z=>g.h _ _ z.h) (o2.back q4 fun _ _ z=>g.h _ _ z.h)
section
variable {Γ:Ctx}
def EvE (K:ζb) (S:Sx) (κ:Bool) (t:TE) (Γ:Ctx) (d:PyData):Prop:=∀ (H0 F0 H F:Hp) (σ:St),DEnv K S H0 F0 H F σ Γ→∀ Q:VK,(∀ v H' F',Gr H F H' F'→Rp K κ S H0 F' v d→Q v H')→t σ H Q
def EvO (K:ζb) (S:Sx) (κ:Bool) (t:TE) (Γ:Ctx) (ds:List PyData):Prop:=∀ (H0 F0 H F:Hp) (σ:St),DEnv K S H0 F0 H F σ Γ→∀ Q:VK,(∀ a vs H' F',Gr H F H' F'→H a=none→H' a=some (.lst vs)→F' a=none→zj K κ S H0 F' vs ds→Q (.ref a) H')→t σ H Q
def EvL (K:ζb) (S:Sx) (κ:Bool) (t:TE) (Γ:Ctx) (ds:List PyData):Prop:=∀ (H0 F0 H F:Hp) (σ:St),DEnv K S H0 F0 H F σ Γ→∀ Q:VK,(∀ a vs H' F',Gr H F H' F'→SqL K H' a vs→zj K κ S H0 F' vs ds→Q (.ref a) H')→t σ H Q
def EvD (K:ζb) (S:Sx) (t:TE) (Γ:Ctx) (d:PyData):Prop:=∀ (H0 F0 H F:Hp) (σ:St),DEnv K S H0 F0 H F σ Γ→∀ Q:VK,(∀ v H' F',Gr H F H' F'→Dp K H' v d→Q v H')→t σ H Q
def EvT (K:ζb) (S:Sx) (t:TT) (Γ:Ctx) (b:Bool):Prop:=∀ (H0 F0 H F:Hp) (σ:St),DEnv K S H0 F0 H F σ Γ→∀ Q:Bool→Hp→Prop,(∀ H' F',Gr H F H' F'→Q b H')→t σ H Q
def EvA (K:ζb) (S:Sx) (κ:Bool) (t:TA) (Γ:Ctx) (ds:List PyData):Prop:=∀ (H0 F0 H F:Hp) (σ:St),DEnv K S H0 F0 H F σ Γ→∀ Q:List V→Hp→Prop,(∀ vs H' F',Gr H F H' F'→zj K κ S H0 F' vs ds→Q vs H')→t σ H Q
def EvP (K:ζb) (S:Sx) (t:TO) (Γ:Ctx) (o:Option Int):Prop:=∀ (H0 F0 H F:Hp) (σ:St),DEnv K S H0 F0 H F σ Γ→∀ Q:Option Int→Hp→Prop,(∀ H' F',Gr H F H' F'→Q o H')→t σ H Q
theorem EvE.toD {t:TE} {d:PyData} (h:EvE K S κ t Γ d):EvD K S t Γ d:=fun H0 F0 H F σ e Q q=>h H0 F0 H F σ e Q fun v H' F' g p=>q v H' F' g (xX g.le (wj p))
theorem EvE.weak {κ':Bool} {t:TE} {d:PyData} (h:EvE K S κ t Γ d) (hk:κ'=true→κ=true):EvE K S κ' t Γ d:=fun H0 F0 H F σ e Q q=>h H0 F0 H F σ e Q fun v H' F' g p=>q v H' F' g (Zb hk p)
theorem EvE.imm {κ':Bool} {t:TE} {d:PyData} (h:EvE K S κ t Γ d) (hk:imm d=true):EvE K S κ' t Γ d:=fun H0 F0 H F σ e Q q=>h H0 F0 H F σ e Q fun v H' F' g p=>q v H' F' g (Z1 hk (wj p))
theorem EvE.toL {t:TE} {ds:List PyData} (h:EvE K S κ t Γ (.list ds)):EvL K S κ t Γ ds:=fun H0 F0 H F σ e Q q=>h H0 F0 H F σ e Q fun v H' F' g p=>by
 obtain ⟨a,vs,rfl,h1,h2⟩:=x9 p
 exact q a vs H' F' g (g.le.seq h1.sq) h2
theorem EvL.imm {κ':Bool} {t:TE} {ds:List PyData} (h:EvL K S κ t Γ ds) (hk:∀ d∈ds,imm d=true):EvL K S κ' t Γ ds:=fun H0 F0 H F σ e Q q=>h H0 F0 H F σ e Q fun a vs H' F' g p k=>q a vs H' F' g p (xG hk (zU k))
theorem EvO.toL {t:TE} {ds:List PyData} (h:EvO K S κ t Γ ds):EvL K S κ t Γ ds:=fun H0 F0 H F σ e Q q=>h H0 F0 H F σ e Q fun a vs H' F' g _ p _ k=>q a vs H' F' g (SqL.of p) k
theorem EvO.toE {t:TE} {ds:List PyData} (h:EvO K S κ t Γ ds):EvE K S κ t Γ (.list ds):=fun H0 F0 H F σ e Q q=>h H0 F0 H F σ e Q fun a vs H' F' g n p f k=>by
 have s:Same F' (upd F' a (.lst vs)):=Same.new f _
 refine q (.ref a) H' (upd F' a (.lst vs)) ⟨g.h,g.f.trans s,fun b u z=>?_,fun b u z y=>?_⟩ (.lst (LN.new (e.out n)) (zD s k))
 ·by_cases eb:b=a
  ·subst eb; rw [zp] at z; rw [← z]; exact p
  ·rw [zt eb] at z; exact g.le _ _ z
 ·rw [zt (zK z n)]; exact g.ap _ _ z y
theorem zcs {i:Nat} {ds:List PyData} (h:Γ[i]?=some (some (.ow κ ds))):EvL K S κ (tVar i) Γ ds:=fun H0 F0 H F σ e Q q=>by
 obtain ⟨v,h1,a,vs,rfl,o,k⟩:=e.has i _ h
 exact ⟨_,h1,q a vs H F (.refl e.le) (SqL.of o.h) k⟩
theorem Uw {i:Nat} {d:PyData} (h:Γ[i]?=some (some (.fz κ d))):EvE K S κ (tVar i) Γ d:=fun H0 F0 H F σ e Q q=>by
 obtain ⟨v,hv,hd⟩:=e.has i _ h
 exact ⟨v,hv,q v H F (.refl e.le) hd⟩
theorem zdZ {i:Nat} {d:PyData} (h:Γ[i]?=some (some (.tn d))):EvE K S false (tVar i) Γ d:=fun H0 F0 H F σ e Q q=>by
 obtain ⟨v,hv,T,_,hd⟩:=e.has i _ h
 exact ⟨v,hv,q v H F (.refl e.le) (Z0 (wj hd))⟩
theorem zd6 {i:Int}:EvE K S κ (tC (.int i)) Γ (.int i):=fun _ _ H F _ e _ q=>q _ H F (.refl e.le) (.int i)
theorem zeC {b:Bool}:EvE K S κ (tC (.bl b)) Γ (.bool b):=fun _ _ H F _ e _ q=>q _ H F (.refl e.le) (.bl b)
theorem zd4:EvE K S κ (tC .non) Γ .none:=fun _ _ H F _ e _ q=>q _ H F (.refl e.le) .non
theorem zd1 {x:Str}:EvE K S κ (tC (.str x)) Γ (.str x):=fun _ _ H F _ e _ q=>q _ H F (.refl e.le) (.str x)
theorem Tz {r:R2} {ta tb:TE} {x y d:PyData} (ha:EvE K S false ta Γ x) (hb:EvE K S false tb Γ y) (hr:∀ v w H F (Q:VK),Same F H→Dp K F v x→Dp K F w y→(∀ z,(∀ F,Dp K F z d)→Q z H)→r v w H Q) (hi:imm d=true:=by rfl):EvE K S κ (tOp r ta tb) Γ d:=fun H0 F0 H F σ e Q q =>
 ha H0 F0 H F σ e _ fun v H1 F1 g1 p1=>hb H0 F0 H1 F1 σ (e.mono g1) _ fun w H2 F2 g2 p2=>by
  exact hr v w H2 F2 Q g2.le (xX g2.f (wj p1)) (wj p2) fun z p3=>q z H2 F2 (g1.trans g2) (Z1 hi (p3 F2))
theorem VH {g:Int→Int→V} {ta tb:TE} {i j:Int} {d:PyData} (hi:imm d=true) (hg:∀ F,Dp K F (g i j) d) (ha:EvE K S false ta Γ (.int i)) (hb:EvE K S false tb Γ (.int j)):EvE K S κ (tOp (rI0 g) ta tb) Γ d :=
 Tz ha hb (fun v w H F Q le p1 p2 k=>by cases vX p1; cases vX p2; exact ⟨i,j,rfl,rfl,k _ hg⟩) hi
theorem ev_I {C:Int→Int→Prop} {g:Int→Int→V} {ta tb:TE} {i j:Int} {d:PyData} (hi:imm d=true) (hg:∀ F,Dp K F (g i j) d) (ha:EvE K S false ta Γ (.int i)) (hb:EvE K S false tb Γ (.int j)) (hc:C i j):EvE K S κ (tOp (rI C g) ta tb) Γ d :=
 Tz ha hb (fun v w H F Q le p1 p2 k=>by cases vX p1; cases vX p2; exact ⟨i,j,rfl,rfl,hc,k _ hg⟩) hi
theorem yv {ta tb:TE} {i j:Int} (ha:EvE K S false ta Γ (.int i)) (hb:EvE K S false tb Γ (.int j)):EvE K S κ (tOp (rI0 fun i j=>.int (i + j)) ta tb) Γ (.int (i + j)):=VH rfl (fun _=>.int _) ha hb
theorem zbe {ta tb:TE} {i j:Int} (ha:EvE K S false ta Γ (.int i)) (hb:EvE K S false tb Γ (.int j)):EvE K S κ (tOp (rI0 fun i j=>.int (i - j)) ta tb) Γ (.int (i - j)):=VH rfl (fun _=>.int _) ha hb
theorem VE {ta tb:TE} {i j:Int} (ha:EvE K S false ta Γ (.int i)) (hb:EvE K S false tb Γ (.int j)):EvE K S κ (tOp (rI0 fun i j=>.bl (decide (i < j))) ta tb) Γ (.bool (decide (i < j))):=VH rfl (fun _=>.bl _) ha hb
theorem ZW {ta tb:TE} {i j:Int} (ha:EvE K S false ta Γ (.int i)) (hb:EvE K S false tb Γ (.int j)):EvE K S κ (tOp (rI0 fun i j=>.bl (decide (j < i))) ta tb) Γ (.bool (decide (j < i))):=VH rfl (fun _=>.bl _) ha hb
theorem zdc {ta tb:TE} {i j:Int} (ha:EvE K S false ta Γ (.int i)) (hb:EvE K S false tb Γ (.int j)):EvE K S κ (tOp (rI0 fun i j=>.bl (decide (j≤i))) ta tb) Γ (.bool (decide (j≤i))):=VH rfl (fun _=>.bl _) ha hb
theorem wc {ta tb:TE} {i j:Int} (ha:EvE K S false ta Γ (.int i)) (hb:EvE K S false tb Γ (.int j)) (hc:IntMulOk i j):EvE K S κ (tOp (rI IntMulOk fun i j=>.int (i * j)) ta tb) Γ (.int (i * j)):=ev_I rfl (fun _=>.int _) ha hb hc
theorem xx {ta tb:TE} {i j:Int} (ha:EvE K S false ta Γ (.int i)) (hb:EvE K S false tb Γ (.int j)) (hc:CDiv i j):EvE K S κ (tOp (rI CDiv fun i j=>.int (i / j)) ta tb) Γ (.int (i / j)):=ev_I rfl (fun _=>.int _) ha hb hc
theorem yJ {ta tb:TE} {i j:Int} (ha:EvE K S false ta Γ (.int i)) (hb:EvE K S false tb Γ (.int j)) (hc:0 < j):EvE K S κ (tOp (rI (fun _ j=>0 < j) fun i j=>.int (i % j)) ta tb) Γ (.int (i % j)):=ev_I rfl (fun _=>.int _) ha hb hc
theorem Uy {ta tb:TE} {i j:Int} (ha:EvE K S false ta Γ (.int i)) (hb:EvE K S false tb Γ (.int j)) (hc:CPow i j):EvE K S κ (tOp (rI CPow fun i j=>.int (i ^ j.toNat)) ta tb) Γ (.int (i ^ j.toNat)):=ev_I rfl (fun _=>.int _) ha hb hc
theorem Wi {ta:TE} {i:Int} (ha:EvE K S false ta Γ (.int i)):EvE K S κ (tUn (rU fun i=>.int (-i)) ta) Γ (.int (-i)):=fun H0 F0 H F σ e Q q =>
 ha H0 F0 H F σ e _ fun v H1 F1 g1 p1=>by cases yH p1; exact ⟨i,rfl,q _ H1 F1 g1 (.int _)⟩
theorem uS (i j:Int):decide (V.int i=V.int j)=decide (i=j):=by by_cases h:i=j <;> simp [h]
theorem wN {ta tb:TE} {i j:Int} (ha:EvE K S false ta Γ (.int i)) (hb:EvE K S false tb Γ (.int j)):EvE K S κ (tOp rEq ta tb) Γ (.bool (decide (i=j))) :=
 Tz ha hb fun v w H F Q le p1 p2 k=>by
  cases vX p1; cases vX p2
  refine ⟨rfl,?_⟩
  rw [uS]; exact k _ fun _=>.bl _
theorem Wj {ta tb:TE} {i j:Int} (ha:EvE K S false ta Γ (.int i)) (hb:EvE K S false tb Γ (.int j)):EvE K S κ (tOp rNe ta tb) Γ (.bool (!(decide (i=j)))) :=
 Tz ha hb fun v w H F Q le p1 p2 k=>by
  cases vX p1; cases vX p2
  refine ⟨rfl,?_⟩
  rw [uS]; exact k _ fun _=>.bl _
def isNone:PyData→Bool
 | .none=>true
 | _=>false
theorem zaL {F:Hp} {v:V} {d:PyData} (h:Dp K F v d):decide (v=.non)=isNone d:=by
 cases h <;> first | rfl | exact decide_eq_false (by intro e; cases e)
theorem UA {ta:TE} {d:PyData} (ha:EvD K S ta Γ d):EvE K S κ (tOp (fun x y H Q=>y=.non∧Q (.bl (decide (x=.non))) H) ta (tC .non)) Γ (.bool (isNone d)):=fun H0 F0 H F σ e Q q =>
 ha H0 F0 H F σ e _ fun v H1 F1 g1 p1=>⟨rfl,by rw [zaL p1]; exact q _ H1 F1 g1 (.bl _)⟩
theorem uk {neg:Bool} {ta tb:TE} {d f:PyData} (ha:EvD K S ta Γ d) (hb:EvD K S tb Γ f) (z1:SeqAt.shaped d=true) (z2:SeqAt.shaped f=true):EvE K S κ (tOp (rEqD K neg) ta tb) Γ (.bool (if neg then !PyData.eqv d f else PyData.eqv d f)):=fun H0 F0 H F σ e Q q =>
 ha H0 F0 H F σ e _ fun v H1 F1 g1 p1=>hb H0 F0 H1 F1 σ (e.mono g1) _ fun w H2 F2 g2 p2=>⟨d,f,xX g2.h p1,p2,z1,z2,q _ H2 F2 (g1.trans g2) (.bl _)⟩
theorem Zi {ta tb:TE} {d:PyData} (ha:EvD K S ta Γ d) (hb:EvD K S tb Γ d) (z:SeqAt.shaped d=true):EvE K S κ (tOp (rEqS K) ta tb) Γ (.bool true):=fun H0 F0 H F σ e Q q =>
 ha H0 F0 H F σ e _ fun v H1 F1 g1 p1=>hb H0 F0 H1 F1 σ (e.mono g1) _ fun w H2 F2 g2 p2=>⟨d,xX g2.h p1,p2,z,q _ H2 F2 (g1.trans g2) (.bl _)⟩
theorem zct {ta tb:TE} {d:PyData} (ha:EvD K S ta Γ d) (hb:EvD K S tb Γ d) (z:SeqAt.shaped d=true):EvE K S κ (tOp (rNeS K) ta tb) Γ (.bool false):=fun H0 F0 H F σ e Q q =>
 ha H0 F0 H F σ e _ fun v H1 F1 g1 p1=>hb H0 F0 H1 F1 σ (e.mono g1) _ fun w H2 F2 g2 p2=>⟨d,xX g2.h p1,p2,z,q _ H2 F2 (g1.trans g2) (.bl _)⟩
theorem zbx {H0 F:Hp} {vs:List V} {ds:List PyData} {i:Int} {d:PyData} (k:zj K κ S H0 F vs ds) (h:atI ds i=some d):∃ v,atI vs i=some v∧Rp K κ S H0 F v d:=by
 unfold atI at h ⊢
 rw [zj.length k]
 cases e:ixN ds.length i with
 | none=>rw [e] at h; cases h
 | some j=>rw [e] at h; exact zj.get k h
theorem zY {ta tb:TE} {ds:List PyData} {i:Int} {d:PyData} (ha:EvL K S κ ta Γ ds) (hb:EvE K S false tb Γ (.int i)) (h:atI ds i=some d):EvE K S κ (tOp (rIxL K) ta tb) Γ d:=fun H0 F0 H F σ e Q q =>
 ha H0 F0 H F σ e _ fun a vs H1 F1 g1 p1 k1=>hb H0 F0 H1 F1 σ (e.mono g1) _ fun w H2 F2 g2 p2=>by
  cases yH p2
  obtain ⟨v,h1,h2⟩:=zbx (zD g2.f k1) h
  exact ⟨a,vs,i,v,rfl,rfl,g2.h.seq p1,h1,q _ H2 F2 (g1.trans g2) h2⟩
theorem yV {ta tb:TE} {ds:List PyData} {i:Int} {d:PyData} (ha:EvE K S κ ta Γ (.tuple ds)) (hb:EvE K S false tb Γ (.int i)) (h:atI ds i=some d):EvE K S κ (tOp (rIxT K) ta tb) Γ d:=fun H0 F0 H F σ e Q q =>
 ha H0 F0 H F σ e _ fun v H1 F1 g1 p1=>hb H0 F0 H1 F1 σ (e.mono g1) _ fun w H2 F2 g2 p2=>by
  cases yH p2
  obtain ⟨a,vs,rfl,h1,h2⟩:=u5 p1
  obtain ⟨v,h3,h4⟩:=zbx (zD g2.f h2) h
  exact ⟨a,vs,i,v,rfl,rfl,Same.seqT (g1.le.trans g2.h) h1,h3,q _ H2 F2 (g1.trans g2) h4⟩
theorem wf {ta tb:TE} {a b:Bool} (ha:EvE K S false ta Γ (.bool a)) (hb:a=true→EvE K S false tb Γ (.bool b)):EvE K S κ (zcP ta tb) Γ (.bool (a && b)):=fun H0 F0 H F σ e Q q =>
 ha H0 F0 H F σ e _ fun v H1 F1 g1 p1=>by
  cases tM p1
  refine ⟨a,rfl,?_⟩
  cases a with
  | true=>exact iteT (hb rfl H0 F0 H1 F1 σ (e.mono g1) Q fun v H2 F2 g2 p2=>by cases tM p2; exact q _ H2 F2 (g1.trans g2) (.bl _))
  | false=>exact iteF (q _ H1 F1 g1 (.bl _))
theorem VD {ta tb:TE} {a b:Bool} (ha:EvE K S false ta Γ (.bool a)) (hb:a=false→EvE K S false tb Γ (.bool b)):EvE K S κ (tOrV ta tb) Γ (.bool (a || b)):=fun H0 F0 H F σ e Q q =>
 ha H0 F0 H F σ e _ fun v H1 F1 g1 p1=>by
  cases tM p1
  refine ⟨a,rfl,?_⟩
  cases a with
  | false=>exact iteF (hb rfl H0 F0 H1 F1 σ (e.mono g1) Q fun v H2 F2 g2 p2=>by cases tM p2; exact q _ H2 F2 (g1.trans g2) (.bl _))
  | true=>exact iteT (q _ H1 F1 g1 (.bl _))
theorem zd3 {ta:TE} {a:Bool} (ha:EvE K S false ta Γ (.bool a)):EvE K S κ (zcO ta) Γ (.bool (!a)):=fun H0 F0 H F σ e Q q =>
 ha H0 F0 H F σ e _ fun v H1 F1 g1 p1=>by cases tM p1; exact ⟨a,rfl,q _ H1 F1 g1 (.bl _)⟩
theorem yf {t:TE} {b:Bool} (h:EvE K S false t Γ (.bool b)):EvT K S (QS t) Γ b:=fun H0 F0 H F σ e Q q =>
 h H0 F0 H F σ e _ fun v H1 F1 g1 p1=>by cases tM p1; exact ⟨b,rfl,q H1 F1 g1⟩
theorem et_B {t:TE} {b:Bool} (h:EvE K S false t Γ (.bool b)):EvT K S (tB t) Γ b:=fun H0 F0 H F σ e Q q =>
 h H0 F0 H F σ e _ fun v H1 F1 g1 p1=>by cases tM p1; exact ⟨b,rfl,q H1 F1 g1⟩
theorem UB {t u:TT} {a b:Bool} (ha:EvT K S t Γ a) (hb:a=true→EvT K S u Γ b):EvT K S (tAnd t u) Γ (a && b):=fun H0 F0 H F σ e Q q =>
 ha H0 F0 H F σ e _ fun H1 F1 g1=>by
  cases a with
  | true=>exact iteT (hb rfl H0 F0 H1 F1 σ (e.mono g1) Q fun H2 F2 g2=>q H2 F2 (g1.trans g2))
  | false=>exact iteF (q H1 F1 g1)
theorem tT {t u:TT} {a b:Bool} (ha:EvT K S t Γ a) (hb:a=false→EvT K S u Γ b):EvT K S (tOr t u) Γ (a || b):=fun H0 F0 H F σ e Q q =>
 ha H0 F0 H F σ e _ fun H1 F1 g1=>by
  cases a with
  | false=>exact iteF (hb rfl H0 F0 H1 F1 σ (e.mono g1) Q fun H2 F2 g2=>q H2 F2 (g1.trans g2))
  | true=>exact iteT (q H1 F1 g1)
theorem xk {t:TT} {a:Bool} (ha:EvT K S t Γ a):EvT K S (tNot t) Γ (!a):=fun H0 F0 H F σ e Q q=>ha H0 F0 H F σ e _ fun H1 F1 g1=>q H1 F1 g1
theorem Wm:EvT K S tYes Γ true:=fun H0 F0 H F σ e Q q=>q H F (.refl e.le)
theorem EvT.eq {t:TT} {a b:Bool} (h:EvT K S t Γ a) (e:a=b):EvT K S t Γ b:=e ▸ h
theorem EvE.eq {t:TE} {a b:PyData} (h:EvE K S κ t Γ a) (e:a=b):EvE K S κ t Γ b:=e ▸ h
theorem EvO.eq {t:TE} {a b:List PyData} (h:EvO K S κ t Γ a) (e:a=b):EvO K S κ t Γ b:=e ▸ h
theorem zG:EvA K S κ tNil Γ []:=fun H0 F0 H F σ e Q q=>q [] H F (.refl e.le) .nil
theorem zi {t:TE} {u:TA} {d:PyData} {ds:List PyData} (h:EvE K S κ t Γ d) (k:EvA K S κ u Γ ds):EvA K S κ (zE t u) Γ (d :: ds):=fun H0 F0 H F σ e Q q =>
 h H0 F0 H F σ e _ fun v H1 F1 g1 p1=>k H0 F0 H1 F1 σ (e.mono g1) _ fun vs H2 F2 g2 p2=>q _ H2 F2 (g1.trans g2) (.cons (yK g2.f p1) p2)
theorem vg {t:TA} {ds:List PyData} (h:EvA K S κ t Γ ds) (hz:ds.length≤sizeLine):EvE K S κ (tTup t) Γ (.tuple ds):=fun H0 F0 H F σ e Q q =>
 h H0 F0 H F σ e _ fun vs H1 F1 g1 p1=>⟨by rw [zj.length p1]; exact hz,fun p hp=>q _ _ (upd F1 p (.tup vs)) (g1.trans (.new g1.le hp _)) (.tup (SqT.of zp) (zD (Same.new (g1.le.free hp) _) p1))⟩
theorem zZ {t:TA} {ds:List PyData} (h:EvA K S κ t Γ ds) (hz:ds.length≤sizeLine):EvO K S κ (tLst t) Γ ds:=fun H0 F0 H F σ e Q q =>
 h H0 F0 H F σ e _ fun vs H1 F1 g1 p1=>⟨by rw [zj.length p1]; exact hz,fun p hp=>q p vs _ F1 (g1.trans (.newO g1.le hp _)) (g1.h.free hp) zp (g1.le.free hp) p1⟩
def spD (K:ζb) (κ:Bool) (pre:List PyData→PyData→Prop):Sp:=fun vs H Q _=>∃ F ds d,Same F H∧zT K F vs ds∧pre ds d∧∀ v H' F',Gr H F H' F'→Rp K κ .fresh H F' v d→Q v H'
theorem zr {pre:List PyData→PyData→Prop} {E:XK} {t:TA} {ds:List PyData} {d:PyData} (h:EvA K S false t Γ ds) (hp:pre ds d):EvE K S κ (uv (spD K true pre) [] E t) Γ d:=fun H0 F0 H F σ e Q q =>
 h H0 F0 H F σ e _ fun vs H1 F1 g1 p1=>⟨F1,ds,d,g1.le,by rw [ζW]; exact zU p1,hp,fun v H2 F2 g2 p2=>q v H2 F2 (g1.trans g2) (Zb (κ:=true) (fun _=>rfl) (wC (κ:=true) (κ':=true) (S':=S) (H0':=H0) (fun a xs z=>⟨z.1,fun c=>by
  obtain ⟨u,hu⟩:=(e.mono g1).sd a c
  exact z.2 (by show H1 a≠none; rw [hu]; simp)⟩) (fun _ _ z=>z) p2))⟩
theorem VF {pre:List PyData→PyData→Prop} {E:XK} {t:TA} {ds:List PyData} {d:PyData} (h:EvA K S false t Γ ds) (hp:pre ds d):EvE K S false (uv (spD K false pre) [] E t) Γ d:=fun H0 F0 H F σ e Q q =>
 h H0 F0 H F σ e _ fun vs H1 F1 g1 p1=>⟨F1,ds,d,g1.le,by rw [ζW]; exact zU p1,hp,fun v H2 F2 g2 p2=>q v H2 F2 (g1.trans g2) (Z0 (wj p2))⟩
theorem yu {ta:TE} {ds:List PyData} (h:EvL K S false ta Γ ds):EvE K S κ (tCB (fun xs H Q=>∃ p ys,xs=[.ref p]∧(SqL K H p ys∨SqT K H p ys)∧Q (.int ys.length) H) (zE ta tNil)) Γ (.int ds.length):=fun H0 F0 H F σ e Q q =>
 h H0 F0 H F σ e _ fun a vs H1 F1 g1 p1 k1=>⟨a,vs,rfl,.inl p1,q _ H1 F1 g1 (by rw [zj.length k1]; exact .int _)⟩
theorem ZV {ta:TE} {ds:List PyData} (h:EvL K S κ ta Γ ds):EvO K S κ (tCB (fun xs H Q=>∃ p ys,xs=[.ref p]∧(SqL K H p ys∨SqT K H p ys)∧∀ l,H l=none→Q (.ref l) (upd H l (.lst ys))) (zE ta tNil)) Γ ds:=fun H0 F0 H F σ e Q q =>
 h H0 F0 H F σ e _ fun a vs H1 F1 g1 p1 k1=>⟨a,vs,rfl,.inl p1,fun p hp=>q p vs _ F1 (g1.trans (.newO g1.le hp _)) (g1.h.free hp) zp (g1.le.free hp) k1⟩
def cutD (xs:List PyData) (lo hi:Option Int):List PyData:=(xs.drop (HT.sIx xs.length 0 lo)).take (HT.sIx xs.length xs.length hi - HT.sIx xs.length 0 lo)
theorem zeb {H0 F:Hp} {vs:List V} {ds:List PyData} {lo hi:Option Int} (k:zj K κ S H0 F vs ds):zj K κ S H0 F (cutV vs lo hi) (cutD ds lo hi):=by
 unfold cutV cutD
 rw [zj.length k]
 exact zj.take _ (zj.drop _ k)
theorem zcx:EvP K S UT Γ none:=fun H0 F0 H F σ e Q q=>q H F (.refl e.le)
theorem xf {t:TE} {i:Int} (h:EvE K S false t Γ (.int i)):EvP K S (zcN t) Γ (some i):=fun H0 F0 H F σ e Q q =>
 h H0 F0 H F σ e _ fun v H1 F1 g1 p1=>by cases yH p1; exact ⟨i,rfl,q H1 F1 g1⟩
theorem y6 {t:TE} {tl th:TO} {ds:List PyData} {lo hi:Option Int} (h:EvL K S κ t Γ ds) (hl:EvP K S tl Γ lo) (hh:EvP K S th Γ hi):EvO K S κ (tSl (rSlL K) t tl th) Γ (cutD ds lo hi):=fun H0 F0 H F σ e Q q =>
 h H0 F0 H F σ e _ fun a vs H1 F1 g1 p1 k1=>hl H0 F0 H1 F1 σ (e.mono g1) _ fun H2 F2 g2=>hh H0 F0 H2 F2 σ ((e.mono g1).mono g2) _ fun H3 F3 g3 =>
  ⟨a,vs,rfl,(g2.h.trans g3.h).seq p1,fun p hp=>q p _ _ F3 (((g1.trans g2).trans g3).trans (.newO g3.le hp _)) (((g1.trans g2).trans g3).h.free hp) zp (g3.le.free hp) (zeb (zD (g2.f.trans g3.f) k1))⟩
end
end PD
namespace L2
open PySem PySem.Spec PyProof.Rows
section
variable {X:Cx} {K:ζb}
def zae (K:ζb):R2:=fun x y H Q=>∃ l b xs zs,x=.ref l∧y=.ref b∧SqL K H l xs∧SqL K H b zs∧xs.length + zs.length≤sizeLine∧∀ p,H p=none→Q (.ref p) (upd H p (.lst (xs ++ zs)))
theorem zb4:OpR X (binaryOp .Add) (zae X.K):=by
 intro pins s σ H x y v u Q I rx ry h
 obtain ⟨l,b,xs,zs,rfl,rfl,hH,hB,hz,q⟩:=h
 cases rx
 cases ry
 obtain ⟨its,r,pl,z⟩:=I.list hH
 obtain ⟨its2,r2,pl2,z2⟩:=I.list hB
 have l1:=r.length
 have l2:=r2.length
 obtain ⟨⟨cls,dd,data,sl⟩,ho,hc,n,hd⟩:=pl.isList
 obtain ⟨⟨cls2,dd2,data2,sl2⟩,ho2,hc2,n2,hd2⟩:=pl2.isList
 simp only at hc hd hc2 hd2
 subst hc hd hc2 hd2
 have e:its.toArray ++ its2.toArray=(its ++ its2).toArray:=by simp
 refine concat_meets ⟨_,ho,rfl⟩ ⟨_,ho2,rfl⟩ noFill_list_add seq_list_add PySem.F.slot_list_add PySem.F.entry_list_add (PySem.F.args_list_add_2 _ _) (list_addW l b its.toArray its2.toArray n n2 dd dd2 sl sl2 (by simp only [List.size_toArray]; omega)) ⟨ho,ho2,?_⟩
 rw [e]
 exact ⟨.ref _,_,I.lnew (t':=s.toks) (r.append r2) (by rw [ζj]; omega),rfl,q _ I.fresh⟩
def tyD:PyData→String
 | .none => "NoneType"
 | .bool _ => "bool"
 | .int _ => "int"
 | .str _ => "str"
 | .list _ => "list"
 | .tuple _ => "tuple"
 | _ => "object"
def zac (K:ζb):List V→Hp→VK→Prop:=fun xs H Q=>∃ x d T b,xs=[x,.ty T]∧Dp K H x d∧PySem.W.kitOne K (.type (tyD d)) (.type T)=some b∧Q (.bl b) H
theorem QH:yB X (.builtin "isinstance") (zac X.K):=by
 intro pins s σ H xs us Q I r h
 obtain ⟨x,d,T,b,rfl,dp,e,q⟩:=h
 obtain ⟨u,v,rfl,ru,rv⟩:=r.two
 cases (show v=Value.type T from rv)
 have fin:∀ tk,EP X pins σ Q (.bool b) { s with toks:=tk }:=fun tk=>⟨.bl b,H,I.tok tk,rfl,q⟩
 cases dp with
 | non=>cases (show u=Value.none from ru); exact PySem.W.kia_one PySem.W.kitx_none I.kIn True.intro e (fun z=>nomatch z) fin
 | bl y=>cases (show u=Value.bool y from ru); exact PySem.W.kia_one PySem.W.kitx_bool I.kIn True.intro e (fun z=>nomatch z) fin
 | int i=>obtain ⟨t,z⟩:=(show ∃ t,u=Value.int i t from ru); cases z; exact PySem.W.kia_one PySem.W.kitx_int I.kIn True.intro e (fun z=>nomatch z) fin
 | str y=>obtain ⟨t,z⟩:=(show ∃ t,u=Value.str y t from ru); cases z; exact PySem.W.kia_one PySem.W.kitx_str I.kIn True.intro e (fun z=>nomatch z) fin
 | @lst a xs ds h k =>
  cases (show u=Value.ref a from ru)
  obtain ⟨its,rv,⟨o,n,h1,h2,_⟩,_⟩:=I.list h
  exact PySem.W.kia_one PySem.W.kitx_list I.kIn ⟨_,h1,h2⟩ e (fun z=>nomatch z) fin
 | @tup a xs ds h k =>
  cases (show u=Value.ref a from ru)
  obtain ⟨its,rv,⟨o,h1,h2,_⟩,_⟩:=I.tuple h
  exact PySem.W.kia_one PySem.W.kitx_tuple I.kIn ⟨_,h1,h2⟩ e (fun z=>nomatch z) fin
theorem yW (hK:X.K=K):yB X (.builtin "isinstance") (zac K):=by subst hK; exact QH
theorem x5 (hK:X.K=K):OpR X (binaryOp .Add) (zae K):=by subst hK; exact zb4
end
end L2
namespace PD
open PySem L2
section
variable {K:ζb} {S:Sx} {κ:Bool} {Γ:Ctx}
theorem wT {ta tb:TE} {xs ys:List PyData} (ha:EvL K S κ ta Γ xs) (hb:EvL K S κ tb Γ ys) (hz:xs.length + ys.length≤sizeLine):EvO K S κ (tOp (zae K) ta tb) Γ (xs ++ ys):=fun H0 F0 H F σ e Q q =>
 ha H0 F0 H F σ e _ fun a vs H1 F1 g1 p1 k1=>hb H0 F0 H1 F1 σ (e.mono g1) _ fun b ws H2 F2 g2 p2 k2 =>
  ⟨a,b,vs,ws,rfl,rfl,g2.h.seq p1,p2,by rw [zj.length k1,zj.length k2]; exact hz,fun p hp=>q p _ _ F2 ((g1.trans g2).trans (.newO g2.le hp _)) ((g1.trans g2).h.free hp) zp (g2.le.free hp) (zj.append (zD g2.f k1) k2)⟩
theorem Zg {ta tb:TE} {xs:List PyData} {k:Int} (ha:EvO K S κ ta Γ xs) (hb:EvE K S false tb Γ (.int k)) (h1:-(2 ^ 63)≤k) (h2:k < 2 ^ 63) (hz:xs.length * k.toNat≤sizeLine):EvO K S κ (tOp rRep ta tb) Γ (List.replicate k.toNat xs).flatten:=fun H0 F0 H F σ e Q q =>
 ha H0 F0 H F σ e _ fun a vs H1 F1 g1 n1 p1 f1 k1=>hb H0 F0 H1 F1 σ (e.mono g1) _ fun w H2 F2 g2 p2=>by
  cases yH p2
  exact ⟨a,k,vs,rfl,rfl,g2.h _ _ p1,h1,h2,by rw [zj.length k1]; exact hz,fun p hp=>q p _ _ F2 ((g1.trans g2).trans (.newO g2.le hp _)) ((g1.trans g2).h.free hp) zp (g2.le.free hp) (zj.rep (zD g2.f k1) _)⟩
theorem zd5 {ta:TE} {d:PyData} {T:String} {b:Bool} (h:EvD K S ta Γ d) (hi:PySem.W.kitOne K (.type (tyD d)) (.type T)=some b):EvE K S κ (tCB (zac K) (zE ta (zE (tC (.ty T)) tNil))) Γ (.bool b):=fun H0 F0 H F σ e Q q =>
 h H0 F0 H F σ e _ fun v H1 F1 g1 p1=>⟨v,d,T,b,rfl,p1,hi,q _ H1 F1 g1 (.bl b)⟩
theorem zaV (ns:List Int):(ns.map V.int).all uO=true:=by
 rw [ζ9]
 intro v hv
 obtain ⟨n,_,rfl⟩:=ζq.mp hv
 rfl
theorem zch (i:Int) (ns:List Int):inV (.int i) (ns.map V.int)=decide (i∈ns):=by
 unfold inV
 rw [List.any_map]
 by_cases h:i∈ns
 ·rw [decide_eq_true h,ξe]
  exact ⟨i,h,by show eqV (.int i) (.int i)=true; simp [eqV]⟩
 ·rw [decide_eq_false h,List.any_eq_false]
  intro x hx hq
  have:x=i:=by
   have q:eqV (.int x) (.int i)=true:=hq
   simpa [eqV] using q
  exact h (this ▸ hx)
theorem zbh {neg:Bool} {ta tb:TE} {i:Int} {ns:List Int} (ha:EvE K S false ta Γ (.int i)) (hb:EvL K S false tb Γ (ns.map .int)):EvE K S κ (tOp (rIn K neg) ta tb) Γ (.bool (if neg then !decide (i∈ns) else decide (i∈ns))):=fun H0 F0 H F σ e Q q =>
 ha H0 F0 H F σ e _ fun v H1 F1 g1 p1=>hb H0 F0 H1 F1 σ (e.mono g1) _ fun b ws H2 F2 g2 p2 k2=>by
  cases yH p1
  cases yl (zU k2)
  refine ⟨b,_,rfl,.inl p2,rfl,zaV ns,?_⟩
  rw [zch]
  exact q _ H2 F2 (g1.trans g2) (.bl _)
def ExG (K:ζb) (S:Sx) (κ:Bool) (g:TG) (js:List Nat) (d:PyData) (Γ:Ctx) (k:Ctx→Prop):Prop:=∀ (H0 F0 H F:Hp) (σ:St) (v:V),DEnv K S H0 F0 H F σ Γ→Rp K κ S H0 F v d→∀ Q:St→Hp→Prop,
 (∀ Γ' σ' H' F',k Γ'→Gr H F H' F'→DEnv K S H0 F0 H' F' σ' Γ'→σ'.length=σ.length→(∀ j,j∉js→σ'[j]?=σ[j]?)→Q σ' H')→g v σ H Q
theorem DEnv.set {H0 F0 H F:Hp} {σ:St} {i:Nat} {v:V} {x:DV} (e:DEnv K S H0 F0 H F σ Γ) (p:HasV K S H0 H F v x)
  (hne:∀ a,Owns H v x a→∀ (j:Nat) y w,j≠i→Γ[j]?=some (some y)→σ[j]?=some (some w)→¬ Owns H w y a):DEnv K S H0 F0 H F (σ.set i (some v)) (Γ.set i (some x)):=by
 refine ⟨e.gr,e.l0,e.sd,e.s0,by simp [e.len],fun j f h=>?_,fun j k' x1 y1 v1 w1 b g1 g2 g3 g4 o1 o2=>?_⟩
 ·by_cases hj:j=i
  ·subst hj
   by_cases hl:j < Γ.length
   ·rw [ζt hl] at h
    cases h
    exact ⟨v,by rw [ζt (by rw [e.len]; exact hl)],p⟩
   ·rw [List.getElem?_eq_none (by simp; omega)] at h
    cases h
  ·rw [ζx (Ne.symm hj)] at h ⊢
   exact e.has j f h
 ·have li:∀ {j:Nat} {y:DV},(Γ.set i (some x))[j]?=some (some y)→j < Γ.length:=fun {j y} z=>by
   have:=(ζe.mp z).1
   rw [ξr] at this
   exact this
  by_cases hj:j=i
  ·subst hj
   by_cases hk:k'=j
   ·exact hk.symm
   ·rw [ζt (by rw [e.len]; exact li g1)] at g3
    rw [ζt (li g1)] at g1
    cases g1
    cases g3
    rw [ζx (Ne.symm hk)] at g4 g2
    exact absurd o2 (hne b o1 k' y1 w1 hk g2 g4)
  ·rw [ζx (Ne.symm hj)] at g3 g1
   by_cases hk:k'=i
   ·subst hk
    rw [ζt (by rw [e.len]; exact li g2)] at g4
    rw [ζt (li g2)] at g2
    cases g2
    cases g4
    exact absurd o1 (hne b o2 j x1 v1 hj g1 g3)
   ·rw [ζx (Ne.symm hk)] at g4 g2
    exact e.ne j k' x1 y1 v1 w1 b g1 g2 g3 g4 o1 o2
theorem DEnv.setF {H0 F0 H F:Hp} {σ:St} {i:Nat} {v:V} {d:PyData} (e:DEnv K S H0 F0 H F σ Γ) (p:Rp K κ S H0 F v d):DEnv K S H0 F0 H F (σ.set i (some v)) (Γ.set i (some (.fz κ d))):=e.set (x:=.fz κ d) p fun _ z=>z.elim
theorem OwnO.other {H0 H F:Hp} {a b:Addr} {u oo:HO} (w:OwnO S H0 H F b u) (h:b≠a):OwnO S H0 (upd H a oo) F b u:=⟨by rw [zt h]; exact w.h,w.f,w.n,w.s⟩
theorem HasV.other {H0 H F:Hp} {a:Addr} {v:V} {x:DV} {oo:HO} (h:HasV K S H0 H F v x) (n:¬ Owns H v x a):HasV K S H0 (upd H a oo) F v x:=by
 cases x with
 | fz κ d=>exact h
 | tn d=>exact h
 | ow κ ds=>obtain ⟨b,us,eb,wo,kk⟩:=h; exact ⟨b,us,eb,wo.other fun z=>n (by rw [eb,z]; rfl),kk⟩
 | ox=>obtain ⟨b,us,eb,wo⟩:=h; exact ⟨b,us,eb,wo.other fun z=>n (by rw [eb,z]; rfl)⟩
 | o2 r dss =>
  obtain ⟨b,us,eb,wo,n1,n2,l,k⟩:=h
  refine ⟨b,us,eb,wo.other fun z=>n (.inl (by rw [eb.eq,z])),n1,n2,l,fun j y hy=>?_⟩
  obtain ⟨c,ws,ds,e2,o2,h2,k2⟩:=k j y hy
  exact ⟨c,ws,ds,e2,o2.other fun z=>n (.inr ⟨b,us,eb.eq,wo.h,by rw [← z,← e2]; exact ζd hy⟩),h2,k2⟩
 | fn a=>exact h
 | xn φ=>exact h
 | oa b κ ds=>obtain ⟨eb,us,wo,kk⟩:=h; exact ⟨eb,us,wo.other fun z=>n (by rw [eb,z]; rfl),kk⟩
 | xp φ=>exact h
 | od u=>obtain ⟨b,eb,wo⟩:=h; exact ⟨b,eb,wo.other fun z=>n (by rw [eb,z]; rfl)⟩
 | og ad ψ =>
  obtain ⟨ok,w,p⟩:=h
  have eq:∀ b,ad H v b→upd H a oo b=H b:=fun b z=>zt fun y=>n (y ▸ z)
  refine ⟨ok,fun b z=>?_,ok.ps S H0 H _ F F v eq (.refl _) p⟩
  have z:=(ok.pl H _ v eq b).mp z
  obtain ⟨o,y⟩:=w b z
  exact ⟨o,y.other fun q=>n (q ▸ z)⟩
theorem Owns.other {H0 H F:Hp} {a c:Addr} {v:V} {x:DV} {oo:HO} (h:HasV K S H0 H F v x) (n:¬ Owns H v x a) (o:Owns (upd H a oo) v x c):Owns H v x c:=by
 cases x with
 | fz _ _=>exact o.elim
 | tn _=>exact o.elim
 | ow κ ds=>exact o
 | ox=>exact o
 | o2 r dss =>
  rcases o with o | ⟨p,us,e2,hp,hm⟩
  ·exact .inl o
  ·rw [zt (fun z=>n (.inl (by rw [e2,z])))] at hp
   exact .inr ⟨p,us,e2,hp,hm⟩
 | fn _=>exact o.elim
 | xn _=>exact o.elim
 | oa _ _ _=>exact o
 | xp _=>exact o.elim
 | od _=>exact o
 | og ad ψ=>exact (h.1.pl H (upd H a oo) v (fun b z=>zt fun y:b=a=>n (y ▸ z)) c).mp o
theorem DEnv.putO {H0 F0 H F:Hp} {σ:St} {i:Nat} {a:Addr} {v:V} {oo:HO} {x y:DV} (e:DEnv K S H0 F0 H F σ Γ) (h:Γ[i]?=some (some x)) (ha:σ[i]?=some (some v)) (ho:Owns H v x a)
  (k:HasV K S H0 (upd H a oo) F v y) (ko:∀ c,Owns (upd H a oo) v y c→Owns H v x c):DEnv K S H0 F0 (upd H a oo) F σ (Γ.set i (some y)):=by
 obtain ⟨v',q1,q2⟩:=e.has i x h
 rw [ha] at q1
 cases q1
 obtain ⟨ws,w⟩:=q2.owns ho
 have hs:Same F (upd H a oo):=fun b u z=>by
  have:b≠a:=by rintro rfl; rw [w.f] at z; cases z
  rw [zt this]; exact e.le _ _ z
 have li:=(ζe.mp h).1
 have far:∀ {j:Nat} {f:DV} {u:V},j≠i→Γ[j]?=some (some f)→σ[j]?=some (some u)→¬ Owns H u f a:=fun {j f u} hj z r o=>hj (e.ne j i f x u v a z h r ha o ho)
 refine ⟨⟨fun b u z=>?_,e.gr.f,hs,e.gr.ap⟩,e.l0,fun b c=>?_,e.s0,by simp [e.len],fun j f z=>?_,fun j k' x1 y1 v1 w1 b g1 g2 g3 g4 o1 o2=>?_⟩
 ·rw [zt (zK z w.n)]; exact e.gr.h _ _ z
 ·obtain ⟨o,q⟩:=e.sd b c
  by_cases hb:b=a
  ·subst hb; exact ⟨_,zp⟩
  ·exact ⟨o,by rw [zt hb]; exact q⟩
 ·by_cases hj:j=i
  ·subst hj
   rw [ζt li] at z
   cases z
   exact ⟨_,ha,k⟩
  ·rw [ζx (Ne.symm hj)] at z
   obtain ⟨u,r1,r2⟩:=e.has j f z
   exact ⟨u,r1,r2.other (far hj z r1)⟩
 ·have bk:∀ {j:Nat} {f:DV} {u:V},(Γ.set i (some y))[j]?=some (some f)→σ[j]?=some (some u)→Owns (upd H a oo) u f b→∃ g,Γ[j]?=some (some g)∧Owns H u g b:=fun {j f u} z r o=>by
   by_cases hj:j=i
   ·subst hj
    rw [ζt li] at z
    cases z
    rw [ha] at r
    cases r
    exact ⟨x,h,ko b o⟩
   ·rw [ζx (Ne.symm hj)] at z
    obtain ⟨u',r1,r2⟩:=e.has j f z
    rw [r] at r1
    cases r1
    exact ⟨f,z,o.other r2 (far hj z r)⟩
  obtain ⟨f1,z1,w1'⟩:=bk g1 g3 o1
  obtain ⟨f2,z2,w2'⟩:=bk g2 g4 o2
  exact e.ne j k' f1 f2 v1 w1 b z1 z2 g3 g4 w1' w2'
theorem DEnv.put {H0 F0 H F:Hp} {σ:St} {i:Nat} {a:Addr} {v:V} {vs:List V} {x y:DV} (e:DEnv K S H0 F0 H F σ Γ) (h:Γ[i]?=some (some x)) (ha:σ[i]?=some (some v)) (ho:Owns H v x a)
  (k:HasV K S H0 (upd H a (.lst vs)) F v y) (ko:∀ c,Owns (upd H a (.lst vs)) v y c→Owns H v x c):DEnv K S H0 F0 (upd H a (.lst vs)) F σ (Γ.set i (some y)):=e.putO h ha ho k ko
theorem OwnO.frz {H0 H F:Hp} {a b:Addr} {u oo:HO} (w:OwnO S H0 H F b u) (h:b≠a):OwnO S H0 H (upd F a oo) b u:=⟨w.h,by rw [zt h]; exact w.f,w.n,w.s⟩
theorem HasV.frz {H0 H F:Hp} {a:Addr} {v:V} {x:DV} {vs:List V} (h:HasV K S H0 H F v x) (s:Same F (upd F a (.lst vs))) (n:¬ Owns H v x a):HasV K S H0 H (upd F a (.lst vs)) v x:=by
 cases x with
 | fz κ d=>exact yK s h
 | tn d=>obtain ⟨T,eT,k⟩:=h; exact ⟨T,eT,yK s k⟩
 | ow κ ds=>obtain ⟨b,us,eb,wo,kk⟩:=h; exact ⟨b,us,eb,wo.frz fun z=>n (by rw [eb,z]; rfl),zD s kk⟩
 | ox=>obtain ⟨b,us,eb,wo⟩:=h; exact ⟨b,us,eb,wo.frz fun z=>n (by rw [eb,z]; rfl)⟩
 | o2 r dss =>
  obtain ⟨b,us,eb,wo,n1,n2,l,k⟩:=h
  refine ⟨b,us,eb,wo.frz fun z=>n (.inl (by rw [eb.eq,z])),n1,n2,l,fun j y hy=>?_⟩
  obtain ⟨c,ws,ds,e2,o2,h2,k2⟩:=k j y hy
  exact ⟨c,ws,ds,e2,o2.frz fun z=>n (.inr ⟨b,us,eb.eq,wo.h,by rw [← z,← e2]; exact ζd hy⟩),h2,zD s k2⟩
 | fn a=>exact h
 | xn φ=>obtain ⟨b,e,k⟩:=h; exact ⟨b,e,s _ _ k⟩
 | oa b κ ds=>obtain ⟨eb,us,wo,kk⟩:=h; exact ⟨eb,us,wo.frz fun z=>n (by rw [eb,z]; rfl),zD s kk⟩
 | xp φ=>obtain ⟨F1,s1,k⟩:=h; exact ⟨F1,s1.trans s,k⟩
 | od u=>obtain ⟨b,eb,wo⟩:=h; exact ⟨b,eb,wo.frz fun z=>n (by rw [eb,z]; rfl)⟩
 | og ad ψ =>
  obtain ⟨ok,w,p⟩:=h
  refine ⟨ok,fun b z=>?_,ok.ps S H0 H H F _ v (fun _ _=>rfl) s p⟩
  obtain ⟨o,y⟩:=w b z
  exact ⟨o,y.frz fun q=>n (q ▸ z)⟩
theorem DEnv.froz {H0 F0 H F:Hp} {σ:St} {i:Nat} {a:Addr} {v:V} {vs:List V} {x y:DV} (e:DEnv K S H0 F0 H F σ Γ) (h:Γ[i]?=some (some x)) (hv:σ[i]?=some (some v)) (ho:Owns H v x a) (w:vO S H0 H F a vs)
  (k:HasV K S H0 H (upd F a (.lst vs)) v y) (ko:∀ c,Owns H v y c→Owns H v x c):Same F (upd F a (.lst vs))∧DEnv K S H0 F0 H (upd F a (.lst vs)) σ (Γ.set i (some y)):=by
 have s:Same F (upd F a (.lst vs)):=Same.new w.f _
 have li:=(ζe.mp h).1
 have g:Gr H0 F0 H (upd F a (.lst vs)):=⟨e.gr.h,e.gr.f.trans s,fun b u z=>by
  by_cases eb:b=a
  ·subst eb; rw [zp] at z; rw [← z]; exact w.h
  ·rw [zt eb] at z; exact e.le _ _ z,fun b u z y=>by
  rw [zt (zK z w.n)]; exact e.gr.ap _ _ z y⟩
 refine ⟨s,g,e.l0,e.sd,e.s0,by simp [e.len],fun j f z=>?_,fun j k' x1 y1 v1 w1 b g1 g2 g3 g4 o1 o2=>?_⟩
 ·by_cases hj:j=i
  ·subst hj
   rw [ζt li] at z
   cases z
   exact ⟨v,hv,k⟩
  ·rw [ζx (Ne.symm hj)] at z
   obtain ⟨u,r1,r2⟩:=e.has j f z
   exact ⟨u,r1,r2.frz s fun o=>hj (e.ne j i f x u v a z h r1 hv o ho)⟩
 ·have bk:∀ {j:Nat} {f:DV} {u:V},(Γ.set i (some y))[j]?=some (some f)→σ[j]?=some (some u)→Owns H u f b→∃ g,Γ[j]?=some (some g)∧Owns H u g b:=fun {j f u} z r o=>by
   by_cases hj:j=i
   ·subst hj
    rw [ζt li] at z
    cases z
    rw [hv] at r
    cases r
    exact ⟨x,h,ko b o⟩
   ·rw [ζx (Ne.symm hj)] at z
    exact ⟨f,z,o⟩
  obtain ⟨f1,z1,w1'⟩:=bk g1 g3 o1
  obtain ⟨f2,z2,w2'⟩:=bk g2 g4 o2
  exact e.ne j k' f1 f2 v1 w1 b z1 z2 g3 g4 w1' w2'
theorem DEnv.freeze {H0 F0 H F:Hp} {σ:St} {i:Nat} {ds:List PyData} (e:DEnv K S H0 F0 H F σ Γ) (h:Γ[i]?=some (some (.ow κ ds))):∃ F',Same F F'∧DEnv K S H0 F0 H F' σ (Γ.set i (some (.fz κ (.list ds)))):=by
 obtain ⟨v,q1,a,vs,rfl,w,q5⟩:=e.has i _ h
 exact ⟨_,e.froz (y:=.fz κ (.list ds)) h q1 rfl w (.lst (LN.new w.s) (zD (Same.new w.f _) q5)) fun _ z=>z.elim⟩
theorem zcA {i:Nat} {d:PyData} {k:Ctx→Prop} (h:k (Γ.set i (some (.fz κ d)))):ExG K S κ (xa i) [i] d Γ k:=fun H0 F0 H F σ v e p Q q =>
 q _ _ H F h (.refl e.le) (e.setF p) (by simp) fun j hj=>by rw [List.getElem?_set_ne (by intro z; exact hj (by simp [z]))]
theorem zea {i j:Nat} {x y:PyData} {k:Ctx→Prop} (h:k ((Γ.set i (some (.fz κ x))).set j (some (.fz κ y)))):ExG K S κ (gTup K 2 (tR (xa i) (tR (xa j) gNil))) [i,j] (.tuple [x,y]) Γ k:=fun H0 F0 H F σ v e p Q q=>by
 obtain ⟨a,vs,rfl,h1,h2⟩:=u5 p
 cases h2 with
 | cons px h2=>cases h2 with
  | cons py h2 =>
   cases h2
   refine ⟨a,_,rfl,Same.seqT e.le h1,rfl,_,_,rfl,_,_,rfl,rfl,?_⟩
   refine q _ _ H F h (.refl e.le) ((e.setF px).setF py) (by simp) fun m hm=>?_
   rw [List.getElem?_set_ne (by intro z; exact hm (by simp [z])),List.getElem?_set_ne (by intro z; exact hm (by simp [z]))]
structure ItD (K:ζb) (S:Sx) (κ:Bool) (H0 F:Hp) (J:It) (ds:List PyData):Prop where
 go:∀ i H F',Same F F'→Same F' H→i < ds.length→J.go i H
 yld:∀ i H F' x H',Same F F'→Same F' H→(∀ a,S.has H0 a→∃ o,H a=some o)→i < ds.length→J.yld i H x H'→∃ d F'',ds[i]?=some d∧Gr H F' H' F''∧Rp K κ S H0 F'' x d
 stop:∀ H F',Same F F'→Same F' H→J.stop ds.length H
def EvI (K:ζb) (S:Sx) (κ:Bool) (t:TI) (Γ:Ctx) (ds:List PyData):Prop:=∀ (H0 F0 H F:Hp) (σ:St),DEnv K S H0 F0 H F σ Γ→∀ R:It→Hp→Prop,(∀ J H' F',Gr H F H' F'→ItD K S κ H0 F' J ds→R J H')→t σ H R
theorem zS {t:TE} {ds:List PyData} (h:EvE K S κ t Γ (.list ds)):EvI K S κ (Vy K t) Γ ds:=fun H0 F0 H F σ e R q =>
 h H0 F0 H F σ e _ fun v H1 F1 g1 p1=>by
  obtain ⟨a,vs,rfl,h1,h2⟩:=x9 p1
  have hl:=zj.length h2
  have up:∀ {F' H':Hp},Same F1 F'→Same F' H'→SqL K H' a vs:=fun s1 s2=>(s1.trans s2).seq h1.sq
  refine ⟨a,rfl,⟨vs,up (.refl _) g1.le⟩,q _ H1 F1 g1 ⟨fun i H' F' s1 s2 hi=>?_,fun i H' F' x H'' s1 s2 _ hi y=>?_,fun H' F' s1 s2=>?_⟩⟩
  ·exact ⟨vs,vs[i]'(by omega),up s1 s2,by simp⟩
  ·obtain ⟨rfl,y⟩:=y
   obtain ⟨d,hd,hp⟩:=zj.get' h2 (y vs (up s1 s2))
   exact ⟨d,F',hd,.refl s2,yK s1 hp⟩
  ·exact ⟨vs,up s1 s2,by omega⟩
theorem xg {t:TA} {n:Int} (h:EvA K S false t Γ [.int n]) (h1:-(2 ^ 62)≤n) (h2:n < 2 ^ 62):EvI K S κ (zaP t) Γ ((List.range n.toNat).map fun i:Nat=>.int (i:Int)):=fun H0 F0 H F σ e R q =>
 h H0 F0 H F σ e _ fun vs H1 F1 g1 p1=>by
  cases p1 with
  | cons p p1 =>
   cases p1
   cases yH p
   refine ⟨n,rfl,h1,h2,q _ H1 F1 g1 ⟨fun i H' F' s1 s2 hi=>?_,fun i H' F' x H'' s1 s2 _ hi y=>?_,fun H' F' s1 s2=>?_⟩⟩
   ·show i < n.toNat
    simpa using hi
   ·obtain ⟨rfl,rfl⟩:=y
    have hi':i < n.toNat:=by simpa using hi
    refine ⟨.int i,F',by simp [hi'],.refl s2,?_⟩
    have:(0:Int) + (i:Int)=i:=by omega
    rw [this]; exact .int _
   ·show n.toNat≤_
    simp
theorem zcj {α β γ:Type} {f:α→β→γ} {xs:List α} {ys:List β} {i:Nat} {x:α} {y:β} (h1:xs[i]?=some x) (h2:ys[i]?=some y):(List.zipWith f xs ys)[i]?=some (f x y):=by
 rw [List.getElem?_zipWith,h1,h2]
theorem ZZ {t:TA} {xs ys:List PyData} (h:EvA K S κ t Γ [.list xs,.list ys]):EvI K S κ (iZip K t) Γ (List.zipWith (fun x y=>.tuple [x,y]) xs ys):=fun H0 F0 H F σ e R q =>
 h H0 F0 H F σ e _ fun vs H1 F1 g1 p1=>by
  cases p1 with
  | cons p p1 =>
   cases p1 with
   | cons p' p1 =>
    cases p1
    obtain ⟨a,us,rfl,h1,h2⟩:=x9 p
    obtain ⟨b,ws,rfl,h3,h4⟩:=x9 p'
    have l1:=zj.length h2
    have l2:=zj.length h4
    have up:∀ {F' H':Hp},Same F1 F'→Same F' H'→SqL K H' a us:=fun s1 s2=>(s1.trans s2).seq h1.sq
    have uq:∀ {F' H':Hp},Same F1 F'→Same F' H'→SqL K H' b ws:=fun s1 s2=>(s1.trans s2).seq h3.sq
    refine ⟨a,b,rfl,⟨us,up (.refl _) g1.le⟩,⟨ws,uq (.refl _) g1.le⟩,q _ H1 F1 g1 ⟨fun i H' F' s1 s2 hi=>?_,fun i H' F' x H'' s1 s2 sd hi y=>?_,fun H' F' s1 s2=>?_⟩⟩
    ·rw [ξj] at hi
     exact ⟨us,us[i]'(by omega),ws,ws[i]'(by omega),up s1 s2,by simp,uq s1 s2,by simp⟩
    ·obtain ⟨T,u,v,hT,rfl,rfl,y1,y2⟩:=y
     obtain ⟨d,hd,hp⟩:=zj.get' h2 (y1 us (up s1 s2))
     obtain ⟨f,hf,hq⟩:=zj.get' h4 (y2 ws (uq s1 s2))
     have s3:Same F' (upd F' T (.tup [u,v])):=Same.new (s2.free hT) _
     exact ⟨.tuple [d,f],_,zcj hd hf,.new s2 hT _,.tup (SqT.of zp) (.cons (yK (s1.trans s3) hp) (.cons (yK (s1.trans s3) hq) .nil))⟩
    ·refine ⟨us,ws,up s1 s2,uq s1 s2,?_⟩
     rw [ξj]
     omega
def v9 (js:List (Option Nat)) (Γ:Ctx):Ctx:=js.map fun o=>match o with | none=>none | some j=>(Γ[j]?).join
theorem tH {js:List (Option Nat)} {i:Nat} {d:DV} (h:(v9 js Γ)[i]?=some (some d)):∃ j,js[i]?=some (some j)∧Γ[j]?=some (some d):=by
 unfold v9 at h
 rw [ζl] at h
 cases e:js[i]? with
 | none=>rw [e] at h; cases h
 | some o =>
  rw [e] at h
  cases o with
  | none=>cases h
  | some j =>
   refine ⟨j,rfl,?_⟩
   have h':(Γ[j]?).join=some d:=ζD h
   cases q:Γ[j]? with
   | none=>rw [q] at h'; cases h'
   | some o=>rw [q] at h'; exact congrArg some h'
theorem Z5 {js:List (Option Nat)} {σ:St} {i j:Nat} {v:V} (h:js[i]?=some (some j)) (k:σ[j]?=some (some v)):(capt js σ)[i]?=some (some v):=by
 unfold capt
 rw [ζl,h]
 show some ((σ[j]?).join)=_
 rw [k]; rfl
theorem DEnv.capt {H0 F0 H F:Hp} {σ:St} {js:List (Option Nat)} (e:DEnv K S H0 F0 H F σ Γ) (hj:∀ i j k:Nat,js[i]?=some (some k)→js[j]?=some (some k)→i=j):DEnv K S H0 F0 H F (L2.capt js σ) (v9 js Γ):=by
 refine ⟨e.gr,e.l0,e.sd,e.s0,by unfold L2.capt v9; simp,fun i d h=>?_,fun i j x y v w a h1 h2 h3 h4 o1 o2=>?_⟩
 ·obtain ⟨j,e1,e2⟩:=tH h
  obtain ⟨v,e3,e4⟩:=e.has j d e2
  exact ⟨v,Z5 e1 e3,e4⟩
 ·obtain ⟨m,e1,e2⟩:=tH h1
  obtain ⟨n,e3,e4⟩:=tH h2
  obtain ⟨v1,q1,_⟩:=e.has m x e2
  obtain ⟨v2,q2,_⟩:=e.has n y e4
  have c1:=Z5 (σ:=σ) e1 q1
  have c2:=Z5 (σ:=σ) e3 q2
  rw [h3] at c1
  rw [h4] at c2
  cases c1
  cases c2
  have:=e.ne m n x y v w a e2 e4 q1 q2 o1 o2
  subst this
  exact hj i j m e1 e3
theorem zbb {κ':Bool} {js:List (Option Nat)} {wi:TI} {g:TG} {tt:TT} {te:TE} {is:List Nat} {ds:List PyData} (p:PyData→Bool) (f:PyData→PyData) (hi:EvI K S κ' wi Γ ds) (hjs:∀ i∈is,js[i]?=some none) (hj:∀ i j k:Nat,js[i]?=some (some k)→js[j]?=some (some k)→i=j)
  (hz:ds.length≤sizeLine) (hb:∀ d∈ds,ExG K S κ' g is d (v9 js Γ) fun Γ'=>EvT K S tt Γ' (p d)∧(p d=true→EvE K S κ te Γ' (f d))):EvO K S κ (vi js wi g tt te) Γ ((ds.filter p).map f):=fun H0 F0 H F σ e Q q =>
 hi H0 F0 H F σ e _ fun J H1 F1 g1 I1=>by
  intro D hD
  have sdm:∀ {H2 F2:Hp},Gr H1 F1 H2 F2→∀ a,S.has H0 a→∃ o,H2 a=some o:=fun g2 a c=>let ⟨o,z⟩:=(e.mono g1).sd a c; ⟨o,g2.h _ _ z⟩
  refine ⟨fun i m ys H2=>m=ds.length - i∧i≤ds.length∧∃ F2,Gr H1 F1 H2 F2∧H2 D=some (.lst ys)∧F2 D=none∧zj K κ S H0 F2 ys (((ds.take i).filter p).map f),⟨_,rfl,ζY _,F1,.newO g1.le hD _,zp,g1.le.free hD,.nil⟩,?_⟩
  rintro i m ys H2 ⟨rfl,hi,F2,g2,hl,fl,k2⟩
  by_cases hlt:i < ds.length
  ·refine .inr ⟨I1.go i H2 F2 g2.f g2.le hlt,fun zs H3=>i + 1≤ds.length∧∃ F2,Gr H1 F1 H3 F2∧H3 D=some (.lst zs)∧F2 D=none∧zj K κ S H0 F2 zs (((ds.take (i + 1)).filter p).map f),fun zs H3 h3=>⟨ds.length - (i + 1),by omega,rfl,h3⟩,fun x H3 y=>?_⟩
   obtain ⟨d,F3,hd,g3,p3⟩:=I1.yld i H2 F2 x H3 g2.f g2.le (sdm g2) hlt y
   have hl3:=g3.h _ _ hl
   have fl3:=g3.ap _ _ hl fl
   have E3:=((e.mono g1).mono (g2.trans g3)).capt hj
   refine hb d (ζd hd) H0 F0 H3 F3 _ x E3 p3 _ fun Γ' σ' H4 F4 hΓ g4 E4 len4 out4=>?_
   obtain ⟨ht,he⟩:=hΓ
   have hl4:=g4.h _ _ hl3
   have fl4:=g4.ap _ _ hl3 fl3
   have tk:ds.take (i + 1)=ds.take i ++ [d]:=by rw [ξ1,hd]; rfl
   refine ⟨⟨len4.symm,fun j v hv=>?_⟩,ht H0 F0 H4 F4 σ' E4 _ fun H5 F5 g5=>?_⟩
   ·by_cases hjj:j∈is
    ·have:=hjs j hjj
     unfold L2.capt at hv
     rw [ζl,this] at hv
     cases hv
    ·rw [out4 j hjj]; exact hv
   have hl5:=g5.h _ _ hl4
   have fl5:=g5.ap _ _ hl4 fl4
   cases hpd:p d with
   | false =>
    refine iteF ⟨hlt,F5,g2.trans ((g3.trans g4).trans g5),hl5,fl5,?_⟩
    rw [tk,ξK,ζE]
    simp only [List.filter_cons,hpd,List.filter_nil]
    simpa using zD ((g3.trans g4).trans g5).f k2
   | true =>
    refine iteT (he hpd H0 F0 H5 F5 σ' (E4.mono g5) _ fun v H6 F6 g6 p6=>?_)
    have hl6:=g6.h _ _ hl5
    have fl6:=g6.ap _ _ hl5 fl5
    have gg:=(g3.trans g4).trans (g5.trans g6)
    have G6:=g2.trans gg
    refine ⟨hl6,?_,hlt,F6,⟨fun b u z=>?_,G6.f,fun b u z=>?_,G6.ap⟩,zp,fl6,?_⟩
    ·have h1:=zj.length k2
     rw [ζa] at h1
     have h2:=ξl p (ds.take i)
     rw [ζy] at h2
     omega
    ·rw [zt (zK z hD)]; exact G6.h _ _ z
    ·rw [zt (by rintro rfl; rw [fl6] at z; cases z)]; exact G6.le _ _ z
    ·rw [tk,ξK,ζE]
     simp only [List.filter_cons,hpd,List.filter_nil,if_true,List.map_cons,List.map_nil]
     exact zj.append (zD gg.f k2) (.cons p6 .nil)
  ·have ei:i=ds.length:=by omega
   subst ei
   rw [ζ4] at k2
   exact .inl ⟨I1.stop H2 F2 g2.f g2.le,q D ys H2 F2 (g1.trans g2) (g1.h.free hD) hl fl k2⟩
structure Post where
 nx:Ctx→Prop
 rt:PyData→Prop
 bk:Ctx→Prop:=fun _=>False
 ct:Ctx→Prop:=fun _=>False
 kr:Bool:=false
structure Into (K:ζb) (S:Sx) (H0 F0 B:Hp) (P:Post) (D:Ends):Prop where
 nx:∀ Γ' σ' H' F',P.nx Γ'→Same B F'→DEnv K S H0 F0 H' F' σ' Γ'→D.nx σ' H'
 rt:∀ d v H' F',P.rt d→Gr H0 F0 H' F'→Rp K P.kr .fresh H0 F' v d→D.rt v H'
 bk:∀ Γ' σ' H' F',P.bk Γ'→Same B F'→DEnv K S H0 F0 H' F' σ' Γ'→D.bk σ' H'
 ct:∀ Γ' σ' H' F',P.ct Γ'→Same B F'→DEnv K S H0 F0 H' F' σ' Γ'→D.ct σ' H'
def TR (S:Sx) (B:Hp):Prop:=∀ T,S=.spoil T→∀ a xs,B a=some (.lst xs)→¬ T a
def ExT (K:ζb) (S S':Sx) (t:TS) (Γ:Ctx) (P:Post):Prop:=∀ (H0 F0 H F:Hp) (σ:St) (B:Hp),DEnv K S H0 F0 H F σ Γ→Same B F→(S'=S∨TR S B)→∀ D:Ends,Into K S' H0 F0 B P D→t D σ H
abbrev ExS (K:ζb) (S:Sx) (t:TS) (Γ:Ctx) (P:Post):Prop:=ExT K S S t Γ P
variable {S':Sx}
variable {P:Post}
theorem xB (h:P.nx Γ):ExS K S YM Γ P:=fun H0 F0 H F σ B e b _ D I=>I.nx Γ σ H F h b e
theorem wa {t u:TS} (N:Ctx→Prop) (h1:ExT K S S t Γ { P with nx:=N,bk:=fun _=>False,ct:=fun _=>False }) (h2:∀ Γ',N Γ'→ExT K S S' u Γ' P):ExT K S S' (tSeq t u) Γ P:=fun H0 F0 H F σ B e b v D I =>
 h1 H0 F0 H F σ B e b (.inl rfl) { D with nx:=u D } ⟨fun Γ' σ' H' F' n s e'=>h2 Γ' n H0 F0 H' F' σ' B e' s v D I,I.rt,fun _ _ _ _ z=>z.elim,fun _ _ _ _ z=>z.elim⟩
theorem Qq {H0:Hp} {a:Addr} (h:¬ S.has H0 a):¬ Sx.has .fresh H0 a:=by
 cases S with
 | fresh=>exact h
 | spoil T=>exact fun c=>h (.inl c)
theorem Q7 {H0 F:Hp} {kr:Bool} {v:V} {d:PyData} (hk:(S=S∧κ=kr)∨kr=false) (p:Rp K κ S H0 F v d):Rp K kr .fresh H0 F v d:=by
 rcases hk with ⟨_,rfl⟩ | rfl
 ·cases κ with
  | false=>exact Z0 (wj p)
  | true=>exact wC (κ:=true) (κ':=true) (fun a xs z=>⟨z.1,Qq z.2⟩) (fun _ _ z=>z) p
 ·exact Z0 (wj p)
theorem zP {te:TE} {d:PyData} (κ:Bool) (h:EvE K S κ te Γ d) (hr:P.rt d) (hk:(S=S∧κ=P.kr)∨P.kr=false):ExT K S S' (tRet te) Γ P:=fun H0 F0 H F σ B e b _ D I=>h H0 F0 H F σ e _ fun v H' F' g p=>I.rt d v H' F' hr (e.gr.trans g) (Q7 hk p)
theorem Y4 {t:TS} (i:Nat) {ds:List PyData} (h:Γ[i]?=some (some (.ow κ ds))) (k:ExT K S S' t (Γ.set i (some (.fz κ (.list ds)))) P):ExT K S S' t Γ P:=fun H0 F0 H F σ B e b v D I=>by
 obtain ⟨F',s,e'⟩:=e.freeze h
 exact k H0 F0 H F' σ B e' (b.trans s) v D I
theorem zco {i:Nat} {ds:List PyData} (h:Γ[i]?=some (some (.ow κ ds))) (hr:P.rt (.list ds)) (hk:(S=S∧κ=P.kr)∨P.kr=false):ExT K S S' (tRet (tVar i)) Γ P :=
 Y4 i h (zP κ (Uw (by rw [ζt (ζe.mp h).1])) hr hk)
theorem za0 {te:TE} {i:Nat} {d:PyData} (h:EvE K S κ te Γ d) (k:P.nx (Γ.set i (some (.fz κ d)))):ExS K S (tAsg te (xa i)) Γ P:=fun H0 F0 H F σ B e b _ D I =>
 h H0 F0 H F σ e _ fun v H' F' g p=>I.nx _ _ H' F' k (b.trans g.f) ((e.mono g).setF p)
theorem zcn {te:TE} {i:Nat} {ds:List PyData} (h:EvO K S κ te Γ ds) (k:P.nx (Γ.set i (some (.ow κ ds)))):ExS K S (tAsg te (xa i)) Γ P:=fun H0 F0 H F σ B e b _ D I =>
 h H0 F0 H F σ e _ fun a vs H' F' g n p f q=>I.nx _ _ H' F' k (b.trans g.f) ((e.mono g).set (x:=.ow κ ds) ⟨a,vs,rfl,⟨p,f,e.gr.h.free n,e.out n⟩,q⟩ fun c oc j y w hj z hw o=>by
  cases (show V.ref a=.ref c from oc)
  obtain ⟨v,q1,q2⟩:=e.has j y z
  rw [hw] at q1
  cases q1
  obtain ⟨us,w1⟩:=q2.owns (o.back q2 fun _ _ z=>g.h _ _ z.h)
  have:=w1.h
  rw [n] at this; cases this)
theorem Tv {te:TE} {d:PyData} (h:EvE K S κ te Γ d) (k:P.nx Γ):ExS K S (xH te) Γ P:=fun H0 F0 H F σ B e b _ D I =>
 h H0 F0 H F σ e _ fun v H' F' g p=>I.nx _ _ H' F' k (b.trans g.f) (e.mono g)
theorem Y5 {te:TE} {i:Nat} {ds:List PyData} {d:PyData} (h:Γ[i]?=some (some (.ow κ ds))) (he:EvE K S κ te Γ d) (hz:ds.length < sizeLine) (k:P.nx (Γ.set i (some (.ow κ (ds ++ [d]))))):ExS K S (xH (tBM K "list" y8 (tVar i) (zE te tNil))) Γ P:=fun H0 F0 H F σ B e b _ D I=>by
 obtain ⟨v0,q1,a,vs,rfl,w,q5⟩:=e.has i _ h
 refine ⟨_,q1,.inl ⟨rfl,_,SqL.of w.h⟩,he H0 F0 H F σ e _ fun v H' F' g p=>?_⟩
 have k':=zD g.f q5
 refine ⟨a,vs,v,rfl,rfl,g.h _ _ w.h,by rw [zj.length q5]; exact hz,?_⟩
 exact I.nx _ _ _ F' k (b.trans g.f) ((e.mono g).put (y:=.ow κ (ds ++ [d])) h q1 (show Owns H' (.ref a) (.ow κ ds) a from rfl) ⟨a,_,rfl,⟨zp,(w.mono g).f,w.n,w.s⟩,zj.append k' (.cons p .nil)⟩ fun _ z=>z)
theorem Ut {te ti:TE} {i j:Nat} {m:Int} {ds:List PyData} {d:PyData} (h:Γ[i]?=some (some (.ow κ ds))) (he:EvE K S κ te Γ d) (hi:EvE K S false ti Γ (.int m)) (hm:ixN ds.length m=some j) (k:P.nx (Γ.set i (some (.ow κ (ds.set j d))))) :
  ExS K S (tAsg te (gSub (tVar i) ti zaa)) Γ P:=fun H0 F0 H F σ B e b _ D I=>by
 obtain ⟨v0,q1,a,vs,rfl,w,q5⟩:=e.has i _ h
 refine he H0 F0 H F σ e _ fun v H1 F1 g1 p1=>⟨_,q1,hi H0 F0 H1 F1 σ (e.mono g1) _ fun w' H2 F2 g2 p2=>?_⟩
 cases yH p2
 have k':=zD (g1.trans g2).f q5
 refine ⟨a,vs,m,j,rfl,rfl,(g1.trans g2).h _ _ w.h,by rw [zj.length q5]; exact hm,?_⟩
 exact I.nx _ _ _ F2 k (b.trans (g1.trans g2).f) ((e.mono (g1.trans g2)).put (y:=.ow κ (ds.set j d)) h q1 (show Owns H2 (.ref a) (.ow κ ds) a from rfl) ⟨a,_,rfl,⟨zp,(w.mono (g1.trans g2)).f,w.n,w.s⟩,zj.set (yK g2.f p1) _ k'⟩ fun _ z=>z)
theorem Y3 {c:TT} {t u:TS} {b:Bool} (hc:EvT K S c Γ b) (h1:b=true→ExT K S S' t Γ P) (h2:b=false→ExT K S S' u Γ P):ExT K S S' (tIfS c t u) Γ P:=fun H0 F0 H F σ B e bb v D I =>
 hc H0 F0 H F σ e _ fun H' F' g=>by
  cases b with
  | true=>exact iteT (h1 rfl H0 F0 H' F' σ B (e.mono g) (bb.trans g.f) v D I)
  | false=>exact iteF (h2 rfl H0 F0 H' F' σ B (e.mono g) (bb.trans g.f) v D I)
theorem tE {wi:TI} {g:TG} {tb:TS} {ds:List PyData} (κ:Bool) (Iv:Nat→Ctx→Prop) (hi:EvI K S κ wi Γ ds) (h0:Iv 0 Γ)
  (hs:∀ i d Γ',ds[i]?=some d→Iv i Γ'→∃ js,ExG K S κ g js d Γ' fun Γ''=>ExS K S tb Γ'' { nx:=Iv (i + 1),rt:=P.rt,bk:=P.nx,ct:=Iv (i + 1),kr:=P.kr }) (hd:∀ Γ',Iv ds.length Γ'→P.nx Γ'):ExS K S (tFor wi g tb) Γ P:=fun H0 F0 H F σ B e b _ D I =>
 hi H0 F0 H F σ e _ fun J H1 F1 g1 I1=>by
  refine ⟨fun i m σ2 H2=>m=ds.length - i∧i≤ds.length∧∃ Γ2 F2,Iv i Γ2∧Same F1 F2∧DEnv K S H0 F0 H2 F2 σ2 Γ2,⟨_,rfl,ζY _,Γ,F1,h0,.refl _,e.mono g1⟩,?_⟩
  rintro i m σ2 H2 ⟨rfl,hi,Γ2,F2,v2,s2,e2⟩
  have b1:Same B F1:=b.trans g1.f
  by_cases hlt:i < ds.length
  ·refine .inr ⟨I1.go i H2 F2 s2 e2.le hlt,fun σ3 H3=>i + 1≤ds.length∧∃ Γ3 F3,Iv (i + 1) Γ3∧Same F1 F3∧DEnv K S H0 F0 H3 F3 σ3 Γ3,fun σ3 H3 h3=>⟨_,by omega,rfl,h3⟩,fun x H3 y=>?_⟩
   obtain ⟨d,F3,hd,g3,p3⟩:=I1.yld i H2 F2 x H3 s2 e2.le e2.sd hlt y
   obtain ⟨js,hg⟩:=hs i d Γ2 hd v2
   refine hg H0 F0 H3 F3 σ2 x (e2.mono g3) p3 _ fun Γ' σ' H4 F4 k4 g4 e4 _ _=>?_
   have s4:Same F1 F4:=s2.trans (g3.f.trans g4.f)
   exact k4 H0 F0 H4 F4 σ' F1 e4 s4 (.inl rfl) _ ⟨fun Γ5 σ5 H5 F5 n s5 e5=>⟨hlt,Γ5,F5,n,s5,e5⟩,I.rt,fun Γ5 σ5 H5 F5 n s5 e5=>I.nx Γ5 σ5 H5 F5 n (b1.trans s5) e5,fun Γ5 σ5 H5 F5 n s5 e5=>⟨hlt,Γ5,F5,n,s5,e5⟩⟩
  ·have ei:i=ds.length:=by omega
   subst ei
   exact .inl ⟨I1.stop H2 F2 s2 e2.le,I.nx Γ2 σ2 H2 F2 (hd Γ2 v2) (b1.trans s2) e2⟩
theorem zaZ {c:TT} {tb:TS} (Iv:Nat→Ctx→Prop) (m0:Nat) (h0:Iv m0 Γ)
  (hs:∀ m Γ',Iv m Γ'→∃ b,EvT K S c Γ' b∧(b=true→ExS K S tb Γ' { nx:=fun Γ''=>∃ m',m' < m∧Iv m' Γ'',rt:=P.rt,bk:=P.nx,ct:=fun Γ''=>∃ m',m' < m∧Iv m' Γ'',kr:=P.kr })∧(b=false→P.nx Γ')):ExS K S (QR c tb) Γ P:=fun H0 F0 H F σ B e bb _ D I=>by
 refine ⟨fun m σ2 H2=>∃ Γ2 F2,Iv m Γ2∧Same B F2∧DEnv K S H0 F0 H2 F2 σ2 Γ2,⟨m0,Γ,F,h0,bb,e⟩,?_⟩
 rintro m σ2 H2 ⟨Γ2,F2,v2,s2,e2⟩
 obtain ⟨b,hc,h1,h2⟩:=hs m Γ2 v2
 refine hc H0 F0 H2 F2 σ2 e2 _ fun H3 F3 g3=>?_
 have s3:=s2.trans g3.f
 cases b with
 | true =>
  refine iteT ⟨fun σ4 H4=>∃ m',m' < m∧∃ Γ4 F4,Iv m' Γ4∧Same B F4∧DEnv K S H0 F0 H4 F4 σ4 Γ4,fun σ4 H4 ⟨m',hm,h⟩=>⟨m',hm,h⟩,?_⟩
  exact h1 rfl H0 F0 H3 F3 σ2 B (e2.mono g3) s3 (.inl rfl) _ ⟨fun Γ5 σ5 H5 F5 ⟨m',hm,n⟩ s5 e5=>⟨m',hm,Γ5,F5,n,s5,e5⟩,I.rt,fun Γ5 σ5 H5 F5 n s5 e5=>I.nx Γ5 σ5 H5 F5 n s5 e5,fun Γ5 σ5 H5 F5 ⟨m',hm,n⟩ s5 e5=>⟨m',hm,Γ5,F5,n,s5,e5⟩⟩
 | false=>exact iteF (I.nx Γ2 σ2 H3 F3 (h2 rfl) s3 (e2.mono g3))
def vP (n:Nat) (ds:List PyData):Ctx:=ds.map (fun d=>some (.fz false d)) ++ List.replicate (n - ds.length) none
theorem Z2 {H F:Hp} {N:List Str} {vs:List V} {ds:List PyData} (le:Same F H) (k:zT K F vs ds):DEnv K .fresh H F H F (L2.start N vs) (vP N.length ds):=by
 have l:=zT.length k
 have no:∀ (i:Nat) (x:DV),(vP N.length ds)[i]?=some (some x)→∃ d,x=.fz false d∧ds[i]?=some d:=fun i x h=>by
  unfold vP at h
  by_cases hi:i < ds.length
  ·rw [List.getElem?_append_left (by simpa using hi),List.getElem?_map] at h
   rw [ζf hi] at h ⊢
   have h':some (DV.fz false ds[i])=some x:=ζD h
   exact ⟨_,(ζD h').symm,rfl⟩
  ·rw [List.getElem?_append_right (by simpa using Nat.le_of_not_lt hi)] at h
   rw [ξJ] at h
   split at h <;> cases h
 refine ⟨.refl le,le,fun a c=>?_,fun T z=>(nomatch z),by unfold L2.start vP; simp [l],fun i x h=>?_,fun i j x y v w a h _ _ _ o=>?_⟩
 ·cases q:H a with
  | none=>exact absurd q c
  | some o=>exact ⟨o,rfl⟩
 ·obtain ⟨d',e,h'⟩:=no i _ h
  cases e
  obtain ⟨v,h1,h2⟩:=zT.get k h'
  refine ⟨v,?_,Z0 h2⟩
  unfold L2.start
  have hi:=(ζe.mp h1).1
  rw [List.getElem?_append_left (by simpa using hi),List.getElem?_map,h1]
  rfl
 ·obtain ⟨d',e,_⟩:=no i _ h
  cases e
  exact o.elim
theorem Q0 {t:TS} {N:List Str} {H F:Hp} {vs:List V} {ds:List PyData} {d:PyData} {Q:VK} {Γ:Ctx} (hΓ:vP N.length ds=Γ) (h:ExS K .fresh t Γ { nx:=fun _=>d=.none,rt:=fun x=>x=d,kr:=κ }) (le:Same F H) (k:zT K F vs ds)
  (q:∀ v H' F',Gr H F H' F'→Rp K κ .fresh H F' v d→Q v H'):t { nx:=fun _ H'=>Q .non H',rt:=Q } (L2.start N vs) H:=by
 subst hΓ
 refine h H F H F (L2.start N vs) F (Z2 le k) (.refl _) (.inl rfl) _ ⟨fun Γ' σ' H' F' n _ e=>?_,fun d' v H' F' e g p=>?_,fun _ _ _ _ z=>z.elim,fun _ _ _ _ z=>z.elim⟩
 ·have n':d=.none:=n
  subst n'
  exact q .non H' F' e.gr .non
 ·have e':d'=d:=e
  subst e'
  exact q v H' F' g p
theorem zR {pre:List PyData→PyData→Prop} {n:Nat} (h:∀ ds d,pre ds d→ds.length=n) {vs:List V} {H:Hp} {Q:VK} {E:XK} (s:spD K κ pre vs H Q E):vs.length=n:=by
 obtain ⟨F,ds,d,_,k,p,_⟩:=s
 rw [zT.length k]
 exact h ds d p
inductive MkD:DV→DV→Prop
 | fz {d:PyData}:MkD (.fz true d) (.fz true d)
 | im {κ:Bool} {d:PyData}:imm d=true→MkD (.fz κ d) (.fz true d)
 | ow {ds:List PyData}:MkD (.ow true ds) (.ow true ds)
 | oi {κ:Bool} {ds:List PyData}:(∀ d∈ds,imm d=true)→MkD (.ow κ ds) (.ow true ds)
 | ox:MkD .ox .ox
 | fn {a:Addr}:MkD (.fn a) (.fn a)
inductive wW:Ctx→Ctx→Prop
 | nil:wW [] []
 | no {x:Option DV} {Γ Γ':Ctx}:wW Γ Γ'→wW (x :: Γ) (none :: Γ')
 | got {x y:DV} {Γ Γ':Ctx}:MkD x y→wW Γ Γ'→wW (some x :: Γ) (some y :: Γ')
theorem wW.len {Γ Γ':Ctx} (h:wW Γ Γ'):Γ.length=Γ'.length:=by
 induction h with
 | nil=>rfl
 | no _ ih=>exact congrArg (· + 1) ih
 | got _ _ ih=>exact congrArg (· + 1) ih
theorem wW.get {Γ Γ':Ctx} (h:wW Γ Γ'):∀ {i:Nat} {x:DV},Γ'[i]?=some (some x)→∃ y,Γ[i]?=some (some y)∧MkD y x:=by
 induction h with
 | nil=>intro i x e; simp at e
 | no _ ih =>
  intro i x e
  cases i with
  | zero=>simp at e
  | succ i=>exact ih (i:=i) (by simpa using e)
 | @got a b _ _ m _ ih =>
  intro i x e
  cases i with
  | zero =>
   have e':b=x:=by simpa using e
   subst e'
   exact ⟨a,rfl,m⟩
  | succ i=>exact ih (i:=i) (by simpa using e)
theorem MkD.owns {x y:DV} {H H':Hp} {v:V} {a:Addr} (h:MkD y x) (o:Owns H' v x a):Owns H v y a:=by
 cases h <;> first | exact o | exact o.elim
theorem zcp {pre:List PyData→PyData→Prop} {E:XK} {ta:TA} {ds:List PyData} {d:PyData} {i:Nat} {u:TS} {Γ1 Γ2:Ctx} (h:EvA K .fresh false ta Γ ds) (hp:pre ds d) (hm:wW Γ Γ1) (hs:Γ1.set i (some (.tn d))=Γ2)
  (k:∀ T,ExT K (.spoil T) S' u Γ2 P):ExT K .fresh S' (tSeq (tAsg (uv (spD K true pre) [] E ta) (xa i)) u) Γ P:=fun H0 F0 H F σ B e b _ D I =>
 h H0 F0 H F σ e _ fun vs H1 F1 g1 p1=>⟨F1,ds,d,g1.le,by rw [ζW]; exact zU p1,hp,fun v H2 F2 g2 p2=>by
  have e1:=e.mono g1
  let T:Addr→Prop:=fun a=>F2 a≠none∧H1 a=none
  have nT:∀ {a:Addr} {o:HO},H1 a=some o→¬ T a:=fun {a o} z c=>by
   have:H1 a=none:=c.2
   rw [z] at this; cases this
  have keep:∀ (a:Addr) (xs:List V),LN K true .fresh H0 F1 a xs→LN K true (.spoil T) H0 F2 a xs:=fun a xs z=>⟨g2.f _ _ z.1,fun c=>c.elim z.2 (nT (g1.le _ _ z.1))⟩
  have ownS:∀ {a:Addr} {us:List V},vO .fresh H0 H1 F1 a us→vO (.spoil T) H0 H2 F2 a us:=fun {a us} w=>⟨g2.h _ _ w.h,g2.ap _ _ w.h w.f,w.n,fun c=>c.elim w.s (nT w.h)⟩
  have em:DEnv K (.spoil T) H0 F0 H2 F2 σ Γ1:=by
   refine ⟨e1.gr.trans g2,e1.l0,fun a c=>?_,fun T' eT a c=>?_,by rw [e.len,hm.len],fun j x hx=>?_,fun m n x y v w a h1 h2 h3 h4 o1 o2=>?_⟩
   ·rcases c with c | c
    ·obtain ⟨o,q⟩:=e1.sd a c
     exact ⟨o,g2.h _ _ q⟩
    ·cases q:F2 a with
     | none=>exact absurd q c.1
     | some o=>exact ⟨o,g2.le _ _ q⟩
   ·cases eT
    exact e1.gr.h.free c.2
   ·obtain ⟨y,hy,my⟩:=hm.get hx
    obtain ⟨w,hw,hv⟩:=e1.has j y hy
    refine ⟨w,hw,?_⟩
    cases my with
    | fz=>exact wC keep (fun _ _ z=>Same.seqT g2.f z) hv
    | im hi=>exact Z1 hi (xX g2.f (wj hv))
    | ow=>obtain ⟨a,us,ea,wo,kk⟩:=hv; exact ⟨a,us,ea,ownS wo,xr keep (fun _ _ z=>Same.seqT g2.f z) kk⟩
    | oi hi=>obtain ⟨a,us,ea,wo,kk⟩:=hv; exact ⟨a,us,ea,ownS wo,xG hi (xF g2.f (zU kk))⟩
    | ox=>obtain ⟨a,us,ea,wo⟩:=hv; exact ⟨a,us,ea,ownS wo⟩
    | fn=>exact hv
   ·obtain ⟨x',e1',m1⟩:=hm.get h1
    obtain ⟨y',e2',m2⟩:=hm.get h2
    exact e1.ne m n x' y' v w a e1' e2' h3 h4 (m1.owns o1) (m2.owns o2)
  subst hs
  refine k T H0 F0 H2 F2 _ B (em.set (x:=.tn d) ⟨T,rfl,?_⟩ fun _ z=>z.elim) (b.trans (g1.f.trans g2.f)) (.inr fun T' eT a xs z=>?_) D I
  ·refine wC (κ:=true) (κ':=true) (S':=.spoil fun a=>¬ T a) (H0':=fun _=>none) (fun a xs z=>⟨z.1,fun c=>c.elim (fun w=>w rfl) fun w=>w ⟨by rw [z.1]; simp,?_⟩⟩) (fun _ _ z=>z) p2
   cases q:H1 a with
   | none=>rfl
   | some o=>exact absurd (show H1 a≠none by rw [q]; simp) z.2
  ·cases eT
   exact nT (g1.le _ _ (g1.f _ _ (b _ _ z)))⟩
def YX:Option HO→Bool
 | some (.lst _)=>true
 | _=>false
open Classical in
noncomputable def drop (T:Addr→Prop) (F:Hp):Hp:=fun a=>if T a∧YX (F a)=true then none else F a
theorem ya {T:Addr→Prop} {F:Hp} {a:Addr} {o:HO}:drop T F a=some o↔F a=some o∧¬ (T a∧YX (some o)=true):=by
 unfold drop
 constructor
 ·intro h
  split at h
  ·cases h
  ·rename_i c; rw [h] at c; exact ⟨h,c⟩
 ·rintro ⟨h,c⟩
  rw [h,if_neg c]
inductive SpD:DV→DV→Prop
 | fz {d:PyData}:SpD (.fz true d) (.fz true d)
 | im {κ:Bool} {d:PyData}:imm d=true→SpD (.fz κ d) (.fz true d)
 | ow {ds:List PyData}:SpD (.ow true ds) (.ow true ds)
 | oi {κ:Bool} {ds:List PyData}:(∀ d∈ds,imm d=true)→SpD (.ow κ ds) (.ow true ds)
 | ox:SpD .ox .ox
 | tn {ds:List PyData}:SpD (.tn (.list ds)) .ox
inductive SpC:Ctx→Ctx→Prop
 | nil:SpC [] []
 | no {x:Option DV} {Γ Γ':Ctx}:SpC Γ Γ'→SpC (x :: Γ) (none :: Γ')
 | got {x y:DV} {Γ Γ':Ctx}:SpD x y→SpC Γ Γ'→SpC (some x :: Γ) (some y :: Γ')
theorem SpC.len {Γ Γ':Ctx} (h:SpC Γ Γ'):Γ.length=Γ'.length:=by
 induction h with
 | nil=>rfl
 | no _ ih=>exact congrArg (· + 1) ih
 | got _ _ ih=>exact congrArg (· + 1) ih
theorem SpC.get {Γ Γ':Ctx} (h:SpC Γ Γ'):∀ {i:Nat} {x:DV},Γ'[i]?=some (some x)→∃ y,Γ[i]?=some (some y)∧SpD y x:=by
 induction h with
 | nil=>intro i x e; simp at e
 | no _ ih =>
  intro i x e
  cases i with
  | zero=>simp at e
  | succ i=>exact ih (i:=i) (by simpa using e)
 | @got a b _ _ m _ ih =>
  intro i x e
  cases i with
  | zero =>
   have e':b=x:=by simpa using e
   subst e'
   exact ⟨a,rfl,m⟩
  | succ i=>exact ih (i:=i) (by simpa using e)
def OneT (Γ:Ctx):Prop:=∀ (i j:Nat) d f,Γ[i]?=some (some (.tn d))→Γ[j]?=some (some (.tn f))→i=j
theorem DEnv.spoilt {T:Addr→Prop} {H0 F0 H H' F:Hp} {σ:St} {Γ':Ctx} (e:DEnv K (.spoil T) H0 F0 H F σ Γ) (h1:∀ b o,H b=some o→YX (some o)=false∨¬ T b→H' b=some o) (hm:SpC Γ Γ') (ho:OneT Γ)
  (h2:∀ (i:Nat) ds a vs,Γ[i]?=some (some (.tn (.list ds)))→σ[i]?=some (some (.ref a))→H a=some (.lst vs)→∃ ws,H' a=some (.lst ws)):DEnv K .fresh H0 F0 H' (drop T F) σ Γ':=by
 have s0:∀ a,T a→H0 a=none:=e.s0 T rfl
 have hF:∀ b o,drop T F b=some o→H' b=some o:=fun b o z=>by
  obtain ⟨z1,z2⟩:=ya.mp z
  refine h1 b o (e.le _ _ z1) ?_
  cases q:YX (some o) with
  | false=>exact .inl rfl
  | true=>exact .inr fun c=>z2 ⟨c,q⟩
 have tup:∀ (a:Addr) (xs:List V),SqT K F a xs→SqT K (drop T F) a xs:=fun a xs z=>by
  rcases z with (z | ⟨o,z⟩) | z
  ·exact .inl (.inl (ya.mpr ⟨z,fun c=>nomatch c.2⟩))
  ·exact .inl (.inr ⟨o,ya.mpr ⟨z,fun c=>nomatch c.2⟩⟩)
  ·exact .inr z
 have ln:∀ (a:Addr) (xs:List V),LN K true (.spoil T) H0 F a xs→LN K true .fresh H0 (drop T F) a xs:=fun a xs z=>⟨ya.mpr ⟨z.1,fun c=>z.2 (.inr c.1)⟩,fun c=>z.2 (.inl c)⟩
 have dpim:∀ {κ:Bool} {v:V} {d:PyData},imm d=true→Rp K κ (.spoil T) H0 F v d→Rp K true .fresh H0 (drop T F) v d:=fun hi p=>wC (κ:=true) ln tup (Z1 hi (wj p))
 have own:∀ {a:Addr} {us:List V},vO (.spoil T) H0 H F a us→vO .fresh H0 H' (drop T F) a us:=fun {a us} w=>by
  refine ⟨h1 _ _ w.h (.inr fun c=>w.s (.inr c)),?_,w.n,fun c=>w.s (.inl c)⟩
  cases q:drop T F a with
  | none=>rfl
  | some o =>
   have:=(ya.mp q).1
   rw [w.f] at this
   cases this
 have tno':∀ {i:Nat} {ds:List PyData} {v:V},Γ[i]?=some (some (.tn (.list ds)))→σ[i]?=some (some v)→∃ a vs ws,v=.ref a∧F a=some (.lst vs)∧vO .fresh H0 H' (drop T F) a ws:=fun {i ds v} hi hv=>by
  obtain ⟨v',hv',h⟩:=e.has i _ hi
  rw [hv] at hv'
  cases hv'
  obtain ⟨T',eT,p⟩:=h
  cases eT
  obtain ⟨a,vs,rfl,hl,_⟩:=x9 p
  have Ta:T a:=Classical.byContradiction fun c=>hl.2 (.inr c)
  obtain ⟨ws,hw⟩:=h2 i ds a vs hi hv (e.le _ _ hl.1)
  refine ⟨a,vs,ws,rfl,hl.1,hw,?_,s0 a Ta,fun c=>c (s0 a Ta)⟩
  cases q:drop T F a with
  | none=>rfl
  | some o =>
   obtain ⟨q1,q2⟩:=ya.mp q
   rw [hl.1] at q1
   cases q1
   exact absurd ⟨Ta,rfl⟩ q2
 refine ⟨⟨fun b o z=>?_,fun b o z=>?_,hF,fun b o z n=>?_⟩,e.l0,(fun a c=>by
  cases q:H0 a with
  | none=>exact absurd q c
  | some o=>exact ⟨o,h1 _ _ (e.gr.h _ _ q) (.inr fun c=>by rw [s0 _ c] at q; cases q)⟩),(fun T' eT=>nomatch eT),by rw [e.len,hm.len],fun j x hx=>?_,fun m n x y v w a g1 g2 g3 g4 o1 o2=>?_⟩
 ·exact h1 _ _ (e.gr.h _ _ z) (.inr fun c=>by rw [s0 _ c] at z; cases z)
 ·exact ya.mpr ⟨e.gr.f _ _ z,fun c=>by have:=e.l0 _ _ z; rw [s0 _ c.1] at this; cases this⟩
 ·cases q:drop T F b with
  | none=>rfl
  | some o'=>have:=(ya.mp q).1; rw [e.gr.ap _ _ z n] at this; cases this
 ·obtain ⟨y,hy,my⟩:=hm.get hx
  obtain ⟨v,hv,h⟩:=e.has j y hy
  refine ⟨v,hv,?_⟩
  cases my with
  | fz=>exact wC ln tup h
  | im hi=>exact dpim hi h
  | ow=>obtain ⟨a,us,ea,wo,kk⟩:=h; exact ⟨a,us,ea,own wo,xr ln tup kk⟩
  | oi hi=>obtain ⟨a,us,ea,wo,kk⟩:=h; exact ⟨a,us,ea,own wo,xr (κ:=true) ln tup (xG hi (zU kk))⟩
  | ox=>obtain ⟨a,us,ea,wo⟩:=h; exact ⟨a,us,ea,own wo⟩
  | tn=>obtain ⟨a,_,ws,ea,_,wo⟩:=tno' hy hv; exact ⟨a,ws,ea,wo⟩
 ·obtain ⟨x',e1',m1⟩:=hm.get g1
  obtain ⟨y',e2',m2⟩:=hm.get g2
  have cs:∀ {x x':DV} {i:Nat} {v:V},Γ[i]?=some (some x')→σ[i]?=some (some v)→SpD x' x→Owns H' v x a→(Owns H v x' a∧F a=none)∨(∃ ds,x'=.tn (.list ds))∧F a≠none:=fun {x x' i v} hi hs m o=>by
   have ho':Owns H v x' a→F a=none:=fun o'=>by
    obtain ⟨u,hu,h⟩:=e.has i x' hi
    rw [hs] at hu
    cases hu
    obtain ⟨us,wo⟩:=h.owns o'
    exact wo.f
   cases m with
   | fz=>exact o.elim
   | im _=>exact o.elim
   | ow=>exact .inl ⟨o,ho' o⟩
   | oi _=>exact .inl ⟨o,ho' o⟩
   | ox=>exact .inl ⟨o,ho' o⟩
   | tn =>
    obtain ⟨b,vs,ws,eb,hb,_⟩:=tno' hi hs
    cases (show v=.ref a from o)
    cases eb
    exact .inr ⟨⟨_,rfl⟩,by rw [hb]; simp⟩
  rcases cs e1' g3 m1 o1 with ⟨p1,f1⟩ | ⟨⟨d1,rfl⟩,f1⟩
  ·rcases cs e2' g4 m2 o2 with ⟨p2,f2⟩ | ⟨_,f2⟩
   ·exact e.ne m n x' y' v w a e1' e2' g3 g4 p1 p2
   ·exact absurd f1 f2
  ·rcases cs e2' g4 m2 o2 with ⟨p2,f2⟩ | ⟨⟨d2,rfl⟩,f2⟩
   ·exact absurd f2 f1
   ·exact ho m n _ _ e1' e2'
theorem UI {T:Addr→Prop} {B F:Hp} (b:Same B F) (h:TR (.spoil T) B):Same B (drop T F):=fun a o z=>ya.mpr ⟨b _ _ z,fun c=>by
 cases o with
 | lst xs=>exact h T rfl a xs z c.1
 | _=>exact nomatch c.2⟩
theorem zbw {T:Addr→Prop} {B:Hp} (v:Sx.fresh=.spoil T∨TR (.spoil T) B):TR (.spoil T) B:=v.elim (fun z=>nomatch z) fun z=>z
def atom:PyData→Bool
 | .none=>true
 | .bool _=>true
 | .int _=>true
 | .str _=>true
 | _=>false
end
inductive SetC:Ctx→Nat→Option DV→Ctx→Prop
 | zero {a x:Option DV} {l:Ctx}:SetC (a :: l) 0 x (x :: l)
 | succ {a x:Option DV} {l l':Ctx} {i:Nat}:SetC l i x l'→SetC (a :: l) (i + 1) x (a :: l')
theorem SetC.eq {Γ Γ':Ctx} {i:Nat} {x:Option DV} (h:SetC Γ i x Γ'):Γ.set i x=Γ':=by
 induction h with
 | zero=>rfl
 | succ _ ih=>rw [List.set_cons_succ,ih]
inductive GetC:Ctx→Nat→DV→Prop
 | zero {x:DV} {l:Ctx}:GetC (some x :: l) 0 x
 | succ {a:Option DV} {x:DV} {l:Ctx} {i:Nat}:GetC l i x→GetC (a :: l) (i + 1) x
theorem GetC.eq {Γ:Ctx} {i:Nat} {x:DV} (h:GetC Γ i x):Γ[i]?=some (some x):=by
 induction h with
 | zero=>rfl
 | succ _ ih=>rw [List.getElem?_cons_succ,ih]
inductive xR:List (Option Nat)→Ctx→Ctx→Prop
 | nil {Γ:Ctx}:xR [] Γ []
 | no {js:List (Option Nat)} {Γ Γ':Ctx}:xR js Γ Γ'→xR (none :: js) Γ (none :: Γ')
 | got {js:List (Option Nat)} {Γ Γ':Ctx} {j:Nat} {x:DV}:GetC Γ j x→xR js Γ Γ'→xR (some j :: js) Γ (some x :: Γ')
theorem xR.eq {js:List (Option Nat)} {Γ Γ':Ctx} (h:xR js Γ Γ'):v9 js Γ=Γ':=by
 induction h with
 | nil=>rfl
 | no _ ih =>
  unfold v9 at ih ⊢
  rw [ζT,ih]
 | got g _ ih =>
  unfold v9 at ih ⊢
  rw [ζT,ih]
  show (Option.join _ :: _)=_
  rw [g.eq]
  rfl
section
variable {K:ζb} {S S':Sx} {κ κ':Bool} {Γ Γ' Γ'':Ctx} {P:Post}
theorem evv {i:Nat} {d:PyData} (h:GetC Γ i (.fz κ' d)) (hk:κ=true→κ'=true):EvE K S κ (tVar i) Γ d:=(Uw h.eq).weak hk
theorem evi {i:Nat} {d:PyData} (h:GetC Γ i (.fz κ' d)) (hk:imm d=true):EvE K S κ (tVar i) Γ d:=(Uw h.eq).imm hk
theorem evtn {i:Nat} {d:PyData} (h:GetC Γ i (.tn d)):EvE K S false (tVar i) Γ d:=zdZ h.eq
theorem EvL.weak {t:TE} {ds:List PyData} (h:EvL K S κ' t Γ ds) (hk:κ=true→κ'=true):EvL K S κ t Γ ds:=fun H0 F0 H F σ e Q q=>h H0 F0 H F σ e Q fun a vs H' F' g p k=>q a vs H' F' g p (by
 cases κ with
 | false=>exact uP (zU k)
 | true=>rw [hk rfl] at k; exact k)
theorem evw {i:Nat} {ds:List PyData} (h:GetC Γ i (.ow κ' ds)) (hk:κ=true→κ'=true):EvL K S κ (tVar i) Γ ds:=(zcs h.eq).weak hk
theorem exs {te:TE} {u:TS} {i:Nat} {d:PyData} (κ:Bool) (h:EvE K S κ te Γ d) (e:SetC Γ i (some (.fz κ d)) Γ') (k:ExT K S S' u Γ' P):ExT K S S' (tSeq (tAsg te (xa i)) u) Γ P:=wa (·=Γ') (za0 h e.eq) fun _ z=>z ▸ k
theorem exs1 {te:TE} {i:Nat} {d:PyData} (κ:Bool) (h:EvE K S κ te Γ d) (e:SetC Γ i (some (.fz κ d)) Γ') (k:P.nx Γ'):ExS K S (tAsg te (xa i)) Γ P:=za0 h (e.eq ▸ k)
theorem exo {te:TE} {u:TS} {i:Nat} {ds:List PyData} (κ:Bool) (h:EvO K S κ te Γ ds) (e:SetC Γ i (some (.ow κ ds)) Γ') (k:ExT K S S' u Γ' P):ExT K S S' (tSeq (tAsg te (xa i)) u) Γ P:=wa (·=Γ') (zcn h e.eq) fun _ z=>z ▸ k
theorem exa {te:TE} {u:TS} {i:Nat} {ds:List PyData} {d:PyData} (h:GetC Γ i (.ow κ ds)) (he:EvE K S κ te Γ d) (e:SetC Γ i (some (.ow κ (ds ++ [d]))) Γ') (hz:ds.length < sizeLine) (k:ExT K S S' u Γ' P):ExT K S S' (tSeq (xH (tBM K "list" y8 (tVar i) (zE te tNil))) u) Γ P:=wa (·=Γ') (Y5 h.eq he hz e.eq) fun _ z=>z ▸ k
theorem exa1 {te:TE} {i:Nat} {ds:List PyData} {d:PyData} (h:GetC Γ i (.ow κ ds)) (he:EvE K S κ te Γ d) (e:SetC Γ i (some (.ow κ (ds ++ [d]))) Γ') (hz:ds.length < sizeLine) (k:P.nx Γ'):ExS K S (xH (tBM K "list" y8 (tVar i) (zE te tNil))) Γ P:=Y5 h.eq he hz (e.eq ▸ k)
theorem exi1 {te ti:TE} {i j:Nat} {m:Int} {ds:List PyData} {d:PyData} (h:GetC Γ i (.ow κ ds)) (he:EvE K S κ te Γ d) (hi:EvE K S false ti Γ (.int m)) (hm:ixN ds.length m=some j) (e:SetC Γ i (some (.ow κ (ds.set j d))) Γ') (k:P.nx Γ'):ExS K S (tAsg te (gSub (tVar i) ti zaa)) Γ P:=Ut h.eq he hi hm (e.eq ▸ k)
theorem exfz {t:TS} (i:Nat) {ds:List PyData} (h:GetC Γ i (.ow κ ds)) (e:SetC Γ i (some (.fz κ (.list ds))) Γ') (k:ExT K S S' t Γ' P):ExT K S S' t Γ P:=Y4 i h.eq (by rw [e.eq]; exact k)
theorem egn {i:Nat} {d:PyData} {k:Ctx→Prop} (e:SetC Γ i (some (.fz κ d)) Γ') (h:k Γ'):ExG K S κ (xa i) [i] d Γ k:=zcA (by rw [e.eq]; exact h)
theorem egt {i j:Nat} {x y:PyData} {k:Ctx→Prop} (e1:SetC Γ i (some (.fz κ x)) Γ') (e2:SetC Γ' j (some (.fz κ y)) Γ'') (h:k Γ''):ExG K S κ (gTup K 2 (tR (xa i) (tR (xa j) gNil))) [i,j] (.tuple [x,y]) Γ k:=zea (by rw [e1.eq,e2.eq]; exact h)
theorem exro {i:Nat} {ds:List PyData} (h:GetC Γ i (.ow κ ds)) (hr:P.rt (.list ds)) (hk:(S=S∧κ=P.kr)∨P.kr=false):ExT K S S' (tRet (tVar i)) Γ P:=zco h.eq hr hk
theorem exif {c:TT} {t u v:TS} {b:Bool} (N:Ctx→Prop) (hc:EvT K S c Γ b) (h1:b=true→ExS K S t Γ { P with nx:=N,bk:=fun _=>False,ct:=fun _=>False }) (h2:b=false→ExS K S u Γ { P with nx:=N,bk:=fun _=>False,ct:=fun _=>False }) (k:∀ Γ',N Γ'→ExT K S S' v Γ' P):ExT K S S' (tSeq (tIfS c t u) v) Γ P:=wa N (Y3 hc h1 h2) k
theorem zeA {c:TT} {t u v:TS} {b:Bool} (hc:EvT K S c Γ b) (h1:b=true→ExT K S S' (tSeq t v) Γ P) (h2:b=false→ExT K S S' (tSeq u v) Γ P):ExT K S S' (tSeq (tIfS c t u) v) Γ P:=fun H0 F0 H F σ B e bb vv D I=>by
 refine hc H0 F0 H F σ e _ fun H' F' g=>?_
 cases b with
 | true=>exact iteT (h1 rfl H0 F0 H' F' σ B (e.mono g) (bb.trans g.f) vv D I)
 | false=>exact iteF (h2 rfl H0 F0 H' F' σ B (e.mono g) (bb.trans g.f) vv D I)
theorem exn {v:TS} (k:ExT K S S' v Γ P):ExT K S S' (tSeq YM v) Γ P:=wa (·=Γ) (xB rfl) fun _ z=>z ▸ k
theorem xP {c:TT} {t v:TS} {b:Bool} (hc:EvT K S c Γ b) (hb:b=false) (k:ExT K S S' v Γ P):ExT K S S' (tSeq (tIfS c t YM) v) Γ P:=zeA hc (fun h=>by rw [hb] at h; cases h) fun _=>exn k
theorem xc {wi:TI} {g:TG} {tb u:TS} {ds:List PyData} (κ:Bool) (Iv:Nat→Ctx→Prop) (hi:EvI K S κ wi Γ ds) (h0:Iv 0 Γ)
  (hs:∀ i d Γ',ds[i]?=some d→Iv i Γ'→∃ js,ExG K S κ g js d Γ' fun Γ''=>ExS K S tb Γ'' { nx:=Iv (i + 1),rt:=P.rt,bk:=Iv ds.length,ct:=Iv (i + 1),kr:=P.kr }) (hd:∀ Γ',Iv ds.length Γ'→ExT K S S' u Γ' P):ExT K S S' (tSeq (tFor wi g tb) u) Γ P:=wa (Iv ds.length) (tE κ Iv hi h0 hs fun _ h=>h) hd
theorem exmk {pre:List PyData→PyData→Prop} {E:XK} {ta:TA} {ds:List PyData} {d:PyData} {i:Nat} {u:TS} {Γ1 Γ2:Ctx} (h:EvA K .fresh false ta Γ ds) (hp:pre ds d) (hm:wW Γ Γ1) (hs:SetC Γ1 i (some (.tn d)) Γ2)
  (k:∀ T,ExT K (.spoil T) S' u Γ2 P):ExT K .fresh S' (tSeq (tAsg (uv (spD K true pre) [] E ta) (xa i)) u) Γ P:=zcp h hp hm hs.eq k
theorem tF {js:List (Option Nat)} {Γc:Ctx} {wi:TI} {g:TG} {tt:TT} {te:TE} {is:List Nat} {ds:List PyData} (κ':Bool) (p:PyData→Bool) (f:PyData→PyData) (hi:EvI K S κ' wi Γ ds) (hc:xR js Γ Γc) (hjs:(is.all fun i=>js[i]? == some none)=true)
  (hj:(js.filterMap id).Nodup) (hz:ds.length≤sizeLine) (hb:∀ d∈ds,ExG K S κ' g is d Γc fun Γ'=>EvT K S tt Γ' (p d)∧(p d=true→EvE K S κ te Γ' (f d))):EvO K S κ (vi js wi g tt te) Γ ((ds.filter p).map f):=by
 refine zbb p f hi (fun i hi=>?_) ?_ hz (by rw [hc.eq]; exact hb)
 ·have:=ζ9.mp hjs i hi
  simpa using this
 ·intro i j k h1 h2
  clear hc hjs hi hb
  induction js generalizing i j with
  | nil=>simp at h1
  | cons o js ih =>
   cases o with
   | none =>
    cases i with
    | zero=>simp at h1
    | succ i =>
     cases j with
     | zero=>simp at h2
     | succ j=>rw [ih (by simpa using hj) i j (by simpa using h1) (by simpa using h2)]
   | some m =>
    have hj':(m :: js.filterMap id).Nodup:=by simpa using hj
    have hm:=(ξI.mp hj').1
    cases i with
    | zero =>
     cases j with
     | zero=>rfl
     | succ j =>
      have e1:m=k:=by simpa using h1
      subst e1
      have h2':js[j]?=some (some m):=by simpa using h2
      exact absurd (show m∈js.filterMap id from ξd.mpr ⟨some m,ζd h2',rfl⟩) hm
    | succ i =>
     cases j with
     | zero =>
      have e1:m=k:=by simpa using h2
      subst e1
      have h2':js[i]?=some (some m):=by simpa using h1
      exact absurd (show m∈js.filterMap id from ξd.mpr ⟨some m,ζd h2',rfl⟩) hm
     | succ j=>rw [ih (List.nodup_cons.mp hj').2 i j (by simpa using h1) (by simpa using h2)]
theorem Wg {js:List (Option Nat)} {Γc:Ctx} {wi:TI} {g:TG} {te:TE} {is:List Nat} {ds:List PyData} (κ':Bool) (f:PyData→PyData) (hi:EvI K S κ' wi Γ ds) (hc:xR js Γ Γc) (hjs:(is.all fun i=>js[i]? == some none)=true)
  (hj:(js.filterMap id).Nodup) (hz:ds.length≤sizeLine) (hb:∀ d∈ds,ExG K S κ' g is d Γc fun Γ'=>EvE K S κ te Γ' (f d)):EvO K S κ (vi js wi g tYes te) Γ (ds.map f):=by
 have h:=tF (K:=K) (S:=S) (κ:=κ) (g:=g) (tt:=tYes) (te:=te) (is:=is) κ' (fun _=>true) f hi hc hjs hj hz fun d hd H0 F0 H F σ v e p Q q=>hb d hd H0 F0 H F σ v e p Q fun Γ' σ' H' F' k=>q Γ' σ' H' F' ⟨Wm,fun _=>k⟩
 rwa [List.filter_eq_self.mpr (fun _ _=>rfl)] at h
end
inductive wg:Nat→List PyData→Ctx→Prop
 | z:wg 0 [] []
 | no {n:Nat} {Γ:Ctx}:wg n [] Γ→wg (n + 1) [] (none :: Γ)
 | got {n:Nat} {d:PyData} {ds:List PyData} {Γ:Ctx}:wg n ds Γ→wg (n + 1) (d :: ds) (some (.fz false d) :: Γ)
theorem wg.eq {n:Nat} {ds:List PyData} {Γ:Ctx} (h:wg n ds Γ):vP n ds=Γ:=by
 induction h with
 | z=>rfl
 | @no n Γ _ ih =>
  rw [← ih]
  unfold vP
  simp [List.replicate_succ]
 | @got n d ds Γ _ ih =>
  rw [← ih]
  unfold vP
  simp
theorem zbR {K:ζb} {κ:Bool} {t:TS} {N:List Str} {n:Nat} {H F:Hp} {vs:List V} {ds:List PyData} {d:PyData} {Q:VK} {Γ:Ctx} (le:Same F H) (k:zT K F vs ds) (q:∀ v H' F',Gr H F H' F'→Rp K κ .fresh H F' v d→Q v H') (hn:N.length=n) (hΓ:wg n ds Γ)
  (h:ExS K .fresh t Γ { nx:=fun _=>d=.none,rt:=fun x=>x=d,kr:=κ }):t { nx:=fun _ H'=>Q .non H',rt:=Q } (L2.start N vs) H:=Q0 (hn ▸ hΓ.eq) h le k q
section
variable {K:ζb} {S:Sx} {κ:Bool} {Γ:Ctx}
end
theorem asm {p:Prop} (h:p):p:=h
theorem atI0 {α:Type} {a:α} {l:List α}:atI (a :: l) 0=some a:=by
 unfold atI ixN
 simp
theorem atI1 {α:Type} {a b:α} {l:List α}:atI (a :: b :: l) 1=some b:=by
 unfold atI ixN
 have h:(1:Int) < ((a :: b :: l).length:Int):=by simp; omega
 rw [if_pos (by decide),if_pos h]
 rfl
theorem X7 {K:ζb} {t c:Value} {b:Bool} (h:PySem.W.kitOne K t c=some b):PySem.W.kitOne K t c=some b:=h
end PD
namespace L2
open PySem PySem.Spec PyProof.Rows
section
variable {X:Cx} {K:ζb}
theorem zI {tg l:Expr} {tl:TE} (hK:X.K=K) (hl:PE X l tl):PI X tg l (Vy K tl):=by subst hK; exact zbZ hl
theorem uG {a b:Expr} {ta:TA} {p pos:Pos} {es:List Expr} {k:Nat} {tpos:Pos} (hK:X.K=K) (hg:Gl X "zip") (hm:X.mg "zip" = none) (ha:PA X [a,b] ta) (he:starEach (a :: [b]) X.env=(false,eval a X.env) :: starEach [b] X.env:=by rfl)
  (hpl:(backTo pos (starEach [b] X.env)).any (·.1)=false:=by rfl):PI X (.Tuple es k tpos) (.Call (.Name "zip" p) [a,b] [] pos) (iZip K ta):=by subst hK; exact zdB hg hm ha he hpl
variable {o e:Expr} {es:List Expr} {to:TE} {t:TA} {name:Str} {apos cpos:Pos} {T id:String} {r:V→List V→Hp→VK→Prop}
theorem yb (hK:X.K=K) (pa:PlainAttrs T) (slot:Slot T name id) (hty:typeOf (.builtin id)=pure (.type "method_descriptor")) (hm:MtR X id r) (ho:PE X o to) (ha:PA X (e :: es) t)
  (hbase:attributeBase o name X.env (eval o X.env)=eval o X.env:=by rfl)
  (hfew:((backTo cpos (starEach (e :: es) X.env)).all (fun x=>!x.1) && (backToKw cpos (keywordEach [] X.env)).all (fun x=>x.1.isSome)
   && decide ((e :: es).length + ([]:List Keyword).length + (if ([]:List Keyword).isEmpty then 0 else 1) < 30))=true:=by rfl)
  (hline:(apos.endLine == cpos.line)=true:=by rfl) (hs:starEach (e :: es) X.env=(false,eval e X.env) :: starEach es X.env:=by rfl) (hplain:(backTo cpos (starEach es X.env)).any (·.1)=false:=by rfl):PE X (.Call (.Attribute o name apos) (e :: es) [] cpos) (tBM K T r to t):=by subst hK; exact zeo pa slot hty hm ho ha hbase hfew hline hs hplain
end
end L2
namespace PD
open PySem L2
abbrev il (ns:List Int):PyData:=.list (ns.map .int)
def optD:Option Int→PyData
 | none=>.none
 | some i=>.int i
abbrev vl (vw:List (Option Int)):PyData:=.list (vw.map optD)
abbrev lls (ws:List (List Int)):PyData:=.list (ws.map il)
theorem x8 (ns:List Int):∀ d∈ns.map PyData.int,imm d=true:=fun d hd=>by
 obtain ⟨n,_,rfl⟩:=ζq.mp hd
 rfl
theorem Vx (ns:List (Option Int)):∀ d∈ns.map optD,imm d=true:=fun d hd=>by
 obtain ⟨n,_,rfl⟩:=ζq.mp hd
 cases n <;> rfl
section
variable {K:ζb} {S:Sx} {κ:Bool} {Γ:Ctx}
theorem zbd {t:TE} {ns:List Int} (h:EvE K S false t Γ (.list (ns.map .int))):EvL K S κ t Γ (ns.map .int):=h.toL.imm (x8 ns)
theorem zbc {t:TE} {ns:List (Option Int)} (h:EvE K S false t Γ (.list (ns.map optD))):EvL K S κ t Γ (ns.map optD):=h.toL.imm (Vx ns)
end
theorem xw {α:Type} {g:α→PyData} {ns:List α} {i:Nat} {d:PyData} (h:(ns.map g)[i]?=some d):∃ n,ns[i]?=some n∧d=g n:=by
 rw [ζl] at h
 cases e:ns[i]? with
 | none=>rw [e] at h; cases h
 | some n=>rw [e] at h; exact ⟨n,rfl,(ζD h).symm⟩
theorem Wb {α β:Type} {g:α→PyData} {h:β→PyData} {xs:List α} {ys:List β} {i:Nat} {d:PyData} (q:(List.zipWith (fun x y=>PyData.tuple [x,y]) (xs.map g) (ys.map h))[i]?=some d):∃ x y,xs[i]?=some x∧ys[i]?=some y∧d=.tuple [g x,h y]:=by
 rw [List.getElem?_zipWith,ζl,ζl] at q
 cases e1:xs[i]? with
 | none=>rw [e1] at q; cases q
 | some x =>
  cases e2:ys[i]? with
  | none=>rw [e1,e2] at q; cases q
  | some y=>rw [e1,e2] at q; exact ⟨x,y,rfl,rfl,(ζD q).symm⟩
theorem yN {i j:Int} (h0:-(2 ^ 64) < j) (h1:j < 2 ^ 64):IntMulOk i j:=.of_right (intBits_le_64 h0 h1)
theorem yM {α:Type} {g:α→PyData} {xs:List α} {i:Nat} {x:α} (h:xs[i]?=some x):atI (xs.map g) (i:Int)=some (g x):=yX (by rw [ζl,h]; rfl)
theorem X9 {n i:Nat} (h:i < n):ixN n (i:Int)=some i:=by
 unfold ixN
 rw [if_pos (by omega),if_pos (by omega)]
 simp
theorem yx {n i:Nat} {d:PyData} (h:((List.range n).map fun k:Nat=>PyData.int (k:Int))[i]?=some d):i < n∧d=.int i:=by
 rw [ζl] at h
 by_cases hi:i < n
 ·rw [ζV hi] at h
  exact ⟨hi,(ζD h).symm⟩
 ·rw [List.getElem?_eq_none (by simp; omega)] at h
  cases h
theorem yO (n:Nat):((List.range n).map fun k:Nat=>PyData.int (k:Int)).length=n:=by rw [ζa,ζz]
theorem W4 (n:Nat):(List.replicate n [PyData.none]).flatten=(List.replicate n (none:Option Int)).map optD:=by
 induction n with
 | zero=>rfl
 | succ n ih=>rw [ζ5,ξt,ih,ζ5]; rfl
end PD
namespace L2
open PySem PySem.Spec PyProof.Rows
section
variable {X:Cx} {CX:CXT} {k:Nat} {ps:List Str} {sp:Sp} {E:XK} {x:Str} {p pos:Pos} {e:Expr} {es:List Expr} {t:TA}
end
end L2
namespace PD
open PySem L2
section
variable {K:ζb} {S S':Sx} {κ:Bool} {Γ:Ctx} {P:Post}
end
end PD
namespace Sx2
open Sh Wd
def smT:List (Int×Int)→Int×Int→Int×Int
 | [],x=>x
 | y :: r,x=>smT r (x.1 * y.2 + y.1 * x.2,x.2 * y.2)
def sm (xs:List (Int×Int)):Int×Int:=smT xs (0,1)
def pk (ss:List Int) (ks:List Nat):List Int:=ks.map fun k=>ss.getD k 0
def fil (vw:List (Option Int)) (ks:List Nat) (ws:List Int):List (Option Int):=(ks.zip ws).foldl (fun v x=>v.set x.1 (some x.2)) vw
theorem Tu:∀ (ks:List Nat) (ws:List Int) (vw:List (Option Int)),(fil vw ks ws).length=vw.length
 | [],_,_=>rfl
 | _ :: _,[],_=>rfl
 | k :: r,w :: e,vw=>by
  show (fil (vw.set k (some w)) r e).length=_
  rw [Tu r e,ξr]
theorem Tt:∀ (ks:List Nat) (ws:List Int) (vw:List (Option Int)) (j:Nat),j∉ks→(fil vw ks ws)[j]?=vw[j]?
 | [],_,_,_,_=>rfl
 | _ :: _,[],_,_,_=>rfl
 | k :: r,w :: e,vw,j,h=>by
  show (fil (vw.set k (some w)) r e)[j]?=_
  rw [Tt r e _ j fun z=>h (ζk _ z),ζx (fun z=>h (by rw [z]; exact ζi))]
theorem zaX:∀ (ks:List Nat) (ws:List Int) (vw:List (Option Int)) (m j:Nat) (v:Int),ks.Nodup→ks[m]?=some j→ws[m]?=some v→j < vw.length→(fil vw ks ws)[j]?=some (some v)
 | [],_,_,m,_,_,_,h,_,_=>by simp at h
 | _ :: _,[],_,m,_,_,_,_,h,_=>by simp at h
 | k :: r,w :: e,vw,0,j,v,hn,h1,h2,h3=>by
  have e1:k=j:=by simpa using h1
  have e2:w=v:=by simpa using h2
  subst e1 e2
  show (fil (vw.set k (some w)) r e)[k]?=_
  rw [Tt r e _ k (ξI.mp hn).1,ζt h3]
 | k :: r,w :: e,vw,m + 1,j,v,hn,h1,h2,h3=>by
  show (fil (vw.set k (some w)) r e)[j]?=_
  exact zaX r e _ m j v (List.nodup_cons.mp hn).2 (by simpa using h1) (by simpa using h2) (by simpa using h3)
theorem YQ:∀ (ss ws:List Int) (a A:Int),ss.length=ws.length→(∀ (i:Nat) s v,ss[i]?=some s→ws[i]?=some v→0≤v∧v < s)→0≤a→a < A→0≤(ss.zip ws).foldl (fun a x=>a * x.1 + x.2) a∧(ss.zip ws).foldl (fun a x=>a * x.1 + x.2) a < A * prod ss
 | [],[],a,A,_,_,h0,h1=>⟨h0,by show a < A * 1; omega⟩
 | [],_ :: _,_,_,h,_,_,_=>by cases h
 | _ :: _,[],_,_,h,_,_,_=>by cases h
 | s :: r,v :: e,a,A,h,hr,h0,h1=>by
  have hv:=hr 0 s v rfl rfl
  have g0:0≤a * s:=Int.mul_nonneg h0 (by omega)
  have g1:(a + 1) * s≤A * s:=Int.mul_le_mul_of_nonneg_right (by omega) (by omega)
  rw [Int.add_mul,Int.one_mul] at g1
  have ih:=YQ r e (a * s + v) (A * s) (by simpa using h) (fun i s' v' h1 h2=>hr (i + 1) s' v' (by simpa using h1) (by simpa using h2)) (by omega) (by omega)
  rw [Int.mul_assoc] at ih
  exact ih
theorem YR {ss ws:List Int} (h:ss.length=ws.length) (hr:∀ (i:Nat) s v,ss[i]?=some s→ws[i]?=some v→0≤v∧v < s):0≤rkF ss ws∧rkF ss ws < prod ss:=by
 have:=YQ ss ws 0 1 h hr (by decide) (by decide)
 rw [Int.one_mul] at this
 exact this
theorem TF:∀ (ss:List Int) (p:Int),(∀ s∈ss,0 < s)→∀ (i:Nat) s v,ss[i]?=some s→(digs ss p)[i]?=some v→0≤v∧v < s
 | [],_,_,_,_,_,h,_=>by simp at h
 | s :: r,p,h,0,s',v,h1,h2=>by
  have e1:s=s':=by simpa using h1
  have e2:p % s=v:=by simpa [digs] using h2
  subst e1 e2
  have hs:=h s ζi
  exact ⟨ξz _ (by omega),ξM _ hs⟩
 | s :: r,p,h,i + 1,s',v,h1,h2=>TF r (p / s) (fun x hx=>h x (List.mem_cons_of_mem _ hx)) i s' v (by simpa using h1) (by simpa [digs] using h2)
theorem QL {ss w:List Int} (h:∀ s∈ss,0 < s) (hw:w∈wds ss):∀ (i:Nat) s v,ss[i]?=some s→w[i]?=some v→0≤v∧v < s:=by
 intro i s v h1 h2
 unfold wds at hw
 obtain ⟨j,_,rfl⟩:=ζq.mp hw
 have hi:=(ζe.mp h1).1
 have hl:(digs ss.reverse j).length=ss.length:=by rw [uR,List.length_reverse]
 unfold wld at h2
 rw [List.getElem?_reverse (by omega)] at h2
 refine TF ss.reverse j (fun x hx=>h x (ξ9.mp hx)) (ss.length - 1 - i) s v ?_ (by rw [hl] at h2; exact h2)
 rw [List.getElem?_reverse (by omega),show ss.length - 1 - (ss.length - 1 - i)=i by omega]
 exact h1
end Sx2
namespace PD
open PySem L2
section
variable {K:ζb} {S S':Sx} {κ:Bool} {Γ:Ctx} {P:Post}
end
theorem wz {α:Type} {g:α→PyData} (h:∀ x,PyData.canLay0 (g x)=true):∀ xs:List α,PyData.canLayAll0 (xs.map g)=true
 | []=>rfl
 | x :: r=>by
  show (PyData.canLay0 (g x) && PyData.canLayAll0 (r.map g))=true
  rw [h,wz h r]
  rfl
theorem xI {α:Type} {g:α→PyData} {n:Nat} (h:∀ x,PyData.depth (g x)≤n):∀ xs:List α,PyData.depthAll (xs.map g)≤n
 | []=>ζY _
 | x :: r=>by
  show max (PyData.depth (g x)) (PyData.depthAll (r.map g))≤n
  have:=xI h r
  have:=h x
  omega
theorem YO {d:PyData} (h1:PyData.canLay0 d=true) (h2:PyData.depth d≤50):SeqAt.shaped d=true:=by
 unfold SeqAt.shaped
 rw [h1]
 simp
 omega
end PD
namespace L2
open PySem PySem.Spec PyProof.Rows
def srt (ns:List Int):List Int:=ns.mergeSort fun a b=>decide (a≤b)
theorem tP:∀ {a b:List Int},a.Perm b→a.Pairwise (·≤·)→b.Pairwise (·≤·)→a=b
 | [],b,p,_,_=>p.nil_eq
 | x :: r,[],p,_,_=>absurd p.length_eq (by simp)
 | x :: r,y :: t,p,h1,h2=>by
  have a1:=ξw.mp h1
  have a2:=ξw.mp h2
  have hx:x∈y :: t:=p.mem_iff.mp ζi
  have hy:y∈x :: r:=p.mem_iff.mpr ζi
  have e:x=y:=by
   rcases ζs.mp hx with e | hx
   ·exact e
   ·rcases ζs.mp hy with e | hy
    ·exact e.symm
    ·have:=a2.1 x hx
     have:=a1.1 y hy
     omega
  subst e
  rw [tP p.cons_inv a1.2 a2.2]
theorem vQ (ns:List Int):(srt ns).Perm ns:=List.mergeSort_perm ns _
theorem Zp (ns:List Int):(srt ns).Pairwise (·≤·):=by
 have:=List.pairwise_mergeSort (le:=fun a b:Int=>decide (a≤b)) (fun a b c h1 h2=>by simp at *; omega) (fun a b=>by simp; omega) ns
 exact this.imp fun h=>by simpa using h
theorem V3 {a ns:List Int} (p:a.Perm ns) (h:a.Pairwise (·≤·)):a=srt ns:=tP (p.trans (vQ ns).symm) h (Zp ns)
section
variable {X:Cx} {K:ζb}
theorem vp:∀ {ns:List Int} {us:List Value},IntsAre us ns→Vals (ns.map V.int) us
 | _,_,.nil=>.nil
 | _,_,.cons _ t r=>.cons ⟨t,rfl⟩ (vp r)
def XC (K:ζb):List V→Hp→VK→Prop:=fun xs H Q=>∃ p ns,xs=[.ref p]∧SqL K H p (ns.map V.int)∧ns.length < 64∧∀ l,H l=none→Q (.ref l) (upd H l (.lst ((srt ns).map V.int)))
theorem VO:yB X (.builtin "sorted") (XC X.K):=by
 intro pins s σ H xs us Q I r h
 obtain ⟨p,ns,rfl,hq,h64,q⟩:=h
 obtain ⟨u,rfl,rx⟩:=xJ r
 cases rx
 obtain ⟨its,r',pl,hz⟩:=I.list hq
 have hl:=r'.length
 rw [ζa] at hl hz
 refine sorted_ints (vs:=its) pl.isList (wM r') (by omega) fun out ns' a1 a2 a3=>?_
 have e:=V3 a2 a3
 subst e
 obtain ⟨c,hc⟩:=sortedAll_at s.heap its out
 exact ⟨.ref (s.heap.objs.size + 1),_,I.laid (t':=s.toks) (fun _ _=>sortedAll_old) (Nat.le_succ _) (show yR X.prog X.w _ _ _ (.lst ((srt ns).map V.int)) from ⟨by rw [List.length_map,(vQ ns).length_eq]; exact hz,out.toList,c,vp a1,by simpa using hc⟩),rfl,q _ (I.hok.fresh (Nat.le_succ _))⟩
theorem wA (hK:X.K=K):yB X (.builtin "sorted") (XC K):=by subst hK; exact VO
def low (d:PyData):Bool:=d.canLay0 && decide (d.depth≤50)
open Classical in
noncomputable def eqU2 (h:Heap) (d:PyData) (y:Value):Bool:=decide (∃ dy as,Reads h y dy as∧low dy=true∧PyData.eqv dy d=true)
theorem wy {d:PyData} (h:low d=true):d.canLay0=true:=(ξp.mp h).1
theorem v4 {d:PyData} (h:low d=true):d.depth≤50:=of_decide_eq_true (ξp.mp h).2
open Classical in
theorem v5 {h:Heap} {d dy:PyData} {y:Value} {as:List Addr} (r:Reads h y dy as) (l:low dy=true):eqU2 h d y=PyData.eqv dy d:=by
 unfold eqU2
 cases e:PyData.eqv dy d with
 | true=>apply decide_eq_true; exact ⟨dy,as,r,l,e⟩
 | false =>
  apply decide_eq_false
  rintro ⟨dz,bs,r2,l2,e2⟩
  rw [SeqAt.Reads.unique dy dz y as bs (wy l) r r2] at e
  rw [e] at e2
  cases e2
theorem uW {h:Heap} {d:PyData}:∀ {us:List Value} {ds:List PyData} {as:List Addr},ReadsAll h us ds as→(∀ e∈ds,low e=true)→us.any (eqU2 h d)=ds.any (PyData.eqv · d)
 | _,_,_,.nil,_=>rfl
 | _,_,_,.cons r t,l=>by rw [List.any_cons,List.any_cons,v5 r (l _ ζi),uW t fun e he=>l e (ζk _ he)]
theorem vk {h:Heap}:∀ {us:List Value} {ds:List PyData} {as:List Addr},ReadsAll h us ds as→∀ u∈us,∃ d∈ds,∃ bs,Reads h u d bs
 | _,_,_,.nil,_,hu=>by cases hu
 | _,_,_,.cons r t,u,hu=>by
  rcases ζs.mp hu with rfl | hu
  ·exact ⟨_,ζi,_,r⟩
  ·obtain ⟨d,hd,bs,q⟩:=vk t u hu
   exact ⟨d,ζk _ hd,bs,q⟩
def rInD (K:ζb) (neg:Bool):R2:=fun x y H Q=>∃ p xs d ds,y=.ref p∧SqL K H p xs∧Dp K H x d∧zT K H xs ds∧low d=true∧(∀ e∈ds,low e=true)∧Q (.bl (if neg then !ds.any (PyData.eqv · d) else ds.any (PyData.eqv · d))) H
theorem zdI (hu:X.A.units + 64 < cLine):OpR X (compareOp .In) (rInD X.K false):=by
 intro pins s σ H x y v u Q I rx ry h
 obtain ⟨p,xs,d,ds,rfl,hq,h1,h2,l1,l2,q⟩:=h
 cases ry
 obtain ⟨its,r,pl,hz⟩:=I.list hq
 obtain ⟨as,ra⟩:=h1.reads I rx
 obtain ⟨bs,rb⟩:=zT.reads I h2 r
 refine SeqAt.in_listAt (eqU2 s.heap d) pl.isList (fun w hw=>?_) ⟨.bl _,H,I,rfl,?_⟩
 ·obtain ⟨dw,hd,cs,rc⟩:=vk rb w (by simpa using hw)
  rw [v5 rc (l2 dw hd)]
  exact SeqAt.eqAt_reads dw d _ s w v cs as rc ra (wy (l2 dw hd)) (wy l1) (by have:=v4 l1; have:=ξ8 dw.depth d.depth; show X.A.units + 1 + _ < _; omega)
 ·rw [show its.toArray.any (eqU2 s.heap d)=its.any (eqU2 s.heap d) by simp,uW rb l2]
  exact q
theorem T8 (hu:X.A.units + 64 < cLine):OpR X (compareOp .NotIn) (rInD X.K true):=by
 intro pins s σ H x y v u Q I rx ry h
 obtain ⟨p,xs,d,ds,rfl,hq,h1,h2,l1,l2,q⟩:=h
 cases ry
 obtain ⟨its,r,pl,hz⟩:=I.list hq
 obtain ⟨as,ra⟩:=h1.reads I rx
 obtain ⟨bs,rb⟩:=zT.reads I h2 r
 refine SeqAt.notIn_listAt (eqU2 s.heap d) pl.isList (fun w hw=>?_) ⟨.bl _,H,I,rfl,?_⟩
 ·obtain ⟨dw,hd,cs,rc⟩:=vk rb w (by simpa using hw)
  rw [v5 rc (l2 dw hd)]
  exact SeqAt.eqAt_reads dw d _ s w v cs as rc ra (wy (l2 dw hd)) (wy l1) (by have:=v4 l1; have:=ξ8 dw.depth d.depth; show X.A.units + 1 + _ < _; omega)
 ·rw [show its.toArray.any (eqU2 s.heap d)=its.any (eqU2 s.heap d) by simp,uW rb l2]
  exact q
theorem zb3 (hK:X.K=K) (hu:X.A.units + 64 < cLine):OpR X (compareOp .In) (rInD K false):=by subst hK; exact zdI hu
theorem Ue (hK:X.K=K) (hu:X.A.units + 64 < cLine):OpR X (compareOp .NotIn) (rInD K true):=by subst hK; exact T8 hu
def Ua (K:ζb):V→List V→Hp→VK→Prop:=fun x vs H Q=>∃ l,∃ ns:List Int,∃ k,x=.ref l∧vs=[.int k]∧SqL K H l (ns.map V.int)∧k∈ns∧Q (.int (ns.idxOf k:Nat)) H
theorem zay:MtM X "list.index" (Ua X.K):=by
 intro pins s σ H x vs v us Q I rx rv h
 obtain ⟨l,ns,k,rfl,rfl,hq,hk,q⟩:=h
 cases rx
 obtain ⟨u,rfl,ru⟩:=rv.one
 obtain ⟨t,rfl⟩:=ru
 obtain ⟨its,r,pl,hz⟩:=I.list hq
 have hl:=r.length
 have hi:=wM r
 have hj:ns.idxOf k < ns.length:=ξs.mpr hk
 rw [ζa] at hl hz
 have hb:sizeLine < 2 ^ 62:=by decide
 obtain ⟨⟨c,dd,dt,sl⟩,ho,hc,n,hd⟩:=pl.isList
 simp only at hc hd
 subst hc hd
 refine call_meets F.slot_list_index ⟨_,ho,rfl⟩ F.entry_list_index (F.args_list_index_2 _ _) (SeqAt.list_indexAt l its.toArray n dd sl (.int k t) (isInt k) (ns.idxOf k) (by rw [ζP]; omega) (by omega) ?_ fun m hm lt=>?_)
  ⟨ho,fun y hy=>(eq_isInt k t hi y (by simpa using hy)).at _ _,.int _,H,I.tok _,⟨_,rfl⟩,q⟩
 ·show isInt k its[ns.idxOf k]=true
  rw [isInt_at k hi (ns.idxOf k) (by omega) hj]
  simp
 ·show isInt k its[m]=false
  rw [ζP] at hm
  rw [isInt_at k hi m hm (by omega)]
  exact ne_of_lt_idxOf lt (by omega)
theorem Qi (hK:X.K=K):MtM X "list.index" (Ua K):=by subst hK; exact zay
def XD:V→List V→Hp→VK→Prop:=fun x vs H Q=>∃ l xs j y,x=.ref l∧vs=[.int j,y]∧H l=some (.lst xs)∧0≤j∧j≤(xs.length:Int)∧xs.length < sizeLine∧Q .non (upd H l (.lst (xs.take j.toNat ++ y :: xs.drop j.toNat)))
theorem Qg:MtM X "list.insert" XD:=by
 intro pins s σ H x vs v us Q I rx rv h
 obtain ⟨l,xs,j,y,rfl,rfl,hH,h0,hj,hz,q⟩:=h
 cases rx
 cases rv with
 | cons ru rv' =>
  obtain ⟨t,rfl⟩:=ru
  obtain ⟨u,rfl,ry⟩:=Vals.one rv'
  obtain ⟨z,its,n,r,hl,e⟩:=I.lstM hH
  have hb:sizeLine < 2 ^ 62:=by decide
  have hf:Builtin.List.listFitsIndex j=true:=fitsIndex_both (by omega) (by omega)
  have hs:its.toArray.size≤sizeLine:=by rw [ζP]; omega
  have e1:¬ (j < 0):=by omega
  have e2:min j.toNat its.length=j.toNat:=by omega
  refine call_meets F.slot_list_insert ⟨_,e,rfl⟩ F.entry_list_insert (F.args_list_insert_3 _ _ _) (AutoSeq1.list_insert_list_int_val_1 l its.toArray n j t u (by rw [hf]; decide) hs) ⟨e,?_⟩
  refine ⟨.non,_,I.lset (its':=its.take j.toNat ++ u :: its.drop j.toNat) hH e ?_ ((r.take j.toNat).append (.cons ry (r.drop j.toNat))) ?_,rfl,q⟩
  ·simp only [e1,if_false,List.size_toArray,e2]
   apply ξE.mp
   simp
   exact ζA (by rw [ζR]; exact ζm _)
  ·rw [ζj,ζL,ζy,ζR]
   omega
theorem zbY {tg l:Expr} {tl:TE} (hK:X.K=K) (hl:PE X l tl):PI X tg l (iTup K tl):=by subst hK; exact zdC hl
end
end L2
namespace PD
open PySem L2
section
variable {K:ζb} {S S':Sx} {κ κ':Bool} {Γ Γ' Γ'':Ctx} {P:Post}
theorem vx {H0 F:Hp} (ns:List Int):zj K κ S H0 F (ns.map V.int) (ns.map .int):=xG (x8 ns) (uo ns)
theorem vI {ta:TE} {ns:List Int} (h:EvL K S false ta Γ (ns.map .int)) (h64:ns.length < 64):EvO K S κ (tCB (XC K) (zE ta tNil)) Γ ((srt ns).map .int):=fun H0 F0 H F σ e Q q =>
 h H0 F0 H F σ e _ fun a vs H1 F1 g1 p1 k1=>by
  cases yl (zU k1)
  exact ⟨a,ns,rfl,p1,h64,fun p hp=>q p _ _ F1 (g1.trans (.newO g1.le hp _)) (g1.h.free hp) zp (g1.le.free hp) (vx _)⟩
theorem zbf {ta tb:TE} {ns:List Int} {k:Int} (ha:EvL K S false ta Γ (ns.map .int)) (hb:EvE K S false tb Γ (.int k)) (hk:k∈ns):EvE K S κ (tBM K "list" (Ua K) ta (zE tb tNil)) Γ (.int (ns.idxOf k:Nat)):=fun H0 F0 H F σ e Q q =>
 ha H0 F0 H F σ e _ fun a vs H1 F1 g1 p1 k1=>⟨.inl ⟨rfl,_,p1⟩,hb H0 F0 H1 F1 σ (e.mono g1) _ fun w H2 F2 g2 p2=>by
  cases yH p2
  cases yl (zU k1)
  exact ⟨a,ns,k,rfl,rfl,g2.h.seq p1,hk,q _ H2 F2 (g1.trans g2) (.int _)⟩⟩
theorem zbi {neg:Bool} {ta tb:TE} {d:PyData} {ds:List PyData} (ha:EvE K S false ta Γ d) (hb:EvL K S false tb Γ ds) (l1:low d=true) (l2:∀ e∈ds,low e=true) :
  EvE K S κ (tOp (rInD K neg) ta tb) Γ (.bool (if neg then !ds.any (PyData.eqv · d) else ds.any (PyData.eqv · d))):=fun H0 F0 H F σ e Q q =>
 ha H0 F0 H F σ e _ fun v H1 F1 g1 p1=>hb H0 F0 H1 F1 σ (e.mono g1) _ fun b ws H2 F2 g2 p2 k2 =>
  ⟨b,ws,d,ds,rfl,p2,xX (g1.le.trans g2.h) (wj p1),xF g2.le (zU k2),l1,l2,q _ H2 F2 (g1.trans g2) (.bl _)⟩
theorem Qu {te ti:TE} {i:Nat} {m:Int} {ds:List PyData} {d:PyData} (h:Γ[i]?=some (some (.ow κ ds))) (hi:EvE K S false ti Γ (.int m)) (he:EvE K S κ te Γ d) (h0:0≤m) (h1:m≤ds.length) (hz:ds.length < sizeLine) (k:P.nx (Γ.set i (some (.ow κ (ds.take m.toNat ++ d :: ds.drop m.toNat))))) :
  ExS K S (xH (tBM K "list" XD (tVar i) (zE ti (zE te tNil)))) Γ P:=fun H0 F0 H F σ B e b _ D I=>by
 obtain ⟨v0,q1,a,vs,rfl,w,q5⟩:=e.has i _ h
 refine ⟨_,q1,.inl ⟨rfl,_,SqL.of w.h⟩,hi H0 F0 H F σ e _ fun v1 H1 F1 g1 p1=>he H0 F0 H1 F1 σ (e.mono g1) _ fun v H' F' g2 p=>?_⟩
 cases yH p1
 have g:=g1.trans g2
 have k':=zD g.f q5
 have hl:=zj.length q5
 refine ⟨a,vs,m,v,rfl,rfl,g.h _ _ w.h,h0,by rw [hl]; exact h1,by rw [hl]; exact hz,?_⟩
 exact I.nx _ _ _ F' k (b.trans g.f) ((e.mono g).put (y:=.ow κ (ds.take m.toNat ++ d :: ds.drop m.toNat)) h q1 (show Owns H' (.ref a) (.ow κ ds) a from rfl) ⟨a,_,rfl,⟨zp,(w.mono g).f,w.n,w.s⟩,zj.append (zj.take _ k') (.cons p (zj.drop _ k'))⟩ fun _ z=>z)
theorem exin {te ti:TE} {i:Nat} {m:Int} {ds:List PyData} {d:PyData} (h:GetC Γ i (.ow κ ds)) (hi:EvE K S false ti Γ (.int m)) (he:EvE K S κ te Γ d) (h0:0≤m) (h1:m≤ds.length) (hz:ds.length < sizeLine) (e:SetC Γ i (some (.ow κ (ds.take m.toNat ++ d :: ds.drop m.toNat))) Γ') (k:P.nx Γ') :
  ExS K S (xH (tBM K "list" XD (tVar i) (zE ti (zE te tNil)))) Γ P:=Qu h.eq hi he h0 h1 hz (e.eq ▸ k)
theorem QP {T:Addr→Prop} {F:Hp} {a:Addr} {xs:List V} (z:SqT K F a xs):SqT K (drop T F) a xs:=by
 rcases z with (z | ⟨o,z⟩) | z
 ·exact .inl (.inl (ya.mpr ⟨z,fun c=>nomatch c.2⟩))
 ·exact .inl (.inr ⟨o,ya.mpr ⟨z,fun c=>nomatch c.2⟩⟩)
 ·exact .inr z
theorem Y8 {T:Addr→Prop} {F:Hp} {a:Addr} {xs:List V} (h:F a=some (.lst xs)) (t:T a):drop T F a=none:=by
 cases q:drop T F a with
 | none=>rfl
 | some o =>
  obtain ⟨q1,q2⟩:=ya.mp q
  rw [h] at q1
  cases q1
  exact absurd ⟨t,rfl⟩ q2
end
end PD
namespace L2
open PySem PySem.Spec PyProof.Rows
section
variable {X:Cx} {K:ζb}
def rSum (K:ζb):List V→Hp→VK→Prop:=fun xs H Q=>∃ p,∃ ns:List Int,xs=[.ref p]∧SqL K H p (ns.map V.int)∧Q (.int ns.sum) H
theorem zbt (hc:X.calm=true):yB X (.builtin "sum") (rSum X.K):=by
 intro pins s σ H xs us Q I r h
 obtain ⟨p,ns,rfl,hq,q⟩:=h
 obtain ⟨u,rfl,rx⟩:=xJ r
 cases rx
 obtain ⟨its,r',pl,hz⟩:=I.list hq
 have hi:=wM r'
 obtain ⟨ys,e⟩:=hi.allInts.items
 have hns:ns=ys.toList.map (·.1):=by rw [← hi.numsOf,← nums_intItems,← e]
 have hl:=pl.isList
 rw [e] at hl
 refine sum_intListG (I.ok.hd hc) hl fun h' tk t' hk=>?_
 refine ⟨.int ns.sum,H,I.kept hk,⟨t',?_⟩,q⟩
 rw [preSum_eq,List.take_of_length_le (by simp),← hns]
theorem QA (hK:X.K=K) (hc:X.calm=true):yB X (.builtin "sum") (rSum K):=by subst hK; exact zbt hc
theorem UQ:∀ {bs:List Bool} {us:List Value},Vals (bs.map V.bl) us→us=bs.map Value.bool
 | [],_,.nil=>rfl
 | _ :: _,_,.cons r t=>by rw [UQ t,show _=Value.bool _ from r]; rfl
theorem Xg:∀ (bs:List Bool) (f:Nat→Bool),(∀ i b,bs[i]?=some b→f i=b)→(List.range bs.length).all f=bs.all fun b=>b
 | [],_,_=>rfl
 | b :: r,f,h=>by
  have ih:=Xg r (fun i=>f (i + 1)) fun i b' hb=>h (i + 1) b' (by simpa using hb)
  rw [ζL,List.range_succ_eq_map,List.all_cons,List.all_map,List.all_cons,h 0 b rfl,← ih]
  rfl
def rAll (K:ζb):List V→Hp→VK→Prop:=fun xs H Q=>∃ p,∃ bs:List Bool,xs=[.ref p]∧SqL K H p (bs.map V.bl)∧Q (.bl (bs.all fun b=>b)) H
theorem zbv (hc:X.calm=true):yB X (.builtin "all") (rAll X.K):=by
 intro pins s σ H xs us Q I r h
 obtain ⟨p,bs,rfl,hq,q⟩:=h
 obtain ⟨u,rfl,rx⟩:=xJ r
 cases rx
 obtain ⟨its,r',pl,hz⟩:=I.list hq
 have e:=UQ r'
 subst e
 have hl:=pl.isList
 refine call_all_walk (wpAny_pyIter_list hl ?_)
 have hne:p≠s.heap.objs.size:=by
  obtain ⟨o,ho,_⟩:=hl
  exact ζG (ζn ho)
 refine ⟨s.heap.objs.size,_,_,_,_,_,fun i=>bs.getD i false,rfl,Walks.list (A:=X.A.in1) (I.ok.hd hc) _ p hne (bs.map Value.bool).toArray,⟨⟨_,ζp _ rfl,rfl,rfl⟩,hl.push _⟩,fun i v s Q E hP hQ=>?_,fun h' tk hk=>?_⟩
 ·have hP':(bs.map Value.bool)[i]?=some v:=by simpa using hP
  rw [ζl] at hP'
  cases eb:bs[i]? with
  | none=>rw [eb] at hP'; cases hP'
  | some b =>
   rw [eb] at hP'
   cases hP'
   have:bs.getD i false=b:=by rw [ζc,eb]; rfl
   have hQ':Q (bs.getD i false) s:=hQ
   rw [this] at hQ'
   exact wpAny_truthy_bool hQ'
 ·have e:(List.range (bs.map Value.bool).toArray.size).all (fun i=>bs.getD i false)=bs.all fun b=>b:=by
   rw [ζP,ζa]
   exact Xg bs _ fun i b hb=>by rw [ζc,hb]; rfl
  rw [e]
  exact ⟨.bl _,H,I.kept fun b o eb=>hk b o (by simpa using Nat.ne_of_lt (Heap.lt_size eb)) (Heap.get?_push_of_some _ eb),rfl,q⟩
theorem xy (hK:X.K=K) (hc:X.calm=true):yB X (.builtin "all") (rAll K):=by subst hK; exact zbv hc
end
end L2
namespace PD
open PySem L2
section
variable {K:ζb} {S S':Sx} {κ κ':Bool} {Γ Γ' Γ'':Ctx} {P:Post}
theorem zd0 {ta:TE} {ns:List Int} (h:EvL K S false ta Γ (ns.map .int)):EvE K S κ (tCB (rSum K) (zE ta tNil)) Γ (.int ns.sum):=fun H0 F0 H F σ e Q q =>
 h H0 F0 H F σ e _ fun a vs H1 F1 g1 p1 k1=>by
  cases yl (zU k1)
  exact ⟨a,ns,rfl,p1,q _ H1 F1 g1 (.int _)⟩
theorem uQ {F:Hp}:∀ {vs:List V} {bs:List Bool},zT K F vs (bs.map PyData.bool)→vs=bs.map V.bl
 | _,[],.nil=>rfl
 | _,_ :: _,.cons h t=>by rw [zeE h,uQ t]; rfl
theorem vK {ta:TE} {bs:List Bool} (h:EvL K S false ta Γ (bs.map .bool)):EvE K S κ (tCB (rAll K) (zE ta tNil)) Γ (.bool (bs.all fun b=>b)):=fun H0 F0 H F σ e Q q =>
 h H0 F0 H F σ e _ fun a vs H1 F1 g1 p1 k1=>by
  cases uQ (zU k1)
  exact ⟨a,bs,rfl,p1,q _ H1 F1 g1 (.bl _)⟩
theorem zcv {ta:TE} {b:Bool} (h:EvE K S false ta Γ (.bool b)):EvE K S κ (tCB (fun xs H Q=>(∃ i,xs=[.int i]∧Q (.int i) H)∨∃ k,xs=[.bl k]∧Q (.int (if k then 1 else 0)) H) (zE ta tNil)) Γ (.int (if b then 1 else 0)):=fun H0 F0 H F σ e Q q =>
 h H0 F0 H F σ e _ fun v H1 F1 g1 p1=>by
  cases tM p1
  exact .inr ⟨b,rfl,q _ H1 F1 g1 (.int _)⟩
theorem W0 {H0 F:Hp}:∀ {vs:List V} {ds:List PyData},vs.length=ds.length→(∀ (j:Nat) v d,vs[j]?=some v→ds[j]?=some d→Rp K κ S H0 F v d)→zj K κ S H0 F vs ds
 | [],[],_,_=>.nil
 | [],_ :: _,h,_=>by cases h
 | _ :: _,[],h,_=>by cases h
 | v :: vs,d :: ds,h,k=>.cons (k 0 v d rfl rfl) (W0 (by simpa using h) fun j v' d' h1 h2=>k (j + 1) v' d' (by simpa using h1) (by simpa using h2))
theorem YV {α:Type}:∀ {l:List α},l.Nodup→∀ {i j:Nat} {x:α},l[i]?=some x→l[j]?=some x→i=j
 | [],_,i,j,x,h,_=>by simp at h
 | y :: r,n,0,0,x,_,_=>rfl
 | y :: r,n,0,j + 1,x,h1,h2=>by
  have e:y=x:=by simpa using h1
  exact absurd (List.mem_of_getElem? (show r[j]?=some x by simpa using h2)) (e ▸ (List.nodup_cons.mp n).1)
 | y :: r,n,i + 1,0,x,h1,h2=>by
  have e:y=x:=by simpa using h2
  exact absurd (List.mem_of_getElem? (show r[i]?=some x by simpa using h1)) (e ▸ (List.nodup_cons.mp n).1)
 | y :: r,n,i + 1,j + 1,x,h1,h2=>by rw [YV (List.nodup_cons.mp n).2 (show r[i]?=some x by simpa using h1) (show r[j]?=some x by simpa using h2)]
theorem za1 {r:Option Addr} {ti te:TE} {i j:Nat} {m:Int} {dss:List (List PyData)} {ds:List PyData} {d:PyData} (h:GetC Γ i (.o2 r dss)) (hi:EvE K S false ti Γ (.int m)) (hm:ixN dss.length m=some j) (hd:dss[j]?=some ds) (he:EvE K S true te Γ d) (hz:ds.length < sizeLine)
  (es:SetC Γ i (some (.o2 r (dss.set j (ds ++ [d])))) Γ') (k:P.nx Γ'):ExS K S (xH (tBM K "list" y8 (tOp (rIxL K) (tVar i) ti) (zE te tNil))) Γ P:=fun H0 F0 H F σ B e bb _ D I=>by
 obtain ⟨v0,q1,a,vs,⟨rfl,hid⟩,w,n1,n2,n3,hk⟩:=e.has i _ h.eq
 refine ⟨_,q1,hi H0 F0 H F σ e _ fun w' H1 F1 g1 p1=>?_⟩
 cases yH p1
 have hj:=(ζe.mp hd).1
 have hx:vs[j]?=some (vs[j]'(by omega)):=ζf (by omega)
 obtain ⟨b,us,ds',ex,ow,hd',kk⟩:=hk j _ hx
 rw [hd] at hd'
 cases hd'
 rw [ex] at hx
 have hat:atI vs m=some (.ref b):=by
  unfold atI
  rw [n3,hm]
  exact hx
 refine ⟨a,vs,m,_,rfl,rfl,SqL.of (g1.h _ _ w.h),hat,.inl ⟨rfl,_,SqL.of (g1.h _ _ ow.h)⟩,he H0 F0 H1 F1 σ (e.mono g1) _ fun v H2 F2 g2 p2=>?_⟩
 have g:=g1.trans g2
 have ow2:=ow.mono g
 have w2:=w.mono g
 have nba:b≠a:=by rintro rfl; exact n1 (ζd hx)
 refine ⟨b,us,v,rfl,rfl,ow2.h,by rw [zj.length kk]; exact hz,?_⟩
 obtain rfl:=es.eq
 refine I.nx _ _ _ F2 k (bb.trans g.f) ((e.mono g).put (y:=.o2 r (dss.set j (ds ++ [d]))) h.eq q1 (show Owns H2 (.ref a) (.o2 r dss) b from .inr ⟨a,vs,rfl,w2.h,ζd hx⟩) ?_ ?_)
 ·refine ⟨a,vs,⟨rfl,hid⟩,w2.other nba.symm,n1,n2,by rw [ξr]; exact n3,fun j' x hx'=>?_⟩
  by_cases hjj:j'=j
  ·subst hjj
   rw [hx] at hx'
   cases hx'
   exact ⟨b,us ++ [v],ds ++ [d],rfl,⟨zp,ow2.f,ow2.n,ow2.s⟩,by rw [ζt hj],zj.append (zD g.f kk) (.cons p2 .nil)⟩
  ·obtain ⟨c,ws,ds',rfl,oc,hc,kc⟩:=hk j' x hx'
   have ncb:c≠b:=by
    rintro rfl
    exact hjj (YV n2 hx' hx)
   exact ⟨c,ws,ds',rfl,(oc.mono g).other ncb,by rw [ζx (Ne.symm hjj)]; exact hc,zD g.f kc⟩
 ·rintro c (oc | ⟨p,xs,ep,hp,hm'⟩)
  ·exact .inl oc
  ·cases ep
   rw [zt nba.symm,w2.h] at hp
   cases hp
   exact .inr ⟨a,vs,rfl,w2.h,hm'⟩
theorem HasV.frzG {H0 H F F':Hp} {v:V} {x:DV} (h:HasV K S H0 H F v x) (s:Same F F') (n:∀ c,Owns H v x c→F' c=none):HasV K S H0 H F' v x:=by
 cases x with
 | fz κ d=>exact yK s h
 | tn d=>obtain ⟨T,eT,k⟩:=h; exact ⟨T,eT,yK s k⟩
 | ow κ ds=>obtain ⟨b,us,eb,wo,kk⟩:=h; exact ⟨b,us,eb,⟨wo.h,n b eb,wo.n,wo.s⟩,zD s kk⟩
 | ox=>obtain ⟨b,us,eb,wo⟩:=h; exact ⟨b,us,eb,⟨wo.h,n b eb,wo.n,wo.s⟩⟩
 | o2 r dss =>
  obtain ⟨b,us,eb,wo,n1,n2,l,k⟩:=h
  refine ⟨b,us,eb,⟨wo.h,n b (.inl eb.eq),wo.n,wo.s⟩,n1,n2,l,fun j y hy=>?_⟩
  obtain ⟨c,ws,ds,e2,o2,h2,k2⟩:=k j y hy
  exact ⟨c,ws,ds,e2,⟨o2.h,n c (.inr ⟨b,us,eb.eq,wo.h,by rw [← e2]; exact ζd hy⟩),o2.n,o2.s⟩,h2,zD s k2⟩
 | fn a=>exact h
 | xn φ=>obtain ⟨b,e,k⟩:=h; exact ⟨b,e,s _ _ k⟩
 | oa b κ ds=>obtain ⟨eb,us,wo,kk⟩:=h; exact ⟨eb,us,⟨wo.h,n b eb,wo.n,wo.s⟩,zD s kk⟩
 | xp φ=>obtain ⟨F1,s1,k⟩:=h; exact ⟨F1,s1.trans s,k⟩
 | od u=>obtain ⟨b,eb,wo⟩:=h; exact ⟨b,eb,⟨wo.h,n b eb,wo.n,wo.s⟩⟩
 | og ad ψ =>
  obtain ⟨ok,w,p⟩:=h
  refine ⟨ok,fun b z=>?_,ok.ps S H0 H H F F' v (fun _ _=>rfl) s p⟩
  obtain ⟨o,y⟩:=w b z
  exact ⟨o,⟨y.h,n b z,y.n,y.s⟩⟩
open Classical in
noncomputable def frzF (F H:Hp) (a:Addr) (vs:List V):Hp:=fun c=>if c=a∨V.ref c∈vs then H c else F c
theorem DEnv.frz2 {r:Option Addr} {i:Nat} {dss:List (List PyData)} {H0 F0 H F:Hp} {σ:St} (e:DEnv K S H0 F0 H F σ Γ) (h:GetC Γ i (.o2 r dss)) (es:SetC Γ i (some (.fz true (.list (dss.map .list)))) Γ') :
  ∃ (Ff:Hp) (A:Addr→Prop),DEnv K S H0 F0 H Ff σ Γ'∧Same F Ff∧(∀ c,A c→F c=none∧∃ vs,Ff c=some (.lst vs))∧∀ c,¬ A c→Ff c=F c:=by
 have h':=h.eq
 obtain ⟨v0,q1,a,vs,⟨rfl,hid⟩,w,n1,n2,n3,hk⟩:=e.has i _ h'
 have inn:∀ {c:Addr},(c=a∨V.ref c∈vs)→∃ us,vO S H0 H F c us:=fun {c} hc=>by
  rcases hc with rfl | hc
  ·exact ⟨_,w⟩
  ·obtain ⟨j,hj⟩:=ζH.mp hc
   obtain ⟨b,us,ds,eb,ow,_⟩:=hk j _ hj
   cases eb
   exact ⟨us,ow⟩
 have Fin:∀ {c:Addr},(c=a∨V.ref c∈vs)→frzF F H a vs c=H c:=fun hc=>if_pos hc
 have Fout:∀ {c:Addr},¬ (c=a∨V.ref c∈vs)→frzF F H a vs c=F c:=fun hc=>if_neg hc
 have s:Same F (frzF F H a vs):=fun c o hc=>by
  rw [Fout fun z=>by obtain ⟨us,ow⟩:=inn z; rw [ow.f] at hc; cases hc]
  exact hc
 have le:Same (frzF F H a vs) H:=fun c o hc=>by
  by_cases z:c=a∨V.ref c∈vs
  ·rw [Fin z] at hc; exact hc
  ·rw [Fout z] at hc; exact e.le _ _ hc
 have li:=(ζe.mp h').1
 have own:∀ {c:Addr},(c=a∨V.ref c∈vs)→Owns H (.ref a) (.o2 r dss) c:=fun {c} hc=>by
  rcases hc with rfl | hc
  ·exact .inl rfl
  ·exact .inr ⟨a,vs,rfl,w.h,hc⟩
 obtain rfl:=es.eq
 have hv:HasV K S H0 H (frzF F H a vs) (.ref a) (.fz true (.list (dss.map .list))):=by
  refine .lst ⟨by rw [Fin (.inl rfl)]; exact w.h,w.s⟩ (W0 (by rw [ζa]; exact n3) fun j v d h1 h2=>?_)
  obtain ⟨b,us,ds,rfl,ow,hd,kk⟩:=hk j v h1
  rw [ζl,hd] at h2
  cases h2
  exact .lst ⟨by rw [Fin (.inr (ζd h1))]; exact ow.h,ow.s⟩ (zD s kk)
 have eF:DEnv K S H0 F0 H (frzF F H a vs) σ (Γ.set i (some (.fz true (.list (dss.map .list))))):=by
  refine ⟨⟨e.gr.h,e.gr.f.trans s,le,fun c o hc hn=>?_⟩,e.l0,e.sd,e.s0,by simp [e.len],fun j f z=>?_,fun j k' x1 y1 v1 w1 b g1 g2 g3 g4 o1 o2=>?_⟩
  ·rw [Fout fun z=>by obtain ⟨us,ow⟩:=inn z; rw [ow.n] at hc; cases hc]
   exact e.gr.ap c o hc hn
  ·by_cases hj:j=i
   ·subst hj
    rw [ζt li] at z
    cases z
    exact ⟨_,q1,hv⟩
   ·rw [ζx (Ne.symm hj)] at z
    obtain ⟨u,r1,r2⟩:=e.has j f z
    refine ⟨u,r1,r2.frzG s fun c oc=>?_⟩
    by_cases zc:c=a∨V.ref c∈vs
    ·exact absurd (e.ne j i f _ u _ c z h' r1 q1 oc (own zc)) hj
    ·rw [Fout zc]
     obtain ⟨us,wo⟩:=r2.owns oc
     exact wo.f
  ·by_cases hj:j=i
   ·subst hj
    rw [ζt li] at g1
    cases g1
    exact o1.elim
   ·by_cases hk':k'=i
    ·subst hk'
     rw [ζt li] at g2
     cases g2
     exact o2.elim
    ·rw [ζx (Ne.symm hj)] at g1
     rw [ζx (Ne.symm hk')] at g2
     exact e.ne j k' x1 y1 v1 w1 b g1 g2 g3 g4 o1 o2
 refine ⟨_,fun c=>c=a∨V.ref c∈vs,eF,s,fun c hc=>?_,fun c hc=>Fout hc⟩
 obtain ⟨us,ow⟩:=inn hc
 exact ⟨ow.f,us,by rw [Fin hc]; exact ow.h⟩
theorem zeB {r:Option Addr} {t:TS} (i:Nat) {dss:List (List PyData)} (h:GetC Γ i (.o2 r dss)) (es:SetC Γ i (some (.fz true (.list (dss.map .list)))) Γ') (k:ExT K S S' t Γ' P):ExT K S S' t Γ P:=fun H0 F0 H F σ B e bb vv D I=>by
 obtain ⟨Ff,A,eF,s,_⟩:=e.frz2 h es
 exact k H0 F0 H _ σ B eF (bb.trans s) vv D I
theorem zaM {H0 F:Hp} {T:Addr→Prop} {vs:List V} {ds:List PyData} (h:∀ d∈ds,imm d=true) (k:zT K F vs ds):zj K κ S H0 (drop T F) vs ds :=
 xG h (zU (xr (κ:=true) (κ':=true) (S:=.spoil T) (S':=.fresh) (H0:=fun _=>none) (H0':=fun _=>none) (F:=F) (F':=drop T F) (fun a xs z=>⟨ya.mpr ⟨z.1,fun c=>z.2 (.inr c.1)⟩,fun c=>z.2 (.inl c)⟩) (fun _ _ z=>QP z) (xG h k)))
theorem thaw {H0 F0 H F:Hp} {σ:St} {i:Nat} {ds:List PyData} {Γf:Ctx} (e:DEnv K S H0 F0 H F σ Γ) (h:GetC Γ i (.ow κ ds)) (es:SetC Γ i (some (.fz κ (.list ds))) Γf) :
  ∃ a Ff,DEnv K S H0 F0 H Ff σ Γf∧∀ H' F',Gr H Ff H' F'→Gr H F H' (drop (fun c=>c=a) F'):=by
 obtain ⟨v,q1,a,vs,rfl,w,q5⟩:=e.has i _ h.eq
 obtain ⟨s,e'⟩:=e.froz (y:=.fz κ (.list ds)) h.eq q1 rfl w (.lst (LN.new w.s) (zD (Same.new w.f _) q5)) fun _ z=>z.elim
 rw [es.eq] at e'
 refine ⟨a,_,e',fun H' F' g=>⟨g.h,fun c o z=>ya.mpr ⟨g.f _ _ (s _ _ z),?_⟩,fun c o z=>g.le _ _ (ya.mp z).1,fun c o z n=>?_⟩⟩
 ·rintro ⟨rfl,_⟩
  rw [w.f] at z; cases z
 ·by_cases hc:c=a
  ·subst hc
   exact Y8 (g.f _ _ zp) rfl
  ·cases q':drop (fun c=>c=a) F' c with
   | none=>rfl
   | some o' =>
    have:=(ya.mp q').1
    rw [g.ap _ _ z (by rw [zt hc]; exact n)] at this; cases this
theorem zcw (i:Nat) {t:TT} {b:Bool} {ds:List PyData} {Γf:Ctx} (h:GetC Γ i (.ow κ ds)) (es:SetC Γ i (some (.fz κ (.list ds))) Γf) (k:EvT K S t Γf b):EvT K S t Γ b:=fun H0 F0 H F σ e Q q=>by
 obtain ⟨a,Ff,e',g⟩:=thaw e h es
 exact k H0 F0 H Ff σ e' Q fun H' F' g'=>q H' _ (g H' F' g')
theorem yg {α:Type} {js:List (Option Nat)} {Γc:Ctx} {wi:TI} {g:TG} {te:TE} {is:List Nat} {xs:List α} (κ':Bool) (u f:α→PyData) (hu:∀ x∈xs,∀ y∈xs,u x=u y→f x=f y) (hi:EvI K S κ' wi Γ (xs.map u)) (hc:xR js Γ Γc) (hjs:(is.all fun i=>js[i]? == some none)=true)
  (hj:(js.filterMap id).Nodup) (hz:xs.length≤sizeLine) (hb:∀ x∈xs,ExG K S κ' g is (u x) Γc fun Γ'=>EvE K S κ te Γ' (f x)):EvO K S κ (vi js wi g tYes te) Γ (xs.map f):=by
 classical
 let F:PyData→PyData:=fun d=>if h:∃ x,x∈xs∧u x=d then f h.choose else .none
 have hF:∀ x∈xs,F (u x)=f x:=fun x hx=>by
  have h:∃ y,y∈xs∧u y=u x:=⟨x,hx,rfl⟩
  show (if h:∃ y,y∈xs∧u y=u x then f h.choose else .none)=_
  rw [dif_pos h]
  exact hu _ h.choose_spec.1 _ hx h.choose_spec.2
 refine EvO.eq (Wg (κ:=κ) κ' F hi hc hjs hj (by rw [ζa]; exact hz) fun d hd=>?_) ?_
 ·obtain ⟨x,hx,rfl⟩:=ζq.mp hd
  rw [hF x hx]
  exact hb x hx
 ·rw [ζr]
  exact ζK fun x hx=>hF x hx
theorem zdO:sizeLine < 2 ^ 62:=by decide
theorem Q6 {α:Type} {f:Nat→α} {n:Nat}:((List.range n).map f).length=n:=by rw [ζa,ζz]
end
end PD
namespace L2
open PySem PySem.Spec PyProof.Rows
section
variable {P:Program} {w:World} {H H':Hp} {h h':Heap}
end
section
variable {P:Program} {w:World} {outer:List Env} {H H':Hp} {s s':Shared} {C a:Addr} {B:Heap} {t:Value}
end
section
variable {X:Cx} {E:XK} {x:Str} {C:Addr} {e0:Expr} {es:List Expr} {ta:TA} {np cpos pos:Pos}
end
end L2
namespace L2
open PySem PySem.Spec PyProof.Rows PySem.W PySem.Builtin PySem.Builtin.ObjectAttr PySem.Builtin.Getset_descriptor
section
variable {prog:Program} {w:World} {A:Around} {E:Value→Shared→Prop} {s:Shared} {K:Frag} {a C:Addr} {o:Obj}
end
end L2
namespace L2
open PySem PySem.Spec PyProof.Rows PySem.W
section
variable {X:Cx} {K:Frag}
end
section
variable {M:Model} {A:Around} {E:Value→Shared→Prop} {s:Shared} {env:Env}
end
section
variable {X:Cx} {pins:List (Addr×Obj)} {σ:St} {H:Hp} {s:Shared}
end
section
variable {M:Model} {A:Around} {E:Value→Shared→Prop} {s:Shared} {K:Frag} {a C D:Addr}
end
section
variable {X:Cx} {pins:List (Addr×Obj)} {σ:St} {H:Hp} {s:Shared}
end
section
variable {X:Cx} {k:Nat} {ps:List Str} {sp:Sp} {x y n:Str} {p np cpos epos hpos tpos:Pos} {e:Expr} {es:List Expr} {ta:TA} {C D:Addr} {i:Nat} {b0:Stmt} {suite:List Stmt} {th:TS}
end
end L2
namespace L2
open PySem PySem.Spec PyProof.Rows
section
variable {P:Program} {w:World} {K:ζb} {mg:Str→Option Value} {base:Heap}
end
end L2
namespace PD
open PySem L2
section
variable {K:ζb} {S S':Sx} {κ κ':Bool} {Γ Γ' Γ'':Ctx} {P:Post} {E:XK} {C:Addr}
end
end PD
namespace L2
open PySem PySem.Spec PyProof.Rows
section
variable {X:Cx} {K:ζb}
end
end L2
namespace PD
open PySem L2
section
variable {K:ζb} {S S':Sx} {κ κ':Bool} {Γ Γ' Γ'':Ctx} {P:Post} {E:XK} {C:Addr}
end
end PD
namespace L2
open PySem PySem.Spec PyProof.Rows
section
variable {P:Program} {w:World} {K:ζb} {mg:Str→Option Value} {base:Heap}
end
section
variable {X:Cx} {k:Nat} {ps:List Str} {sp:Sp} {x:Str} {p pos:Pos} {e:Expr} {es:List Expr} {t:TA}
end
end L2
namespace PD
open PySem L2
section
variable {K:ζb} {S S':Sx} {κ κ':Bool} {Γ Γ' Γ'':Ctx} {P:Post}
theorem Ty {ta:TE} {i:Int} (h:EvE K S false ta Γ (.int i)) (hz:i.natAbs.log2 < 1920):EvE K S κ (tCB (fun xs H Q=>∃ i,xs=[.int i]∧i.natAbs.log2 < 1920∧Q (.str (toString i)) H) (zE ta tNil)) Γ (.str (toString i)):=fun H0 F0 H F σ e Q q =>
 h H0 F0 H F σ e _ fun v H1 F1 g1 p1=>by
  cases yH p1
  exact ⟨i,rfl,hz,q _ H1 F1 g1 (.str _)⟩
end
section
variable {K:ζb} {S S':Sx} {κ κ':Bool} {Γ Γ' Γ'':Ctx} {P:Post} {E:XK}
theorem DEnv.putN {H0 F0 H F:Hp} {σ:St} {i:Nat} {a b:Addr} {v:V} {vs:List V} {x y:DV} (e:DEnv K S H0 F0 H F σ Γ) (h:Γ[i]?=some (some x)) (ha:σ[i]?=some (some v)) (ho:Owns H v x a)
  (k:HasV K S H0 (upd H a (.lst vs)) F v y) (ko:∀ c,Owns (upd H a (.lst vs)) v y c→Owns H v x c∨c=b) (nb:∀ (j:Nat) (f:DV) (u:V),Γ[j]?=some (some f)→σ[j]?=some (some u)→¬ Owns H u f b):DEnv K S H0 F0 (upd H a (.lst vs)) F σ (Γ.set i (some y)):=by
 obtain ⟨v',q1,q2⟩:=e.has i x h
 rw [ha] at q1
 cases q1
 obtain ⟨ws,w⟩:=q2.owns ho
 have hs:Same F (upd H a (.lst vs)):=fun b u z=>by
  have:b≠a:=by rintro rfl; rw [w.f] at z; cases z
  rw [zt this]; exact e.le _ _ z
 have li:=(ζe.mp h).1
 have far:∀ {j:Nat} {f:DV} {u:V},j≠i→Γ[j]?=some (some f)→σ[j]?=some (some u)→¬ Owns H u f a:=fun {j f u} hj z r o=>hj (e.ne j i f x u v a z h r ha o ho)
 refine ⟨⟨fun b u z=>?_,e.gr.f,hs,e.gr.ap⟩,e.l0,fun b c=>?_,e.s0,by simp [e.len],fun j f z=>?_,fun j k' x1 y1 v1 w1 c g1 g2 g3 g4 o1 o2=>?_⟩
 ·rw [zt (zK z w.n)]; exact e.gr.h _ _ z
 ·obtain ⟨o,q⟩:=e.sd b c
  by_cases hb:b=a
  ·subst hb; exact ⟨_,zp⟩
  ·exact ⟨o,by rw [zt hb]; exact q⟩
 ·by_cases hj:j=i
  ·subst hj
   rw [ζt li] at z
   cases z
   exact ⟨_,ha,k⟩
  ·rw [ζx (Ne.symm hj)] at z
   obtain ⟨u,r1,r2⟩:=e.has j f z
   exact ⟨u,r1,r2.other (far hj z r1)⟩
 ·have bk:∀ {j:Nat} {f:DV} {u:V},(Γ.set i (some y))[j]?=some (some f)→σ[j]?=some (some u)→Owns (upd H a (.lst vs)) u f c→(∃ g,Γ[j]?=some (some g)∧Owns H u g c)∨(j=i∧c=b):=fun {j f u} z r o=>by
   by_cases hj:j=i
   ·subst hj
    rw [ζt li] at z
    cases z
    rw [ha] at r
    cases r
    rcases ko c o with o | o
    ·exact .inl ⟨x,h,o⟩
    ·exact .inr ⟨rfl,o⟩
   ·rw [ζx (Ne.symm hj)] at z
    obtain ⟨u',r1,r2⟩:=e.has j f z
    rw [r] at r1
    cases r1
    exact .inl ⟨f,z,o.other r2 (far hj z r)⟩
  rcases bk g1 g3 o1 with ⟨f1,z1,w1'⟩ | ⟨j1,c1⟩
  ·rcases bk g2 g4 o2 with ⟨f2,z2,w2'⟩ | ⟨j2,c2⟩
   ·exact e.ne j k' f1 f2 v1 w1 c z1 z2 g3 g4 w1' w2'
   ·subst c2
    exact absurd w1' (nb j f1 v1 z1 g3)
  ·rcases bk g2 g4 o2 with ⟨f2,z2,w2'⟩ | ⟨j2,c2⟩
   ·subst c1
    exact absurd w2' (nb k' f2 w1 z2 g4)
   ·rw [j1,j2]
theorem DEnv.newOwn {H0 F0 H F H' F':Hp} {σ:St} {b:Addr} (e:DEnv K S H0 F0 H F σ Γ) (g:Gr H F H' F') (hb:H b=none) (j:Nat) (f:DV) (u:V) (z:Γ[j]?=some (some f)) (r:σ[j]?=some (some u)):¬ Owns H' u f b:=fun o=>by
 obtain ⟨u',q1,q2⟩:=e.has j f z
 rw [r] at q1
 cases q1
 obtain ⟨us,w⟩:=q2.owns (o.back q2 fun _ _ z=>g.h _ _ z.h)
 have:=w.h
 rw [hb] at this; cases this
theorem Qt {r:Option Addr} {te:TE} {i:Nat} {dss:List (List PyData)} {ds:List PyData} (h:GetC Γ i (.o2 r dss)) (he:EvO K S true te Γ ds) (hz:dss.length < sizeLine) (es:SetC Γ i (some (.o2 r (dss ++ [ds]))) Γ') (k:P.nx Γ') :
  ExS K S (xH (tBM K "list" y8 (tVar i) (zE te tNil))) Γ P:=fun H0 F0 H F σ B e bb _ D I=>by
 obtain ⟨v0,q1,a,vs,⟨rfl,hid⟩,w,n1,n2,n3,hk⟩:=e.has i _ h.eq
 refine ⟨_,q1,.inl ⟨rfl,_,SqL.of w.h⟩,he H0 F0 H F σ e _ fun b us H1 F1 g hb hb1 fb kk=>?_⟩
 have w1:=w.mono g
 have nab:b≠a:=by rintro rfl; have:=w.h; rw [hb] at this; cases this
 have nbv:V.ref b∉vs:=fun hm=>by
  obtain ⟨j,hj⟩:=ζH.mp hm
  obtain ⟨c,ws,ds',ec,oc,_⟩:=hk j _ hj
  cases ec
  have:=oc.h
  rw [hb] at this; cases this
 refine ⟨a,vs,.ref b,rfl,rfl,w1.h,by rw [n3]; exact hz,?_⟩
 obtain rfl:=es.eq
 refine I.nx _ _ _ F1 k (bb.trans g.f) ((e.mono g).putN (b:=b) (y:=.o2 r (dss ++ [ds])) h.eq q1 (show Owns H1 (.ref a) (.o2 r dss) a from .inl rfl) ?_ ?_ fun j f u z r'=>e.newOwn g hb j f u z r')
 ·refine ⟨a,vs ++ [.ref b],⟨rfl,hid⟩,⟨zp,w1.f,w1.n,w1.s⟩,?_,?_,by rw [ζj,ζj,n3]; rfl,fun j x hx=>?_⟩
  ·intro hm
   rcases ζu.mp hm with hm | hm
   ·exact n1 hm
   ·have:V.ref a=.ref b:=by simpa using hm
    cases this
    exact nab rfl
  ·refine List.nodup_append.mpr ⟨n2,by simp,fun x hx y hy=>?_⟩
   have:y=.ref b:=by simpa using hy
   rintro rfl
   exact nbv (this ▸ hx)
  ·by_cases hj:j < vs.length
   ·rw [ζ1 hj] at hx
    obtain ⟨c,ws,ds',rfl,oc,hc,kc⟩:=hk j x hx
    have nca:c≠a:=by rintro rfl; exact n1 (ζd hx)
    exact ⟨c,ws,ds',rfl,(oc.mono g).other nca,by rw [ζ1 (by omega)]; exact hc,zD g.f kc⟩
   ·rw [ζN (by omega)] at hx
    have hj':j - vs.length=0:=by
     have:=(ζe.mp hx).1
     simp at this
     omega
    rw [hj'] at hx
    cases (show some (V.ref b)=some x from hx)
    exact ⟨b,us,ds,rfl,⟨by rw [zt nab]; exact hb1,fb,e.gr.h.free hb,e.out hb⟩,by rw [ζN (by omega),show j - dss.length=0 by omega]; rfl,kk⟩
 ·rintro c (oc | ⟨p,xs,ep,hp,hm⟩)
  ·exact .inl (.inl oc)
  ·cases ep
   rw [zp] at hp
   cases hp
   rcases ζu.mp hm with hm | hm
   ·exact .inl (.inr ⟨a,vs,rfl,w1.h,hm⟩)
   ·right
    have:V.ref c=.ref b:=by simpa using hm
    cases this
    rfl
end
end PD
namespace L2
open PySem PySem.Spec PyProof.Rows
section
variable {X:Cx}
end
end L2
namespace PD
open PySem L2
section
variable {K:ζb} {S S':Sx} {κ κ':Bool} {Γ Γ' Γ'' Γ3:Ctx} {P:Post}
theorem eg3 {i j m:Nat} {x y z:PyData} {k:Ctx→Prop} (e1:SetC Γ i (some (.fz κ x)) Γ') (e2:SetC Γ' j (some (.fz κ y)) Γ'') (e3:SetC Γ'' m (some (.fz κ z)) Γ3) (h:k Γ3):ExG K S κ (gTup K 3 (tR (xa i) (tR (xa j) (tR (xa m) gNil)))) [i,j,m] (.tuple [x,y,z]) Γ k:=fun H0 F0 H F σ v e p Q q=>by
 obtain rfl:=e1.eq
 obtain rfl:=e2.eq
 obtain rfl:=e3.eq
 obtain ⟨a,vs,rfl,h1,h2⟩:=u5 p
 cases h2 with
 | cons px h2=>cases h2 with
  | cons py h2=>cases h2 with
   | cons pz h2 =>
    cases h2
    refine ⟨a,_,rfl,Same.seqT e.le h1,rfl,_,_,rfl,_,_,rfl,_,_,rfl,rfl,?_⟩
    refine q _ _ H F h (.refl e.le) (((e.setF px).setF py).setF pz) (by simp) fun n hn=>?_
    rw [List.getElem?_set_ne (by intro z; exact hn (by simp [z])),List.getElem?_set_ne (by intro z; exact hn (by simp [z])),List.getElem?_set_ne (by intro z; exact hn (by simp [z]))]
theorem vJ {α:Type} {js:List (Option Nat)} {Γc:Ctx} {wi:TI} {g:TG} {tt:TT} {te:TE} {is:List Nat} {xs:List α} (κ':Bool) (u f:α→PyData) (p:α→Bool) (hu:∀ x∈xs,∀ y∈xs,u x=u y→f x=f y∧p x=p y) (hi:EvI K S κ' wi Γ (xs.map u)) (hc:xR js Γ Γc) (hjs:(is.all fun i=>js[i]? == some none)=true)
  (hj:(js.filterMap id).Nodup) (hz:xs.length≤sizeLine) (hb:∀ x∈xs,ExG K S κ' g is (u x) Γc fun Γ'=>EvT K S tt Γ' (p x)∧(p x=true→EvE K S κ te Γ' (f x))):EvO K S κ (vi js wi g tt te) Γ ((xs.filter p).map f):=by
 classical
 let F:PyData→PyData:=fun d=>if h:∃ x,x∈xs∧u x=d then f h.choose else .none
 let G:PyData→Bool:=fun d=>if h:∃ x,x∈xs∧u x=d then p h.choose else false
 have ex:∀ x∈xs,∃ y,y∈xs∧u y=u x:=fun x hx=>⟨x,hx,rfl⟩
 have hF:∀ x∈xs,F (u x)=f x:=fun x hx=>by
  show (if h:∃ y,y∈xs∧u y=u x then f h.choose else .none)=_
  rw [dif_pos (ex x hx)]
  exact (hu _ (ex x hx).choose_spec.1 _ hx (ex x hx).choose_spec.2).1
 have hG:∀ x∈xs,G (u x)=p x:=fun x hx=>by
  show (if h:∃ y,y∈xs∧u y=u x then p h.choose else false)=_
  rw [dif_pos (ex x hx)]
  exact (hu _ (ex x hx).choose_spec.1 _ hx (ex x hx).choose_spec.2).2
 refine EvO.eq (tF (κ:=κ) κ' G F hi hc hjs hj (by rw [ζa]; exact hz) fun d hd=>?_) ?_
 ·obtain ⟨x,hx,rfl⟩:=ζq.mp hd
  rw [hF x hx,hG x hx]
  exact hb x hx
 ·rw [List.filter_map,ζr]
  have e1:xs.filter (G∘u)=xs.filter p:=List.filter_congr fun x hx=>hG x hx
  rw [e1]
  exact ζK fun x hx=>hF x (ζ6.mp hx).1
theorem Qv {js:List (Option Nat)} {Γc:Ctx} {ta:TA} {g:TG} {tt:TT} {te:TE} {is:List Nat} {n:Nat} (f:Nat→PyData) (p:Nat→Bool) (hi:EvA K S false ta Γ [.int n]) (hn:n≤sizeLine) (hc:xR js Γ Γc) (hjs:(is.all fun i=>js[i]? == some none)=true)
  (hj:(js.filterMap id).Nodup) (hb:∀ k:Nat,k < n→ExG K S true g is (.int k) Γc fun Γ'=>EvT K S tt Γ' (p k)∧(p k=true→EvE K S κ te Γ' (f k))):EvO K S κ (vi js (zaP ta) g tt te) Γ (((List.range n).filter p).map f) :=
 vJ true (fun k:Nat=>.int (k:Int)) f p (fun x _ y _ h=>by cases Int.ofNat.inj (PyData.int.inj h); exact ⟨rfl,rfl⟩) (xg (n:=(n:Int)) hi (by omega) (by have:=zdO; omega)) hc hjs hj (by rw [ζz]; exact hn) fun k hk=>hb k (ζQ.mp hk)
end
end PD
namespace L2
open PySem PySem.Spec PyProof.Rows
section
variable {X:Cx} {K:ζb}
def dd (ns:List Int):List Int:=ns.foldl step_dedup []
theorem We (ns:List Int):firstMet (fun i=>ns.getD i 0) ns.length=dd ns:=by
 unfold firstMet dd
 congr 1
 refine ξa fun i=>?_
 rw [ζl]
 by_cases h:i < ns.length
 ·rw [ζV h,ζf h]
  show some (ns.getD i 0)=_
  rw [ζc,ζf h]
  rfl
 ·rw [ζF (by rw [ζz]; omega),ζF (by omega)]
  rfl
theorem Wp (ns:List Int) (k:Int):dd (ns ++ [k])=step_dedup (dd ns) k:=by
 unfold dd
 rw [ξi]
 rfl
theorem UC (ns:List Int):∀ k,k∈dd ns↔k∈ns:=by
 suffices h:∀ n,∀ k,k∈dd (ns.take n)↔k∈ns.take n by simpa using h ns.length
 intro n
 induction n with
 | zero=>intro k; rfl
 | succ n ih =>
  intro k
  by_cases hn:n < ns.length
  ·have e:ns.take (n + 1)=ns.take n ++ [ns[n]]:=by rw [List.take_succ,ζf hn]; rfl
   rw [e,Wp]
   unfold step_dedup
   split
   ·rename_i h
    obtain ⟨x,hx,ex⟩:=ξe.mp h
    have:=eq_of_beq ex
    subst this
    rw [ih,ζu]
    refine ⟨.inl,fun z=>?_⟩
    rcases z with z | z
    ·exact z
    ·rw [ζh.mp z]
     exact (ih _).mp hx
   ·rw [ζu,ζu,ih]
  ·rw [ζA (by omega)]
   have:=ih k
   rw [ζA (by omega)] at this
   exact this
theorem UD (ns:List Int):(dd ns).length≤ns.length:=by
 have:=length_foldl_step_dedup_le ns ([]:List Int)
 simpa [dd] using this
end
end L2
namespace PD
open PySem L2
section
variable {K:ζb} {S S':Sx} {κ κ':Bool} {Γ Γ' Γ'':Ctx} {P:Post}
def EvG (K:ζb) (S:Sx) (κ:Bool) (t:TE) (Γ:Ctx) (G:PyData→Prop):Prop:=∀ (H0 F0 H F:Hp) (σ:St),DEnv K S H0 F0 H F σ Γ→∀ Q:VK,(∀ d v H' F',G d→Gr H F H' F'→Rp K κ S H0 F' v d→Q v H')→t σ H Q
theorem EvI.eq {wi:TI} {ds ds':List PyData} (h:EvI K S κ wi Γ ds) (e:ds=ds'):EvI K S κ wi Γ ds':=e ▸ h
def spW (K:ζb) (κ:Bool) (pre:List PyData→(PyData→Prop)→Prop):Sp:=fun vs H Q _=>∃ F ds G,Same F H∧zT K F vs ds∧pre ds G∧∀ d v H' F',G d→Gr H F H' F'→Rp K κ .fresh H F' v d→Q v H'
theorem wq {pre:List PyData→(PyData→Prop)→Prop} {n:Nat} (h:∀ ds G,pre ds G→ds.length=n) {vs:List V} {H:Hp} {Q:VK} {E:XK} (s:spW K κ pre vs H Q E):vs.length=n:=by
 obtain ⟨F,ds,d,_,k,p,_⟩:=s
 rw [zT.length k]
 exact h ds d p
theorem y0 {pre:List PyData→(PyData→Prop)→Prop} {E:XK} {t:TA} {ds:List PyData} {G:PyData→Prop} (h:EvA K S false t Γ ds) (hp:pre ds G):EvG K S κ (uv (spW K true pre) [] E t) Γ G:=fun H0 F0 H F σ e Q q =>
 h H0 F0 H F σ e _ fun vs H1 F1 g1 p1=>⟨F1,ds,G,g1.le,by rw [ζW]; exact zU p1,hp,fun d v H2 F2 hd g2 p2=>q d v H2 F2 hd (g1.trans g2) (Zb (κ:=true) (fun _=>rfl) (wC (κ:=true) (κ':=true) (S':=S) (H0':=H0) (fun a xs z=>⟨z.1,fun c=>by
  obtain ⟨u,hu⟩:=(e.mono g1).sd a c
  exact z.2 (by show H1 a≠none; rw [hu]; simp)⟩) (fun _ _ z=>z) p2))⟩
theorem exg {te:TE} {u:TS} {i:Nat} {G:PyData→Prop} {Γ':PyData→Ctx} (κ:Bool) (h:EvG K S κ te Γ G) (es:∀ d,SetC Γ i (some (.fz κ d)) (Γ' d)) (k:∀ d,G d→ExT K S S' u (Γ' d) P):ExT K S S' (tSeq (tAsg te (xa i)) u) Γ P :=
 wa (fun Γ1=>∃ d,G d∧Γ1=Γ' d) (fun H0 F0 H F σ B e b _ D I=>h H0 F0 H F σ e _ fun d v H' F' hd g p=>I.nx _ _ H' F' ⟨d,hd,rfl⟩ (b.trans g.f) (by rw [← (es d).eq]; exact (e.mono g).setF p)) fun Γ1 ⟨d,hd,z⟩=>z ▸ k d hd
def EvOG (K:ζb) (S:Sx) (κ:Bool) (t:TE) (Γ:Ctx) (G:List PyData→Prop):Prop:=∀ (H0 F0 H F:Hp) (σ:St),DEnv K S H0 F0 H F σ Γ→∀ Q:VK,(∀ ds a vs H' F',G ds→Gr H F H' F'→H a=none→H' a=some (.lst vs)→F' a=none→zj K κ S H0 F' vs ds→Q (.ref a) H')→t σ H Q
theorem xK {t:TS} {N:List Str} {n:Nat} {H F:Hp} {vs:List V} {ds:List PyData} {G:PyData→Prop} {Q:VK} {Γ:Ctx} (le:Same F H) (k:zT K F vs ds) (q:∀ d v H' F',G d→Gr H F H' F'→Rp K κ .fresh H F' v d→Q v H') (hn:N.length=n) (hΓ:wg n ds Γ)
  (h:ExS K .fresh t Γ { nx:=fun _=>False,rt:=G,kr:=κ }):t { nx:=fun _ H'=>Q .non H',rt:=Q } (L2.start N vs) H:=by
 have e:=Z2 (N:=N) le k
 rw [hn,hΓ.eq] at e
 exact h H F H F _ F e (.refl _) (.inl rfl) _ ⟨fun _ _ _ _ z=>z.elim,fun d v H' F' r g p=>q d v H' F' r g p,fun _ _ _ _ z=>z.elim,fun _ _ _ _ z=>z.elim⟩
end
end PD
namespace L2
open PySem
def Rise (xs:Array Nat):Prop:=xs.toList.Pairwise (· < ·)
theorem Rise.lt {xs:Array Nat} (r:Rise xs) {i j:Nat} (h:i < j) (hj:j < xs.size):xs[i]'(by omega) < xs[j]:=by
 have:=List.pairwise_iff_getElem.mp r i j (by simp; omega) (by simpa using hj) h
 simpa using this
theorem Z7 (xs:Array Nat) (r:Rise xs) (j:Nat):∀ (fuel lo hi:Nat),lo≤hi→hi≤xs.size→hi - lo≤fuel →
  (∀ i (h:i < xs.size),i < lo→xs[i] < j)→(∀ i (h:i < xs.size),hi≤i→j≤xs[i]) →
  SetTable.below.go xs j fuel lo hi≤xs.size∧(∀ i (h:i < xs.size),i < SetTable.below.go xs j fuel lo hi→xs[i] < j)∧∀ i (h:i < xs.size),SetTable.below.go xs j fuel lo hi≤i→j≤xs[i]
 | 0,lo,hi,h1,h2,h3,a,b=>by
  have:lo=hi:=by omega
  subst this
  exact ⟨h2,a,b⟩
 | f + 1,lo,hi,h1,h2,h3,a,b=>by
  unfold SetTable.below.go
  by_cases hl:lo < hi
  ·rw [if_pos hl]
   dsimp only
   have hm:(lo + hi) / 2 < xs.size:=by omega
   have eg:xs.getD ((lo + hi) / 2) j=xs[(lo + hi) / 2]:=by simp [hm]
   rw [eg]
   by_cases hx:xs[(lo + hi) / 2] < j
   ·rw [if_pos hx]
    refine Z7 xs r j f _ _ (by omega) h2 (by omega) (fun i hi' hlt=>?_) b
    by_cases e:i=(lo + hi) / 2
    ·subst e; exact hx
    ·exact Nat.lt_trans (r.lt (show i < (lo + hi) / 2 by omega) hm) hx
   ·rw [if_neg hx]
    refine Z7 xs r j f _ _ (by omega) (by omega) (by omega) a fun i hi' hle=>?_
    by_cases e:i=(lo + hi) / 2
    ·subst e; omega
    ·have:=r.lt (show (lo + hi) / 2 < i by omega) hi'
     omega
  ·rw [if_neg hl]
   have:lo=hi:=by omega
   subst this
   exact ⟨h2,a,b⟩
theorem Z6 (xs:Array Nat) (r:Rise xs) (j:Nat):SetTable.below xs j≤xs.size∧(∀ i (h:i < xs.size),i < SetTable.below xs j→xs[i] < j)∧∀ i (h:i < xs.size),SetTable.below xs j≤i→j≤xs[i] :=
 Z7 xs r j _ _ _ (ζY _) (ζm _) (by omega) (fun _ _ h=>by omega) fun i h z=>by omega
theorem UH {xs:Array Nat} (r:Rise xs) (i:Nat) (h:i < xs.size):SetTable.below xs (xs[i] + 1)=i + 1:=by
 obtain ⟨a,b,c⟩:=Z6 xs r (xs[i] + 1)
 have h1:¬ SetTable.below xs (xs[i] + 1)≤i:=fun z=>by have:=c i h z; omega
 have h2:¬ i + 1 < SetTable.below xs (xs[i] + 1):=fun z=>by
  have:=b (i + 1) (by omega) z
  have:=r.lt (ξR i) (show i + 1 < xs.size by omega)
  simp only [Nat.succ_eq_add_one] at this
  omega
 omega
theorem UG {xs:Array Nat} (r:Rise xs):SetTable.below xs 0=0:=by
 obtain ⟨a,b,c⟩:=Z6 xs r 0
 by_cases h:SetTable.below xs 0=0
 ·exact h
 ·have:=b 0 (by omega) (by omega); omega
structure TOk (b:Bool) (t:SetTable):Prop where
 led:t.led=b
 rise:Rise t.place
 dum:t.dummies=#[]
theorem TOk.fresh {b:Bool} {f m:Nat}:TOk b (.fresh f m b):=⟨rfl,List.Pairwise.nil,rfl⟩
theorem TOk.plain {b c:Bool} {t:SetTable} (h:TOk b t):TOk b { t with plain:=c }:=⟨h.led,h.rise,h.dum⟩
theorem TOk.standIn {b:Bool} {t:SetTable} (h:TOk b t) (n:Nat):TOk b (t.standIn n):=⟨h.led,by
 show (Array.range n).toList.Pairwise (· < ·)
 rw [Array.toList_range]
 exact ξN,rfl⟩
theorem TOk.orStandIn {b:Bool} {t:SetTable} (h:TOk b t) (n:Nat):TOk b (t.orStandIn n):=by
 unfold SetTable.orStandIn
 split
 ·exact h
 ·exact h.standIn n
theorem Tp (j:Nat):SetTable.has #[] j=false:=rfl
theorem zbH {t:SetTable} {j:Nat} (h:t.slot j=.empty):t.place[SetTable.below t.place j]?≠some j:=by
 intro z
 unfold SetTable.slot at h
 simp [z] at h
theorem tO {t:SetTable} {b:Bool} (ht:TOk b t) {g:Nat→Int} {h:Int}:∀ (n:Nat) (p:SetTable.Probe) {j:Nat} {d:Option Nat},p.dummy=none→SetTable.probe.go t g h n p=some (.empty j d)→d=none∧t.slot j=.empty
 | 0,p,j,d,_,e=>by cases e
 | n + 1,p,j,d,hp,e=>by
  unfold SetTable.probe.go at e
  split at e
  ·rename_i hs
   injection e with e
   injection e with e1 e2
   subst e1
   exact ⟨e2 ▸ hp,hs⟩
  ·rename_i hs
   exfalso
   unfold SetTable.slot at hs
   rw [ht.dum] at hs
   simp only [Tp] at hs
   split at hs <;> simp at hs
  ·split at e
   ·cases e
   ·refine tO ht n _ ?_ e
    unfold SetTable.advance
    split
    ·exact hp
    ·exact hp
theorem zdA {b:Bool} {t:SetTable} (h:TOk b t) {j:Nat} (hj:t.slot j=.empty):TOk b (t.put j).1:=by
 refine ⟨h.led,?_,by show (if SetTable.has t.dummies j=true then _ else _)=_; rw [h.dum,Tp]; rfl⟩
 have hn:=zbH hj
 obtain ⟨a,b,c⟩:=Z6 t.place h.rise j
 show (SetTable.insertAt t.place (SetTable.below t.place j) j).toList.Pairwise (· < ·)
 generalize SetTable.below t.place j=p at *
 rw [SetTable.toList_insertAt,List.pairwise_append]
 have hr:t.place.toList.Pairwise (· < ·):=h.rise
 refine ⟨hr.sublist (List.take_sublist _ _),?_,?_⟩
 ·rw [ξw]
  refine ⟨fun x hx=>?_,hr.sublist (List.drop_sublist _ _)⟩
  obtain ⟨i,hi,rfl⟩:=List.mem_iff_getElem.mp hx
  rw [ζR,ζU] at hi
  rw [List.getElem_drop,Array.getElem_toList]
  have:=c (p + i) (by omega) (by omega)
  by_cases z:i=0
  ·subst z
   have h2:t.place[p]≠j:=fun q=>hn (by rw [ξo (by omega),q])
   simp only [Nat.add_zero] at this ⊢
   omega
  ·have h3:=h.rise.lt (show p < p + i by omega) (show p + i < t.place.size by omega)
   have h4:=c p (by omega) (ζm _)
   omega
 ·intro x hx y hy
  obtain ⟨i,hi,rfl⟩:=List.mem_iff_getElem.mp hx
  rw [ζy,ζU] at hi
  rw [List.getElem_take,Array.getElem_toList]
  have h1:=b i (by omega) (by omega)
  rcases ζs.mp hy with rfl | hy
  ·exact h1
  ·obtain ⟨k,hk,rfl⟩:=List.mem_iff_getElem.mp hy
   rw [ζR,ζU] at hk
   rw [List.getElem_drop,Array.getElem_toList]
   have:=c (p + k) (by omega) (by omega)
   omega
theorem Qm {b:Bool} {t:SetTable} (h:TOk b t) (es:Array (Int×Value)) (k:Int) (x:Value):TOk b (layNew t es k x).2.1:=by
 unfold layNew
 split
 ·rename_i slot wd e
  unfold SetTable.freeSlot at e
  split at e
  ·rename_i j d e2
   obtain ⟨rfl,hs⟩:=tO h _ _ rfl e2
   injection e with e
   injection e with e3 _
   have e3:j=slot:=e3
   subst e3
   exact (zdA h hs).orStandIn _
  ·cases e
 ·exact h.standIn _
theorem W5 {b:Bool} {t:SetTable} (h:TOk b t) (es:Array (Int×Value)) (n:Nat):TOk b (relayAll t es n).2.1:=by
 unfold relayAll
 split
 ·rename_i t' order e
  dsimp only
  split
  ·unfold SetTable.relaid SetTable.laid at e
   simp only [Option.bind_eq_bind] at e
   obtain ⟨ow,_,e⟩:=Option.bind_eq_some_iff.mp e
   injection e with e
   injection e with e1 e2
   subst e1
   refine ⟨h.led,?_,rfl⟩
   show List.Pairwise (· < ·) _
   dsimp only
   rw [ξ2,List.pairwise_filterMap]
   refine ξN.imp fun {i j} hij x hx y hy=>?_
   obtain ⟨u,_,rfl⟩:=ξk.mp hx
   obtain ⟨u',_,rfl⟩:=ξk.mp hy
   exact hij
  ·exact h.standIn _
 ·exact h.standIn _
theorem vV {α:Type} (next:Nat→Nat) (xs:Array α):(pickOrder next xs).toList.Perm xs.toList:=by
 suffices h:∀ (n k:Nat) (l:List α) (out:Array α),l.length=n→(pickOrder.go next n k l out).toList.Perm (out.toList ++ l) by
  have:=h xs.size 0 xs.toList #[] (by simp)
  simpa [pickOrder] using this
 intro n
 induction n with
 | zero =>
  intro k l out hl
  have:l=[]:=ζO.mp hl
  subst this
  simp [pickOrder.go]
 | succ n ih =>
  intro k l out hl
  unfold pickOrder.go
  have hm:next k % l.length < l.length:=Nat.mod_lt _ (by omega)
  rw [ζf hm]
  dsimp only
  refine (ih _ _ _ (by rw [List.length_eraseIdx_of_lt hm]; omega)).trans ?_
  rw [Array.toList_push,ζS]
  refine List.Perm.append_left _ ?_
  have e:l=l.take (next k % l.length) ++ l[next k % l.length] :: l.drop (next k % l.length + 1):=by
   rw [← List.drop_eq_getElem_cons hm,ξQ]
  conv=>rhs; rw [e]
  rw [ξO,List.singleton_append]
  exact List.perm_middle.symm
end L2
namespace L2
open PySem PySem.Spec PyProof.Rows
def IsE (e:Int×Value):Prop:=∃ k t,e=(hashInt k,.int k t)
def kOf (e:Int×Value):Int:=match e.2 with | .int k _=>k | _=>0
def SetI (b:Bool) (a:Addr) (l:List Int) (h:Heap):Prop :=
 ∃ o es ep t,h.get? a=some o∧o.ExactSet∧o.data=.set es ep t∧(∀ e∈es.toList,IsE e)∧(es.toList.map kOf).Perm l∧es.size < scanBound∧t.fits es.size=true∧TOk b t
section
variable {prog:Program} {w:World} {A:Around} {E:Value→Shared→Prop} {s:Shared} {b:Bool} {a:Addr} {l:List Int}
theorem SetI.at {h h':Heap} (x:SetI b a l h) (e:∀ o,h.get? a=some o→h'.get? a=some o):SetI b a l h' :=
 let ⟨o,es,ep,t,ho,r⟩:=x
 ⟨o,es,ep,t,e o ho,r⟩
theorem IsE.elems {es:List (Int×Value)} (h:∀ e∈es,IsE e):ElemsOf (intKind prog w) es:=fun e he=>by
 obtain ⟨k,t,rfl⟩:=h e he
 exact ⟨⟨k,intKind_is _ _ k t,rfl⟩,rfl⟩
theorem IsE.is {e:Int×Value} (h:IsE e) (k:Int):(intKind prog w).is k e.2=true↔kOf e=k:=by
 obtain ⟨j,t,rfl⟩:=h
 constructor
 ·intro z
  exact ((intKind prog w).inj _ _ _ z (intKind_is _ _ j t)).symm
 ·intro z
  have z:j=k:=z
  subst z
  exact intKind_is _ _ j t
theorem IsE.ints:∀ {es:List (Int×Value)},(∀ e∈es,IsE e)→IntsAre (es.map (·.2)) (es.map kOf)
 | [],_=>.nil
 | e :: es,h=>by
  obtain ⟨k,t,rfl⟩:=h e (.head _)
  exact .cons k t (IsE.ints fun x hx=>h x (.tail _ hx))
theorem V2 {o:Obj} {es:Array (Int×Value)} {ep:Nat} {t:SetTable} {h:Heap} (ho:h.get? a=some o) (hd:o.data=.set es ep t) (es':Array (Int×Value)) (t':SetTable) :
  (h.update a (Obj.putSet es' t')).get? a=some { o with data:=.set es' (ep + 1) t' }:=by
 have q:=ζX (Obj.putSet es' t') ho (by rw [putSet_of _ _ hd]; rfl)
 rwa [putSet_of _ _ hd] at q
theorem zcL {g:Bool→Sem Unit} (hg:∀ (c:Bool) (s₁:Shared) (R:Unit→Shared→Prop),R () s₁→wpAny (model prog w) A (g c) R E s₁)
  {o:Obj} {es:Array (Int×Value)} {ep:Nat} {t:SetTable} (ho:s.heap.get? a=some o) (hex:o.ExactSet) (hd:o.data=.set es ep t)
  {es1:Array (Int×Value)} {t2:SetTable} (he:∀ e∈es1.toList,IsE e) (hp:(es1.toList.map kOf).Perm l) (hz:es1.size < scanBound) (hf:t2.fits es1.size=true) (ht:TOk b t2) {wd:Bool} {R:Option Bool→Shared→Prop}
  (k:∀ h',Heap.SameBut a s.heap h'→SetI b a l h'→R (some true) { s with heap:=h' }) :
  wpAny (model prog w) A (do
   storeSet a es1 t2
   if (!wd && t2.tooFull)=true then do
    g (relayAll t2 es1 (SetTable.grown es1.size)).2.2; storeSet a (relayAll t2 es1 (SetTable.grown es1.size)).1 (relayAll t2 es1 (SetTable.grown es1.size)).2.1; pure (some true)
   else pure (some true)) R E s:=by
 refine wpAny_bind (wpAny_storeSet_of ho hd ?_ (fits_of_scanBound hz))
 have g1:=V2 ho hd es1 t2
 have u1:=Heap.SameBut.update s.heap a (Obj.putSet es1 t2)
 split
 ·have hr:=relayAll_perm t2 es1 (SetTable.grown es1.size)
  have hq:=relayAll_fits t2 es1 (SetTable.grown es1.size)
  have hk:=W5 ht es1 (SetTable.grown es1.size)
  generalize relayAll t2 es1 (SetTable.grown es1.size)=Z at hr hq hk ⊢
  obtain ⟨es2,t3,gv⟩:=Z
  dsimp only at hr hq hk ⊢
  have z2:es2.size=es1.size:=by have:=hr.length_eq; simpa using this
  refine wpAny_bind (hg _ _ _ ?_)
  refine wpAny_bind (wpAny_storeSet_of g1 rfl ?_ (fits_of_scanBound (by rw [z2]; exact hz)))
  exact wpAny_pure (k _ (u1.trans (Heap.SameBut.update _ a _)) ⟨_,es2,_,t3,V2 g1 rfl es2 t3,hex,rfl,fun e x=>he e (hr.mem_iff.mp x),(hr.map kOf).trans hp,by rw [z2]; exact hz,hq,hk⟩)
 ·exact wpAny_pure (k _ u1 ⟨_,es1,_,t2,g1,hex,rfl,he,hp,hz,hf,ht⟩)
theorem addI {k:Int} {tk:Tok} {Q:Bool→Shared→Prop} (hS:SetI b a l s.heap) (hl:l.length + 1 < scanBound)
  (h:∀ (r:Bool) h',Heap.SameBut a s.heap h'→SetI b a (step_dedup l k) h'→Q r { s with heap:=h' }) :
  wpAny (model prog w) A (setAddHashed a (.int k tk) (hashInt k)) Q E s:=by
 obtain ⟨o,es,ep,t,ho,hex,hd,hE,hp,hz,hf,ht⟩:=hS
 have hel:ElemsOf (intKind prog w) es.toList:=IsE.elems hE
 have hn:es.size=l.length:=by have:=hp.length_eq; simpa using this
 have hm:∀ k',k'∈l↔∃ e∈es.toList,(intKind prog w).is k' e.2=true:=fun k'=>by
  rw [← hp.mem_iff,ζq]
  exact ⟨fun ⟨e,x,y⟩=>⟨e,x,((hE e x).is k').mpr y⟩,fun ⟨e,x,y⟩=>⟨e,x,((hE e x).is k').mp y⟩⟩
 unfold setAddHashed setAddHashedIn
 refine wpAny_holding (wpAny_bind (wpAny_setState_of ho hd hf ?_))
 dsimp only
 rw [byScan_of (knd:=intKind prog w) (x:=.int k tk) rfl hz hel]
 simp only [↓reduceIte]
 unfold setAddByScan
 refine wpAny_bind (wpAny_bind (wpAny_rule ?_))
 refine wpAny_bind (wpAny_setScan_of (knd:=intKind prog w) (k:=k) (intKind_is _ _ k tk) ho hd hf hel ?_)
 cases hr:List.findIdx? (fun e=>(intKind prog w).is k e.2) es.toList with
 | some j =>
  dsimp only
  obtain ⟨hj,hpj,_⟩:=List.findIdx?_eq_some_iff_getElem.mp hr
  have hk:k∈l:=(hm k).mpr ⟨es.toList[j],ξv hj,hpj⟩
  have e1:step_dedup l k=l:=by unfold step_dedup; rw [if_pos (List.any_eq_true.mpr ⟨k,hk,by simp⟩)]
  have q:=h false s.heap (Heap.SameBut.refl a s.heap) (e1.symm ▸ ⟨o,es,ep,t,ho,hex,hd,hE,hp,hz,hf,ht⟩)
  exact wpAny_pure (wpAny_pure q)
 | none =>
  dsimp only
  have hk:k∉l:=fun z=>by
   obtain ⟨e,he,hpe⟩:=(hm k).mp z
   have q:=List.findIdx?_eq_none_iff.mp hr e he
   rw [hpe] at q; cases q
  have e1:step_dedup l k=l ++ [k]:=by
   unfold step_dedup
   refine if_neg fun z=>?_
   obtain ⟨x,hx,ex⟩:=ξe.mp z
   exact hk (eq_of_beq ex ▸ hx)
  have hgw:∀ (c:Bool) {s₁:Shared} {R:Unit→Shared→Prop},R () s₁→wpAny (model prog w) A (match c with | true=>rule "set.scan.the-table-gave-way" | false=>pure ()) R E s₁:=fun c s₁ R q=>by
   cases c
   ·exact wpAny_pure q
   ·exact wpAny_rule q
  have hperm:=layNew_perm t es (hashInt k) (.int k tk)
  have hfits:=layNew_fits t es (hashInt k) (.int k tk)
  have hok:=Qm ht es (hashInt k) (.int k tk)
  show wpAny _ _ (let (es,t,wasDummy,gave):=layNew t es (hashInt k) (.int k tk); _) _ _ _
  generalize layNew t es (hashInt k) (.int k tk)=Z at hperm hfits hok ⊢
  obtain ⟨es1,t1,wd,gv⟩:=Z
  dsimp only at hperm hfits hok ⊢
  rw [Array.toList_push] at hperm
  have hE1:∀ e∈es1.toList,IsE e:=fun e he=>by
   rcases ζu.mp (hperm.mem_iff.mp he) with z | z
   ·exact hE e z
   ·rw [ζh.mp z]; exact ⟨k,tk,rfl⟩
  have hp1:(es1.toList.map kOf).Perm (l ++ [k]):=by
   refine (hperm.map kOf).trans ?_
   rw [ζE]
   exact hp.append_right _
  have hz1:es1.size < scanBound:=by
   have q:=hp1.length_eq
   rw [ζa,ζU,ζj] at q
   have:es1.size=l.length + 1:=q
   omega
  refine wpAny_bind (hgw _ ?_)
  have kk:∀ h',Heap.SameBut a s.heap h'→SetI b a (l ++ [k]) h'→Q true { s with heap:=h' }:=fun h' u v=>h true h' u (e1.symm ▸ v)
  split
  ·refine wpAny_bind ?_
   rw [hashByValue_scannable 8 (x:=.int k tk) rfl]
   refine wpAny_pure ?_
   refine zcL ?_ ho hex hd hE1 hp1 hz1 ?_ ?_ fun h' u v=>wpAny_pure (kk h' u v)
   ·exact fun c s₁ R q=>hgw c q
   ·split
    ·exact hfits
    ·exact SetTable.fits_plain_off hfits
   ·split
    ·exact hok
    ·exact hok.plain
  ·refine wpAny_bind (wpAny_pure ?_)
   simp only [↓reduceIte]
   refine zcL ?_ ho hex hd hE1 hp1 hz1 hfits hok fun h' u v=>wpAny_pure (kk h' u v)
   exact fun c s₁ R q=>hgw c q
end
theorem yy:Slot "set_iterator" "__next__" "set_iterator.__next__" := .of (owner := "set_iterator") (n := "__next__")
 (by rw [typeLookup_type,builtinLookup_eq_fast]; kernel_rfl) (by decide +kernel) (by decide +kernel)
 (by decide +kernel) (by first | exact .inl (by decide +kernel) | exact .inr (by decide +kernel))
 (by rw [isSubtype_type]; kernel_rfl)
theorem vq:Slot "set_iterator" "__iter__" "set_iterator.__iter__" := .of (owner := "set_iterator") (n := "__iter__")
 (by rw [typeLookup_type,builtinLookup_eq_fast]; kernel_rfl) (by decide +kernel) (by decide +kernel)
 (by decide +kernel) (by first | exact .inl (by decide +kernel) | exact .inr (by decide +kernel))
 (by rw [isSubtype_type]; kernel_rfl)
theorem wP:entryFor table "set_iterator.__next__" = some Builtin.«set_iterator.__next__»:=entryFor_of_tree (by kernel_rfl)
theorem uw:entryFor table "set_iterator.__iter__" = some Builtin.«dict_keyiterator.__iter__»:=entryFor_alias (id' := "dict_keyiterator.__iter__") (by kernel_rfl) rfl (by decide +kernel) (by kernel_rfl)
theorem V4:entryFor table "set.__iter__" = some Builtin.«frozenset.__iter__»:=entryFor_alias (id' := "frozenset.__iter__") (by kernel_rfl) rfl (by decide +kernel) (by kernel_rfl)
theorem vt (a:Value):argsOk "set_iterator.__next__" ⟨[a],[]⟩:=by
 unfold argsOk
 kernel_rfl
theorem tL (a:Value):argsOk "set_iterator.__iter__" ⟨[a],[]⟩:=by
 unfold argsOk
 kernel_rfl
def ItO (first:Value) (i:Nat) (a:Addr) (n ep:Nat):Obj:={ cls:=.type "set_iterator", data:=.fields #[first,.int i 0,.ref a,.int n 0,.int ep 0] }
section
variable {prog:Program} {w:World} {A:Around} {E:Value→Shared→Prop} {s:Shared} {b:Bool} {a I:Addr} {l:List Int}
theorem zcD {n:Nat} {src:Source} {Q:Nat→Shared→Prop} (hn:n≠0) (h:∀ i,i < n→∀ d,Q i { s with drawn:=d }):wpAny (model prog w) A (choose src n) Q E s :=
 fun _ _ _=>⟨hn,h _ (Nat.mod_lt _ (Nat.pos_of_ne_zero hn)) _⟩
theorem zdd {α:Type}:∀ (n:Nat) (xs:List α) (s:Shared) {Q:List α→Shared→Prop},xs.length=n→(∀ ys d,ys.Perm xs→Q ys { s with drawn:=d })→wpAny (model prog w) A (drawOrder n xs) Q E s
 | 0,xs,s,Q,hl,h=>by
  have:xs=[]:=ζO.mp hl
  subst this
  unfold drawOrder
  exact wpAny_pure (h [] s.drawn .nil)
 | n + 1,[],s,Q,hl,h=>by cases hl
 | n + 1,x :: xs,s,Q,hl,h=>by
  unfold drawOrder
  refine wpAny_bind (zcD (by simp) fun i hi d=>?_)
  rw [ζf hi]
  dsimp only
  refine wpAny_bind (zdd n _ _ (by rw [List.length_eraseIdx_of_lt hi]; omega) fun ys d' hp=>wpAny_pure (h _ d' ?_))
  have e:(x :: xs)=(x :: xs).take i ++ (x :: xs)[i] :: (x :: xs).drop (i + 1):=by
   rw [← List.drop_eq_getElem_cons hi,ξQ]
  rw [ξO] at hp
  refine (hp.cons _).trans ?_
  conv=>rhs; rw [e]
  exact List.perm_middle.symm
theorem zer {first x:Value} {slot i n ep nx:Nat} {o:Obj} {es:Array (Int×Value)} {t:SetTable} {Q:Option Value→Shared→Prop} (hI:s.heap.get? I=some (ItO (.int slot 0) i a n ep))
  (ho:s.heap.get? a=some o) (hd:o.data=.set es ep t) (hf:t.fits es.size=true) (hn:es.size=n)
  (hN:∀ (A:Around) (E:Value→Shared→Prop) (R:Option (Value×Nat)→Shared→Prop),R (some (x,nx)) s→wpAny (model prog w) A (setNext a slot i ep) R E s)
  (hQ:∀ h',h'.get? I=some (ItO (.int nx 0) (i + 1) a n ep)→Heap.SameBut I s.heap h'→Q (some x) { s with heap:=h' }):wpAny (model prog w) A (pyNext (.ref I)) Q E s:=by
 have hT:s.TypeIs (.ref I) "set_iterator" := ⟨_,hI,rfl⟩
 unfold pyNext
 refine wpAny_bind (wpAny_attempt (wpAny_callSpecial?_slot (name:=Str.ofString "__next__") hT yy (wpAny_call_entry yy hT wP ?_ (vt _))))
 unfold Builtin.«set_iterator.__next__»
 refine wpAny_bind (wpAny_pure ?_)
 refine wpAny_bind (wpAny_fieldsOf hI rfl ?_)
 refine wpAny_bind (wpAny_setEntries_of ho hd hf ?_)
 rw [if_neg (by rw [hn]; simp)]
 dsimp only
 refine wpAny_bind (m:=setNext a _ _ _) ?_
 rw [ζI,ζI,ζI]
 refine hN _ _ _ ?_
 dsimp only
 have g1:(s.heap.update I (Obj.mapFields (·.setIfInBounds 0 (rawInt nx)))).get? I=some (ItO (.int nx 0) i a n ep):=ζX _ hI rfl
 refine wpAny_bind (wpAny_setField hI rfl (ξC _) ?_)
 have g2:((s.heap.update I (Obj.mapFields (·.setIfInBounds 0 (rawInt nx)))).update I (Obj.mapFields (·.setIfInBounds 1 (rawInt ((i:Int) + 1))))).get? I=some (ItO (.int nx 0) (i + 1) a n ep):=ζX _ g1 rfl
 refine wpAny_bind (wpAny_setField (s:={ s with heap:=_ }) g1 rfl (ξD (ξC _)) ?_)
 exact wpAny_pure ⟨_,rfl,wpAny_pure (hQ _ g2 ((Heap.SameBut.update ..).trans (Heap.SameBut.update ..)))⟩
theorem zcQ {h:Heap} {Q:Option Value→Shared→Prop} (hh:A.handled=none) (k:∀ h',Heap.ExtBut I h h'→Q none { s with heap:=h' }) :
  wpAny (model prog w) A.in1 (newExc (.type "StopIteration") [] >>= fun e=>(raiseNew e:Sem Fin)) (fun fin s'=>∃ r,fin=.done (.ret r)∧False) (fun e s'=>∃ T,s'.TypeIs e T∧T = "StopIteration" ∧ Q none s') { s with heap:=h }:=by
 refine wpAny_bind ?_
 simp only [newExc,newTuple]
 refine wpAny_bind (wpAny_newObj_type (hd:=by size_fits) (wpAny_bind (m:=firstArgMember _ _) ?_))
 refine wpAny_of_eq (a:=Value.none) (by first | rfl | (simp only [firstArgMember]; rfl)) (wpAny_newObj_type (hd:=by size_fits) ?_)
 simp only [raiseNew]
 have h0:A.in1.handled=none:=hh
 apply wpAny_bind
 apply wpAny_handled
 rw [h0]
 exact wpAny_bind (wpAny_pure (wpAny_throw ⟨_,⟨_,ζp _ rfl,rfl⟩,rfl,k _ (((show Heap.ExtBut I h h from fun _ _ _ z=>z).push _).push _)⟩))
theorem endI {first:Value} {slot i n ep:Nat} {o:Obj} {es:Array (Int×Value)} {t:SetTable} {Q:Option Value→Shared→Prop} (hh:A.handled=none) (hI:s.heap.get? I=some (ItO (.int slot 0) i a n ep))
  (ho:s.heap.get? a=some o) (hd:o.data=.set es ep t) (hf:t.fits es.size=true) (hn:es.size=n)
  (hN:∀ (A:Around) (E:Value→Shared→Prop) (R:Option (Value×Nat)→Shared→Prop),R none s→wpAny (model prog w) A (setNext a slot i ep) R E s)
  (hQ:∀ h',Heap.ExtBut I s.heap h'→Q none { s with heap:=h' }):wpAny (model prog w) A (pyNext (.ref I)) Q E s:=by
 have hT:s.TypeIs (.ref I) "set_iterator" := ⟨_,hI,rfl⟩
 unfold pyNext
 refine wpAny_bind (wpAny_attempt (wpAny_callSpecial?_slot (name:=Str.ofString "__next__") hT yy (wpAny_call_entry yy hT wP ?_ (vt _))))
 unfold Builtin.«set_iterator.__next__»
 refine wpAny_bind (wpAny_pure ?_)
 refine wpAny_bind (wpAny_fieldsOf hI rfl ?_)
 refine wpAny_bind (wpAny_setEntries_of ho hd hf ?_)
 rw [if_neg (by rw [hn]; simp)]
 dsimp only
 refine wpAny_bind (m:=setNext a _ _ _) ?_
 rw [ζI,ζI,ζI]
 refine hN _ _ _ ?_
 dsimp only
 refine wpAny_bind (wpAny_setField hI rfl (ξD (ξD (ξC _))) ?_)
 refine wpAny_mono (zcQ (I:=I) (s:=s) hh fun h' u=>hQ h' fun c o' n' z=>u c o' n' ((Heap.SameBut.update ..).extBut c o' n' z)) (fun _ _ z=>?_) fun e s' z=>?_
 ·obtain ⟨_,_,z⟩:=z; exact z.elim
 ·obtain ⟨T,x1,rfl,x2⟩:=z
  exact wpAny_bind (wpAny_isInstance (T := "StopIteration") (b:=true) x1 isSubtype_stop (wpAny_pure x2))
theorem zdV {i ep:Nat} {o:Obj} {es:Array (Int×Value)} {t:SetTable} {R:Option (Value×Nat)→Shared→Prop} (hb:w.params.followText "set-order" = true)
  (ho:s.heap.get? a=some o) (hd:o.data=.set es ep t) (hf:t.fits es.size=true)
  (k:R (((pickOrder (w.params.setOrder a ep) es).toList.map (·.2))[i]?.map fun x=>(x,0)) s):wpAny (model prog w) A (setNext a 0 i ep) R E s:=by
 unfold setNext
 refine wpAny_bind (wpAny_setState_of ho hd hf ?_)
 dsimp only
 unfold setsByText
 refine wpAny_bind (wpAny_bind (wpAny_askSetting (wpAny_pure ?_)))
 rw [show (model prog w).w.params.followText "set-order" = true from hb]
 simp only [↓reduceIte]
 rw [if_neg (by simp)]
 unfold setWalk
 refine wpAny_bind (wpAny_bind (wpAny_setState_of ho hd hf ?_))
 dsimp only
 unfold setsByText
 refine wpAny_bind (wpAny_bind (wpAny_askSetting (wpAny_pure ?_)))
 rw [show (model prog w).w.params.followText "set-order" = true from hb]
 simp only [↓reduceIte]
 refine wpAny_bind (wpAny_askSetting (wpAny_pure (wpAny_pure ?_)))
 rw [ζl,Option.map_map,ξm] at k
 exact k
def slP (t:SetTable):Nat→Nat
 | 0=>0
 | j + 1=>t.place.getD j 0 + 1
theorem TX {t:SetTable} {c:Bool} (ht:TOk c t) {i:Nat} (hi:i≤t.place.size):SetTable.below t.place (slP t i)=i:=by
 cases i with
 | zero=>exact UG ht.rise
 | succ j =>
  have:t.place.getD j 0=t.place[j]:=by simp [show j < t.place.size by omega]
  show SetTable.below t.place (t.place.getD j 0 + 1)=_
  rw [this]
  exact UH ht.rise j (by omega)
theorem zci {i ep:Nat} {o:Obj} {es:Array (Int×Value)} {t:SetTable} {R:Option (Value×Nat)→Shared→Prop} (hb:w.params.followText "set-order" = false)
  (ho:s.heap.get? a=some o) (hd:o.data=.set es ep t) (hf:t.fits es.size=true) (ht:TOk true t) (hp:(!t.plain && decide (es.size > 1))=false) (hi:i≤es.size)
  (k:R ((es.toList.map (·.2))[i]?.map fun x=>(x,slP t (i + 1))) s):wpAny (model prog w) A (setNext a (slP t i) i ep) R E s:=by
 have hz:t.place.size=es.size:=by
  simp only [SetTable.fits,Bool.and_eq_true,beq_iff_eq] at hf
  exact hf.1
 unfold setNext
 refine wpAny_bind (wpAny_setState_of ho hd hf ?_)
 dsimp only
 unfold setsByText
 refine wpAny_bind (wpAny_bind (wpAny_askSetting (wpAny_pure ?_)))
 rw [show (model prog w).w.params.followText "set-order" = false from hb]
 simp only [Bool.false_eq_true,↓reduceIte]
 split
 ·rename_i z
  exact absurd (hp.symm.trans z) (by decide)
 refine wpAny_bind (wpAny_of_eq (a:=()) ?_ ?_)
 ·show (if (!t.led && !es.isEmpty)=true then _ else _)=_
  rw [ht.led]
  rfl
 rw [TX ht (by omega)]
 refine wpAny_pure ?_
 rw [ζl,ξm] at k
 by_cases hl:i < es.size
 ·rw [ξo hl] at k ⊢
  rw [ξo (by omega)]
  have:slP t (i + 1)=t.place[i]'(by omega) + 1:=by
   show t.place.getD i 0 + 1=_
   simp [show i < t.place.size by omega]
  rw [this] at k
  exact k
 ·rw [Array.getElem?_eq_none (by omega)] at k ⊢
  exact k
theorem QM {ep:Nat} {o:Obj} {es:Array (Int×Value)} {t:SetTable} {us:List Value} {sl:Nat→Nat} (hd:o.data=.set es ep t) (hf:t.fits es.size=true) (hu:us.length=es.size) (hne:I≠a)
  (hN:∀ (i:Nat) (s:Shared) (A:Around) (E:Value→Shared→Prop) (R:Option (Value×Nat)→Shared→Prop),s.heap.get? a=some o→i≤es.size→R (us[i]?.map fun x=>(x,sl (i + 1))) s→wpAny (model prog w) A (setNext a (sl i) i ep) R E s)
  (hh:A.handled=none):WalksS prog w A I [I,a] [I] (fun x y=>y=x) es.size (fun i v=>us[i]?=some v) (fun i s=>s.heap.get? I=some (ItO (.int (sl i) 0) i a es.size ep)∧s.heap.get? a=some o) where
 sub:=fun c hc=>by rw [ζh.mp hc]; exact .head _
 grefl:=fun _=>rfl
 gtrans:=fun _ _ _ x y=>y.trans x
 frame:=fun i s h' tk st _ hk=>⟨hk I (.head _) _ st.1,hk a (.tail _ (.head _)) _ st.2⟩
 item:=fun i s Q E hi st hQ=>by
  refine zer (first:=.none) (x:=us[i]'(by omega)) (nx:=sl (i + 1)) st.1 st.2 hd hf rfl (fun A E R r=>hN i s A E R st.2 (by omega) (by rw [ζf (by omega)]; exact r)) fun h' g u=>?_
  refine hQ _ _ (ζf (by omega)) ⟨g,u.extBut a _ (Ne.symm hne) st.2⟩ ⟨fun c o' hc z=>u.extBut c o' (fun q=>hc (by rw [q]; exact .head _)) z,rfl,rfl,rfl,ζm _⟩
 done:=fun s Q E st hQ=>by
  refine endI (first:=.none) hh st.1 st.2 hd hf rfl (fun A E R r=>hN es.size s A E R st.2 (ζm _) (by rw [ζF (by omega)]; exact r)) fun h' u=>?_
  exact hQ _ ⟨fun c o' hc z=>u c o' (fun q=>hc (by rw [q]; exact .head _)) z,rfl,rfl,rfl,ζm _⟩
 self:=fun i s Q E st hQ=>by
  have hT:s.TypeIs (.ref I) "set_iterator" := ⟨_,st.1,rfl⟩
  refine wpAny_pyIter_slot hT vq (wpAny_call_entry vq hT uw ?_ (tL _))
  show wpAny _ _ (ret (.ref I)) _ _ s
  exact wpAny_pure ⟨_,rfl, "set_iterator", _,hT,yy.lookup,hQ⟩
end
section
variable {prog:Program} {w:World} {A:Around} {E:Value→Shared→Prop} {s:Shared} {b:Bool} {a I T:Addr} {l:List Int}
theorem zes {i n ep p:Nat} {x:Value} {oT o:Obj} {xs:Array Value} {m:Nat} {es:Array (Int×Value)} {t:SetTable} {Q:Option Value→Shared→Prop} (hI:s.heap.get? I=some (ItO (.ref T) i a n ep))
  (hT:s.heap.get? T=some oT) (hx:oT.data=.seq xs m) (hp:xs[i]?=some (.int p 0)) (he:(es.toList.map (·.2))[p]?=some x)
  (ho:s.heap.get? a=some o) (hd:o.data=.set es ep t) (hf:t.fits es.size=true) (hn:es.size=n)
  (hQ:∀ h',h'.get? I=some (ItO (.ref T) (i + 1) a n ep)→Heap.SameBut I s.heap h'→Q (some x) { s with heap:=h' }):wpAny (model prog w) A (pyNext (.ref I)) Q E s:=by
 have hT':s.TypeIs (.ref I) "set_iterator" := ⟨_,hI,rfl⟩
 unfold pyNext
 refine wpAny_bind (wpAny_attempt (wpAny_callSpecial?_slot (name:=Str.ofString "__next__") hT' yy (wpAny_call_entry yy hT' wP ?_ (vt _))))
 unfold Builtin.«set_iterator.__next__»
 refine wpAny_bind (wpAny_pure ?_)
 refine wpAny_bind (wpAny_fieldsOf hI rfl ?_)
 refine wpAny_bind (wpAny_setEntries_of ho hd hf ?_)
 rw [if_neg (by rw [hn]; simp)]
 dsimp only
 refine wpAny_bind (wpAny_seqItems hT hx ?_)
 dsimp only
 rw [ζI,hp]
 dsimp only
 rw [ζI,ζI]
 refine wpAny_bind ?_
 unfold setNextDrawn
 refine wpAny_bind (wpAny_setState_of ho hd hf ?_)
 dsimp only
 rw [if_neg (by simp)]
 rw [ζl,ξm] at he
 obtain ⟨e,q1,q2⟩:=ξk.mp he
 rw [q1]
 obtain ⟨e1,e2⟩:=e
 have q2:e2=x:=q2
 subst q2
 refine wpAny_pure ?_
 have g2:(s.heap.update I (Obj.mapFields (·.setIfInBounds 1 (rawInt ((i:Int) + 1))))).get? I=some (ItO (.ref T) (i + 1) a n ep):=ζX _ hI rfl
 refine wpAny_bind (wpAny_setField hI rfl (ξD (ξC _)) ?_)
 exact wpAny_pure ⟨_,rfl,wpAny_pure (hQ _ g2 (Heap.SameBut.update ..))⟩
theorem endD {i n ep:Nat} {oT o:Obj} {xs:Array Value} {m:Nat} {es:Array (Int×Value)} {t:SetTable} {Q:Option Value→Shared→Prop} (hh:A.handled=none) (hI:s.heap.get? I=some (ItO (.ref T) i a n ep))
  (hT:s.heap.get? T=some oT) (hx:oT.data=.seq xs m) (hp:xs[i]?=none)
  (ho:s.heap.get? a=some o) (hd:o.data=.set es ep t) (hf:t.fits es.size=true) (hn:es.size=n)
  (hQ:∀ h',Heap.ExtBut I s.heap h'→Q none { s with heap:=h' }):wpAny (model prog w) A (pyNext (.ref I)) Q E s:=by
 have hT':s.TypeIs (.ref I) "set_iterator" := ⟨_,hI,rfl⟩
 unfold pyNext
 refine wpAny_bind (wpAny_attempt (wpAny_callSpecial?_slot (name:=Str.ofString "__next__") hT' yy (wpAny_call_entry yy hT' wP ?_ (vt _))))
 unfold Builtin.«set_iterator.__next__»
 refine wpAny_bind (wpAny_pure ?_)
 refine wpAny_bind (wpAny_fieldsOf hI rfl ?_)
 refine wpAny_bind (wpAny_setEntries_of ho hd hf ?_)
 rw [if_neg (by rw [hn]; simp)]
 dsimp only
 refine wpAny_bind (wpAny_seqItems hT hx ?_)
 dsimp only
 rw [ζI,hp]
 dsimp only
 have g1:(s.heap.update I (Obj.mapFields (·.setIfInBounds 0 (rawInt 0)))).get? I=some (ItO (.int 0 0) i a n ep):=ζX _ hI rfl
 refine wpAny_bind (wpAny_setField hI rfl (ξC _) ?_)
 refine wpAny_bind (wpAny_setField (s:={ s with heap:=_ }) g1 rfl (ξD (ξD (ξC _))) ?_)
 refine wpAny_mono (zcQ (I:=I) (s:=s) hh fun h' u=>hQ h' fun c o' n' z=>u c o' n' ((Heap.SameBut.update ..).extBut c o' n' ((Heap.SameBut.update ..).extBut c o' n' z))) (fun _ _ z=>?_) fun e s' z=>?_
 ·obtain ⟨_,_,z⟩:=z; exact z.elim
 ·obtain ⟨T,x1,rfl,x2⟩:=z
  exact wpAny_bind (wpAny_isInstance (T := "StopIteration") (b:=true) x1 isSubtype_stop (wpAny_pure x2))
theorem zeg {ep m:Nat} {o oT:Obj} {es:Array (Int×Value)} {t:SetTable} {us:List Value} {js:List Nat} (hd:o.data=.set es ep t) (hf:t.fits es.size=true) (hne:I≠a) (hnT:I≠T)
  (hx:oT.data=.seq ((js.map fun (j:Nat)=>rawInt j).toArray) m) (hjs:js.length=es.size) (hus:us=js.filterMap fun j=>(es.toList.map (·.2))[j]?) (hlt:∀ j∈js,j < es.size)
  (hh:A.handled=none):WalksS prog w A I [I,a,T] [I] (fun x y=>y=x) es.size (fun i v=>us[i]?=some v) (fun i s=>s.heap.get? I=some (ItO (.ref T) i a es.size ep)∧s.heap.get? a=some o∧s.heap.get? T=some oT) where
 sub:=fun c hc=>by rw [ζh.mp hc]; exact .head _
 grefl:=fun _=>rfl
 gtrans:=fun _ _ _ x y=>y.trans x
 frame:=fun i s h' tk st _ hk=>⟨hk I (.head _) _ st.1,hk a (.tail _ (.head _)) _ st.2.1,hk T (.tail _ (.tail _ (.head _))) _ st.2.2⟩
 item:=fun i s Q E hi st hQ=>by
  have hj:i < js.length:=by omega
  have hz:js[i] < es.size:=hlt _ (ξv hj)
  have hz':js[i] < (es.toList.map (·.2)).length:=by rw [ζa,ζU]; exact hz
  have hm:us=js.map fun j=>(es.toList.map (·.2)).getD j .none:=by
   rw [hus]
   have:∀ (js:List Nat),(∀ j∈js,j < es.size)→(js.filterMap fun j=>(es.toList.map (·.2))[j]?)=js.map fun j=>(es.toList.map (·.2)).getD j .none:=by
    intro js
    induction js with
    | nil=>intro _; rfl
    | cons j r ih =>
     intro h
     have h1:j < (es.toList.map (·.2)).length:=by rw [ζa,ζU]; exact h j (.head _)
     rw [List.filterMap_cons_some (b:=(es.toList.map (·.2))[j]) (ζf h1),ζT,ih fun k hk=>h k (.tail _ hk),ζc,ζf h1]
     rfl
   exact this js hlt
  have hu:us[i]?=some ((es.toList.map (·.2))[js[i]]):=by
   rw [hm,ζl,ζf hj]
   show some ((es.toList.map (·.2)).getD js[i] .none)=_
   rw [ζc,ζf hz']
   rfl
  refine zes (p:=js[i]) (x:=(es.toList.map (·.2))[js[i]]) st.1 st.2.2 hx ?_ (ζf hz') st.2.1 hd hf rfl fun h' g u=>?_
  ·simp [List.getElem?_map,List.getElem?_eq_getElem hj,rawInt]
  ·exact hQ _ _ hu ⟨g,u.extBut a _ (Ne.symm hne) st.2.1,u.extBut T _ (Ne.symm hnT) st.2.2⟩ ⟨fun c o' hc z=>u.extBut c o' (fun q=>hc (by rw [q]; exact .head _)) z,rfl,rfl,rfl,ζm _⟩
 done:=fun s Q E st hQ=>by
  refine endD hh st.1 st.2.2 hx ?_ st.2.1 hd hf rfl fun h' u=>?_
  ·simp [hjs]
  ·exact hQ _ ⟨fun c o' hc z=>u c o' (fun q=>hc (by rw [q]; exact .head _)) z,rfl,rfl,rfl,ζm _⟩
 self:=fun i s Q E st hQ=>by
  have hT:s.TypeIs (.ref I) "set_iterator" := ⟨_,st.1,rfl⟩
  refine wpAny_pyIter_slot hT vq (wpAny_call_entry vq hT uw ?_ (tL _))
  show wpAny _ _ (ret (.ref I)) _ _ s
  exact wpAny_pure ⟨_,rfl, "set_iterator", _,hT,yy.lookup,hQ⟩
theorem YY {us vs:List Value} (p:us.Perm vs):∀ {ns:List Int},IntsAre vs ns→∃ ms,IntsAre us ms∧ms.Perm ns:=by
 have key:∀ {vs:List Value} {ns:List Int},IntsAre vs ns→(∀ v∈vs,∃ k t,v=.int k t)∧ns=vs.map fun v=>kOf (0,v):=fun {vs ns} h=>by
  induction h with
  | nil=>exact ⟨fun _ z=>(nomatch z),rfl⟩
  | cons n t _ ih =>
   refine ⟨fun v hv=>?_,?_⟩
   ·rcases ζs.mp hv with rfl | hv
    ·exact ⟨n,t,rfl⟩
    ·exact ih.1 v hv
   ·rw [ζT,← ih.2]; rfl
 have back:∀ us:List Value,(∀ v∈us,∃ k t,v=.int k t)→IntsAre us (us.map fun v=>kOf (0,v)):=fun us=>by
  induction us with
  | nil=>exact fun _=>.nil
  | cons v r ih =>
   intro h
   obtain ⟨k,t,rfl⟩:=h v (.head _)
   exact .cons k t (ih fun x hx=>h x (.tail _ hx))
 intro ns h
 obtain ⟨h1,rfl⟩:=key h
 exact ⟨_,back us fun v hv=>h1 v (p.mem_iff.mp hv),p.map _⟩
theorem zew {Q:Value→Shared→Prop} (hb:w.params.followText "set-order" = b) (hS:SetI (!b) a l s.heap)
  (k:∀ (us:List Value) (ns:List Int) (I:Addr) (fp:List Addr) (St:Nat→Shared→Prop) (h':Heap) (d:Drawn),IntsAre us ns→ns.Perm l→us.length < scanBound→(∀ c o,s.heap.get? c=some o→h'.get? c=some o)→s.heap.objs.size≤I→(∀ c∈fp,c=a∨s.heap.objs.size≤c) →
   (∀ A:Around,A.handled=none→WalksS prog w A I fp [I] (fun x y=>y=x) us.length (fun i v=>us[i]?=some v) St)→St 0 { s with heap:=h',drawn:=d }→Q (.ref I) { s with heap:=h',drawn:=d }) :
  wpAny (model prog w) A (pyIter (.ref a)) Q E s:=by
 obtain ⟨o,es,ep,t,ho,hex,hd,hE,hp,hz,hf,ht⟩:=hS
 have hT:s.TypeIs (.ref a) "set" := ⟨o,ho,hex.1⟩
 have ha:a < s.heap.objs.size:=ζn ho
 have hi0:IntsAre (es.toList.map (·.2)) (es.toList.map kOf):=IsE.ints hE
 refine wpAny_pyIter_slot hT F.slot_set_iter (wpAny_call_entry F.slot_set_iter hT V4 ?_ (F.args_set_iter_1 _))
 unfold Builtin.«frozenset.__iter__» Builtin.Frozenset.slot0
 refine wpAny_bind (wpAny_bind (wpAny_pure ?_))
 unfold Builtin.Frozenset.addrOf Builtin.Frozenset.sizeOf
 refine wpAny_pure ?_
 refine wpAny_bind (wpAny_bind (wpAny_setEntries_of ho hd hf (wpAny_pure ?_)))
 unfold setDrawn
 refine wpAny_bind (wpAny_bind (wpAny_setState_of ho hd hf ?_))
 dsimp only
 unfold setsByText
 refine wpAny_bind (wpAny_bind (wpAny_askSetting (wpAny_pure (wpAny_pure ?_))))
 have fin:∀ (first:Value) (hp1:Heap) (d:Drawn) (o1:hp1.get? a=some o),(∀ v s',s'={ s with heap:=hp1.push (ItO first 0 a es.size ep),drawn:=d }→v=.ref hp1.objs.size→Q v s') →
   wpAny (model prog w) A.in1 (do
    let __do_lift ← setEpoch a
    let __do_lift ← newFields "set_iterator" [first,rawInt 0,Value.ref a,rawInt ↑es.size,rawInt ↑__do_lift]
    ret __do_lift) (fun fin s'=>∃ v,fin=Fin.done (Flow.ret v)∧∃ T' r,s'.TypeIs v T'∧typeLookup (Value.type T') (Str.ofString "__next__")=pure (some r)∧Q v s') E { s with heap:=hp1,drawn:=d }:=fun first hp1 d o1 q=>by
  refine wpAny_bind (wpAny_setEpoch_of o1 hd hf ?_)
  refine wpAny_bind (wpAny_newObj_type (hd:=by size_fits) (wpAny_pure ⟨_,rfl, "set_iterator", _,⟨_,ζp _ rfl,rfl⟩,yy.lookup,q _ _ rfl rfl⟩))
 cases b with
 | true =>
  rw [show (model prog w).w.params.followText "set-order" = true from hb]
  simp only [Bool.not_true,Bool.false_and,Bool.false_eq_true,↓reduceIte]
  refine wpAny_bind (wpAny_pure (fin (rawInt 0) s.heap s.drawn ho ?_))
  rintro _ _ rfl rfl
  have pm:=vV (w.params.setOrder a ep) es
  obtain ⟨ms,im,pp⟩:=YY (pm.map (·.2)) hi0
  have hu:((pickOrder (w.params.setOrder a ep) es).toList.map (·.2)).length=es.size:=by rw [(pm.map _).length_eq,ζa,ζU]
  refine k _ ms s.heap.objs.size [s.heap.objs.size,a] (fun i s'=>s'.heap.get? s.heap.objs.size=some (ItO (.int ((fun _=>0) i:Nat) 0) i a es.size ep)∧s'.heap.get? a=some o) _ s.drawn im (pp.trans hp) (by rw [hu]; exact hz)
   (fun c o' z=>ζg _ z) (ζm _) (fun c hc=>?_) (fun A' h'=>by rw [hu]; exact QM (sl:=fun _=>0) hd hf hu (ξb ha) (fun i s' A'' E' R z _ r=>zdV hb z hd hf r) h') ⟨ζp _ rfl,ζg _ ho⟩
  rcases ζs.mp hc with rfl | hc
  ·exact .inr (ζm _)
  ·exact .inl (ζh.mp hc)
 | false =>
  rw [show (model prog w).w.params.followText "set-order" = false from hb]
  simp only [Bool.not_false,Bool.true_and]
  split
  ·rename_i hdr
   refine wpAny_bind (zdd es.size _ _ ζz fun js d hj=>?_)
   refine wpAny_bind (wpAny_newTuple ?_ (by rw [ζa,hj.length_eq,ζz]; exact fits_of_scanBound hz))
   refine fin _ _ d (ζg _ ho) ?_
   rintro _ _ rfl rfl
   have hlt:∀ j∈js,j < es.size:=fun j z=>ζQ.mp (hj.mem_iff.mp z)
   have pm:(js.filterMap fun j=>(es.toList.map (·.2))[j]?).Perm (es.toList.map (·.2)):=by
    refine (hj.filterMap _).trans ?_
    have q:=filterMap_getElem?_range (es.toList.map (·.2)).toArray
    simp only [List.size_toArray,List.length_map,Array.length_toList,List.getElem?_toArray] at q
    rw [q]
   obtain ⟨ms,im,pp⟩:=YY pm hi0
   have hu:(js.filterMap fun j=>(es.toList.map (·.2))[j]?).length=es.size:=by rw [pm.length_eq,ζa,ζU]
   have z1:(s.heap.push { cls:=.type "tuple", data:=.seq (js.map fun (i:Nat)=>rawInt i).toArray }).objs.size=s.heap.objs.size + 1:=ξf _ _
   refine k _ ms _ [_,a,s.heap.objs.size] (fun i s'=>s'.heap.get? _=some (ItO (.ref s.heap.objs.size) i a es.size ep)∧s'.heap.get? a=some o∧s'.heap.get? s.heap.objs.size=some { cls:=.type "tuple", data:=.seq (js.map fun (i:Nat)=>rawInt i).toArray }) _ d im (pp.trans hp) (by rw [hu]; exact hz)
    (fun c o' z=>ζg _ (ζg _ z)) (by rw [z1]; exact Nat.le_succ _) (fun c hc=>?_) (fun A' h'=>by rw [hu]; exact zeg hd hf (by rw [z1]; exact ξb (ξq ha)) (by rw [z1]; exact Nat.succ_ne_self _) rfl (by rw [hj.length_eq,ζz]) rfl hlt h')
    ⟨ζp _ rfl,ζg _ (ζg _ ho),ζg _ (ζp _ rfl)⟩
   rcases ζs.mp hc with rfl | hc
   ·exact .inr (by rw [z1]; omega)
   ·rcases ζs.mp hc with rfl | hc
    ·exact .inl rfl
    ·exact .inr (by rw [ζh.mp hc]; exact ζm _)
  ·rename_i hdr
   have hdr:(!t.plain && decide (es.size > 1))=false:=by
    cases q:(!t.plain && decide (es.size > 1)) with
    | false=>rfl
    | true=>exact absurd q hdr
   refine wpAny_bind (wpAny_pure (fin (rawInt 0) s.heap s.drawn ho ?_))
   rintro _ _ rfl rfl
   have hu:(es.toList.map (·.2)).length=es.size:=by rw [ζa,ζU]
   refine k _ _ s.heap.objs.size [s.heap.objs.size,a] (fun i s'=>s'.heap.get? s.heap.objs.size=some (ItO (.int (slP t i) 0) i a es.size ep)∧s'.heap.get? a=some o) _ s.drawn hi0 hp (by rw [hu]; exact hz)
    (fun c o' z=>ζg _ z) (ζm _) (fun c hc=>?_) (fun A' h'=>by rw [hu]; exact QM (sl:=slP t) hd hf hu (ξb ha) (fun i s' A'' E' R z hi r=>zci hb z hd hf ht hdr hi r) h') ⟨ζp _ rfl,ζg _ ho⟩
   rcases ζs.mp hc with rfl | hc
   ·exact .inr (ζm _)
   ·exact .inl (ζh.mp hc)
end
theorem Xn:typeLookup (.type "set") "__len__" = pure (some (.builtin "set.__len__")):=by
 rw [typeLookup_type,builtinLookup_eq_fast]
 kernel_rfl
section
variable {prog:Program} {w:World} {A:Around} {E:Value→Shared→Prop} {s:Shared} {b:Bool} {a I T:Addr} {l:List Int}
theorem wiT {α:Type} {c:Prop} [Decidable c] {x y:Sem α} {Q:α→Shared→Prop} (hc:c) (h:wpAny (model prog w) A x Q E s):wpAny (model prog w) A (if c then x else y) Q E s:=by
 rw [if_pos hc]
 exact h
theorem zbr {Q:List Value→Shared→Prop} (hh:A.handled=none) (hb:w.params.followText "set-order" = b) (hS:SetI (!b) a l s.heap)
  (k:∀ (us:List Value) (ns:List Int) (h':Heap) (d:Drawn) (tk:Nat),IntsAre us ns→ns.Perm l→(∀ c o,s.heap.get? c=some o→h'.get? c=some o)→s.heap.objs.size≤h'.objs.size→Q us { s with heap:=h',drawn:=d,toks:=tk }) :
  wpAny (model prog w) A (collect (.ref a)) Q E s:=by
 obtain ⟨oa,_,_,_,hoa,hxa,_⟩:=id hS
 have ha:a < s.heap.objs.size:=ζn hoa
 unfold collect
 refine wpAny_bind (wpAny_runValue (codeAny_builtin F.entry_proto_collect ?_))
 rw [Around.under_plainId F.plain_proto_collect _]
 show wpAny _ A.in1 (newList [] >>= fun l=>again (.builtin "list.__iadd__" ⟨[l,.ref a],[]⟩)) _ _ s
 refine wpAny_bind (wpAny_newObj_type (wpAny_pure ⟨plainId_quiet F.plain_list_iadd _,codeAny_builtin F.entry_list_iadd ?_⟩))
 rw [Around.under_plainId F.plain_list_iadd _]
 have hL:(s.heap.push { cls:=.type "list", data:=.seq ([]:List Value).toArray }).get? s.heap.objs.size=some { cls:=.type "list", data:=.seq ([]:List Value).toArray }:=ζp _ rfl
 have z1:(s.heap.push { cls:=.type "list", data:=.seq ([]:List Value).toArray }).objs.size=s.heap.objs.size + 1:=ξf _ _
 have hS1:SetI (!b) a l (s.heap.push { cls:=.type "list", data:=.seq ([]:List Value).toArray }):=hS.at fun o z=>ζg _ z
 have hT1:Shared.TypeIs { s with heap:=s.heap.push { cls:=.type "list", data:=.seq ([]:List Value).toArray } } (.ref a) "set" := ⟨oa,ζg _ hoa,hxa.1⟩
 show wpAny _ A.in1 (Builtin.List.listExtendWith (.ref s.heap.objs.size) (.ref a) (.ref s.heap.objs.size)) _ _ _
 unfold Builtin.List.listExtendWith
 refine wpAny_bind (wpAny_typeOf hT1 ?_)
 have h1:Builtin.List.listSameRef (.ref s.heap.objs.size) (.ref a)=false:=by simp [Builtin.List.listSameRef,Nat.ne_of_gt ha]
 rw [if_neg (by rw [h1]; decide)]
 refine wpAny_bind (zew hb hS1 fun us ns I fp St h2 d hi hp hz hk hIz hfp W st=>?_)
 refine wpAny_bind (wpAny_holding ?_)
 unfold Builtin.List.listLengthHint
 have hT2:Shared.TypeIs { s with heap:=h2,drawn:=d } (.ref a) "set" := ⟨oa,hk _ _ (ζg _ hoa),hxa.1⟩
 refine wpAny_bind (wpAny_specialOf hT2 Xn ?_)
 dsimp only
 rw [show splitId "set.__len__" = some ("set", "__len__") from by decide +kernel]
 dsimp only
 refine wpAny_bind (wpAny_isInstance (b:=true) hT2 (by rw [isSubtype_type]; kernel_rfl) ?_)
 rw [if_neg (by decide)]
 refine wiT (by decide +kernel) ?_
 refine wpAny_bind (wpAny_typeOf hT2 (wpAny_pure ?_))
 refine wiT (by decide +kernel) ?_
 refine wpAny_bind (wpAny_rule ?_)
 have hLf:s.heap.objs.size∉fp:=fun z=>by
  rcases hfp _ z with q | q
  ·exact ξb ha q
  ·have q:(s.heap.push { cls:=.type "list", data:=.seq ([]:List Value).toArray }).objs.size≤s.heap.objs.size:=q
   rw [z1] at q
   exact Nat.not_succ_le_self _ q
 have hS2:=hk _ _ hL
 refine wpAny_bind ?_
 show wpAny _ A.in1 (updateSeq s.heap.objs.size (·.push .none) >>= fun _=>updateSeq s.heap.objs.size (·.pop)) _ _ _
 refine wpAny_bind (wpAny_updateSeq (s:={ s with heap:=h2,drawn:=d }) hS2 rfl ?_)
 have hS3:=ζX (Obj.mapSeq (·.push Value.none)) hS2 rfl
 refine wpAny_updateSeq (s:={ s with heap:=_,drawn:=d }) hS3 rfl ?_
 have hS4:=ζX (Obj.mapSeq (·.pop)) hS3 rfl
 have oth:∀ c o,c≠s.heap.objs.size→h2.get? c=some o→((h2.update s.heap.objs.size (Obj.mapSeq (·.push Value.none))).update s.heap.objs.size (Obj.mapSeq (·.pop))).get? c=some o :=
  fun c o n z=>(ξV _ _ (Ne.symm n)).trans ((ξV _ _ (Ne.symm n)).trans z)
 have hA:A.in1.handled=none:=hh
 have W1:=W A.in1 hA
 refine wpAny_pure ⟨plainId_quiet F.plain_extend_loop _,codeAny_extend_loopS W1 (fits_of_scanBound hz) _ hLf _ us.length 0 _ _ _ rfl (ζY _)
  (W1.frame 0 { s with heap:=h2,drawn:=d } _ s.toks st (ζm _) fun c hc o z=>oth c o (fun q=>hLf (q ▸ hc)) z) hS4 (ItemsOf.nil _) fun s' acc c' hm hS' ha'=>?_⟩
 show wpAny _ A (load s.heap.objs.size >>= _) _ _ s'
 refine wpAny_bind (wpAny_load hS' (wpAny_pure ?_))
 have e:acc.toList=us:=by
  refine ξa fun i=>?_
  rw [ξm]
  by_cases hi':i < acc.size
  ·rw [ξo hi']
   exact (ha'.2 i _ (ξo hi')).symm
  ·rw [Array.getElem?_eq_none (by omega),ζF (by have:=ha'.1; omega)]
 rw [e]
 obtain ⟨hx,gx,dx,tx,ox⟩:=s'
 have eg:gx=s.gens:=hm.gens
 have ed:dx=d:=hm.drawn
 have eo:ox=s.os:=hm.os
 subst eg; subst ed; subst eo
 refine k us ns hx dx tx hi hp (fun c o z=>?_) (Nat.le_of_lt (ζn hS'))
 have c1:c < s.heap.objs.size:=ζn z
 refine hm.heap c o (fun q=>?_) (oth c o (ζG c1) (hk _ _ (ζg _ z)))
 rcases ζs.mp q with q | q
 ·exact ζG c1 q
 ·have q:=ζh.mp q
  subst q
  have y:(s.heap.push { cls:=.type "list", data:=.seq ([]:List Value).toArray }).objs.size≤c:=hIz
  rw [z1] at y
  exact Nat.not_lt.mpr (Nat.le_of_succ_le y) c1
theorem zbG {Q:Value→Shared→Prop} (hh:A.handled=none) (hb:w.params.followText "set-order" = b) (hS:SetI (!b) a l s.heap) (h64:l.length < 64)
  (k:∀ (out:Array Value) (ns:List Int) (c:Addr) (e:Nat) (h':Heap) (d:Drawn) (tk:Nat),IntsAre out.toList ns→ns.Perm l→ns.Pairwise (·≤·)→(∀ c o,s.heap.get? c=some o→h'.get? c=some o)→s.heap.objs.size≤c→h'.get? c=some (seqObj "list" out e) →
   Q (.ref c) { s with heap:=h',drawn:=d,toks:=tk }):wpAny (model prog w) A (call (.builtin "sorted") [.ref a]) Q E s:=by
 refine Calls.call_function_entry kind_sorted plain_sorted entry_sorted (args_sorted1 _) ?_
 unfold Builtin.«sorted»
 refine wpAny_bind (m:=checkCount "sorted" 1 1 _) (wpAny_pure ?_)
 refine wpAny_bind (zbr (A:=A.in1) hh hb hS fun us ns h2 d tk hi hp hk le=>?_)
 have hz:us.length=l.length:=by rw [IntsAre.length hi,hp.length_eq]
 refine wpAny_bind (wpAny_newList ?_ (by have:=fits_of_scanBound (n:=us.length) (by unfold scanBound; omega); exact this))
 have hL:(h2.push (seqObj "list" us.toArray 0)).get? h2.objs.size=some (seqObj "list" us.toArray 0):=ζp _ rfl
 have hsz:(h2.push (seqObj "list" us.toArray 0)).objs.size=h2.objs.size + 1:=ξf _ _
 refine wpAny_bind (wpAny_holding (wpAny_call_entry (s:={ s with heap:=h2.push (seqObj "list" us.toArray 0),drawn:=d,toks:=tk }) slot_list_sort ⟨_,hL,rfl⟩ entry_list_sort (list_sort_tree hL hi (by omega) fun out ns' a1 a2 a3=>⟨_,rfl,?_⟩) (args_list_sort _)))
 obtain ⟨e,he⟩:=sortedHeap_at (out:=out) hL
 refine wpAny_pure ⟨_,rfl,k out ns' h2.objs.size e _ d tk a1 (a2.trans hp) a3 (fun c o z=>?_) le he⟩
 have z2:=hk c o z
 rw [sortedHeap_old (ζG (ζn z2)) (by rw [hsz]; exact ξq (ζn z2))]
 exact ζg _ z2
theorem zbD {R:Result→Shared→Prop} {fp wr:List Addr} {G:Array GenState→Array GenState→Prop} {n:Nat} {P:Nat→Value→Prop} {St:Nat→Shared→Prop} (W:WalksS prog w A.in1 I fp wr G n P St) (S:Addr) (hSf:S∉fp)
  (val:Nat→Int) (hval:∀ i v,P i v→∃ t,v=.int (val i) t) (hz:n + 1 < scanBound) :
  ∀ (k i:Nat) (s:Shared),n - i=k→i≤n→St i s→SetI b S (firstMet val i) s.heap→(∀ s',Moved (S :: wr) G s s'→SetI b S (firstMet val n) s'.heap→R (.ok (.ret .none)) s') →
   codeAny (model prog w) A (.builtin "set.update.loop" ⟨[.ref S,.ref I],[]⟩) R s:=by
 have hSw:S∉wr:=fun h=>hSf (W.sub _ h)
 have sb:∀ c∈wr,c∈S :: wr:=fun c=>ζk _
 intro k
 induction k with
 | zero =>
  intro i s hk hi st hS hR
  obtain rfl:i=n:=by omega
  refine codeAny_builtin F.entry_set_update_loop ?_
  rw [Around.under_plainId F.plain_set_update_loop _]
  show wpAny _ A.in1 (pyNext (.ref I) >>= _) _ _ s
  refine wpAny_bind (W.done s _ _ st fun s' hm=>wpAny_pure (hR s' (hm.mono sb) (hS.at fun o z=>hm.heap S o hSw z)))
 | succ k ih =>
  intro i s hk hi st hS hR
  have hlt:i < n:=by omega
  refine codeAny_builtin F.entry_set_update_loop ?_
  rw [Around.under_plainId F.plain_set_update_loop _]
  show wpAny _ A.in1 (pyNext (.ref I) >>= _) _ _ s
  refine wpAny_bind (W.item i s _ _ hlt st fun v s' hP st' hm=>?_)
  obtain ⟨t,rfl⟩:=hval i v hP
  have hS':SetI b S (firstMet val i) s'.heap:=hS.at fun o z=>hm.heap S o hSw z
  show wpAny _ A.in1 (holding [Value.int (val i) t] (setAdd S (.int (val i) t)) >>= _) _ _ s'
  refine wpAny_bind (wpAny_holding ?_)
  unfold setAdd
  refine wpAny_holding (wpAny_bind ((intKind prog w).pyHash (k:=val i) (intKind_is _ _ _ _) ?_))
  have room:(firstMet val i).length + 1 < scanBound:=by have:=firstMet_length_le val i; omega
  refine addI (s:={ s' with toks:=s'.toks + 1 }) hS' room fun r h' u hS2=>?_
  rw [← firstMet_succ] at hS2
  refine wpAny_pure ⟨plainId_quiet F.plain_set_update_loop _,ih (i + 1) _ (by omega) hlt (W.frame _ s' _ _ st' (Nat.le_succ _) fun c hc o z=>?_) hS2 fun s'' hm'' hS''=>?_⟩
  ·rw [u.2 c fun q:c=S=>hSf (by rw [← q]; exact hc)]; exact z
  ·refine hR s'' (Moved.trans W.gtrans ((hm.mono sb).then_heap (Nat.le_succ _) fun c o hc z=>?_) hm'') hS''
   rw [u.2 c fun q:c=S=>hc (by rw [q]; exact .head _)]; exact z
theorem newI (x:Value) {Q₁:Value→Shared→Prop} (hb:w.params.followText "set-order" = b)
  (h:Q₁ (.ref s.heap.objs.size) { s with heap:=s.heap.push { cls:=.type "set", dict:=none,data:=.set #[] 0 (.fresh 0 0 (!b)) } }) :
  codeAny (model prog w) A (.call (.builtin "set.__new__") ⟨[.type "set", x],[]⟩) (wants Q₁ E) s:=by
 refine codeAny_of_tree ?_
 show wpAny _ A.in1 (do checkBuiltinCall "set.__new__" ⟨[.type "set", x],[]⟩; again (.builtin "set.__new__" ⟨[.type "set", x],[]⟩)) _ _ s
 refine wpAny_bind (wpAny_of_eq (F.newCall_set_1 x) (wpAny_pure ⟨plainId_quiet F.plain_set_new _,codeAny_builtin F.entry_set_new ?_⟩))
 rw [Around.under_plainId F.plain_set_new _]
 unfold Builtin.«set.__new__» Builtin.Frozenset.newClass
 have hsub:=sub_set_self
 obtain ⟨hp,g,d,tk,os⟩:=s
 dsimp only
 wp_walk
 refine wpAny_askSetting (wpAny_pure ?_)
 dsimp only
 simp only [newObj]
 refine wpAny_bind (wpAny_alloc (wpAny_pure (wpAny_pure ?_)))
 rw [show (model prog w).w.params.followText "set-order" = b from hb]
 exact h
set_option maxHeartbeats 3200000 in
theorem zdp {L:Addr} {items:Array Value} {ns:List Int} {Q:Value→Shared→Prop} (hh:A.handled=none) (hb:w.params.followText "set-order" = b) (hl:s.heap.IsList L items) (hi:IntsAre items.toList ns) (hz:items.size + 1 < scanBound)
  (k:∀ (h':Heap) (tk:Nat),SetI (!b) s.heap.objs.size (firstMet (fun i=>ns.getD i 0) items.size) h'→(∀ c o,s.heap.get? c=some o→h'.get? c=some o)→Q (.ref s.heap.objs.size) { s with heap:=h',toks:=tk }) :
  wpAny (model prog w) A (call (.type "set") [.ref L]) Q E s:=by
 obtain ⟨c,tl,hmro⟩:=F.called_set.mro
 have hmade:=F.called_set.made
 have hsub:=F.called_set.sub
 refine wpAny_call (codeAny_of_tree ?_)
 show wpAny _ _ (callAny (.type "set") _) _ _ _
 refine wpAny_pure ⟨Code.quiet_builtin _ (by decide +kernel),codeAny_builtin F.entry_type_call ?_⟩
 rw [Around.under_plain (weight_type_call_type "set" [.ref L] []) rfl]
 have h1:=F.called_set.notType
 have h2:=F.called_set.canCreate
 have hct:=F.typeCall_set_1 (.ref L)
 repeat (any_goals (first | assumption | wp_step))
 refine codeAny_mono (newI (.ref L) (E:=E) hb (Q₁:=fun x s₁=>x=.ref s.heap.objs.size∧s₁={ s with heap:=s.heap.push { cls:=.type "set", dict:=none,data:=.set #[] 0 (.fresh 0 0 (!b)) } }) ⟨rfl,rfl⟩) fun r s₁ hr=>?_
 cases r with
 | error e=>exact hr
 | ok fl =>
  cases fl with
  | ret obj =>
   obtain ⟨rfl,rfl⟩:=hr
   generalize ho0:({ cls:=.type "set", dict:=none,data:=.set #[] 0 (.fresh 0 0 (!b)) }:Obj)=o0
   have hS:(s.heap.push o0).get? s.heap.objs.size=some o0:=ζp _ (by rw [← ho0]; rfl)
   have hS0:SetI (!b) s.heap.objs.size [] (s.heap.push o0):=⟨o0,#[],0,_,hS,by rw [← ho0]; exact ⟨rfl,rfl,rfl⟩,by rw [← ho0],(fun e z=>by simp at z),.nil,by decide,by rfl,TOk.fresh⟩
   have hT:Shared.TypeIs { s with heap:=s.heap.push o0 } (.ref s.heap.objs.size) "set" := ⟨_,hS,by rw [← ho0]⟩
   have hli:=F.called_set.init.lookup
   have hbi:=F.called_set.init.bind (.ref s.heap.objs.size)
   repeat (any_goals (first | assumption | wp_step))
   refine codeAny_mono (codeAny_call_builtin (R:=wants (fun r s₂=>r=.none∧∃ h' tk,s₂={ s with heap:=h',toks:=tk }∧SetI (!b) s.heap.objs.size (firstMet (fun i=>ns.getD i 0) items.size) h' ∧
     (∀ c o,s.heap.get? c=some o→h'.get? c=some o)) E) F.called_set.init.plain F.entry_set_init (check_set_init_1 hT ?_)) fun r₂ s₂ hr₂=>?_
   ·obtain ⟨ol,hol,hcl,nl,hdl⟩:=hl
    obtain ⟨oc,od,odt,osl⟩:=ol
    simp only at hcl hdl
    subst hcl; subst hdl
    have hol':(s.heap.push o0).get? L=some { cls:=.type "list", dict:=od,data:=.seq items nl,slots:=osl }:=ζg _ hol
    have e1:=F.sub_list_set
    have e2:=F.sub_list_frozenset
    have hne:(Value.type "list" == Value.type "dict")=false:=by decide
    have hl1:(s.heap.push o0).IsList L items:=⟨_,hol',rfl,nl,rfl⟩
    have hz0:(s.heap.push o0).objs.size=s.heap.objs.size + 1:=ξf _ _
    subst ho0
    unfold Builtin.«set.__init__» noKeywords Builtin.Frozenset.updateFrom
    generalize hPI:pyIter=PI
    wp_walk
    subst hPI
    refine wpAny_pyIter_list hl1 ?_
    refine wpAny_bind (wpAny_runValue ?_)
    have hlS:L < s.heap.objs.size:=ζn hol
    have hh3:A.in1.in1.in1.handled=none:=hh
    have hneI:L≠(s.heap.push { cls:=.type "set", dict:=none,data:=.set #[] 0 (.fresh 0 0 (!b)) }).objs.size:=by rw [hz0]; exact ζG (ξq hlS)
    have hSf:s.heap.objs.size∉[(s.heap.push { cls:=.type "set", dict:=none,data:=.set #[] 0 (.fresh 0 0 (!b)) }).objs.size,L]:=by
     rw [hz0]
     intro z
     rcases ζs.mp z with z | z
     ·exact ζG (ξR _) z
     ·exact ξb hlS (ζh.mp z)
    have hval:∀ (i:Nat) (v:Value),items[i]?=some v→∃ t,v=.int ((fun i=>ns.getD i 0) i) t:=fun i v hv=>IntsAre.int_at hi i v (by rw [ξm]; exact hv)
    refine zbD (b:=!b) ((Walks.list hh3 _ L hneI items).toS) s.heap.objs.size hSf (fun i=>ns.getD i 0) hval hz (items.size - 0) 0 _ (by omega) (ζY _) ⟨⟨_,ζp _ rfl,rfl,rfl⟩,(hl1.push _)⟩ ?hS0 ?hR
    case hS0=>exact hS0.at fun o z=>ζg _ z
    case hR =>
     intro s' hm hS'
     obtain ⟨h',g',d',tk',os'⟩:=s'
     have eg:g'=s.gens:=hm.gens
     have ed:d'=s.drawn:=hm.drawn
     have eo:os'=s.os:=hm.os
     subst eg; subst ed; subst eo
     show wpAny _ _ _ _ _ _
     refine wpAny_pure ?_
     show wpAny _ _ (ret Value.none) _ _ _
     refine wpAny_pure ⟨rfl,h',tk',rfl,hS',fun c o z=>?_⟩
     have hc:c < s.heap.objs.size:=ζn z
     refine hm.heap c o (fun q=>?_) (ζg _ (ζg _ z))
     rcases ζs.mp q with q | q
     ·exact ζG hc q
     ·have q:=ζh.mp q
      rw [hz0] at q
      exact ζG (ξq hc) q
   ·cases r₂ with
    | error e=>exact hr₂
    | ok fl₂ =>
     cases fl₂ with
     | ret r =>
      obtain ⟨rfl,h',tk,rfl,hS',hk'⟩:=hr₂
      repeat (any_goals (first | assumption | wp_step))
      exact k _ _ hS' hk'
     | _=>exact hr₂.elim
  | _=>exact hr.elim
end
section
variable {X:Cx} {K:ζb} {b:Bool}
def SetB (b:Bool) (a:Addr) (l:List Int):HO:=.ext (SetI (!b) a l)
theorem U0 {P:Program} {w:World} {H:Hp} {h:Heap} {a:Addr} {l:List Int} (x:SetI (!b) a l h):yR P w H h a (SetB b a l) :=
 ⟨x,(let ⟨o,_,_,_,ho,_⟩:=x; ⟨o,ho⟩),fun _ _ x1 k=>x1.at k⟩
def U4 (K:ζb) (b:Bool):List V→Hp→VK→Prop:=fun xs H Q=>∃ p ns,xs=[.ref p]∧SqL K H p (ns.map V.int)∧ns.length < 4000∧∀ l,H l=none→Q (.ref l) (upd H l (SetB b l (dd ns)))
theorem tI (hK:X.K=K) (hc:X.calm=true) (hb:X.w.params.followText "set-order" = b):yB X (.type "set") (U4 K b):=by
 subst hK
 intro pins s σ H xs us Q I r h
 obtain ⟨p,ns,rfl,hq,hz,q⟩:=h
 obtain ⟨u,rfl,rx⟩:=xJ r
 cases rx
 obtain ⟨its,r',pl,hy⟩:=I.list hq
 have hl:=r'.length
 rw [ζa] at hl hy
 refine zdp (ns:=ns) (I.ok.hd hc) hb pl.isList (by simpa using wM r') (by rw [List.size_toArray]; unfold scanBound; omega) fun h' tk hS hk=>?_
 have z2:its.toArray.size=ns.length:=by rw [ζP,hl]
 rw [z2,We] at hS
 exact ⟨.ref s.heap.objs.size,_,I.laid (t':=tk) hk (ζm _) (U0 hS),rfl,q _ (I.hok.fresh (ζm _))⟩
def W7 (b:Bool):List V→Hp→VK→Prop:=fun xs H Q=>∃ p l,xs=[.ref p]∧H p=some (SetB b p l)∧l.length < 64∧∀ c,H c=none→Q (.ref c) (upd H c (.lst ((srt l).map V.int)))
theorem Wr (hc:X.calm=true) (hb:X.w.params.followText "set-order" = b):yB X (.builtin "sorted") (W7 b):=by
 intro pins s σ H xs us Q I r h
 obtain ⟨p,l,rfl,hH,h64,q⟩:=h
 obtain ⟨u,rfl,rx⟩:=xJ r
 cases rx
 have hS:SetI (!b) p l s.heap:=(I.hok p _ hH).1
 refine zbG (I.ok.hd hc) hb hS h64 fun out ns c e h' d tk a1 a2 a3 hk hle he=>?_
 have e1:=V3 a2 a3
 subst e1
 have I1:Inv X pins σ (upd H c (.lst ((srt l).map V.int))) { s with heap:=h',toks:=tk }:=I.laid (t':=tk) hk hle (show yR X.prog X.w _ _ _ (.lst ((srt l).map V.int)) from ⟨by rw [List.length_map,(vQ l).length_eq,sizeLine_eq]; omega,out.toList,e,vp a1,by simpa using he⟩)
 have I2:=I1.call (ch:=[]) (h':=h') (g':=s.gens) (d':=d) (t':=tk) Un.refl I1.hok I1.bare (fun _ z=>nomatch z)
 exact ⟨.ref c,_,I2,rfl,q _ (I.hok.fresh hle)⟩
def zc0 (b:Bool):List V→Hp→VK→Prop:=fun xs H Q=>∃ p l,xs=[.ref p]∧H p=some (SetB b p l)∧Q (.int l.length) H
theorem QF:yB X (.builtin "len") (zc0 b):=by
 intro pins s σ H xs us Q I r h
 obtain ⟨p,l,rfl,hH,q⟩:=h
 obtain ⟨u,rfl,rx⟩:=xJ r
 cases rx
 obtain ⟨o,es,ep,t,ho,hex,hd,_,hp,hz,hf,_⟩:SetI (!b) p l s.heap:=(I.hok p _ hH).1
 have e:es.size=l.length:=by have:=hp.length_eq; simpa using this
 exact PySem.call_len_set ho hex hd hf (by unfold scanBound at hz; omega) ⟨.int l.length,H,I.tok _,⟨_,by rw [e]⟩,q⟩
end
end L2
namespace PD
open PySem L2
section
variable {K:ζb} {S S':Sx} {κ κ' b:Bool} {Γ Γ' Γ'':Ctx} {P:Post}
theorem YH {ta:TE} {ns:List Int} (h:EvL K S false ta Γ (ns.map .int)) (hz:ns.length < 64):EvO K S κ (tCB (W7 b) (zE (tCB (U4 K b) (zE ta tNil)) tNil)) Γ ((srt (dd ns)).map .int):=fun H0 F0 H F σ e Q q =>
 h H0 F0 H F σ e _ fun a vs H1 F1 g1 p1 k1=>by
  cases yl (zU k1)
  refine ⟨a,ns,rfl,p1,by omega,fun p hp=>⟨p,dd ns,rfl,zp,Nat.lt_of_le_of_lt (UD ns) hz,fun c hc=>?_⟩⟩
  have g2:=g1.trans (.newO g1.le hp (SetB b p (dd ns)))
  exact q c _ _ F1 (g2.trans (.newO g2.le hc _)) (g2.h.free hc) zp (g2.le.free hc) (vx _)
end
end PD
namespace L2
open PySem PySem.Spec PyProof.Rows
def Ite (K:ζb) (a:Addr):It :=
 ⟨fun i H=>∃ xs x,SqL K H a xs∧xs[i]?=some x,
  fun i H x H'=>∃ T u,H T=none∧x=.ref T∧H'=upd H T (.tup [.int i,u])∧∀ xs,SqL K H a xs→xs[i]?=some u,
  fun i H=>∃ xs,SqL K H a xs∧xs.length≤i⟩
theorem TW {P:Program} {w:World} {K:ζb} {es:List Expr} {k:Nat} {tpos:Pos} (a n:Addr) :
  Turn P w K (.Tuple es k tpos) (Ite K a) [n + 1,n] (n + 1) (fun i h=>(∃ old,IsEnum h (n + 1) n i old)∧h.IsListIter n a i) where
 mem:=by simp
 obj:=fun i h st c hc=>by
  obtain ⟨⟨v,hz⟩,⟨o1,e1,_,d1⟩⟩:=st
  simp only [List.mem_cons,List.not_mem_nil,or_false] at hc
  rcases hc with rfl | rfl
  ·exact ⟨_,hz,fun v z=>by have z':Data.fields _=Data.cell v:=z; cases z'⟩
  ·exact ⟨_,e1,fun v z=>by rw [d1] at z; cases z⟩
 keep:=fun i h h' st k=>by
  obtain ⟨⟨v,hz⟩,h1⟩:=st
  exact ⟨⟨v,k _ (by simp) _ hz⟩,h1.at fun o e=>k _ (by simp) o e⟩
 item:=by
  intro X hP hw hK hc i pins s σ H E I hf st hg
  subst hP hw hK
  obtain ⟨⟨old,hz⟩,h1⟩:=st
  obtain ⟨xs,x,hxs,hx⟩:=hg
  obtain ⟨its,rx,px,zx⟩:=I.list hxs
  obtain ⟨u,hu,ru⟩:=rx.get hx
  have hne:n + 1≠n:=ad (by omega)
  refine wpAny_pyNext_enum_item hz h1 px.isList (x:=u) (by simpa using hu) hne fun h' z' i1' t' sz' kp=>?_
  refine ⟨_,rfl,wpAny_letOwnedTupleGo_enum z' fun h'' z'' sb=>?_⟩
  have kp2:∀ c o,c∉[n + 1,n]→s.heap.get? c=some o→h''.get? c=some o:=fun c o hc e =>
   (sb.2 c (fun z=>hc (by simp [z]))).trans (kp c o (fun z=>hc (by simp [z])) (fun z=>hc (by simp [z])) e)
  have lts:∀ c∈[n + 1,n],c < s.heap.objs.size:=fun c hc=>by
   obtain ⟨_,e1,_⟩:=id h1
   simp only [List.mem_cons,List.not_mem_nil,or_false] at hc
   rcases hc with rfl | rfl
   ·exact ζn hz
   ·exact ζn e1
  have tz:s.heap.objs.size≠n + 1:=Nat.ne_of_gt (lts _ (by simp))
  refine ⟨.ref s.heap.objs.size,upd H s.heap.objs.size (.tup [.int i,x]),I.turnNew (t':=s.toks + 1) hf kp2 (ζm _) ?_,rfl,⟨_,x,I.hok.fresh (ζm _),rfl,rfl,fun zs hq=>by rw [I.list_inj hq hxs]; exact hx⟩,?_,fun c hc=>?_⟩
  ·refine ⟨by show 2≤sizeLine; decide,[.int i s.toks,u],.cons ⟨_,rfl⟩ (.cons ru .nil),⟨_,(sb.2 _ tz).trans t',rfl,_,rfl⟩⟩
  ·exact ⟨⟨_,z''⟩,i1'.at fun o e=>(sb.2 _ (Ne.symm hne)).trans e⟩
  ·rw [zt (ζG (lts c hc))]
   exact (hf c hc).1
 done:=by
  intro X hP hw hK hc i pins s σ H E I hf st hg
  subst hP hw hK
  obtain ⟨⟨old,hz⟩,h1⟩:=st
  obtain ⟨xs,hxs,hl⟩:=hg
  obtain ⟨its,rx,px,zx⟩:=I.list hxs
  have l1:=rx.length
  have hend:its.toArray[i]?=none:=by
   simp
   omega
  exact wpAny_pyNext_enum_end (I.ok.hd hc) hz h1 px.isList hend fun h' kp=>⟨rfl,I.turnAll (t':=s.toks) hf fun c o hc e=>kp c o (fun z=>hc (by simp [z])) e⟩
 self:=fun _ _ _ _ _ st h=>let ⟨_,z⟩:=st.1; wpAny_pyIter_enum z h
section
variable {X:Cx} {K:ζb}
def zda (K:ζb) (ta:TA):TI:=fun σ H R=>ta σ H fun vs H1=>∃ a,vs=[.ref a]∧(∃ xs,SqL K H1 a xs)∧R (Ite K a) H1
theorem zak {a:Expr} {ta:TA} {p pos:Pos} {es:List Expr} {k:Nat} {tpos:Pos} (hK:X.K=K) (hg:Gl X "enumerate") (hm:X.mg "enumerate" = none) (ha:PA X [a] ta) (he:starEach (a :: []) X.env=(false,eval a X.env) :: starEach [] X.env:=by rfl)
  (hpl:(backTo pos (starEach [] X.env)).any (·.1)=false:=by rfl):PI X (.Tuple es k tpos) (.Call (.Name "enumerate" p) [a] [] pos) (zda K ta):=by
 subst hK
 intro pins s σ H R I h
 refine wpAny_Call_Name_kw (uj I hg hm (u:=.type "enumerate") (by decide +kernel) ?_ (by decide) (by decide))
 refine PyProof.Rows.callWith_type1 (thn (ha pos pins s σ H _ I h) fun us s1 ⟨vs,H1,I1,r1,q1⟩=>?_) he hpl
 obtain ⟨a1,rfl,⟨xs,hx⟩,q⟩:=q1
 obtain ⟨u,rfl,ru⟩:=xJ r1
 cases (show u=Value.ref a1 from ru)
 obtain ⟨its,rx,px,zx⟩:=I1.list hx
 refine call_enumerate_list px.isList fun h' hz h1 sz kp=>?_
 refine wpAny_pyIter_enum hz ?_
 refine ⟨s1.heap.objs.size + 1,_,_,_,H1,rfl,I1.kept (t':=s1.toks) kp,TW a1 s1.heap.objs.size,⟨⟨_,hz⟩,h1⟩,fun c hc=>?_,q⟩
 have hc':s1.heap.objs.size≤c:=by
  simp only [List.mem_cons,List.not_mem_nil,or_false] at hc
  rcases hc with rfl | rfl
  ·exact ζ8 _ _
  ·exact ζm _
 exact I1.fpOk hc' (I1.hok.fresh hc')
end
end L2
namespace PD
open PySem L2
section
variable {K:ζb} {S S':Sx} {κ κ':Bool} {Γ Γ' Γ'':Ctx} {P:Post}
theorem zcz {t:TA} {xs:List PyData} (h:EvA K S κ t Γ [.list xs]):EvI K S κ (zda K t) Γ (xs.mapIdx fun i x=>.tuple [.int (i:Nat),x]):=fun H0 F0 H F σ e R q =>
 h H0 F0 H F σ e _ fun vs H1 F1 g1 p1=>by
  cases p1 with
  | cons p p1 =>
   cases p1
   obtain ⟨a,us,rfl,h1,h2⟩:=x9 p
   have l1:=zj.length h2
   have up:∀ {F' H':Hp},Same F1 F'→Same F' H'→SqL K H' a us:=fun s1 s2=>(s1.trans s2).seq h1.sq
   refine ⟨a,rfl,⟨us,up (.refl _) g1.le⟩,q _ H1 F1 g1 ⟨fun i H' F' s1 s2 hi=>?_,fun i H' F' x H'' s1 s2 sd hi y=>?_,fun H' F' s1 s2=>?_⟩⟩
   ·rw [List.length_mapIdx] at hi
    exact ⟨us,us[i]'(by omega),up s1 s2,by simp⟩
   ·obtain ⟨T,u,hT,rfl,rfl,y1⟩:=y
    obtain ⟨d,hd,hp⟩:=zj.get' h2 (y1 us (up s1 s2))
    have s3:Same F' (upd F' T (.tup [.int i,u])):=Same.new (s2.free hT) _
    exact ⟨.tuple [.int i,d],_,by rw [List.getElem?_mapIdx,hd]; rfl,.new s2 hT _,.tup (SqT.of zp) (.cons (.int _) (.cons (yK (s1.trans s3) hp) .nil))⟩
   ·exact ⟨us,up s1 s2,by rw [List.length_mapIdx]; omega⟩
end
end PD
namespace L2
open PySem PySem.Spec PyProof.Rows
section
variable {X:Cx} {K:ζb} {e:Expr} {te:TE} {lo hi:Option Expr} {st:Expr} {tl th ts:TO} {p2 pos:Pos}
end
end L2
namespace PD
open PySem L2
section
variable {K:ζb} {S S':Sx} {κ κ':Bool} {Γ Γ' Γ'':Ctx} {P:Post}
theorem zdb {te:TE} {i:Nat} {ds:List PyData} {G:PyData→Prop} {Γd:PyData→Ctx} (h:GetC Γ i (.ow κ ds)) (he:EvG K S κ te Γ G) (es:∀ d,SetC Γ i (some (.ow κ (ds ++ [d]))) (Γd d)) (hz:ds.length < sizeLine) (k:∀ d,G d→P.nx (Γd d)) :
  ExS K S (xH (tBM K "list" y8 (tVar i) (zE te tNil))) Γ P:=fun H0 F0 H F σ B e b _ D I=>by
 obtain ⟨v0,q1,a,vs,rfl,w,q5⟩:=e.has i _ h.eq
 refine ⟨_,q1,.inl ⟨rfl,_,SqL.of w.h⟩,he H0 F0 H F σ e _ fun d v H' F' hd g p=>?_⟩
 have k':=zD g.f q5
 refine ⟨a,vs,v,rfl,rfl,g.h _ _ w.h,by rw [zj.length q5]; exact hz,?_⟩
 have kk:=k d hd
 rw [← (es d).eq] at kk
 exact I.nx _ _ _ F' kk (b.trans g.f) ((e.mono g).put (y:=.ow κ (ds ++ [d])) h.eq q1 (show Owns H' (.ref a) (.ow κ ds) a from rfl) ⟨a,_,rfl,⟨zp,(w.mono g).f,w.n,w.s⟩,zj.append k' (.cons p .nil)⟩ fun _ z=>z)
end
end PD
namespace L2
open PySem
end L2
namespace L2
open PySem PySem.Spec PyProof.Rows
theorem Xo:entryFor table "set.__and__" = some Builtin.«frozenset.__and__»:=entryFor_alias (id' := "frozenset.__and__") (by kernel_rfl) rfl (by decide +kernel) (by kernel_rfl)
def Z8 (b:Bool) (m:Nat) (a:Addr) (h:Heap):Prop:=∃ o ep t,h.get? a=some o∧o.ExactSet∧o.data=.set #[] ep t∧TOk b t∧t.place=#[]∧(∃ k,t.mask + 1=2 ^ k)∧m≤t.mask
theorem Z8.fits {t:SetTable} {b:Bool} (h:TOk b t) (e:t.place=#[]):t.fits (#[]:Array (Int×Value)).size=true:=by
 unfold SetTable.fits SetTable.fill
 rw [e,h.dum]
 simp
theorem Z8.set {b:Bool} {m:Nat} {a:Addr} {h:Heap} (x:Z8 b m a h):SetI b a [] h:=by
 obtain ⟨o,ep,t,ho,hx,hd,ht,hp,_⟩:=x
 exact ⟨o,#[],ep,t,ho,hx,hd,(fun e z=>by simp at z),.nil,by decide,Z8.fits ht hp,ht⟩
section
variable {prog:Program} {w:World} {A:Around} {E:Value→Shared→Prop} {s:Shared} {b:Bool} {a r o:Addr} {l l1 l2:List Int} {m:Nat}
end
section
variable {prog:Program} {w:World} {A:Around} {E:Value→Shared→Prop} {s:Shared} {bt:Bool} {a r o:Addr} {l l1 l2:List Int} {m:Nat}
theorem zcc {Q:Value→Shared→Prop} (hb:w.params.followText "set-order" = bt)
  (k:∀ ob,Z8 (!bt) 7 s.heap.objs.size (s.heap.push ob)→Q (.ref s.heap.objs.size) { s with heap:=s.heap.push ob }):wpAny (model prog w) A (newSet (.type "set")) Q E s:=by
 unfold newSet setsByText
 refine wpAny_bind (wpAny_bind (wpAny_askSetting (wpAny_pure ?_)))
 rw [show (model prog w).w.params.followText "set-order" = bt from hb]
 dsimp only
 simp only [newObj]
 exact wpAny_bind (wpAny_alloc (wpAny_pure (k _ ⟨_,0,_,ζp _ rfl,⟨rfl,rfl,rfl⟩,rfl,TOk.fresh,rfl,⟨3,rfl⟩,ζm _⟩)))
theorem zdz {sets:List Addr} {Q:Bool→Shared→Prop} (h:∀ a∈sets,∃ b l,SetI b a l s.heap) (k:Q true s):wpAny (model prog w) A (setsQuiet sets) Q E s:=by
 unfold setsQuiet
 refine wpAny_bind (wpAny_forIn_list _ (fun rest r s'=>r.1=none∧s'=s∧∀ a∈rest,∃ b l,SetI b a l s.heap) _ ?_ ?_ _ _ ⟨rfl,rfl,h⟩)
 ·rintro x rest ⟨r1,r2⟩ s' ⟨e1,rfl,hr⟩
  obtain ⟨b,l,ob,es,ep,t,ho,hex,hd,hE,hp,hz,hf,ht⟩:=hr x (.head _)
  refine wpAny_bind (wpAny_setEntries_of ho hd hf ?_)
  refine wpAny_bind (wpAny_forIn_array' _ (fun rest r s''=>r.1=none∧s''=s'∧∀ e∈rest,IsE e) _ ?_ ?_ _ _ ⟨rfl,rfl,hE⟩)
  ·rintro e rest2 ⟨q1,q2⟩ s'' ⟨e2,rfl,h2⟩
   obtain ⟨k',t',rfl⟩:=h2 e (.head _)
   exact wpAny_pure ⟨rfl,rfl,fun y hy=>h2 y (.tail _ hy)⟩
  ·rintro ⟨q1,q2⟩ s'' ⟨e2,rfl,_⟩
   have e2:q1=none:=e2
   subst e2
   exact wpAny_pure ⟨rfl,rfl,fun y hy=>hr y (.tail _ hy)⟩
 ·rintro ⟨r1,r2⟩ s' ⟨e1,rfl,_⟩
  have e1:r1=none:=e1
  subst e1
  exact wpAny_pure k
end
section
variable {prog:Program} {w:World} {A:Around} {E:Value→Shared→Prop} {s:Shared} {bt:Bool} {a r o p q:Addr} {l l1 l2:List Int} {m:Nat}
theorem Wz {h:Heap} {Q:Bool→Shared→Prop} {b:Bool} (hS:SetI b a l s.heap) (k:Q true s):wpAny (model prog w) A (Builtin.Frozenset.isAnySet (.ref a)) Q E s:=by
 obtain ⟨ob,_,_,_,ho,hx,_⟩:=hS
 unfold Builtin.Frozenset.isAnySet
 refine wpAny_bind (wpAny_isInstance (b:=true) ⟨ob,ho,hx.1⟩ sub_set_self (wpAny_pure k))
end
section
variable {X:Cx} {K:ζb} {b:Bool}
theorem zeF (ns:List Int):(dd ns).Nodup:=by
 suffices z:∀ n,(dd (ns.take n)).Nodup by simpa using z ns.length
 intro n
 induction n with
 | zero=>exact List.nodup_nil
 | succ n ih =>
  by_cases hn:n < ns.length
  ·have e:ns.take (n + 1)=ns.take n ++ [ns[n]]:=by rw [List.take_succ,ζf hn]; rfl
   rw [e,Wp]
   unfold step_dedup
   split
   ·exact ih
   ·rename_i h
    rw [ξB]
    refine ⟨ih,by simp,fun x hx y hy=>?_⟩
    rw [ζh.mp hy]
    rintro rfl
    exact h (List.any_eq_true.mpr ⟨_,hx,by simp⟩)
  ·have e1:ns.take (n + 1)=ns.take n:=by rw [ζA (by omega),ζA (by omega)]
   rw [e1]
   exact ih
end
end L2
namespace PD
open PySem L2
section
variable {K:ζb} {S S':Sx} {κ κ' b:Bool} {Γ Γ' Γ'':Ctx} {P:Post}
end
section
variable {K:ζb} {S S':Sx} {κ κ':Bool} {Γ Γ' Γ'':Ctx} {P:Post}
end
end PD
namespace L2
open PySem PySem.Spec PyProof.Rows
section
variable {prog:Program} {w:World} {A:Around} {E:Value→Shared→Prop} {s:Shared}
end
section
variable {X:Cx} {K:ζb} {pos:Pos}
end
section
variable {P:Program} {w:World} {K:ζb} {mg:Str→Option Value} {base:Heap}
end
section
variable {X:Cx} {CX:CXT} {k:Nat} {ps:List Str} {sp:Sp} {E:XK} {x:Str} {p pos:Pos} {e:Expr} {es:List Expr} {t:TA}
end
end L2
namespace Cm
open PySem L2
end Cm
namespace PD
open PySem L2
section
variable {K:ζb} {S S':Sx} {κ κ':Bool} {Γ Γ' Γ'':Ctx} {P:Post}
theorem Tw {te:TE} {g:TG} {js:List Nat} {G:PyData→Prop} (h:EvG K S κ te Γ G) (hg:∀ d,G d→ExG K S κ g js d Γ P.nx):ExS K S (tAsg te g) Γ P:=fun H0 F0 H F σ B e b _ D I =>
 h H0 F0 H F σ e _ fun d v H1 F1 hd g1 p1=>hg d hd H0 F0 H1 F1 σ v (e.mono g1) p1 _ fun Γ' σ' H' F' n g2 e' _ _=>I.nx Γ' σ' H' F' n (b.trans (g1.f.trans g2.f)) e'
end
end PD
namespace El
open Wd Sh Sx2
def vr (ss:List Int) (k:Nat):List Int:=rng (ss.getD k 0).toNat
theorem Q3 {ss ws:List Int} (h:ss.length=ws.length) (s v:Int):rkF (ss ++ [s]) (ws ++ [v])=rkF ss ws * s + v:=by
 unfold rkF
 rw [List.zip_append h,ξi]
 rfl
theorem UM:∀ (n:Nat) (ss w:List Int),ss.length=n→w.length=n→(∀ (i:Nat) s v,ss[i]?=some s→w[i]?=some v→0≤v∧v < s)→wld ss (rkF ss w)=w
 | 0,ss,w,h1,h2,_=>by
  rw [ξT h1,ξT h2]
  rfl
 | n + 1,ss,w,h1,h2,hr=>by
  rcases List.eq_nil_or_concat ss with e | ⟨ss',s,e⟩
  ·rw [e] at h1; cases h1
  rcases List.eq_nil_or_concat w with e' | ⟨w',v,e'⟩
  ·rw [e'] at h2; cases h2
  subst e e'
  rw [List.concat_eq_append] at *
  rw [List.concat_eq_append] at *
  have l1:ss'.length=n:=by rw [ζj] at h1; exact Nat.succ.inj h1
  have l2:w'.length=n:=by rw [ζj] at h2; exact Nat.succ.inj h2
  have hv:=hr n s v (by rw [ζN (by omega),l1,ξF]; rfl) (by rw [ζN (by omega),l2,ξF]; rfl)
  have ih:=UM n ss' w' l1 l2 fun i s v z1 z2=>hr i s v (by
   have:=(ζe.mp z1).1
   rw [ζ1 this]; exact z1) (by
   have:=(ζe.mp z2).1
   rw [ζ1 this]; exact z2)
  rw [Q3 (l1.trans l2.symm),WD]
  have e1:(rkF ss' w' * s + v) / s=rkF ss' w':=by
   rw [Int.add_comm,Int.add_mul_ediv_right _ _ (by omega),Int.ediv_eq_zero_of_lt hv.1 hv.2,Int.zero_add]
  have e2:(rkF ss' w' * s + v) % s=v:=by
   rw [Int.add_comm,Int.add_mul_emod_self_right,ξ3 hv.1 hv.2]
  rw [e1,e2,ih]
def oth (ks:List Nat) (k:Nat):List Nat:=ks.filter fun x=>x≠k
end El
namespace PD
open PySem L2
section
variable {K:ζb} {S S':Sx} {κ:Bool} {Γ:Ctx} {P:Post}
end
end PD
namespace L2
open PySem PySem.Spec PyProof.Rows
section
variable {P:Program} {w:World} {K:ζb} {mg:Str→Option Value} {base:Heap}
end
end L2
namespace PD
open PySem L2
section
variable {K:ζb} {S S':Sx} {κ κ':Bool} {Γ Γ' Γ'':Ctx} {P:Post} {E:XK} {C:Addr}
theorem Wl {c:TT} {t u:TE} {b:Bool} {d:PyData} (hc:EvT K S c Γ b) (h1:b=true→EvE K S κ t Γ d) (h2:b=false→EvE K S κ u Γ d):EvE K S κ (tIf c t u) Γ d:=fun H0 F0 H F σ e Q q =>
 hc H0 F0 H F σ e _ fun H1 F1 g=>by
  cases b with
  | true=>exact iteT (h1 rfl H0 F0 H1 F1 σ (e.mono g) Q fun v H2 F2 g2 p=>q v H2 F2 (g.trans g2) p)
  | false=>exact iteF (h2 rfl H0 F0 H1 F1 σ (e.mono g) Q fun v H2 F2 g2 p=>q v H2 F2 (g.trans g2) p)
end
section
variable {K:ζb} {S S':Sx} {κ κ':Bool} {Γ Γ' Γ'':Ctx} {P:Post}
def EvIG (K:ζb) (S:Sx) (κ:Bool) (t:TI) (Γ:Ctx) (G:List PyData→Prop):Prop:=∀ (H0 F0 H F:Hp) (σ:St),DEnv K S H0 F0 H F σ Γ→∀ R:It→Hp→Prop,(∀ ds J H' F',G ds→Gr H F H' F'→ItD K S κ H0 F' J ds→R J H')→t σ H R
theorem VI {t:TE} {G:PyData→Prop} (h:EvG K S κ t Γ G) (hg:∀ d,G d→∃ ds,d=.list ds):EvIG K S κ (Vy K t) Γ (fun ds=>G (.list ds)):=fun H0 F0 H F σ e R q =>
 h H0 F0 H F σ e _ fun d v H1 F1 hd g1 p1=>by
  obtain ⟨ds,rfl⟩:=hg d hd
  obtain ⟨a,vs,rfl,h1,h2⟩:=x9 p1
  have hl:=zj.length h2
  have up:∀ {F' H':Hp},Same F1 F'→Same F' H'→SqL K H' a vs:=fun s1 s2=>(s1.trans s2).seq h1.sq
  refine ⟨a,rfl,⟨vs,up (.refl _) g1.le⟩,q ds _ H1 F1 hd g1 ⟨fun i H' F' s1 s2 hi=>?_,fun i H' F' x H'' s1 s2 _ hi y=>?_,fun H' F' s1 s2=>?_⟩⟩
  ·exact ⟨vs,vs[i]'(by omega),up s1 s2,by simp⟩
  ·obtain ⟨rfl,y⟩:=y
   obtain ⟨d,hd,hp⟩:=zj.get' h2 (y vs (up s1 s2))
   exact ⟨d,F',hd,.refl s2,yK s1 hp⟩
  ·exact ⟨vs,up s1 s2,by omega⟩
end
section
variable {K:ζb} {S S':Sx} {κ κ':Bool} {Γ Γ' Γ'':Ctx} {P:Post} {xs ys zs:List PyData}
end
section
variable {K:ζb} {S S':Sx} {κ κ':Bool} {Γ Γ' Γ'':Ctx} {P:Post} {E:XK}
end
section
variable {K:ζb} {S S':Sx} {κ κ':Bool} {Γ Γ' Γ'':Ctx} {P:Post}
end
end PD
namespace L2
open PySem PySem.Spec PyProof.Rows
section
variable {prog:Program} {w:World} {A:Around} {E:Value→Shared→Prop} {s:Shared} {b bt:Bool} {a r o p q:Addr} {l l1 l2:List Int}
theorem zey {k:Int} {tk:Tok} {Q:Option Nat→Shared→Prop} (hS:SetI b a l s.heap) (h:∀ x:Option Nat,(x.isSome=true↔k∈l)→Q x s):wpAny (model prog w) A (setFind a (.int k tk) (hashInt k)) Q E s:=by
 obtain ⟨ob,es,ep,t,ho,hex,hd,hE,hp,hz,hf,ht⟩:=hS
 have hel:ElemsOf (intKind prog w) es.toList:=IsE.elems hE
 have hm:k∈l↔∃ e∈es.toList,(intKind prog w).is k e.2=true:=by
  rw [← hp.mem_iff,ζq]
  exact ⟨fun ⟨e,x,y⟩=>⟨e,x,((hE e x).is k).mpr y⟩,fun ⟨e,x,y⟩=>⟨e,x,((hE e x).is k).mp y⟩⟩
 unfold setFind setFindIn
 refine wpAny_bind (wpAny_setState_of ho hd hf ?_)
 dsimp only
 rw [byScan_of (knd:=intKind prog w) (x:=.int k tk) rfl hz hel]
 simp only [↓reduceIte]
 refine wpAny_bind (wpAny_rule ?_)
 refine wpAny_bind (wpAny_setScan_of (knd:=intKind prog w) (k:=k) (intKind_is _ _ k tk) ho hd hf hel ?_)
 cases hr:List.findIdx? (fun e=>(intKind prog w).is k e.2) es.toList with
 | none =>
  dsimp only
  refine wpAny_pure (h none ⟨fun z=>(by cases z),fun z=>?_⟩)
  obtain ⟨e,he,hpe⟩:=hm.mp z
  have q:=List.findIdx?_eq_none_iff.mp hr e he
  rw [hpe] at q; cases q
 | some j =>
  dsimp only
  obtain ⟨hj,hpj,_⟩:=List.findIdx?_eq_some_iff_getElem.mp hr
  exact wpAny_pure (h (some (0 + j)) ⟨fun _=>hm.mpr ⟨es.toList[j],ξv hj,hpj⟩,fun _=>rfl⟩)
theorem zeh {also:List Addr} {Q:Array (Int×Value)→Shared→Prop} (hb:w.params.followText "set-order" = bt) (hR:SetI (!bt) r l1 s.heap) (hO:SetI (!bt) o l2 s.heap) (hA:∀ x∈also,∃ c l,SetI c x l s.heap)
  (k:∀ (ws:Array (Int×Value)) h',(∀ e∈ws.toList,IsE e)→(ws.toList.map kOf).Perm l2→Heap.SameBut r s.heap h'→SetI (!bt) r l1 h'→Q ws { s with heap:=h' }):wpAny (model prog w) A (setWalkUnseen o also (some r)) Q E s:=by
 obtain ⟨ob,es,ep,t,ho,hex,hd,hE,hp,hz,hf,ht⟩:=id hO
 have ks:∀ ws:Array (Int×Value),ws.toList.Perm es.toList→Q ws s:=fun ws pm=>k ws s.heap (fun e x=>hE e (pm.mem_iff.mp x)) ((pm.map kOf).trans hp) (Heap.SameBut.refl _ _) hR
 unfold setWalkUnseen
 refine wpAny_bind (wpAny_setState_of ho hd hf ?_)
 dsimp only
 unfold setsByText
 refine wpAny_bind (wpAny_bind (wpAny_askSetting (wpAny_pure ?_)))
 rw [show (model prog w).w.params.followText "set-order" = bt from hb]
 cases bt with
 | true =>
  simp only [Bool.true_or,↓reduceIte]
  unfold setWalk
  refine wpAny_bind (wpAny_setState_of ho hd hf ?_)
  dsimp only
  unfold setsByText
  refine wpAny_bind (wpAny_bind (wpAny_askSetting (wpAny_pure ?_)))
  rw [show (model prog w).w.params.followText "set-order" = true from hb]
  simp only [↓reduceIte]
  exact wpAny_bind (wpAny_askSetting (wpAny_pure (ks _ (vV _ _))))
 | false =>
  have led:t.led=true:=ht.led
  by_cases c:(false || (t.led && t.plain) || decide (es.size≤1))=true
  ·rw [if_pos c]
   unfold setWalk
   refine wpAny_bind (wpAny_setState_of ho hd hf ?_)
   dsimp only
   unfold setsByText
   refine wpAny_bind (wpAny_bind (wpAny_askSetting (wpAny_pure ?_)))
   rw [show (model prog w).w.params.followText "set-order" = false from hb]
   simp only [Bool.false_eq_true,↓reduceIte]
   split
   ·rename_i z
    have z:(!t.plain && decide (es.size > 1))=true:=z
    rw [led] at c
    simp at c z
    have y:¬ 1 < es.size:=by
     rcases c with c | c
     ·rw [c] at z
      exact absurd z.1 (by decide)
     ·omega
    exact absurd z.2 y
   ·refine wpAny_bind (wpAny_of_eq (a:=()) ?_ ?_)
    ·show (if (!t.led && decide (es.size > 1))=true then _ else _)=_
     rw [led]
     rfl
    ·exact wpAny_pure (ks es (.refl _))
  ·rw [if_neg c]
   refine wpAny_bind (zdz (fun x hx=>?_) ?_)
   ·rcases ζs.mp hx with rfl | hx
    ·exact ⟨_,_,hO⟩
    ·exact hA x hx
   rw [if_neg (by decide)]
   refine wpAny_bind (wpAny_rule ?_)
   obtain ⟨ob1,es1,ep1,t1,ho1,hex1,hd1,hE1,hp1,hz1,hf1,ht1⟩:=id hR
   refine wpAny_bind (wpAny_setState_of ho1 hd1 hf1 ?_)
   dsimp only
   split
   ·refine wpAny_bind (wpAny_storeSet_of ho1 hd1 ?_ (fits_of_scanBound hz1))
    refine wpAny_pure (k es _ hE hp (Heap.SameBut.update ..) ⟨_,es1,_,_,V2 ho1 hd1 _ _,hex1,rfl,hE1,hp1,hz1,hf1,⟨?_,ht1.rise,ht1.dum⟩⟩)
    show (t1.led && t.led)=_
    rw [ht1.led,led]
    rfl
   ·exact wpAny_pure (ks es (.refl _))
theorem zcS {Q:Nat→Shared→Prop} (hS:SetI b a l s.heap) (k:Q l.length s):wpAny (model prog w) A (Builtin.Frozenset.sizeOf a) Q E s:=by
 obtain ⟨ob,es,ep,t,ho,hex,hd,hE,hp,hz,hf,ht⟩:=hS
 have hn:es.size=l.length:=by have:=hp.length_eq; simpa using this
 unfold Builtin.Frozenset.sizeOf
 refine wpAny_bind (wpAny_setEntries_of ho hd hf (wpAny_pure ?_))
 rw [hn]
 exact k
theorem zcB {l:List Int} {k:Int} (nd:l.Nodup):(step_dedup l k).Nodup∧(∀ x,x∈step_dedup l k↔x∈l∨x=k)∧(step_dedup l k).length≤l.length + 1:=by
 unfold step_dedup
 split
 ·rename_i z
  obtain ⟨y,hy,ey⟩:=ξe.mp z
  have ey:=eq_of_beq ey
  subst ey
  exact ⟨nd,fun x=>⟨.inl,fun z=>z.elim id fun z=>z ▸ hy⟩,by omega⟩
 ·rename_i z
  refine ⟨?_,fun x=>by rw [ζu,ζh],by rw [ζj]; exact ζm _⟩
  rw [ξB]
  refine ⟨nd,by simp,fun x hx y hy=>?_⟩
  rw [ζh.mp hy]
  rintro rfl
  exact z (List.any_eq_true.mpr ⟨_,hx,by simp⟩)
theorem andI {Q:Value→Shared→Prop} (hb:w.params.followText "set-order" = bt) (hP:SetI (!bt) p l1 s.heap) (hR:SetI (!bt) q l2 s.heap) (hne:p≠q) (hl:l1.length + l2.length < 2000)
  (k:∀ h' l3,SetI (!bt) s.heap.objs.size l3 h'→(∀ c ob,s.heap.get? c=some ob→h'.get? c=some ob)→(∀ x,x∈l3↔x∈l1∧x∈l2)→l3.Nodup→l3.length≤l1.length + l2.length→Q (.ref s.heap.objs.size) { s with heap:=h' }) :
  wpAny (model prog w) A (binaryOp .BitAnd (.ref p) (.ref q)) Q E s:=by
 obtain ⟨op,_,_,_,hop,hxp,_⟩:=id hP
 obtain ⟨oq,_,_,_,hoq,hxq,_⟩:=id hR
 have hp:p < s.heap.objs.size:=ζn hop
 have hq:q < s.heap.objs.size:=ζn hoq
 have hT:s.TypeIs (.ref p) "set" := ⟨op,hop,hxp.1⟩
 refine wpAny_binaryOp_same hT ⟨oq,hoq,hxq.1⟩ F.fills_set_and F.slot_set_and (wpAny_call_entry F.slot_set_and hT Xo ?_ (F.args_set_and_2 _ _))
 unfold Builtin.«frozenset.__and__»
 show wpAny _ _ (do
  if !(← Builtin.Frozenset.isAnySet (.ref p) <&&> Builtin.Frozenset.isAnySet (.ref q)) then rule s!"frozenset.{"__and__"}.declined"; return ← ret .notImplemented
  ret (← Builtin.Frozenset.intersection s!"frozenset.{"__and__"}" p (.ref q))) _ _ _
 refine wpAny_bind (wpAny_bind (Wz (h:=s.heap) hP ?_))
 show wpAny _ _ (Builtin.Frozenset.isAnySet (Value.ref q)) _ _ _
 refine Wz (h:=s.heap) hR ?_
 simp only [Bool.not_true,Bool.false_eq_true,↓reduceIte]
 refine wpAny_bind ?_
 unfold Builtin.Frozenset.intersection
 rw [if_neg (by simpa using Ne.symm hne)]
 unfold Builtin.Frozenset.baseOf
 refine wpAny_bind (wpAny_bind (wpAny_isInstance (b:=true) ⟨op,hop,hxp.1⟩ sub_set_self (wpAny_pure ?_)))
 simp only [↓reduceIte]
 refine wpAny_bind (zcc hb fun o1 f1=>?_)
 unfold Builtin.Frozenset.addrOf
 refine wpAny_bind (wpAny_pure ?_)
 have up:∀ c ob,s.heap.get? c=some ob→(s.heap.push o1).get? c=some ob:=fun c ob z=>ζg _ z
 have hP1:SetI (!bt) p l1 (s.heap.push o1):=hP.at fun _ z=>up _ _ z
 have hR1:SetI (!bt) q l2 (s.heap.push o1):=hR.at fun _ z=>up _ _ z
 refine wpAny_bind (wpAny_holding ?_)
 refine wpAny_bind (Wz (s:={ s with heap:=s.heap.push o1 }) (h:=s.heap) hR1 ?_)
 rw [if_pos rfl]
 refine wpAny_bind (wpAny_pure ?_)
 refine wpAny_bind (zcS (s:={ s with heap:=s.heap.push o1 }) hR1 ?_)
 refine wpAny_bind (zcS (s:={ s with heap:=s.heap.push o1 }) hP1 ?_)
 obtain ⟨⟨ak,wk⟩,ep,la,lw,hA,hW,na,nw,hiff,hlw⟩:∃ pr:Addr×Addr,(if l2.length > l1.length then (q,p) else (p,q))=pr∧∃ la lw,SetI (!bt) pr.1 la (s.heap.push o1)∧SetI (!bt) pr.2 lw (s.heap.push o1)∧s.heap.objs.size≠pr.1∧s.heap.objs.size≠pr.2∧(∀ x,x∈la∧x∈lw↔x∈l1∧x∈l2)∧lw.length≤l1.length + l2.length:=by
  by_cases c:l2.length > l1.length
  ·exact ⟨_,if_pos c,l2,l1,hR1,hP1,ξb hq,ξb hp,fun x=>And.comm,by omega⟩
  ·exact ⟨_,if_neg c,l1,l2,hP1,hR1,ξb hp,ξb hq,fun x=>Iff.rfl,by omega⟩
 rw [ep]
 dsimp only at hA hW na nw ⊢
 obtain ⟨ob2,es2,ep2,t2,ho2,hx2,hd2,hE2,hp2,hz2,hf2,ht2⟩:=id hW
 refine wpAny_bind (wpAny_setEpoch_of (s:={ s with heap:=s.heap.push o1 }) ho2 hd2 hf2 ?_)
 refine wpAny_bind (zeh (s:={ s with heap:=s.heap.push o1 }) hb f1.set hW (fun x hx=>?_) fun ws h2 wE wp u2 f2=>?_)
 ·rcases ζs.mp hx with rfl | hx
  ·exact ⟨_,_,hA⟩
  ·rw [ζh.mp hx]; exact ⟨_,_,f1.set⟩
 refine wpAny_bind (wpAny_forIn_array' _ (fun rest _ s'=>∃ l h',s'={ s with heap:=h' }∧Heap.SameBut s.heap.objs.size (s.heap.push o1) h'∧SetI (!bt) s.heap.objs.size l h'∧(∀ e∈rest,IsE e)∧(∀ x,(x∈l∨(x∈la∧x∈rest.map kOf))↔x∈la∧x∈lw)∧l.Nodup∧l.length + rest.length≤lw.length) _ ?_ ?_ _ _ ⟨[],h2,rfl,u2,f2,wE,fun x=>by rw [wp.mem_iff]; simp,List.nodup_nil,by have:=wp.length_eq; rw [List.length_map] at this; simpa using Nat.le_of_eq this⟩)
 ·rintro e rest _ s' ⟨l,h',rfl,u,f,hE',hm,hnd,hlen⟩
  obtain ⟨kk,tk,rfl⟩:=hE' e (.head _)
  rw [ζL] at hlen
  have hA':SetI (!bt) ak la h':=hA.at fun ob z=>by rw [u.2 ak (Ne.symm na)]; exact z
  have un:∀ (h3:Heap) (Q':Unit→Shared→Prop),Heap.SameBut s.heap.objs.size h' h3→Q' () { s with heap:=h3 }→wpAny (model prog w) A.in1 (Builtin.Frozenset.unchanged s!"frozenset.{"__and__"}" wk ep2) Q' E { s with heap:=h3 }:=fun h3 Q' u3 qq=>by
   unfold Builtin.Frozenset.unchanged
   refine wpAny_bind (wpAny_setEpoch_of (s:={ s with heap:=h3 }) ?_ hd2 hf2 ?_)
   ·show h3.get? wk=some ob2
    rw [u3.2 wk (Ne.symm nw),u.2 wk (Ne.symm nw)]
    exact ho2
   ·rw [if_neg (by simp)]
    exact wpAny_pure qq
  refine wpAny_bind (wpAny_holding (wpAny_bind (zey (s:={ s with heap:=h' }) hA' fun x hx=>?_)))
  by_cases c:x.isSome=true
  ·rw [if_pos c]
   refine wpAny_bind (addI (s:={ s with heap:=h' }) f (by unfold scanBound; omega) fun rr h3 u3 f3=>wpAny_pure ?_)
   refine wpAny_bind (un h3 _ u3 (wpAny_pure ?_))
   obtain ⟨d1,d2,d3⟩:=zcB (k:=kk) hnd
   refine ⟨_,h3,rfl,u.trans u3,f3,fun y hy=>hE' y (.tail _ hy),fun y=>?_,d1,by omega⟩
   rw [← hm y,d2 y,ζT]
   show _↔_∨(_∧y∈kk :: _)
   rw [ζs]
   have ka:=hx.mp c
   constructor
   ·rintro ((z | rfl) | z)
    ·exact .inl z
    ·exact .inr ⟨ka,.inl rfl⟩
    ·exact .inr ⟨z.1,.inr z.2⟩
   ·rintro (z | ⟨z1,z | z⟩)
    ·exact .inl (.inl z)
    ·exact .inl (.inr z)
    ·exact .inr ⟨z1,z⟩
  ·rw [if_neg c]
   refine wpAny_pure (wpAny_bind (un h' _ (Heap.SameBut.refl _ _) (wpAny_pure ?_)))
   refine ⟨l,h',rfl,u,f,fun y hy=>hE' y (.tail _ hy),fun y=>?_,hnd,by omega⟩
   rw [← hm y,ζT]
   show _↔_∨(_∧y∈kk :: _)
   rw [ζs]
   have ka:kk∉la:=fun z=>c (hx.mpr z)
   constructor
   ·rintro (z | z)
    ·exact .inl z
    ·exact .inr ⟨z.1,.inr z.2⟩
   ·rintro (z | ⟨z1,rfl | z⟩)
    ·exact .inl z
    ·exact absurd z1 ka
    ·exact .inr ⟨z1,z⟩
 ·rintro _ s' ⟨l,h',rfl,u,f,_,hm,hnd,hlen⟩
  refine wpAny_pure (wpAny_pure ?_)
  exact wpAny_pure ⟨_,rfl,by simp,k h' l f (fun c ob z=>by rw [u.2 c (Nat.ne_of_lt (Heap.lt_size z))]; exact up c ob z) (fun x=>by rw [← hiff x,← hm x]; simp) hnd (by simp at hlen; omega)⟩
end
section
variable {X:Cx} {K:ζb} {b:Bool}
def zc3 (b:Bool):R2:=fun x y H Q=>∃ p q l1 l2,x=.ref p∧y=.ref q∧p≠q∧H p=some (SetB b p l1)∧H q=some (SetB b q l2)∧l1.length + l2.length < 2000 ∧
 ∀ c l3,H c=none→(∀ k,k∈l3↔k∈l1∧k∈l2)→l3.Nodup→l3.length≤l1.length + l2.length→Q (.ref c) (upd H c (SetB b c l3))
theorem zb5 (hc:X.calm=true) (hb:X.w.params.followText "set-order" = b):OpR X (binaryOp .BitAnd) (zc3 b):=by
 intro pins s σ H x y v u Q I rx ry h
 obtain ⟨p,q,l1,l2,rfl,rfl,hne,hp,hq,hz,k⟩:=h
 cases rx
 cases ry
 exact andI hb (I.hok p _ hp).1 (I.hok q _ hq).1 hne hz fun h' l3 f kk a1 a2 a3=>⟨.ref s.heap.objs.size,_,I.laid (t':=s.toks) kk (ζm _) (U0 f),rfl,k _ l3 (I.hok.fresh (ζm _)) a1 a2 a3⟩
end
end L2
namespace PD
open PySem L2
section
variable {K:ζb} {S S':Sx} {κ κ' b:Bool} {Γ Γ' Γ'':Ctx} {P:Post}
theorem Qw {ta tc:TE} {ns ms:List Int} (h1:EvL K S false ta Γ (ns.map .int)) (h2:EvL K S false tc Γ (ms.map .int)) (hz:ns.length + ms.length < 2000) :
  EvE K S κ (tCB (zc0 b) (zE (tOp (zc3 b) (tCB (U4 K b) (zE ta tNil)) (tCB (U4 K b) (zE tc tNil))) tNil)) Γ (.int ((dd ns).filter fun k=>decide (k∈ms)).length):=fun H0 F0 H F σ e Q q =>
 h1 H0 F0 H F σ e _ fun a vs H1 F1 g1 p1 k1=>by
  cases yl (zU k1)
  refine ⟨a,ns,rfl,p1,by omega,fun p hp=>?_⟩
  have g2:=g1.trans (.newO g1.le hp (SetB b p (dd ns)))
  refine h2 H0 F0 _ F1 σ (e.mono g2) _ fun c ws H3 F3 g3 p3 k3=>?_
  cases yl (zU k3)
  refine ⟨c,ms,rfl,p3,by omega,fun r hr=>?_⟩
  have g4:=(g2.trans g3).trans (.newO g3.le hr (SetB b r (dd ms)))
  have hpH:H3 p=some (SetB b p (dd ns)):=g3.h _ _ zp
  have hne:p≠r:=fun z=>by rw [z,hr] at hpH; cases hpH
  have d1:=UD ns
  have d2:=UD ms
  refine ⟨p,r,dd ns,dd ms,rfl,rfl,hne,by rw [zt hne]; exact hpH,zp,by omega,fun t l3 ht m3 n3 z3=>?_⟩
  have g5:=g4.trans (.newO g4.le ht (SetB b t l3))
  have el:l3.length=((dd ns).filter fun k=>decide (k∈ms)).length:=by
   refine List.Perm.length_eq ?_
   rw [List.perm_ext_iff_of_nodup n3 ((zeF ns).sublist ξY)]
   intro k
   rw [m3 k,ζ6,UC ms k,decide_eq_true_eq]
  refine ⟨t,l3,rfl,zp,?_⟩
  rw [el]
  exact q _ _ F3 g5 (.int _)
theorem zaB (ns ms:List Int):decide (((((dd ns).filter fun k=>decide (k∈ms)).length:Nat):Int) > 0)=ns.any fun k=>decide (k∈ms):=by
 rw [ξA,decide_eq_true_eq,ξe]
 constructor
 ·intro h
  obtain ⟨k,hk⟩:=List.exists_mem_of_length_pos (l:=(dd ns).filter fun k=>decide (k∈ms)) (by omega)
  obtain ⟨h1,h2⟩:=ζ6.mp hk
  exact ⟨k,(UC ns k).mp h1,h2⟩
 ·rintro ⟨k,h1,h2⟩
  have hk:k∈(dd ns).filter fun k=>decide (k∈ms):=ζ6.mpr ⟨(UC ns k).mpr h1,h2⟩
  have:=List.length_pos_of_mem hk
  omega
end
end PD
namespace L2
open PySem PySem.Spec PyProof.Rows
section
variable {X:Cx} {K:ζb}
theorem Vals.ofGet:∀ (xs:List V) (us:List Value),xs.length=us.length→(∀ (i:Nat) x u,xs[i]?=some x→us[i]?=some u→RelV x u)→Vals xs us
 | [],[],_,_=>.nil
 | [],_ :: _,h,_=>by cases h
 | _ :: _,[],h,_=>by cases h
 | x :: xs,u :: us,h,k=>.cons (k 0 x u rfl rfl) (Vals.ofGet xs us (Nat.succ.inj h) fun i y v h1 h2=>k (i + 1) y v h1 h2)
def zcW:List V→Hp→VK→Prop:=fun xs H Q=>∃ n:Int,xs=[.int n]∧∀ l,H l=none→Q (.ref l) (upd H l (.rng 0 n))
theorem QC:yB X (.type "range") zcW:=by
 intro pins s σ H xs us Q I r h
 obtain ⟨n,rfl,q⟩:=h
 obtain ⟨u,rfl,rx⟩:=xJ r
 obtain ⟨t,rfl⟩:=rx
 exact call_range_1 ⟨.ref s.heap.objs.size,_,I.laid (t':=s.toks + 1 + 1) (fun b u e=>ζg _ e) (ζm _) (show yR X.prog X.w _ _ _ (.rng 0 n) from ⟨_,_,_,ζp _ rfl⟩),rfl,q _ (I.hok.fresh (ζm _))⟩
def W8:List V→Hp→VK→Prop:=fun xs H Q=>∃ (p:Addr) (n:Nat),xs=[.ref p]∧H p=some (.rng 0 n)∧n≤1000000∧∀ l,H l=none→Q (.ref l) (upd H l (.lst ((List.range n).map fun i:Nat=>V.int (i:Int))))
theorem Wt (hc:X.calm=true):yB X (.type "list") W8:=by
 intro pins s σ H xs us Q I r h
 obtain ⟨p,n,rfl,hp,hn,q⟩:=h
 obtain ⟨u,rfl,rx⟩:=xJ r
 cases rx
 obtain ⟨t,u,v,ho⟩:∃ t u v,s.heap.get? p=some { cls:=.type "range", data:=.fields #[.int 0 t,.int n u,.int 1 v] }:=I.hok p _ hp
 have rs:Builtin.Range.rangeSize 0 n 1=(n:Int):=by
  unfold Builtin.Range.rangeSize
  simp
  omega
 refine call_list_range (n:=n) (I.ok.hd hc) ho ?_ ?_ (by omega) fun h' tk acc' c' hk hS hacc=>?_
 ·exact small_one (by omega) (by omega) (by omega) (by omega)
 ·exact rs
 ·have hl:acc'.toList.length=n:=by rw [ζU]; exact hacc.1
  refine ⟨.ref s.heap.objs.size,_,I.laid (t':=tk) hk (ζm _) (show yR X.prog X.w _ h' _ (.lst ((List.range n).map fun i:Nat=>V.int (i:Int))) from ⟨by rw [ζa,ζz,sizeLine_eq]; omega,acc'.toList,c',Vals.ofGet _ _ (by rw [ζa,ζz,hl]) fun i x u h1 h2=>?_,hS⟩),rfl,q _ (I.hok.fresh (ζm _))⟩
  have hi:i < n:=by
   have:=(ζe.mp h2).1
   omega
  rw [ζl,ζV hi] at h1
  cases h1
  obtain ⟨t',rfl⟩:=hacc.2 i u (by rw [← ξm]; exact h2)
  exact ⟨t',by rw [Int.mul_one,Int.zero_add]⟩
end
end L2
namespace PD
open PySem L2
section
variable {K:ζb} {S S':Sx} {κ κ':Bool} {Γ Γ' Γ'':Ctx} {P:Post}
theorem VC {ta:TE} {n:Nat} (h:EvE K S false ta Γ (.int (n:Int))) (hn:n≤1000000):EvO K S κ (tCB W8 (zE (tCB zcW (zE ta tNil)) tNil)) Γ ((List.range n).map fun i:Nat=>.int (i:Int)):=fun H0 F0 H F σ e Q q =>
 h H0 F0 H F σ e _ fun v H1 F1 g1 p1=>by
  cases yH p1
  refine ⟨n,rfl,fun p hp=>⟨p,n,rfl,zp,hn,fun l hl=>?_⟩⟩
  have g2:=g1.trans (.newO g1.le hp (.rng 0 n))
  have hr:zj K κ S H0 F1 ((List.range n).map fun i:Nat=>V.int (i:Int)) ((List.range n).map fun i:Nat=>.int (i:Int)):=by
   have:=vx (K:=K) (κ:=κ) (S:=S) (H0:=H0) (F:=F1) ((List.range n).map fun i:Nat=>(i:Int))
   rw [ζr,ζr] at this
   exact this
  exact q l _ _ F1 (g2.trans (.newO g2.le hl _)) (g2.h.free hl) zp (g2.le.free hl) hr
theorem ZY {ta tb tc:TE} {f g:Int→Int→Bool} {i j m:Int} (ha:EvE K S false ta Γ (.int i)) (hb:EvE K S false tb Γ (.int j)) (hc:f i j=true→EvE K S false tc Γ (.int m)) :
  EvE K S κ (V1 (rI0 fun i j=>.bl (f i j)) (rI0 fun i j=>.bl (g i j)) ta tb tc) Γ (.bool (f i j && g j m)):=fun H0 F0 H F σ e Q q =>
 ha H0 F0 H F σ e _ fun v H1 F1 g1 p1=>hb H0 F0 H1 F1 σ (e.mono g1) _ fun u H2 F2 g2 p2=>by
  cases yH p1
  cases yH p2
  refine ⟨i,j,rfl,rfl,f i j,rfl,?_⟩
  cases hf:f i j with
  | true=>exact iteT (hc hf H0 F0 H2 F2 σ ((e.mono g1).mono g2) _ fun w H3 F3 g3 p3=>by
    cases yH p3
    exact ⟨j,m,rfl,rfl,q _ H3 F3 ((g1.trans g2).trans g3) (by rw [hf,Bool.true_and]; exact .bl _)⟩)
  | false=>exact iteF (q _ H2 F2 (g1.trans g2) (by rw [hf,Bool.false_and]; exact .bl _))
end
end PD
namespace L2
open PySem PySem.Spec PyProof.Rows
section
variable {X:Cx} {K:ζb}
def rm (k:Int) (ns:List Int):List Int:=ns.take (ns.idxOf k) ++ ns.drop (ns.idxOf k + 1)
def U5:V→List V→Hp→VK→Prop:=fun x vs H Q=>∃ l,∃ ns:List Int,∃ k,x=.ref l∧vs=[.int k]∧H l=some (.lst (ns.map V.int))∧k∈ns∧Q .non (upd H l (.lst ((rm k ns).map V.int)))
theorem Qf:MtM X "list.remove" U5:=by
 intro pins s σ H x vs v us Q I rx rv h
 obtain ⟨l,ns,k,rfl,rfl,hH,hk,q⟩:=h
 cases rx
 obtain ⟨u,rfl,ru⟩:=rv.one
 obtain ⟨t,rfl⟩:=ru
 obtain ⟨z,its,n,r,hl,e⟩:=I.lstM hH
 have hi:=wM r
 have hj:ns.idxOf k < ns.length:=ξs.mpr hk
 have hl':=r.length
 rw [ζa] at hl' z
 refine call_meets F.slot_list_remove ⟨_,e,rfl⟩ F.entry_list_remove (F.args_list_remove_2 _ _) (MeetsSeq.list_remove l its.toArray n (.int k t) (isInt k) (fun y hy=>eq_isInt k t hi y (by simpa using hy)) (ns.idxOf k) (by rw [List.size_toArray]; omega) ?_ (fun m hm lt=>?_) (by rw [List.size_toArray]; omega)) ⟨e,?_⟩
 ·show isInt k its[ns.idxOf k]=true
  rw [isInt_at k hi (ns.idxOf k) (by omega) hj]
  simp
 ·show isInt k its[m]=false
  rw [ζP] at hm
  rw [isInt_at k hi m hm (by omega)]
  exact ne_of_lt_idxOf lt (by omega)
 ·refine ⟨.non,_,I.lset (its':=its.take (ns.idxOf k) ++ its.drop (ns.idxOf k + 1)) hH e ?_ (by unfold rm; rw [List.map_append,List.map_take,List.map_drop]; exact (r.take _).append (r.drop _)) ?_,rfl,q⟩
  ·apply ξE.mp
   rw [List.eraseIdxIfInBounds_toArray,ξO]
  ·unfold rm
   rw [ζa,ζj,ζy,ζR]
   omega
end
end L2
namespace PD
open PySem L2
section
variable {K:ζb} {S S':Sx} {κ κ':Bool} {Γ Γ' Γ'':Ctx} {P:Post}
theorem exrm {te:TE} {i:Nat} {ns:List Int} {k:Int} (h:GetC Γ i (.ow κ (ns.map .int))) (he:EvE K S false te Γ (.int k)) (hk:k∈ns) (es:SetC Γ i (some (.ow κ ((rm k ns).map .int))) Γ') (kk:P.nx Γ') :
  ExS K S (xH (tBM K "list" U5 (tVar i) (zE te tNil))) Γ P:=fun H0 F0 H F σ B e b _ D I=>by
 have h:=h.eq
 obtain ⟨v0,q1,a,vs,rfl,w,q5⟩:=e.has i _ h
 refine ⟨_,q1,.inl ⟨rfl,_,SqL.of w.h⟩,he H0 F0 H F σ e _ fun v1 H1 F1 g1 p1=>?_⟩
 cases yH p1
 cases yl (zU q5)
 refine ⟨a,ns,k,rfl,rfl,g1.h _ _ w.h,hk,?_⟩
 have:=(e.mono g1).put (vs:=(rm k ns).map V.int) (y:=.ow κ ((rm k ns).map .int)) h q1 (show Owns H1 (.ref a) (.ow κ (ns.map .int)) a from rfl) ⟨a,_,rfl,⟨zp,(w.mono g1).f,w.n,w.s⟩,vx _⟩ fun _ z=>z
 rw [es.eq] at this
 exact I.nx _ _ _ F1 kk (b.trans g1.f) this
end
section
variable {K:ζb} {S S' S1 S2:Sx} {κ κ':Bool} {Γ Γ' Γ'':Ctx} {P:Post} {C:List PyData→Prop}
mutual
inductive Tn (C:List PyData→Prop):PyData→PyData→Prop
 | same {d:PyData}:Tn C d d
 | rev {ds:List PyData}:C ds→Tn C (.list ds) (.list ds.reverse)
 | lst {ds es:List PyData}:TnA C ds es→Tn C (.list ds) (.list es)
 | tup {ds es:List PyData}:TnA C ds es→Tn C (.tuple ds) (.tuple es)
inductive TnA (C:List PyData→Prop):List PyData→List PyData→Prop
 | nil:TnA C [] []
 | cons {d e:PyData} {ds es:List PyData}:Tn C d e→TnA C ds es→TnA C (d :: ds) (e :: es)
end
theorem tN {S:Sx} {H0 F:Hp}:∀ {ns:List Int} {ds:List PyData},zj K κ S H0 F (ns.map V.int) ds→ds=ns.map PyData.int
 | [],_,h=>by cases h; rfl
 | n :: r,_,h=>by
  cases h with
  | cons h1 h2=>cases h1; rw [tN h2]; rfl
section
variable {H1 H2 F:Hp} {b:Addr} {ns:List Int}
mutual
theorem zbS (hb:F b=some (.lst (ns.map V.int))) (hC:C (ns.map PyData.int)):∀ {v:V} {d:PyData},Rp K true S1 H1 F v d→∃ d',Tn C d d'∧Rp K true S1 H1 (upd F b (.lst (ns.map V.int).reverse)) v d'
 | _,_,.non=>⟨_,.same,.non⟩
 | _,_,.bl x=>⟨_,.same,.bl x⟩
 | _,_,.int x=>⟨_,.same,.int x⟩
 | _,_,.str x=>⟨_,.same,.str x⟩
 | _,_,@Rp.lst _ _ _ _ _ a xs ds h k=>by
  by_cases e:a=b
  ·subst e
   have h1:=h.1
   rw [hb] at h1
   cases h1
   cases tN k
   exact ⟨_,.rev hC,.lst ⟨zp,h.2⟩ (zj.reverse (xG (fun d hd=>by obtain ⟨i,_,rfl⟩:=ζq.mp hd; rfl) (uo ns)))⟩
  ·obtain ⟨es,t,q⟩:=ud hb hC k
   exact ⟨_,.lst t,.lst ⟨by rw [zt e]; exact h.1,h.2⟩ q⟩
 | _,_,@Rp.tup _ _ _ _ _ a xs ds h k=>by
  obtain ⟨es,t,q⟩:=ud hb hC k
  refine ⟨_,.tup t,.tup ?_ q⟩
  have ne:∀ {o:HO},F a=some o→YX (some o)=false→upd F b (.lst (ns.map V.int).reverse) a=some o:=fun {o} z n=>by
   rw [zt fun c=>by rw [c,hb] at z; cases z; cases n]
   exact z
  rcases h with (z | ⟨o,z⟩) | z
  ·exact .inl (.inl (ne z rfl))
  ·exact .inl (.inr ⟨o,ne z rfl⟩)
  ·exact .inr z
theorem ud (hb:F b=some (.lst (ns.map V.int))) (hC:C (ns.map PyData.int)):∀ {vs:List V} {ds:List PyData},zj K true S1 H1 F vs ds→∃ es,TnA C ds es∧zj K true S1 H1 (upd F b (.lst (ns.map V.int).reverse)) vs es
 | _,_,.nil=>⟨_,.nil,.nil⟩
 | _,_,.cons h k=>by
  obtain ⟨d,t,q⟩:=zbS hb hC h
  obtain ⟨es,t',q'⟩:=ud hb hC k
  exact ⟨_,.cons t t',.cons q q'⟩
end
end
end
end PD
namespace L2
open PySem PySem.Spec PyProof.Rows PySem.W
section
variable {X:Cx} {k:Nat} {ps:List Str} {sp:Sp} {x:Str} {p cpos pos:Pos} {e:Expr} {es:List Expr} {ta:TA} {te:TE}
end
section
variable {X:Cx} {k:Nat} {y n:Str} {np epos hpos tpos:Pos} {e:Expr} {te:XK→TE} {C D:Addr} {i:Nat} {b0:Stmt} {suite:List Stmt} {th:TS}
end
section
variable {X:Cx} {k k2:Nat} {ps:List Str} {sp sp2:Sp} {x:Str} {p cpos pos:Pos} {e:Expr} {es:List Expr} {ta:TA}
end
section
variable {X:Cx} {K:ζb}
def XE (K:ζb):V→List V→Hp→VK→Prop:=fun x vs H Q=>∃ l xs d ds j w,x=.ref l∧vs=[w]∧SqL K H l xs∧Dp K H w d∧zT K H xs ds∧low d=true∧(∀ e∈ds,low e=true)∧j < ds.length∧(∀ e,ds[j]?=some e→PyData.eqv e d=true)∧(∀ m e,m < j→ds[m]?=some e→PyData.eqv e d=false)∧Q (.int (j:Nat)) H
theorem Y0 {h:Heap}:∀ {us:List Value} {ds:List PyData} {as:List Addr},ReadsAll h us ds as→∀ (m:Nat) u,us[m]?=some u→∃ d bs,ds[m]?=some d∧Reads h u d bs
 | _,_,_,.nil,_,_,hu=>by simp at hu
 | _,_,_,.cons r t,0,u,hu=>by simp at hu; subst hu; exact ⟨_,_,rfl,r⟩
 | _,_,_,.cons r t,m + 1,u,hu=>by
  obtain ⟨d,bs,h1,h2⟩:=Y0 t m u (by simpa using hu)
  exact ⟨d,bs,by simpa using h1,h2⟩
theorem Qj (hu:X.A.units + 64 < cLine):MtM X "list.index" (XE X.K):=by
 intro pins s σ H x vs v us Q I rx rv h
 obtain ⟨l,xs,d,ds,j,w,rfl,rfl,hq,h1,h2,l1,l2,hj,hy,hn,q⟩:=h
 cases rx
 obtain ⟨u,rfl,ru⟩:=rv.one
 obtain ⟨its,r,pl,hz⟩:=I.list hq
 have hl:=r.length
 have dl:=PD.zT.length h2
 obtain ⟨as,ra⟩:=h1.reads I ru
 obtain ⟨bs,rb⟩:=zT.reads I h2 r
 have hb:sizeLine < 2 ^ 62:=by decide
 have jl:j < its.length:=by omega
 obtain ⟨⟨c,dd,dt,sl⟩,ho,hc,n,hd⟩:=pl.isList
 simp only at hc hd
 subst hc hd
 have at1:∀ (m:Nat) (hm:m < its.length),∃ e,ds[m]?=some e∧eqU2 s.heap d its[m]=PyData.eqv e d:=fun m hm=>by
  obtain ⟨e,cs,q1,q2⟩:=Y0 rb m its[m] (ζf hm)
  exact ⟨e,q1,v5 q2 (l2 e (ζd q1))⟩
 refine call_meets F.slot_list_index ⟨_,ho,rfl⟩ F.entry_list_index (F.args_list_index_2 _ _) (SeqAt.list_indexAt l its.toArray n dd sl u (eqU2 s.heap d) j (by rw [ζP]; omega) (by omega) ?_ fun m hm lt=>?_)
  ⟨ho,fun y hy=>?_,.int _,H,I.tok _,⟨_,rfl⟩,q⟩
 ·show eqU2 s.heap d its[j]=true
  obtain ⟨e,q1,q2⟩:=at1 j jl
  rw [q2]
  exact hy e q1
 ·rw [ζP] at hm
  show eqU2 s.heap d its[m]=false
  obtain ⟨e,q1,q2⟩:=at1 m hm
  rw [q2]
  exact hn m e lt q1
 ·obtain ⟨dw,hd,cs,rc⟩:=vk rb y (by simpa using hy)
  rw [v5 rc (l2 dw hd)]
  exact SeqAt.eqAt_reads dw d _ s y u cs as rc ra (wy (l2 dw hd)) (wy l1) (by have:=v4 l1; have:=ξ8 dw.depth d.depth; show X.A.units + 1 + _ < _; omega)
theorem ZH (hK:X.K=K) (hu:X.A.units + 64 < cLine):MtM X "list.index" (XE K):=by subst hK; exact Qj hu
end
end L2
namespace PD
open PySem L2
section
variable {K:ζb} {S S':Sx} {κ κ':Bool} {Γ Γ' Γ'':Ctx} {P:Post} {E:XK} {C:Addr}
theorem Y7 {ta tb:TE} {ds:List PyData} {d:PyData} {j:Nat} (ha:EvL K S false ta Γ ds) (hb:EvE K S false tb Γ d) (l1:low d=true) (l2:∀ e∈ds,low e=true) (hj:j < ds.length) (hy:∀ e,ds[j]?=some e→PyData.eqv e d=true) (hn:∀ m e,m < j→ds[m]?=some e→PyData.eqv e d=false) :
  EvE K S κ (tBM K "list" (XE K) ta (zE tb tNil)) Γ (.int (j:Nat)):=fun H0 F0 H F σ e Q q =>
 ha H0 F0 H F σ e _ fun a vs H1 F1 g1 p1 k1=>⟨.inl ⟨rfl,_,p1⟩,hb H0 F0 H1 F1 σ (e.mono g1) _ fun w H2 F2 g2 p2=>⟨a,vs,d,ds,j,w,rfl,rfl,g2.h.seq p1,xX g2.le (wj p2),xF (g1.le.trans g2.h) (zU k1),l1,l2,hj,hy,hn,q _ H2 F2 (g1.trans g2) (.int _)⟩⟩
end
end PD
namespace L2
open PySem PySem.Spec PyProof.Rows PySem.W
section
variable {P:Program} {w:World} {K:ζb} {mg:Str→Option Value} {base:Heap} {x:Str} {ys:List Str} {va:Str→V} {qual:Str} {scope:Scope} {f:Addr} {cd:Value} {cl:List (Str×Addr)} {A:Around} {outer:List Env} {s:Shared} {H:Hp}
end
section
variable {X:Cx} {pins:List (Addr×Obj)} {σ:St} {H:Hp} {s:Shared}
end
section
variable {X:Cx} {k:Nat} {ps:List Str} {sp:Sp} {g:Str} {p cpos lpos:Pos} {e:Expr} {te:TE} {params:Arguments} {body:Expr} {lsc:Scope} {q:Str} {c P:Addr} {clos:List (Str×Addr)} {caps:List (Str×Nat)}
end
section
variable {X:Cx} {k:Nat} {ps:List Str} {sp:Sp} {x:Str} {p pos:Pos} {e:Expr} {es:List Expr} {t:TA}
end
end L2
namespace PD
open PySem L2 PySem.W
section
variable {P:Program} {w:World} {K:ζb} {mg:Str→Option Value} {base:Heap} {S S':Sx} {κ κ':Bool} {Γ Γ' Γ'':Ctx}
end
end PD
namespace L2
open PySem PySem.Spec PyProof.Rows PySem.W
section
variable {P:Program} {w:World} {K:ζb} {mg:Str→Option Value} {base:Heap}
end
end L2
namespace Cm
open PySem L2
end Cm
namespace L2
open PySem
theorem zbF {K:ζb} {h:Heap} (e:(yS K).isEmpty=true):∀ p∈yS K,h.get? p.1=some (PySem.W.tabObj #[]):=fun p hp=>by
 rw [List.isEmpty_iff.mp e] at hp
 cases hp
end L2
namespace PD
open PySem L2
end PD
namespace L2
open PySem PySem.Spec PyProof.Rows PySem.AutoSeq1
section
variable {X:Cx} {K:ζb}
end
end L2
namespace PD
open PySem L2
section
variable {K:ζb} {S S':Sx} {κ κ':Bool} {Γ Γ' Γ'':Ctx} {P:Post}
end
end PD
namespace L2
open PySem PySem.Spec PyProof.Rows
section
variable {X:Cx} {K:ζb}
end
end L2
namespace PD
open PySem L2
section
variable {K:ζb} {S S':Sx} {κ κ':Bool} {Γ Γ' Γ'':Ctx} {P:Post} {E:XK}
def Rows (xs:List PyData):Prop:=∀ d∈xs,∃ ns:List Int,d=.list (ns.map .int)
end
end PD
namespace L2
open PySem PySem.Spec PyProof.Rows
section
variable {X:Cx} {K:ζb}
end
end L2
namespace PD
open PySem L2
section
variable {K:ζb} {S S':Sx} {κ κ':Bool} {Γ Γ' Γ'':Ctx} {P:Post}
end
end PD
namespace L2
open PySem PySem.Spec PyProof.Rows PySem.Calls
section
variable {κ:Type} [DecidableEq κ]
theorem RelO.getD {o:Option V} {u:Option Value} {d:V} {d':Value} (r:RelO o u) (rd:RelV d d'):RelV (o.getD d) (u.getD d'):=by
 cases o with
 | none=>cases u with
  | none=>exact rd
  | some _=>exact (show False from r).elim
 | some _=>cases u with
  | none=>exact (show False from r).elim
  | some _=>exact r
end
section
variable {P:Program} {w:World} {H:Hp} {h:Heap} {a:Addr}
end
section
variable {X:Cx} {pins:List (Addr×Obj)} {σ:St} {H:Hp} {s:Shared} {a:Addr} {y v:V} {u r:Value} {o:Option V} {A:Around} {E:Value→Shared→Prop}
end
section
variable {X:Cx} {pins:List (Addr×Obj)} {σ:St} {H:Hp} {s:Shared} {a:Addr} {kvs:List (Key×V)} {k:Key} {u:Value} {A:Around} {E:Value→Shared→Prop}
end
section
variable {X:Cx} {o i e value:Expr} {pos pos' tpos:Pos} {td ty tv:TE}
end
section
variable {X:Cx} {pos:Pos}
end
section
variable {X:Cx} {pins:List (Addr×Obj)} {σ:St} {H:Hp} {s:Shared} {a:Addr} {y d:V} {u r:Value} {o:Option V} {A:Around} {E:Value→Shared→Prop}
end
section
variable {X:Cx} {o e f:Expr} {apos cpos:Pos} {td ty tx:TE}
end
section
variable {X:Cx} {pins:List (Addr×Obj)} {σ:St} {H:Hp} {s:Shared} {a:Addr} {kvs:List (Key×V)} {A:Around} {E:Value→Shared→Prop}
end
section
variable {X:Cx} {pins:List (Addr×Obj)} {σ:St} {H:Hp} {s:Shared} {a:Addr} {y:V} {u:Value} {A:Around} {E:Value→Shared→Prop}
end
end L2
namespace PD
open PySem L2
section
variable {K:ζb} {S S':Sx} {κ κ':Bool} {Γ Γ' Γ'':Ctx} {P:Post} {E:XK}
end
end PD
namespace L2
open PySem PySem.Spec PyProof.Rows PySem.W
end L2
namespace PD
open PySem L2
section
variable {K:ζb} {S S':Sx} {κ κ':Bool} {Γ Γ' Γ'':Ctx} {P:Post} {E:XK}
end
end PD
namespace So
open PySem PySem.W PyProof.Rows
section
variable {α β:Type} {lt:Nat→Nat→Bool} {n:Nat} {key:Nat→Int}
def ev (lt:Nat→Nat→Bool):KasT α→α
 | .ret a=>a
 | .ask i j k=>ev lt (k (lt i j))
end
section
variable {n:Nat} {key:Nat→Int}
end
end So
namespace L2
open PySem PySem.Spec PySem.W PyProof.Rows
section
variable {prog:Program} {w:World} {A:Around} {E:Value→Shared→Prop} {s:Shared} {vs:List Value} {ps:List (Int×Int)}
end
section
variable {X:Cx} {K:ζb}
end
end L2
namespace PD
open PySem L2
section
variable {K:ζb} {S S':Sx} {κ κ':Bool} {Γ Γ':Ctx}
end
end PD
namespace Dsp
section
variable {pa:Nat→Nat→Prop} {Z:Nat→Prop} {x y:Nat} {rk:Nat→Nat}
end
end Dsp
namespace PD
open PySem L2
section
variable {K:ζb} {S S':Sx} {κ κ':Bool} {Γ Γ' Γ'' Γ3 Γ4:Ctx} {P:Post}
end
end PD
namespace L2
open PySem PySem.Spec PyProof.Rows
section
variable {X:Cx} {y:Str} {N:List Str} {scope:Scope} {cl:List (Str×Addr)} {js:List (Option Nat)} {pins:List (Addr×Obj)} {σ:St} {H:Hp} {s:Shared} {fp:List Addr}
end
section
variable {X:Cx} {y:Str} {N:List Str} {scope:Scope} {cl:List (Str×Addr)} {js:List (Option Nat)} {pins:List (Addr×Obj)} {σ:St} {H:Hp} {s:Shared}
end
section
variable {X:Cx} {K:ζb}
end
end L2
namespace PD
open PySem L2
section
variable {K:ζb} {S S':Sx} {κ κ':Bool} {Γ Γ' Γ'':Ctx} {P:Post}
end
section
open PySem.W PyProof.Rows
variable {K:ζb} {P:Program} {w:World} {mg:Str→Option Value} {base:Heap} {S:Sx} {κ:Bool} {Γ:Ctx}
end
end PD
namespace L2
open PySem PySem.Spec PyProof.Rows PySem.Calls
end L2
namespace PD
open PySem L2
section
variable {K:ζb} {S S':Sx} {κ κ':Bool} {Γ Γ' Γ'':Ctx} {P:Post}
end
section
open PySem.W PyProof.Rows
variable {K:ζb} {P:Program} {w:World} {mg:Str→Option Value} {base:Heap} {S S':Sx} {κ:Bool} {Γ Γ':Ctx} {Po:Post}
end
end PD
namespace L2
open PySem PySem.Spec PyProof.Rows PySem.Calls
section
variable {prog:Program} {w:World} {κ:Type} [DecidableEq κ] {kd:HeapKind prog w κ} {A:Around} {E:Value→Shared→Prop} {s:Shared}
end
section
variable {X:Cx} {o e f:Expr} {apos cpos:Pos} {td ty tx:TE}
end
end L2
namespace PD
open PySem L2
section
variable {K:ζb} {S S':Sx} {κ κ':Bool} {Γ Γ' Γ'':Ctx} {P:Post} {E:XK}
theorem DEnv.forget {H0 F0 H F:Hp} {σ:St} (i:Nat) (e:DEnv K S H0 F0 H F σ Γ):DEnv K S H0 F0 H F σ (Γ.set i none):=by
 have bk:∀ (j:Nat) (d:DV),(Γ.set i none)[j]?=some (some d)→Γ[j]?=some (some d):=fun j d h=>by
  by_cases hj:j=i
  ·subst hj; rw [List.getElem?_set] at h; simp at h
  ·rw [ζx (Ne.symm hj)] at h; exact h
 exact ⟨e.gr,e.l0,e.sd,e.s0,by simp [e.len],fun j d h=>e.has j d (bk j _ h),fun m n x y v w a h1 h2=>e.ne m n x y v w a (bk m _ h1) (bk n _ h2)⟩
end
end PD
namespace L2
open PySem PySem.Spec PyProof.Rows PySem.SeqAt PySem.MeetsSeq PySem.MeetsSeq2 PySem.MeetsSeq3
open AutoSeq1 (wpAny_loadPart')
section
variable {prog:Program} {w:World} {A:Around} {E:Value→Shared→Prop} {s:Shared}
end
section
variable {prog:Program} {w:World} {A:Around} {R:Result→Shared→Prop} {T S l:Addr} {xs:Array Value} {bt:Nat→Nat→Bool} {h0:Heap}
end
section
variable {prog:Program} {w:World} {A:Around} {E:Value→Shared→Prop} {s:Shared}
end
end L2
namespace L2
open PySem PySem.Spec PyProof.Rows
theorem YL:∀ {ws:List V} {its:List Value} {i:Nat} {u:Value},Vals ws its→its[i]?=some u→∃ v,ws[i]?=some v∧RelV v u
 | _,_,_,_,.nil,h=>by cases h
 | _,_,0,_,.cons r _,h=>by cases h; exact ⟨_,rfl,r⟩
 | _,_,i + 1,_,.cons _ t,h=>YL (i:=i) t (by simpa using h)
section
variable {X:Cx} {K:ζb}
end
end L2
namespace PD
open PySem L2
section
variable {K:ζb} {S S':Sx} {κ κ':Bool} {Γ Γ' Γ'':Ctx} {P:Post}
end
section
variable {K:ζb} {S S':Sx} {κ κ':Bool} {Γ Γ' Γ'':Ctx} {P:Post} {E:XK}
end
section
variable {K:ζb} {S S':Sx} {κ κ':Bool} {Γ Γ' Γ'' Γ3:Ctx} {P:Post} {E:XK}
theorem za2 {wi:TI} {g:TG} {tb:TS} {G:List PyData→Prop} (κ:Bool) (Iv:List PyData→Nat→Ctx→Prop) (hi:EvIG K S κ wi Γ G) (h0:∀ ds,G ds→Iv ds 0 Γ)
  (hs:∀ ds i d Γ',G ds→ds[i]?=some d→Iv ds i Γ'→∃ js,ExG K S κ g js d Γ' fun Γ''=>ExS K S tb Γ'' { nx:=Iv ds (i + 1),rt:=P.rt,bk:=P.nx,ct:=Iv ds (i + 1),kr:=P.kr }) (hd:∀ ds Γ',G ds→Iv ds ds.length Γ'→P.nx Γ'):ExS K S (tFor wi g tb) Γ P:=fun H0 F0 H F σ B e b _ D I =>
 hi H0 F0 H F σ e _ fun ds J H1 F1 hG g1 I1=>by
  refine ⟨fun i m σ2 H2=>m=ds.length - i∧i≤ds.length∧∃ Γ2 F2,Iv ds i Γ2∧Same F1 F2∧DEnv K S H0 F0 H2 F2 σ2 Γ2,⟨_,rfl,ζY _,Γ,F1,h0 ds hG,.refl _,e.mono g1⟩,?_⟩
  rintro i m σ2 H2 ⟨rfl,hi,Γ2,F2,v2,s2,e2⟩
  have b1:Same B F1:=b.trans g1.f
  by_cases hlt:i < ds.length
  ·refine .inr ⟨I1.go i H2 F2 s2 e2.le hlt,fun σ3 H3=>i + 1≤ds.length∧∃ Γ3 F3,Iv ds (i + 1) Γ3∧Same F1 F3∧DEnv K S H0 F0 H3 F3 σ3 Γ3,fun σ3 H3 h3=>⟨_,by omega,rfl,h3⟩,fun x H3 y=>?_⟩
   obtain ⟨d,F3,hd,g3,p3⟩:=I1.yld i H2 F2 x H3 s2 e2.le e2.sd hlt y
   obtain ⟨js,hg⟩:=hs ds i d Γ2 hG hd v2
   refine hg H0 F0 H3 F3 σ2 x (e2.mono g3) p3 _ fun Γ' σ' H4 F4 k4 g4 e4 _ _=>?_
   have s4:Same F1 F4:=s2.trans (g3.f.trans g4.f)
   exact k4 H0 F0 H4 F4 σ' F1 e4 s4 (.inl rfl) _ ⟨fun Γ5 σ5 H5 F5 n s5 e5=>⟨hlt,Γ5,F5,n,s5,e5⟩,I.rt,fun Γ5 σ5 H5 F5 n s5 e5=>I.nx Γ5 σ5 H5 F5 n (b1.trans s5) e5,fun Γ5 σ5 H5 F5 n s5 e5=>⟨hlt,Γ5,F5,n,s5,e5⟩⟩
  ·have ei:i=ds.length:=by omega
   subst ei
   exact .inl ⟨I1.stop H2 F2 s2 e2.le,I.nx Γ2 σ2 H2 F2 (hd ds Γ2 hG v2) (b1.trans s2) e2⟩
end
end PD
namespace Dsp
variable {pa:Nat→Nat→Prop} {Z:Nat→Prop} {rk:Nat→Nat} {q:Nat→Nat→Nat→Bool} {x y:Nat}
def vv (q:Nat→Nat→Nat→Bool):Option Nat→Nat→Option Nat→Nat
 | some a,v,some b=>if q a v b=true then 1 else 0
 | _,_,_=>0
section
variable (dag:∀ a b,pa a b→rk a < rk b) (hq:∀ a v b,q a v b=true↔pa a v∧pa b v)
include dag hq
end
end Dsp
namespace PD
open PySem L2
section
variable {K:ζb} {S S':Sx} {κ κ':Bool} {Γ Γ' Γ'' Γ3:Ctx} {P:Post}
theorem za5 {te:TE} {u:TS} {d:PyData} (h:EvE K S false te Γ d) (k:ExT K S S' u Γ P):ExT K S S' (tSeq (xH te) u) Γ P:=wa (·=Γ) (Tv h rfl) fun _ z=>z ▸ k
end
end PD
namespace L2
open PySem
end L2
namespace L2
open PySem PySem.Spec PyProof.Rows
section
variable {prog:Program} {w:World} {A:Around} {E:Value→Shared→Prop} {s:Shared} {b:Bool} {a:Addr} {l:List (Int×Value)}
end
end L2
namespace L2
open PySem PySem.Spec PySem.W PyProof.Rows
section
variable {prog:Program} {w:World} {A:Around} {E:Value→Shared→Prop} {s:Shared} {b:Bool} {a I T:Addr} {l:List (Int×Value)}
end
def hP (q:Int×Int):Int:=reduceHash (Builtin.Tuple.tupleHashOf [hashInt q.1,hashInt q.2])
section
variable {prog:Program} {w:World} {A:Around} {E:Value→Shared→Prop} {s:Shared} {b:Bool} {a I T:Addr}
end
def vv:V→Value
 | .ref a=>.ref a
 | _=>.none
section
variable {X:Cx} {K:ζb} {b:Bool}
end
end L2
namespace PD
open PySem L2
section
variable {K:ζb} {S S':Sx} {κ κ' b:Bool} {Γ Γ' Γ'':Ctx}
end
mutual
inductive Tr (H:Hp):V→PyData→List Addr→Prop
 | non:Tr H .non .none []
 | bl (b:Bool):Tr H (.bl b) (.bool b) []
 | int (i:Int):Tr H (.int i) (.int i) []
 | str (x:Str):Tr H (.str x) (.str x) []
 | lst {a:Addr} {xs:List V} {ds:List PyData} {as:List Addr}:H a=some (.lst xs)→xh H xs ds as→a∉as→Tr H (.ref a) (.list ds) (a :: as)
inductive xh (H:Hp):List V→List PyData→List Addr→Prop
 | nil:xh H [] [] []
 | cons {v:V} {vs:List V} {d:PyData} {ds:List PyData} {as bs:List Addr}:Tr H v d as→xh H vs ds bs→(∀ a∈as,a∉bs)→xh H (v :: vs) (d :: ds) (as ++ bs)
end
mutual
theorem vZ {H H':Hp}:∀ {v:V} {d:PyData} {as:List Addr},(∀ a∈as,H' a=H a)→Tr H v d as→Tr H' v d as
 | _,_,_,_,.non=>.non
 | _,_,_,_,.bl b=>.bl b
 | _,_,_,_,.int i=>.int i
 | _,_,_,_,.str x=>.str x
 | _,_,_,h,.lst e k n=>.lst (by rw [h _ ζi]; exact e) (wB (fun a m=>h a (ζk _ m)) k) n
theorem wB {H H':Hp}:∀ {vs:List V} {ds:List PyData} {as:List Addr},(∀ a∈as,H' a=H a)→xh H vs ds as→xh H' vs ds as
 | _,_,_,_,.nil=>.nil
 | _,_,_,h,.cons p q r=>.cons (vZ (fun a m=>h a (ζ7 _ m)) p) (wB (fun a m=>h a (ζJ _ m)) q) r
end
inductive Rc (H:Hp):V→Addr→Prop
 | here (a:Addr):Rc H (.ref a) a
 | on {p a:Addr} {xs:List V} {x:V}:H p=some (.lst xs)→x∈xs→Rc H x a→Rc H (.ref p) a
mutual
theorem wO {H:Hp} {b:Addr}:∀ {v:V} {d:PyData} {as:List Addr},Tr H v d as→(Rc H v b↔b∈as)
 | _,_,_,.non=>⟨fun z=>(nomatch z),fun z=>(nomatch z)⟩
 | _,_,_,.bl b=>⟨fun z=>(nomatch z),fun z=>(nomatch z)⟩
 | _,_,_,.int i=>⟨fun z=>(nomatch z),fun z=>(nomatch z)⟩
 | _,_,_,.str x=>⟨fun z=>(nomatch z),fun z=>(nomatch z)⟩
 | _,_,_,.lst e k n=>⟨fun z=>by
   cases z with
   | here=>exact ζi
   | on e' hx r =>
    rw [e] at e'
    cases e'
    exact ζk _ ((uu k).mp ⟨_,hx,r⟩),fun z=>by
   rcases ζs.mp z with rfl | z
   ·exact .here _
   ·obtain ⟨x,hx,r⟩:=(uu k).mpr z
    exact .on e hx r⟩
theorem uu {H:Hp} {b:Addr}:∀ {vs:List V} {ds:List PyData} {as:List Addr},xh H vs ds as→((∃ x,x∈vs∧Rc H x b)↔b∈as)
 | _,_,_,.nil=>⟨fun ⟨_,z,_⟩=>(nomatch z),fun z=>(nomatch z)⟩
 | _,_,_,.cons p q r=>⟨fun ⟨x,hx,z⟩=>by
   rcases ζs.mp hx with rfl | hx
   ·exact ζ7 _ ((wO p).mp z)
   ·exact ζJ _ ((uu q).mp ⟨x,hx,z⟩),fun z=>by
   rcases ζu.mp z with z | z
   ·exact ⟨_,ζi,(wO p).mpr z⟩
   ·obtain ⟨x,hx,w⟩:=(uu q).mpr z
    exact ⟨x,ζk _ hx,w⟩⟩
end
theorem zem {H H':Hp} {v:V} {a:Addr} (z:Rc H v a):(∀ a,Rc H v a→H' a=H a)→Rc H' v a:=by
 induction z with
 | here a=>exact fun _=>.here a
 | on e hx r ih=>exact fun c=>.on (by rw [c _ (.here _)]; exact e) hx (ih fun a z=>c a (.on e hx z))
theorem zen {H H':Hp} {v:V} {a:Addr} (z:Rc H' v a):(∀ a,Rc H v a→H' a=H a)→Rc H v a:=by
 induction z with
 | here a=>exact fun _=>.here a
 | on e hx r ih =>
  intro c
  rw [c _ (.here _)] at e
  exact .on e hx (ih fun a z=>c a (.on e hx z))
def psT (φ:V→Prop) (d:PyData):Sx→Hp→Hp→Hp→V→Prop:=fun _ _ H _ v=>φ v∧∃ as,Tr H v d as
theorem gokT (φ:V→Prop) (d:PyData):GOk Rc (psT φ d) :=
 ⟨fun _ _ _ c _=>⟨fun z=>zen z c,fun z=>zem z c⟩,fun _ _ _ _ _ _ _ c _ ⟨f,as,t⟩=>⟨f,as,vZ (fun a m=>c a ((wO t).mpr m)) t⟩⟩
abbrev trP (φ:V→Prop) (d:PyData):DV:=.og Rc (psT φ d)
def anyV:V→Prop:=fun _=>True
abbrev trD (d:PyData):DV:=trP anyV d
section
variable {K:ζb} {S S':Sx} {κ κ':Bool} {Γ Γ' Γ'':Ctx} {P:Post} {E:XK}
variable {φ:V→Prop}
theorem hasP {H0 H F:Hp} {v:V} {d:PyData} {as:List Addr} (f:φ v) (t:Tr H v d as) (o:∀ a∈as,∃ u,OwnO S H0 H F a u):HasV K S H0 H F v (trP φ d):=⟨gokT φ d,fun a z=>o a ((wO t).mp z),f,as,t⟩
theorem hasT {H0 H F:Hp} {v:V} {d:PyData} {as:List Addr} (t:Tr H v d as) (o:∀ a∈as,∃ u,OwnO S H0 H F a u):HasV K S H0 H F v (trD d):=hasP trivial t o
theorem ofP {H0 H F:Hp} {v:V} {d:PyData} (h:HasV K S H0 H F v (trP φ d)):φ v:=by
 obtain ⟨_,_,f,_⟩:=h
 exact f
theorem ofT {H0 H F:Hp} {v:V} {d:PyData} (h:HasV K S H0 H F v (trP φ d)):∃ as,Tr H v d as∧∀ a∈as,∃ u,OwnO S H0 H F a u:=by
 obtain ⟨_,o,f,as,t⟩:=h
 exact ⟨as,t,fun a m=>o a ((wO t).mpr m)⟩
mutual
theorem zcI {H0 H F:Hp}:∀ {v:V} {d:PyData} {as:List Addr},(∀ a∈as,F a=H a∧¬ S.has H0 a)→Tr H v d as→Rp K true S H0 F v d
 | _,_,_,_,.non=>.non
 | _,_,_,_,.bl b=>.bl b
 | _,_,_,_,.int i=>.int i
 | _,_,_,_,.str x=>.str x
 | _,_,_,h,.lst e k _=>.lst ⟨by rw [(h _ ζi).1]; exact e,(h _ ζi).2⟩ (WK (fun a m=>h a (ζk _ m)) k)
theorem WK {H0 H F:Hp}:∀ {vs:List V} {ds:List PyData} {as:List Addr},(∀ a∈as,F a=H a∧¬ S.has H0 a)→xh H vs ds as→zj K true S H0 F vs ds
 | _,_,_,_,.nil=>.nil
 | _,_,_,h,.cons p q _=>.cons (zcI (fun a m=>h a (ζ7 _ m)) p) (WK (fun a m=>h a (ζJ _ m)) q)
end
theorem xh.length {H:Hp}:∀ {vs:List V} {ds:List PyData} {as:List Addr},xh H vs ds as→vs.length=ds.length
 | _,_,_,.nil=>rfl
 | _,_,_,.cons _ k _=>congrArg (· + 1) (xh.length k)
theorem US {H H0 F:Hp} {v:V} {d:PyData} (h:Rp K κ S H0 F v d) (a:atom d=true):Tr H v d []:=by
 cases h with
 | non=>exact .non
 | bl b=>exact .bl b
 | int i=>exact .int i
 | str x=>exact .str x
 | lst _ _=>exact nomatch a
 | tup _ _=>exact nomatch a
theorem tK {H H0 F:Hp}:∀ {vs:List V} {ds:List PyData},zj K κ S H0 F vs ds→(∀ d∈ds,atom d=true)→xh H vs ds []
 | _,_,.nil,_=>.nil
 | _,_,.cons p q,h=>.cons (as:=[]) (US p (h _ ζi)) (tK q fun d m=>h d (ζk _ m)) fun _ z=>nomatch z
theorem xh.snoc {H:Hp} {v:V} {d:PyData} {bs:List Addr} (t:Tr H v d bs):∀ {vs:List V} {ds:List PyData} {as:List Addr},xh H vs ds as→(∀ a∈as,a∉bs)→xh H (vs ++ [v]) (ds ++ [d]) (as ++ bs)
 | _,_,_,.nil,_=>by
  have:=xh.cons t (.nil) (fun _ _ z=>nomatch z)
  rw [ζW] at this
  exact this
 | _,_,_,.cons (as:=as) (bs:=cs) p q r,h=>by
  rw [ζS]
  exact .cons p (q.snoc t fun a m=>h a (ζJ _ m)) fun a m z=>by
   rcases ζu.mp z with z | z
   ·exact r a m z
   ·exact h a (ζ7 _ m) z
theorem WL {H:Hp}:∀ {vs:List V} {ds:List PyData} {as:List Addr} {j:Nat} {d:PyData},xh H vs ds as→ds[j]?=some d→∃ x bs,vs[j]?=some x∧Tr H x d bs∧(∀ a∈bs,a∈as)∧∀ H' d',(∀ a∈as,a∉bs→H' a=H a)→Tr H' x d' bs→xh H' vs (ds.set j d') as
 | _,_,_,_,_,.nil,h=>nomatch h
 | _,_,_,0,_,.cons (as:=as) (bs:=bs) p q r,h=>by
  cases h
  exact ⟨_,as,rfl,p,fun a m=>ζ7 _ m,fun H' d' c t=>.cons t (wB (fun a m=>c a (ζJ _ m) fun z=>r a z m) q) r⟩
 | _,_,_,j + 1,_,.cons (as:=as) (bs:=bs) p q r,h=>by
  obtain ⟨x,cs,e,t,s,k⟩:=WL (j:=j) q (by simpa using h)
  exact ⟨x,cs,by simpa using e,t,fun a m=>List.mem_append_right _ (s a m),fun H' d' c t'=>.cons (vZ (fun a m=>c a (List.mem_append_left _ m) fun z=>r a m (s a z)) p) (k H' d' (fun a m n=>c a (List.mem_append_right _ m) n) t') r⟩
def Hole (H:Hp) (v:V) (d:PyData) (b:Addr) (es:List PyData) (fill:List PyData→PyData):Prop:=∃ as cs,Tr H v d as∧Tr H (.ref b) (.list es) (b :: cs)∧(∀ a∈b :: cs,a∈as)∧∀ H' es',(∀ a∈as,a∉b :: cs→H' a=H a)→Tr H' (.ref b) (.list es') (b :: cs)→Tr H' v (fill es') as
theorem zaQ {H:Hp} {v:V} {ds:List PyData} {as:List Addr} (t:Tr H v (.list ds) as):∃ b,v=.ref b∧Hole H v (.list ds) b ds .list:=by
 cases t with
 | lst e k n=>exact ⟨_,rfl,_,_,.lst e k n,.lst e k n,fun _ m=>m,fun H' es' _ t=>t⟩
theorem Hole.sub {H:Hp} {v:V} {d:PyData} {b:Addr} {ds es:List PyData} {fill:List PyData→PyData} {j:Nat} (h:Hole H v d b ds fill) (e:ds[j]?=some (.list es)):∃ vs c,H b=some (.lst vs)∧vs.length=ds.length∧vs[j]?=some (.ref c)∧Hole H v d c es fun es'=>fill (ds.set j (.list es')):=by
 obtain ⟨as,cs,t,tb,sb,k⟩:=h
 cases tb with
 | lst eb kb nb =>
  obtain ⟨x,bs,ex,tx,sx,kx⟩:=WL kb e
  cases tx with
  | lst ec kc nc =>
   refine ⟨_,_,eb,kb.length,ex,as,_,t,.lst ec kc nc,fun a m=>sb a (ζk _ (sx a m)),fun H' es' c t'=>k H' _ (fun a m n=>c a m fun z=>n (ζk _ (sx a z))) ?_⟩
   exact .lst (by rw [c b (sb b ζi) fun z=>nb (sx b z)]; exact eb) (kx H' _ (fun a m n=>c a (sb a (ζk _ m)) n) t') nb
def EvTr (K:ζb) (S:Sx) (t:TE) (Γ:Ctx) (d:PyData):Prop:=∀ (H0 F0 H F:Hp) (σ:St),DEnv K S H0 F0 H F σ Γ→∀ Q:VK,(∀ v as H' F',Gr H F H' F'→Tr H' v d as→(∀ a∈as,H a=none∧F' a=none)→Q v H')→t σ H Q
theorem EvTr.eq {t:TE} {a b:PyData} (h:EvTr K S t Γ a) (e:a=b):EvTr K S t Γ b:=e ▸ h
theorem za6 {t:TE} {ds:List PyData} (h:EvO K S κ t Γ ds) (hd:∀ d∈ds,atom d=true):EvTr K S t Γ (.list ds):=fun H0 F0 H F σ e Q q =>
 h H0 F0 H F σ e Q fun a vs H' F' g n p f k=>q (.ref a) [a] H' F' g (.lst p (tK k hd) (by simp)) fun b m=>by rw [List.mem_singleton.mp m]; exact ⟨n,f⟩
noncomputable def frzT (as:List Addr) (F H:Hp):Hp:=open Classical in fun c=>if c∈as then H c else F c
theorem Wc {as:List Addr} {F H:Hp} {c:Addr} (h:c∈as):frzT as F H c=H c:=if_pos h
theorem vW {as:List Addr} {F H:Hp} {c:Addr} (h:c∉as):frzT as F H c=F c:=if_neg h
theorem VX {H0 F0 H F H' F':Hp} {σ:St} {v:V} {d:PyData} {as:List Addr} (e:DEnv K S H0 F0 H F σ Γ) (t:Tr H' v d as) (n:∀ a∈as,H a=none∧F' a=none) (a:Addr) (m:a∈as):∃ u,OwnO S H0 H' F' a u:=by
 have:∃ u,H' a=some u:=by
  obtain z:=(wO t).mpr m
  clear n m
  suffices h:∀ {v:V} {d:PyData} {as:List Addr},Tr H' v d as→a∈as→∃ u,H' a=some u from h t ((wO t).mp z)
  exact fun t m=>tr_there t m
 obtain ⟨u,hu⟩:=this
 exact ⟨u,hu,(n a m).2,e.gr.h.free (n a m).1,e.out (n a m).1⟩
where
 tr_there {H:Hp} {a:Addr}:∀ {v:V} {d:PyData} {as:List Addr},Tr H v d as→a∈as→∃ u,H a=some u
 | _,_,_,.non,m=>nomatch m
 | _,_,_,.bl _,m=>nomatch m
 | _,_,_,.int _,m=>nomatch m
 | _,_,_,.str _,m=>nomatch m
 | _,_,_,.lst e k _,m=>by
  rcases ζs.mp m with rfl | m
  ·exact ⟨_,e⟩
  ·exact trAll_there k m
 trAll_there {H:Hp} {a:Addr}:∀ {vs:List V} {ds:List PyData} {as:List Addr},xh H vs ds as→a∈as→∃ u,H a=some u
 | _,_,_,.nil,m=>nomatch m
 | _,_,_,.cons p q _,m=>by
  rcases ζu.mp m with m | m
  ·exact tr_there p m
  ·exact trAll_there q m
theorem exr {te:TE} {u:TS} {i:Nat} {d:PyData} (h:EvTr K S te Γ d) (es:SetC Γ i (some (trD d)) Γ') (k:ExT K S S' u Γ' P):ExT K S S' (tSeq (tAsg te (xa i)) u) Γ P:=fun H0 F0 H F σ B e bb vv D I =>
 h H0 F0 H F σ e _ fun v as H' F' g t n=>k H0 F0 H' F' _ B (by
  rw [← es.eq]
  exact (e.mono g).set (x:=trD d) (hasT t (VX e t n)) fun c oc j y w hj z hw o=>e.newOwn g (n c ((wO t).mp oc)).1 j y w z hw o) (bb.trans g.f) vv D I
theorem zcq:EvTr K S (tLst tNil) Γ (.list []):=za6 (κ:=true) (zZ zG (by decide)) fun _ z=>nomatch z
def EvQ (K:ζb) (S:Sx) (t:TE) (Γ:Ctx) (i:Nat) (d:PyData) (es:List PyData) (fill:List PyData→PyData):Prop:=∀ (H0 F0 H F:Hp) (σ:St),DEnv K S H0 F0 H F σ Γ→∀ Q:VK,(∀ v b H' F',Gr H F H' F'→σ[i]?=some (some v)→Hole H' v d b es fill→Q (.ref b) H')→t σ H Q
theorem zd8 {i:Nat} {ds:List PyData} (h:GetC Γ i (trP φ (.list ds))):EvQ K S (tVar i) Γ i (.list ds) ds .list:=fun H0 F0 H F σ e Q q=>by
 obtain ⟨v0,q1,hv⟩:=e.has i _ h.eq
 obtain ⟨as,t,_⟩:=ofT hv
 obtain ⟨b,rfl,hh⟩:=zaQ t
 exact ⟨_,q1,q _ b H F (.refl e.le) q1 hh⟩
theorem Hole.grow {H F H' F':Hp} {v:V} {d:PyData} {b:Addr} {es:List PyData} {fill:List PyData→PyData} (h:Hole H v d b es fill) (g:Gr H F H' F'):Hole H' v d b es fill:=by
 obtain ⟨as,cs,t,tb,sb,k⟩:=h
 have eq:∀ a∈as,H' a=H a:=fun a m=>by
  obtain ⟨u,z⟩:=VX.tr_there t m
  rw [z]
  exact g.h _ _ z
 exact ⟨as,cs,vZ eq t,vZ (fun a m=>eq a (sb a m)) tb,sb,fun H'' es' c t'=>k H'' es' (fun a m n=>(c a m n).trans (eq a m)) t'⟩
theorem zeD {t ti:TE} {i j:Nat} {d:PyData} {ds es:List PyData} {fill:List PyData→PyData} {m:Int} (h:EvQ K S t Γ i d ds fill) (hi:EvE K S false ti Γ (.int m)) (hm:ixN ds.length m=some j) (he:ds[j]?=some (.list es)):EvQ K S (tOp (rIxL K) t ti) Γ i d es (fun es'=>fill (ds.set j (.list es'))):=fun H0 F0 H F σ e Q q =>
 h H0 F0 H F σ e _ fun v b H1 F1 g1 q1 hh=>hi H0 F0 H1 F1 σ (e.mono g1) _ fun w H2 F2 g2 p2=>by
  cases yH p2
  obtain ⟨vs,c,eb,el,ev,hc⟩:=(hh.grow g2).sub he
  refine ⟨b,vs,m,.ref c,rfl,rfl,SqL.of eb,?_,q v c H2 F2 (g1.trans g2) q1 hc⟩
  unfold atI
  rw [el,hm]
  exact ev
theorem zcm {t te:TE} {u:TS} {i:Nat} {d x:PyData} {es:List PyData} {fill:List PyData→PyData} (hg:GetC Γ i (trP φ d)) (h:EvQ K S t Γ i d es fill) (he:EvE K S false te Γ x) (hx:atom x=true) (hz:es.length < sizeLine) (es':SetC Γ i (some (trP φ (fill (es ++ [x])))) Γ') (k:ExT K S S' u Γ' P) :
  ExT K S S' (tSeq (xH (tBM K "list" y8 t (zE te tNil))) u) Γ P:=fun H0 F0 H F σ B e bb vv D I =>
 h H0 F0 H F σ e _ fun v b H1 F1 g1 q1 hh=>by
  obtain ⟨vs,ks,eb0⟩:∃ vs ks,H1 b=some (.lst vs)∧xh H1 vs es ks:=by
   obtain ⟨_,_,_,tb,_⟩:=hh
   cases tb with
   | lst eb kb nb=>exact ⟨_,_,eb,kb⟩
  refine .inl ⟨rfl,_,SqL.of eb0.1⟩ |> fun s=>⟨s,he H0 F0 H1 F1 σ (e.mono g1) _ fun w H2 F2 g2 p2=>?_⟩
  have hh2:=hh.grow g2
  have e2:=(e.mono g1).mono g2
  obtain ⟨v',q1',hv⟩:=e2.has i _ hg.eq
  rw [q1] at q1'
  cases q1'
  have hf:=ofP hv
  obtain ⟨as0,t0,oo⟩:=ofT hv
  obtain ⟨as,cs,ta,tb,sb,kk⟩:=hh2
  cases tb with
  | lst eb kb nb =>
   rename_i us
   refine ⟨b,us,w,rfl,rfl,eb,by rw [kb.length]; exact hz,?_⟩
   obtain rfl:=es'.eq
   have kb1:xh (upd H2 b (.lst (us ++ [w]))) us es cs:=wB (fun c m=>zt fun z=>nb (z ▸ m)) kb
   have kb2:=kb1.snoc (US p2 hx) fun _ _ z=>nomatch z
   rw [ζW] at kb2
   have tt:=kk (upd H2 b (.lst (us ++ [w]))) (es ++ [x]) (fun a m n=>zt fun z=>n (z ▸ ζi)) (.lst zp kb2 nb)
   have iff1:∀ c,c∈as↔c∈as0:=fun c=>(wO ta).symm.trans (wO t0)
   have mb:b∈as:=sb b ζi
   refine k H0 F0 _ F2 _ B (e2.putO (y:=trP φ (fill (es ++ [x]))) hg.eq q1 (show Rc H2 v b from (wO ta).mpr mb) (hasP hf tt fun c m=>?_) fun c z=>(wO ta).mpr ((wO tt).mp z)) (bb.trans (g1.f.trans g2.f)) vv D I
   obtain ⟨u,o⟩:=oo c ((iff1 c).mp m)
   by_cases ca:c=b
   ·subst ca; exact ⟨_,zp,o.f,o.n,o.s⟩
   ·exact ⟨u,by rw [zt ca]; exact o.h,o.f,o.n,o.s⟩
theorem zcK {i:Nat} {d:PyData} {H0 F0 H F:Hp} {σ:St} {Γf:Ctx} (e:DEnv K S H0 F0 H F σ Γ) (h:GetC Γ i (trP φ d)) (es:SetC Γ i (some (.fz true d)) Γf) :
  ∃ (A:Addr→Prop) (Ff:Hp),DEnv K S H0 F0 H Ff σ Γf∧Same F Ff∧∀ H' F',Gr H Ff H' F'→Gr H F H' (drop A F'):=by
 have h':=h.eq
 obtain ⟨v,q1,hv⟩:=e.has i _ h'
 obtain ⟨as,t,oo⟩:=ofT hv
 have s:Same F (frzT as F H):=fun c o z=>by
  rw [vW fun m=>by obtain ⟨u,w⟩:=oo c m; rw [w.f] at z; cases z]
  exact z
 have le:Same (frzT as F H) H:=fun c o z=>by
  by_cases m:c∈as
  ·rw [Wc m] at z; exact z
  ·rw [vW m] at z; exact e.le _ _ z
 have li:=(ζe.mp h').1
 obtain rfl:=es.eq
 have hr:Rp K true S H0 (frzT as F H) v d:=zcI (fun a m=>⟨Wc m,by obtain ⟨u,w⟩:=oo a m; exact w.s⟩) t
 refine ⟨fun c=>c∈as,frzT as F H,⟨⟨e.gr.h,e.gr.f.trans s,le,fun c o hc hn=>?_⟩,e.l0,e.sd,e.s0,by simp [e.len],fun j f z=>?_,fun j k' x1 y1 v1 w1 b g1 g2 g3 g4 o1 o2=>?_⟩,s,fun H' F' g=>⟨g.h,fun c o z=>ya.mpr ⟨g.f _ _ (s _ _ z),?_⟩,fun c o z=>g.le _ _ (ya.mp z).1,fun c o z n=>?_⟩⟩
 ·rw [vW fun m=>by obtain ⟨u,w⟩:=oo c m; rw [w.n] at hc; cases hc]
  exact e.gr.ap c o hc hn
 ·by_cases hj:j=i
  ·subst hj
   rw [ζt li] at z
   cases z
   exact ⟨_,q1,hr⟩
  ·rw [ζx (Ne.symm hj)] at z
   obtain ⟨u,r1,r2⟩:=e.has j f z
   refine ⟨u,r1,r2.frzG s fun c oc=>?_⟩
   by_cases zc:c∈as
   ·exact absurd (e.ne j i f _ u _ c z h' r1 q1 oc ((wO t).mpr zc)) hj
   ·rw [vW zc]
    obtain ⟨us,wo⟩:=r2.owns oc
    exact wo.f
 ·have bk:∀ {j:Nat} {f:DV} {u:V},(Γ.set i (some (.fz true d)))[j]?=some (some f)→σ[j]?=some (some u)→Owns H u f b→Γ[j]?=some (some f):=fun {j f u} z r o=>by
   by_cases hj:j=i
   ·subst hj
    rw [ζt li] at z
    cases z
    exact o.elim
   ·rw [ζx (Ne.symm hj)] at z
    exact z
  exact e.ne j k' x1 y1 v1 w1 b (bk g1 g3 o1) (bk g2 g4 o2) g3 g4 o1 o2
 ·rintro ⟨hc,_⟩
  obtain ⟨u,w⟩:=oo c hc
  rw [w.f] at z; cases z
 ·by_cases hc:c∈as
  ·obtain ⟨u,w⟩:=oo c hc
   have hl:∃ vs,H c=some (.lst vs):=tr_lst t hc
   obtain ⟨vs,hl⟩:=hl
   exact Y8 (g.f _ _ (by rw [Wc hc]; exact hl)) hc
  ·cases q':drop (fun c=>c∈as) F' c with
   | none=>rfl
   | some o' =>
    have:=(ya.mp q').1
    rw [g.ap _ _ z (by rw [vW hc]; exact n)] at this; cases this
where
 tr_lst {H:Hp} {a:Addr}:∀ {v:V} {d:PyData} {as:List Addr},Tr H v d as→a∈as→∃ u,H a=some (.lst u)
 | _,_,_,.non,m=>nomatch m
 | _,_,_,.bl _,m=>nomatch m
 | _,_,_,.int _,m=>nomatch m
 | _,_,_,.str _,m=>nomatch m
 | _,_,_,.lst e k _,m=>by
  rcases ζs.mp m with rfl | m
  ·exact ⟨_,e⟩
  ·exact trAll_lst k m
 trAll_lst {H:Hp} {a:Addr}:∀ {vs:List V} {ds:List PyData} {as:List Addr},xh H vs ds as→a∈as→∃ u,H a=some (.lst u)
 | _,_,_,.nil,m=>nomatch m
 | _,_,_,.cons p q _,m=>by
  rcases ζu.mp m with m | m
  ·exact tr_lst p m
  ·exact trAll_lst q m
theorem zbk (i:Nat) {t:TT} {b:Bool} {d:PyData} {Γf:Ctx} (h:GetC Γ i (trP φ d)) (es:SetC Γ i (some (.fz true d)) Γf) (k:EvT K S t Γf b):EvT K S t Γ b:=fun H0 F0 H F σ e Q q=>by
 obtain ⟨A,Ff,e',_,g⟩:=zcK e h es
 exact k H0 F0 H Ff σ e' Q fun H' F' g'=>q H' _ (g H' F' g')
theorem zdY {t:TS} (i:Nat) {d:PyData} (h:GetC Γ i (trP φ d)) (es:SetC Γ i (some (.fz true d)) Γ') (k:ExT K S S' t Γ' P):ExT K S S' t Γ P:=fun H0 F0 H F σ B e bb vv D I=>by
 obtain ⟨A,Ff,e',s,_⟩:=zcK e h es
 exact k H0 F0 H Ff σ B e' (bb.trans s) vv D I
theorem za8 {js:List (Option Nat)} {wi:TI} {g:TG} {te:TE} {is:List Nat} {ds:List PyData} (κ':Bool) (f:PyData→PyData) (hi:EvI K S κ' wi Γ ds) (hjs:∀ i∈is,js[i]?=some none) (hj:∀ i j k:Nat,js[i]?=some (some k)→js[j]?=some (some k)→i=j)
  (hz:ds.length≤sizeLine) (hb:∀ d∈ds,ExG K S κ' g is d (v9 js Γ) fun Γ'=>EvTr K S te Γ' (f d)):EvTr K S (vi js wi g tYes te) Γ (.list (ds.map f)):=fun H0 F0 H F σ e Q q =>
 hi H0 F0 H F σ e _ fun J H1 F1 g1 I1=>by
  intro D hD
  have sdm:∀ {H2 F2:Hp},Gr H1 F1 H2 F2→∀ a,S.has H0 a→∃ o,H2 a=some o:=fun g2 a c=>let ⟨o,z⟩:=(e.mono g1).sd a c; ⟨o,g2.h _ _ z⟩
  refine ⟨fun i m ys H2=>m=ds.length - i∧i≤ds.length∧∃ F2 as,Gr H1 F1 H2 F2∧H2 D=some (.lst ys)∧F2 D=none∧xh H2 ys ((ds.take i).map f) as∧D∉as∧∀ a∈as,H1 a=none∧F2 a=none,⟨_,rfl,Nat.zero_le _,F1,[],.newO g1.le hD _,zp,g1.le.free hD,.nil,by simp,fun _ z=>nomatch z⟩,?_⟩
  rintro i m ys H2 ⟨rfl,hi,F2,as,g2,hl,fl,k2,nD,nw⟩
  by_cases hlt:i < ds.length
  ·refine .inr ⟨I1.go i H2 F2 g2.f g2.le hlt,fun zs H3=>i + 1≤ds.length∧∃ F2 as,Gr H1 F1 H3 F2∧H3 D=some (.lst zs)∧F2 D=none∧xh H3 zs ((ds.take (i + 1)).map f) as∧D∉as∧∀ a∈as,H1 a=none∧F2 a=none,fun zs H3 h3=>⟨ds.length - (i + 1),by omega,rfl,h3⟩,fun x H3 y=>?_⟩
   obtain ⟨d,F3,hd,g3,p3⟩:=I1.yld i H2 F2 x H3 g2.f g2.le (sdm g2) hlt y
   have E3:=((e.mono g1).mono (g2.trans g3)).capt hj
   refine hb d (ζd hd) H0 F0 H3 F3 _ x E3 p3 _ fun Γ' σ' H4 F4 he g4 E4 len4 out4=>?_
   have tk:ds.take (i + 1)=ds.take i ++ [d]:=by rw [ξ1,hd]; rfl
   refine ⟨⟨len4.symm,fun j v hv=>?_⟩,?_⟩
   ·by_cases hjj:j∈is
    ·have:=hjs j hjj
     unfold L2.capt at hv
     rw [ζl,this] at hv
     cases hv
    ·rw [out4 j hjj]; exact hv
   refine Wm (K:=K) (S:=S) H0 F0 H4 F4 σ' E4 _ fun H5 F5 g5=>iteT ((he H0 F0 H5 F5 σ' (E4.mono g5) _ fun v bs H6 F6 g6' t6 n6'=>?_))
   have g6:=g5.trans g6'
   have n6:∀ a∈bs,H4 a=none∧F6 a=none:=fun a m=>⟨g5.h.free (n6' a m).1,(n6' a m).2⟩
   have gg:=(g3.trans g4).trans g6
   have hl6:=gg.h _ _ hl
   have fl6:=gg.ap _ _ hl fl
   have G6:=g2.trans gg
   have there:∀ a∈as,∃ u,H2 a=some u:=fun a m=>VX.trAll_there k2 m
   have dis:∀ a∈as,a∉bs:=fun a m z=>by
    obtain ⟨u,hu⟩:=there a m
    have:=(g3.trans g4).h _ _ hu
    rw [(n6 a z).1] at this; cases this
   have nDb:D∉bs:=fun z=>by
    have:=(g3.trans g4).h _ _ hl
    rw [(n6 D z).1] at this; cases this
   refine ⟨hl6,?_,hlt,F6,as ++ bs,⟨fun b u z=>?_,G6.f,fun b u z=>?_,G6.ap⟩,zp,fl6,?_,?_,?_⟩
   ·have h1:=k2.length
    rw [ζa,ζy] at h1
    omega
   ·rw [zt (zK z hD)]; exact G6.h _ _ z
   ·rw [zt (by rintro rfl; rw [fl6] at z; cases z)]; exact G6.le _ _ z
   ·rw [tk,ζE]
    refine (wB (fun a m=>?_) k2).snoc (vZ (fun a m=>zt (show a≠D from fun z=>nDb (z ▸ m))) t6) dis
    obtain ⟨u,hu⟩:=there a m
    rw [zt (show a≠D from fun z=>nD (z ▸ m)),hu]
    exact gg.h _ _ hu
   ·intro z
    rcases ζu.mp z with z | z
    ·exact nD z
    ·exact nDb z
   ·intro a m
    rcases ζu.mp m with m | m
    ·obtain ⟨u,hu⟩:=there a m
     exact ⟨(nw a m).1,gg.ap _ _ hu (nw a m).2⟩
    ·exact ⟨((g2.trans g3).trans g4).h.free (n6 a m).1,(n6 a m).2⟩
  ·have ei:i=ds.length:=by omega
   subst ei
   rw [ζ4] at k2
   refine .inl ⟨I1.stop H2 F2 g2.f g2.le,q (.ref D) (D :: as) H2 F2 (g1.trans g2) (.lst hl k2 nD) fun a m=>?_⟩
   rcases ζs.mp m with rfl | m
   ·exact ⟨g1.h.free hD,fl⟩
   ·exact ⟨g1.h.free (nw a m).1,(nw a m).2⟩
end
end PD
namespace L2
open PySem PySem.Spec PyProof.Rows
def mxL (ns:List Int):Int:=ns.getD (argBest (fun i j=>decide (ns.getD i 0 > ns.getD j 0)) (ns.length - 1)) 0
theorem tV (bt:Nat→Nat→Bool):∀ k,argBest bt k≤k
 | 0=>ζm _
 | k + 1=>by
  have:=tV bt k
  unfold argBest
  split <;> omega
theorem Qr {ns:List Int} {i:Nat} (h:i < ns.length):ns.getD i 0∈ns:=by
 rw [ζc,ζf h]
 exact ξv _
theorem Tf {ns:List Int} (h:ns≠[]):mxL ns∈ns:=by
 have l:=List.length_pos_iff.mpr h
 have:=tV (fun i j=>decide (ns.getD i 0 > ns.getD j 0)) (ns.length - 1)
 exact Qr (by omega)
section
variable {X:Cx} {K:ζb}
def Ub (K:ζb) (f:List Int→Int):List V→Hp→VK→Prop:=fun xs H Q=>∃ p,∃ ns:List Int,xs=[.ref p]∧SqL K H p (ns.map V.int)∧ns≠[]∧Q (.int (f ns)) H
theorem QD (hc:X.calm=true):yB X (.builtin "max") (Ub X.K mxL):=by
 intro pins s σ H xs us Q I r h
 obtain ⟨p,ns,rfl,hq,h0,q⟩:=h
 obtain ⟨u,rfl,rx⟩:=xJ r
 cases rx
 obtain ⟨its,r',pl,hz⟩:=I.list hq
 have hl:=pl.isList
 have hi:=r'.length
 rw [ζa] at hi
 refine call_max_walk (wpAny_pyIter_list hl ?_)
 have hne:p≠s.heap.objs.size:=by
  obtain ⟨o,ho,_⟩:=hl
  exact ζG (ζn ho)
 have val:∀ (i:Nat) (v:Value),its.toArray[i]?=some v→∃ t,v=.int (ns.getD i 0) t:=fun i v hv=>by
  obtain ⟨y,hy,ry⟩:=YL (u:=v) r' (by simpa using hv)
  rw [ζl] at hy
  cases e:ns[i]? with
  | none=>rw [e] at hy; cases hy
  | some n =>
   rw [e] at hy
   cases hy
   obtain ⟨t,rfl⟩:=ry
   exact ⟨t,by rw [ζc,e]; rfl⟩
 have l0:=List.length_pos_iff.mpr h0
 refine ⟨s.heap.objs.size,_,_,_,_,_,_,rfl,Walks.list (A:=X.A.in1) (I.ok.hd hc) _ p hne its.toArray,⟨⟨_,ζp _ rfl,rfl,rfl⟩,hl.push _⟩,?_,?_,CmpOf.ints_gt (fun i=>ns.getD i 0) val,fun v h' tk hP hk=>?_⟩
 ·intro b hb
  simp at hb
  rw [ξf]
  rcases hb with rfl | rfl
  ·exact ξR _
  ·obtain ⟨o,ho,_⟩:=hl
   exact ξq (ζn ho)
 ·simp; omega
 ·obtain ⟨t,rfl⟩:=val _ v hP
  refine ⟨.int _,H,I.kept fun b o eb=>hk b o (by simpa using Nat.ne_of_lt (Heap.lt_size eb)) (Heap.get?_push_of_some _ eb),⟨t,rfl⟩,?_⟩
  have e:its.toArray.size - 1=ns.length - 1:=by simp; omega
  rw [e]
  exact q
theorem UF (hK:X.K=K) (hc:X.calm=true):yB X (.builtin "max") (Ub K mxL):=by subst hK; exact QD hc
end
end L2
namespace PD
open PySem L2
section
variable {K:ζb} {S S':Sx} {κ κ':Bool} {Γ Γ' Γ'':Ctx} {P:Post}
theorem zbj {f:List Int→Int} {ta:TE} {ns:List Int} (h:EvL K S false ta Γ (ns.map .int)) (h0:ns≠[]):EvE K S κ (tCB (Ub K f) (zE ta tNil)) Γ (.int (f ns)):=fun H0 F0 H F σ e Q q =>
 h H0 F0 H F σ e _ fun a vs H1 F1 g1 p1 k1=>by
  cases yl (zU k1)
  exact ⟨a,ns,rfl,p1,h0,q _ H1 F1 g1 (.int _)⟩
theorem zcr {js:List (Option Nat)} {Γc:Ctx} {wi:TI} {g:TG} {te:TE} {is:List Nat} {ds:List PyData} (κ':Bool) (f:PyData→PyData) (hi:EvI K S κ' wi Γ ds) (hc:xR js Γ Γc) (hjs:(is.all fun i=>js[i]? == some none)=true)
  (hj:(js.filterMap id).Nodup) (hz:ds.length≤sizeLine) (hb:∀ d∈ds,ExG K S κ' g is d Γc fun Γ'=>EvTr K S te Γ' (f d)):EvTr K S (vi js wi g tYes te) Γ (.list (ds.map f)):=by
 refine za8 κ' f hi (fun i hi=>?_) ?_ hz (by rw [hc.eq]; exact hb)
 ·have:=ζ9.mp hjs i hi
  simpa using this
 ·intro i j k h1 h2
  clear hc hjs hi hb
  induction js generalizing i j with
  | nil=>simp at h1
  | cons o js ih =>
   cases o with
   | none =>
    cases i with
    | zero=>simp at h1
    | succ i =>
     cases j with
     | zero=>simp at h2
     | succ j=>rw [ih (by simpa using hj) i j (by simpa using h1) (by simpa using h2)]
   | some m =>
    have hj':(m :: js.filterMap id).Nodup:=by simpa using hj
    have hm:=(ξI.mp hj').1
    cases i with
    | zero =>
     cases j with
     | zero=>rfl
     | succ j =>
      have e1:m=k:=by simpa using h1
      subst e1
      have h2':js[j]?=some (some m):=by simpa using h2
      exact absurd (show m∈js.filterMap id from ξd.mpr ⟨some m,ζd h2',rfl⟩) hm
    | succ i =>
     cases j with
     | zero =>
      have e1:m=k:=by simpa using h2
      subst e1
      have h2':js[i]?=some (some m):=by simpa using h1
      exact absurd (show m∈js.filterMap id from ξd.mpr ⟨some m,ζd h2',rfl⟩) hm
     | succ j=>rw [ih (List.nodup_cons.mp hj').2 i j (by simpa using h1) (by simpa using h2)]
theorem za7 {α:Type} {js:List (Option Nat)} {Γc:Ctx} {wi:TI} {g:TG} {te:TE} {is:List Nat} {xs:List α} (κ':Bool) (u f:α→PyData) (hu:∀ x∈xs,∀ y∈xs,u x=u y→f x=f y) (hi:EvI K S κ' wi Γ (xs.map u)) (hc:xR js Γ Γc) (hjs:(is.all fun i=>js[i]? == some none)=true)
  (hj:(js.filterMap id).Nodup) (hz:xs.length≤sizeLine) (hb:∀ x∈xs,ExG K S κ' g is (u x) Γc fun Γ'=>EvTr K S te Γ' (f x)):EvTr K S (vi js wi g tYes te) Γ (.list (xs.map f)):=by
 classical
 let F:PyData→PyData:=fun d=>if h:∃ x,x∈xs∧u x=d then f h.choose else .none
 have hF:∀ x∈xs,F (u x)=f x:=fun x hx=>by
  have h:∃ y,y∈xs∧u y=u x:=⟨x,hx,rfl⟩
  show (if h:∃ y,y∈xs∧u y=u x then f h.choose else .none)=_
  rw [dif_pos h]
  exact hu _ h.choose_spec.1 _ hx h.choose_spec.2
 refine EvTr.eq (zcr κ' F hi hc hjs hj (by rw [ζa]; exact hz) fun d hd=>?_) ?_
 ·obtain ⟨x,hx,rfl⟩:=ζq.mp hd
  rw [hF x hx]
  exact hb x hx
 ·rw [ζr]
  exact congrArg PyData.list (ζK fun x hx=>hF x hx)
theorem zaY {φ:V→Prop} {t te:TE} {u:TS} {i:Nat} {d x d':PyData} {es:List PyData} {fill:List PyData→PyData} (hg:GetC Γ i (trP φ d)) (h:EvQ K S t Γ i d es fill) (he:EvE K S false te Γ x) (hx:atom x=true) (hz:es.length < sizeLine) (hf:fill (es ++ [x])=d') (es':SetC Γ i (some (trP φ d')) Γ') (k:ExT K S S' u Γ' P) :
  ExT K S S' (tSeq (xH (tBM K "list" y8 t (zE te tNil))) u) Γ P:=by
 subst hf
 exact zcm hg h he hx hz es' k
end
section
variable {K:ζb} {S S':Sx} {κ κ':Bool} {Γ Γ' Γ'':Ctx} {P:Post} {E:XK}
theorem za3 {t:TS} (h:ExT K S S' (tSeq t YM) Γ P):ExT K S S' t Γ P:=h
end
section
variable {K:ζb} {S S':Sx} {κ κ':Bool} {Γ Γ' Γ'':Ctx} {P:Post} {E:XK} {φ:V→Prop}
end
end PD
namespace L2
open PySem PySem.Spec PyProof.Rows
section
variable {X:Cx} {K:ζb}
def rSlS:V→Option Int→Option Int→Hp→VK→Prop:=fun x lo hi H Q=>∃ z,x=.str z∧z.length≤sizeLine∧Q (.str (Txt.slice z lo hi)) H
theorem Xm:SlR X rSlS:=by
 intro pins s σ H x v vl vu lo hi sl Q I rx hs pl pu h
 obtain ⟨z,rfl,hz,q⟩:=h
 obtain ⟨t,rfl⟩:=rx
 refine ⟨"str", _,F.slot_str_getitem.lookup,typeIs_str _ _ _,?_⟩
 cases pl with
 | none=>cases pu with
  | none=>exact wpAny_getItem_str_slice (l:=none) (u:=none) (st:=none) hs rfl (post_val_or_str ⟨ζM (Txt.slice_le z _ _) hz,fun t' k=>⟨.str _,H,I.tok _,⟨_,rfl⟩,q⟩⟩)
  | int j tj=>exact wpAny_getItem_str_slice (l:=none) (u:=some (j,tj)) (st:=none) hs rfl (post_val_or_str ⟨ζM (Txt.slice_le z _ _) hz,fun t' k=>⟨.str _,H,I.tok _,⟨_,rfl⟩,q⟩⟩)
 | int i ti=>cases pu with
  | none=>exact wpAny_getItem_str_slice (l:=some (i,ti)) (u:=none) (st:=none) hs rfl (post_val_or_str ⟨ζM (Txt.slice_le z _ _) hz,fun t' k=>⟨.str _,H,I.tok _,⟨_,rfl⟩,q⟩⟩)
  | int j tj=>exact wpAny_getItem_str_slice (l:=some (i,ti)) (u:=some (j,tj)) (st:=none) hs rfl (post_val_or_str ⟨ζM (Txt.slice_le z _ _) hz,fun t' k=>⟨.str _,H,I.tok _,⟨_,rfl⟩,q⟩⟩)
def zc4:R2:=fun x y H Q=>∃ i j,x=.str i∧y=.str j∧i.length + j.length≤sizeLine∧Q (.str (i ++ j)) H
theorem Zd:OpR X (binaryOp .Add) zc4:=Uf
def zcZ:List V→Hp→VK→Prop:=fun xs H Q=>∃ z,xs=[.str z]∧z.length≤sizeLine∧Q (.int z.length) H
theorem v6:yB X (.builtin "len") zcZ:=Wu
theorem UW:∀ {zs:List PySem.Str} {its:List Value},Vals (zs.map V.str) its→∃ l:List (PySem.Str×Tok),strValues l=its∧l.map (·.1)=zs
 | [],_,.nil=>⟨[],rfl,rfl⟩
 | z :: r,_,.cons h t=>by
  obtain ⟨l,rfl,e⟩:=UW t
  obtain ⟨u,rfl⟩:=h
  exact ⟨(z,u) :: l,rfl,by rw [ζT,e]⟩
def zab (K:ζb):V→List V→Hp→VK→Prop:=fun x vs H Q=>∃ sep p,∃ zs:List PySem.Str,x=.str sep∧vs=[.ref p]∧SqL K H p (zs.map V.str)∧JoinOk sep zs=true∧Q (.str (PySem.Str.join sep zs)) H
theorem zcd:MtM X "str.join" (zab X.K):=by
 intro pins s σ H x vs v us Q I rx rv h
 obtain ⟨sep,p,zs,rfl,rfl,hq,ok,q⟩:=h
 obtain ⟨t,rfl⟩:=rx
 obtain ⟨u,rfl,ru⟩:=rv.one
 cases ru
 obtain ⟨its,r,pl,hz⟩:=I.list hq
 obtain ⟨l,rfl,ht⟩:=UW r
 refine SC.join pl.isList ht ok fun t' k=>⟨.str _,H,I.tok _,⟨_,rfl⟩,?_⟩
 rw [show Txt.join sep zs=PySem.Str.join sep zs from StrLaws.glued_eq_join sep zs]
 exact q
theorem Vq (hK:X.K=K):MtM X "str.join" (zab K):=by subst hK; exact zcd
def zc2:V→List V→Hp→VK→Prop:=fun x vs H Q=>∃ z y i rest,x=.str z∧vs=[.str y]∧Builtin.Str.occurrences z y 0 z.length 1=i :: rest∧Q (.int (i:Nat)) H
theorem Qh:MtM X "str.index" zc2:=by
 intro pins s σ H x vs v us Q I rx rv h
 obtain ⟨z,y,i,rest,rfl,rfl,ho,q⟩:=h
 obtain ⟨t,rfl⟩:=rx
 obtain ⟨u,rfl,ru⟩:=rv.one
 obtain ⟨t',rfl⟩:=ru
 exact SC.index ho ⟨.int _,H,I.tok _,⟨_,rfl⟩,q⟩
end
end L2
namespace PD
open PySem L2
section
variable {K:ζb} {S S':Sx} {κ κ':Bool} {Γ Γ' Γ'' Γ3:Ctx} {P:Post} {E:XK}
theorem vh {F:Hp}:∀ {vs:List V} {zs:List Str},zT K F vs (zs.map PyData.str)→vs=zs.map V.str
 | _,[],.nil=>rfl
 | _,n :: r,.cons h t=>by cases h; rw [ζT,vh t]
theorem Zj {ta tb:TE} {i j:Str} (ha:EvE K S false ta Γ (.str i)) (hb:EvE K S false tb Γ (.str j)) (hz:i.length + j.length≤sizeLine):EvE K S κ (tOp zc4 ta tb) Γ (.str (i ++ j)):=fun H0 F0 H F σ e Q q =>
 ha H0 F0 H F σ e _ fun v H1 F1 g1 p1=>hb H0 F0 H1 F1 σ (e.mono g1) _ fun w H2 F2 g2 p2=>by
  cases yT p1
  cases yT p2
  exact ⟨i,j,rfl,rfl,hz,q _ H2 F2 (g1.trans g2) (.str _)⟩
theorem Wk {ta tb:TE} {z:Str} {i:Int} {c:Nat} (ha:EvE K S false ta Γ (.str z)) (hb:EvE K S false tb Γ (.int i)) (hz:z.length≤sizeLine) (h:atI z.cps.toList i=some c):EvE K S κ (tOp rIxS ta tb) Γ (.str ⟨#[c]⟩):=fun H0 F0 H F σ e Q q =>
 ha H0 F0 H F σ e _ fun v H1 F1 g1 p1=>hb H0 F0 H1 F1 σ (e.mono g1) _ fun w H2 F2 g2 p2=>by
  cases yT p1
  cases yH p2
  exact ⟨z,i,c,rfl,rfl,hz,h,q _ H2 F2 (g1.trans g2) (.str _)⟩
theorem Wh {t:TE} {tl th:TO} {z:Str} {lo hi:Option Int} (h:EvE K S false t Γ (.str z)) (hz:z.length≤sizeLine) (hl:EvP K S tl Γ lo) (hh:EvP K S th Γ hi):EvE K S κ (tSl rSlS t tl th) Γ (.str (Txt.slice z lo hi)):=fun H0 F0 H F σ e Q q =>
 h H0 F0 H F σ e _ fun v H1 F1 g1 p1=>by
  cases yT p1
  exact hl H0 F0 H1 F1 σ (e.mono g1) _ fun H2 F2 g2=>hh H0 F0 H2 F2 σ ((e.mono g1).mono g2) _ fun H3 F3 g3=>⟨z,rfl,hz,q _ H3 F3 ((g1.trans g2).trans g3) (.str _)⟩
theorem Zh {ta:TE} {z:Str} (h:EvE K S false ta Γ (.str z)) (hz:z.length≤sizeLine):EvE K S κ (tCB zcZ (zE ta tNil)) Γ (.int (z.length:Nat)):=fun H0 F0 H F σ e Q q =>
 h H0 F0 H F σ e _ fun v H1 F1 g1 p1=>by
  cases yT p1
  exact ⟨z,rfl,hz,q _ H1 F1 g1 (.int _)⟩
theorem TB {ta:TE} {sep:Str} {zs:List Str} (h:EvL K S false ta Γ (zs.map .str)) (ok:JoinOk sep zs=true):EvE K S κ (tBM K "str" (zab K) (tC (.str sep)) (zE ta tNil)) Γ (.str (Str.join sep zs)):=fun H0 F0 H F σ e Q q =>
 ⟨rfl,h H0 F0 H F σ e _ fun a vs H1 F1 g1 p1 k1=>by
  cases vh (zU k1)
  exact ⟨sep,a,zs,rfl,rfl,p1,ok,q _ H1 F1 g1 (.str _)⟩⟩
theorem Qx {ta tb:TE} {z y:Str} {i:Nat} {rest:List Nat} (ha:EvE K S false ta Γ (.str z)) (hb:EvE K S false tb Γ (.str y)) (h:Builtin.Str.occurrences z y 0 z.length 1=i :: rest):EvE K S κ (tBM K "str" zc2 ta (zE tb tNil)) Γ (.int (i:Nat)):=fun H0 F0 H F σ e Q q =>
 ha H0 F0 H F σ e _ fun v H1 F1 g1 p1=>by
  cases yT p1
  exact ⟨rfl,hb H0 F0 H1 F1 σ (e.mono g1) _ fun w H2 F2 g2 p2=>by
   cases yT p2
   exact ⟨z,y,i,rest,rfl,rfl,h,q _ H2 F2 (g1.trans g2) (.int _)⟩⟩
theorem Tk {sep:Str} {zs:List Str} (B:Nat) (hB:∀ y∈zs,y.length≤B) (h:zs.length * B + zs.length * sep.length≤16777216):JoinOk sep zs=true:=by
 unfold JoinOk
 rw [StrLaws.joinFits hB h]
 rfl
end
end PD
namespace L2
open PySem
section
variable {X:Cx} {es xs:List Expr} {te:TE} {t:TA} {p:Pos}
theorem xZ (ha:PE X (.List xs p) te) (hr:PA X es t):PA X (.List xs p :: es) (zE te t):=zb ha hr
theorem zao {x1} (ha:PE X (.Tuple xs x1 p) te) (hr:PA X es t):PA X (.Tuple xs x1 p :: es) (zE te t):=zb ha hr
theorem uH {c j q} (ha:PE X (.Constant c j q) te) (hr:PA X es t):PA X (.Constant c j q :: es) (zE te t):=zb ha hr
end
end L2
namespace L2
open PySem PySem.Spec PyProof.Rows
abbrev At3 (h:Heap) (T:Addr) (a b c:Value):Prop:=h.get? T=some { cls:=.type "tuple", data:=.seq #[a,b,c] }
section
variable {prog:Program} {w:World} {A:Around} {E:Value→Shared→Prop} {s:Shared}
theorem put3 {T:Addr} {a b c x:Value} {k:Nat} {Q:Unit→Shared→Prop} (t3:At3 s.heap T a b c)
  (go:∀ h2,h2.get? T=some { cls:=.type "tuple", data:=.seq ((#[a,b,c]:Array Value).setIfInBounds k x) }→Heap.SameBut T s.heap h2→Q () { s with heap:=h2 }) :
  wpAny (model prog w) A (updateSeq T (·.setIfInBounds k x)) Q E s:=by
 refine wpAny_updateSeq t3 rfl (go _ ?_ (Heap.SameBut.update ..))
 rw [ζX _ t3 rfl]
 simp [Obj.mapSeq]
structure Z3 (h:Heap) (n a b c:Addr) (f0:Value) (i:Nat) (x y z:Value):Prop where
 zo:IsZip h (n + 5) (n + 3) (n + 4) f0
 ti:At3 h (n + 3) (.ref n) (.ref (n + 1)) (.ref (n + 2))
 to:At3 h (n + 4) x y z
 i1:h.IsListIter n a i
 i2:h.IsListIter (n + 1) b i
 i3:h.IsListIter (n + 2) c i
abbrev zf (n:Addr):List Addr:=[n + 5,n + 3,n + 4,n,n + 1,n + 2]
theorem zbz {n a b c:Addr} {i:Nat} {xs ys zs:Array Value} {x y z u v t:Value} {Q:Value→Shared→Prop} (Z:Z3 s.heap n a b c .none i u v t)
  (na:∀ d∈zf n,a≠d) (nb:∀ d∈zf n,b≠d) (nc:∀ d∈zf n,c≠d) (la:s.heap.IsList a xs) (lb:s.heap.IsList b ys) (lc:s.heap.IsList c zs)
  (hx:xs[i]?=some x) (hy:ys[i]?=some y) (hz:zs[i]?=some z)
  (go:∀ h2,IsZip h2 (n + 5) (n + 3) (n + 4) (rawInt s.heap.objs.size)→At3 h2 (n + 4) x y z→h2.IsListIter n a (i + 1)→h2.IsListIter (n + 1) b (i + 1)→h2.IsListIter (n + 2) c (i + 1)→At3 h2 s.heap.objs.size x y z →
   (∀ d o,d≠n + 5→d≠n + 4→d≠n→d≠n + 1→d≠n + 2→s.heap.get? d=some o→h2.get? d=some o)→Q (.ref s.heap.objs.size) { s with heap:=h2 }) :
  wpAny (model prog w) A (Builtin.«zip.__next__» ⟨[.ref (n + 5)],[]⟩) (fun r s2=>∃ k,r=.done (.ret k)∧Q k s2) E s:=by
 obtain ⟨zo,ti,to,j1,j2,j3⟩:=Z
 have e05:(n:Addr)≠n + 5:=ad (by omega)
 have e15:(n + 1:Addr)≠n + 5:=ad (by omega)
 have e25:(n + 2:Addr)≠n + 5:=ad (by omega)
 have e45:(n + 4:Addr)≠n + 5:=ad (by omega)
 have e04:(n:Addr)≠n + 4:=ad (by omega)
 have e14:(n + 1:Addr)≠n + 4:=ad (by omega)
 have e24:(n + 2:Addr)≠n + 4:=ad (by omega)
 have e01:(n:Addr)≠n + 1:=ad (by omega)
 have e02:(n:Addr)≠n + 2:=ad (by omega)
 have e12:(n + 1:Addr)≠n + 2:=ad (by omega)
 have a5:=na (n + 5) (by simp)
 have b5:=nb (n + 5) (by simp)
 have b4:=nb (n + 4) (by simp)
 have b0:=nb n (by simp)
 have c5:=nc (n + 5) (by simp)
 have c4:=nc (n + 4) (by simp)
 have c0:=nc n (by simp)
 have c1:=nc (n + 1) (by simp)
 show wpAny _ _ (field (.ref (n + 5)) 2 >>= _) _ _ _
 refine wpAny_bind (wpAny_field zo rfl (x:=.bool false) rfl ?_)
 show wpAny _ _ (field (.ref (n + 5)) 3 >>= _) _ _ _
 refine wpAny_bind (wpAny_field zo rfl (x:=.ref (n + 3)) rfl (wpAny_bind (wpAny_seqItems ti rfl ?_)))
 show wpAny _ _ (Builtin.SmallTypes.ownedTupleIsFree (.ref (n + 5)) >>= _) _ _ _
 refine wpAny_bind ?_
 unfold Builtin.SmallTypes.ownedTupleIsFree
 refine wpAny_bind (wpAny_field zo rfl (x:=.none) rfl (wpAny_pure ?_))
 simp only [if_true]
 refine wpAny_bind (wpAny_rule (wpAny_bind (wpAny_field zo rfl (x:=.ref (n + 4)) rfl (wpAny_bind (wpAny_setField_rec zo (by simp) fun g1 z1 s1=>?_)))))
 replace z1:IsZip g1 (n + 5) (n + 3) (n + 4) .ellipsis:=z1
 refine wpAny_bind ?_
 simp only [List.zipIdx_cons,List.zipIdx_nil,List.forIn_cons,List.forIn_nil]
 refine wpAny_bind (wpAny_bind (wpAny_onRaise ?_))
 show wpAny _ _ (Builtin.SmallTypes.nextOf (.ref n) >>= _) _ _ _
 refine wpAny_bind (wpAny_nextOf_list_item (j1.extBut s1.extBut e05) (la.extBut s1.extBut a5) hx fun g2 k1 s2=>wpAny_pure ?_)
 have t2:At3 g2 (n + 4) u v t:=s2.extBut _ _ e04.symm (s1.extBut _ _ e45 to)
 refine wpAny_bind (wpAny_seqItems t2 rfl (wpAny_bind (put3 t2 fun g3 t3 s3=>?_)))
 replace t3:At3 g3 (n + 4) x v t:=t3
 refine wpAny_bind (wpAny_letGo (wpAny_pure ?_))
 refine wpAny_bind (wpAny_bind (wpAny_onRaise ?_))
 show wpAny _ _ (Builtin.SmallTypes.nextOf (.ref (n + 1)) >>= _) _ _ _
 have k2:=((j2.extBut s1.extBut e15).extBut s2.extBut e01.symm).extBut s3.extBut e14
 have m2:=((lb.extBut s1.extBut b5).extBut s2.extBut b0).extBut s3.extBut b4
 refine wpAny_bind (wpAny_nextOf_list_item k2 m2 hy fun g4 k2 s4=>wpAny_pure ?_)
 have t4:At3 g4 (n + 4) x v t:=s4.extBut _ _ e14.symm t3
 refine wpAny_bind (wpAny_seqItems t4 rfl (wpAny_bind (put3 t4 fun g5 t5 s5=>?_)))
 replace t5:At3 g5 (n + 4) x y t:=t5
 refine wpAny_bind (wpAny_letGo (wpAny_pure ?_))
 refine wpAny_bind (wpAny_bind (wpAny_onRaise ?_))
 show wpAny _ _ (Builtin.SmallTypes.nextOf (.ref (n + 2)) >>= _) _ _ _
 have k3:=((((j3.extBut s1.extBut e25).extBut s2.extBut e02.symm).extBut s3.extBut e24).extBut s4.extBut e12.symm).extBut s5.extBut e24
 have m3:=((((lc.extBut s1.extBut c5).extBut s2.extBut c0).extBut s3.extBut c4).extBut s4.extBut c1).extBut s5.extBut c4
 refine wpAny_bind (wpAny_nextOf_list_item k3 m3 hz fun g6 k3 s6=>wpAny_pure ?_)
 have t6:At3 g6 (n + 4) x y t:=s6.extBut _ _ e24.symm t5
 refine wpAny_bind (wpAny_seqItems t6 rfl (wpAny_bind (put3 t6 fun g7 t7 s7=>?_)))
 replace t7:At3 g7 (n + 4) x y z:=t7
 refine wpAny_bind (wpAny_letGo (wpAny_pure (wpAny_pure ?_)))
 refine wpAny_bind (wpAny_seqItems t7 rfl (wpAny_bind (wpAny_newTuple ?_)))
 have sz:g7.objs.size=s.heap.objs.size:=by rw [s7.1,s6.1,s5.1,s4.1,s3.1,s2.1,s1.1]
 have z7:IsZip g7 (n + 5) (n + 3) (n + 4) .ellipsis:=s7.extBut _ _ e45.symm (s6.extBut _ _ e25.symm (s5.extBut _ _ e45.symm (s4.extBut _ _ e15.symm (s3.extBut _ _ e45.symm (s2.extBut _ _ e05.symm z1)))))
 have kp:∀ d o,d≠n + 5→d≠n + 4→d≠n→d≠n + 1→d≠n + 2→s.heap.get? d=some o→g7.get? d=some o:=fun d o d5 d4 d0 d1 d2 e =>
  s7.extBut _ _ d4 (s6.extBut _ _ d2 (s5.extBut _ _ d4 (s4.extBut _ _ d1 (s3.extBut _ _ d4 (s2.extBut _ _ d0 (s1.extBut _ _ d5 e))))))
 have q1:g7.IsListIter n a (i + 1):=((((k1.extBut s3.extBut e04).extBut s4.extBut e01).extBut s5.extBut e04).extBut s6.extBut e02).extBut s7.extBut e04
 have q2:g7.IsListIter (n + 1) b (i + 1):=((k2.extBut s5.extBut e14).extBut s6.extBut e12).extBut s7.extBut e14
 have q3:g7.IsListIter (n + 2) c (i + 1):=k3.extBut s7.extBut e24
 have zlt:n + 5 < g7.objs.size:=ζn z7
 show wpAny _ _ (Builtin.SmallTypes.ownedTupleHandOut (.ref (n + 5)) (.ref g7.objs.size) >>= _) _ _ _
 refine wpAny_bind ?_
 unfold Builtin.SmallTypes.ownedTupleHandOut
 have z8:IsZip (g7.push { cls:=.type "tuple", data:=.seq #[x,y,z] }) (n + 5) (n + 3) (n + 4) .ellipsis:=ζg _ z7
 refine wpAny_bind (wpAny_setField_rec z8 (by simp) fun g9 z9 s9=>?_)
 replace z9:IsZip g9 (n + 5) (n + 3) (n + 4) (rawInt g7.objs.size):=z9
 refine wpAny_setField_rec z9 (by simp) fun g10 z10 s10=>?_
 replace z10:IsZip g10 (n + 5) (n + 3) (n + 4) (rawInt g7.objs.size):=z10
 have up:∀ d o,d≠n + 5→g7.get? d=some o→g10.get? d=some o:=fun d o d5 e=>s10.extBut _ _ d5 (s9.extBut _ _ d5 (ζg _ e))
 have tn:At3 g10 g7.objs.size x y z:=s10.extBut _ _ (ξb zlt) (s9.extBut _ _ (ξb zlt) (ζp _ rfl))
 rw [sz] at z10 tn
 refine wpAny_pure ⟨_,rfl,?_⟩
 show Q (.ref g7.objs.size) _
 rw [sz]
 exact go g10 z10 (up _ _ e45 t7) (q1.at fun o e=>up _ o e05 e) (q2.at fun o e=>up _ o e15 e) (q3.at fun o e=>up _ o e25 e) tn fun d o d5 d4 d0 d1 d2 e=>up d o d5 (kp d o d5 d4 d0 d1 d2 e)
theorem zdi {n a b c:Addr} {i:Nat} {xs:Array Value} {u v t:Value} {Q:Fin→Shared→Prop} (hh:A.handled=none) (Z:Z3 s.heap n a b c .none i u v t)
  (na:∀ d∈zf n,a≠d) (la:s.heap.IsList a xs) (hx:xs[i]?=none)
  (out:∀ h2 e,(∀ d o,d≠n + 5→d≠n→s.heap.get? d=some o→h2.get? d=some o)→(∃ o,h2.get? e=some o∧o.cls=.type "StopIteration")→E (.ref e) { s with heap:=h2 }) :
  wpAny (model prog w) A (Builtin.«zip.__next__» ⟨[.ref (n + 5)],[]⟩) Q E s:=by
 obtain ⟨zo,ti,to,j1,j2,j3⟩:=Z
 have e05:(n:Addr)≠n + 5:=ad (by omega)
 have a5:=na (n + 5) (by simp)
 show wpAny _ _ (field (.ref (n + 5)) 2 >>= _) _ _ _
 refine wpAny_bind (wpAny_field zo rfl (x:=.bool false) rfl ?_)
 show wpAny _ _ (field (.ref (n + 5)) 3 >>= _) _ _ _
 refine wpAny_bind (wpAny_field zo rfl (x:=.ref (n + 3)) rfl (wpAny_bind (wpAny_seqItems ti rfl ?_)))
 show wpAny _ _ (Builtin.SmallTypes.ownedTupleIsFree (.ref (n + 5)) >>= _) _ _ _
 refine wpAny_bind ?_
 unfold Builtin.SmallTypes.ownedTupleIsFree
 refine wpAny_bind (wpAny_field zo rfl (x:=.none) rfl (wpAny_pure ?_))
 simp only [if_true]
 refine wpAny_bind (wpAny_rule (wpAny_bind (wpAny_field zo rfl (x:=.ref (n + 4)) rfl (wpAny_bind (wpAny_setField_rec zo (by simp) fun g1 z1 s1=>?_)))))
 replace z1:IsZip g1 (n + 5) (n + 3) (n + 4) .ellipsis:=z1
 refine wpAny_bind ?_
 simp only [List.zipIdx_cons,List.zipIdx_nil,List.forIn_cons,List.forIn_nil]
 refine wpAny_bind (wpAny_bind (wpAny_onRaise ?_))
 show wpAny _ _ (Builtin.SmallTypes.nextOf (.ref n) >>= _) _ _ _
 refine wpAny_bind (wpAny_nextOf_list_end hh (j1.extBut s1.extBut e05) (la.extBut s1.extBut a5) hx fun g2 e s2 he=>?_)
 obtain ⟨oe,hoe,ce⟩:=he
 have z2:IsZip g2 (n + 5) (n + 3) (n + 4) .ellipsis:=s2 _ _ e05.symm z1
 have ez:e≠n + 5:=fun x=>by subst x; rw [z2] at hoe; cases hoe; simp at ce
 exact wpAny_setField_rec z2 (by simp) fun g3 _ s3=>out g3 e (fun d o d5 d0 x=>s3.extBut _ _ d5 (s2 _ _ d0 (s1.extBut _ _ d5 x))) ⟨oe,s3.extBut _ _ ez hoe,ce⟩
theorem zet {n a b c:Addr} {i:Nat} {xs ys zs:Array Value} {x y z u v t:Value} {Q:Option Value→Shared→Prop} (Z:Z3 s.heap n a b c .none i u v t)
  (na:∀ d∈zf n,a≠d) (nb:∀ d∈zf n,b≠d) (nc:∀ d∈zf n,c≠d) (la:s.heap.IsList a xs) (lb:s.heap.IsList b ys) (lc:s.heap.IsList c zs)
  (hx:xs[i]?=some x) (hy:ys[i]?=some y) (hz:zs[i]?=some z)
  (go:∀ h2,IsZip h2 (n + 5) (n + 3) (n + 4) (rawInt s.heap.objs.size)→At3 h2 (n + 4) x y z→h2.IsListIter n a (i + 1)→h2.IsListIter (n + 1) b (i + 1)→h2.IsListIter (n + 2) c (i + 1)→At3 h2 s.heap.objs.size x y z →
   (∀ d o,d≠n + 5→d≠n + 4→d≠n→d≠n + 1→d≠n + 2→s.heap.get? d=some o→h2.get? d=some o)→Q (some (.ref s.heap.objs.size)) { s with heap:=h2 }) :
  wpAny (model prog w) A (pyNext (.ref (n + 5))) Q E s:=by
 have ty:s.TypeIs (.ref (n + 5)) "zip" := ⟨_,Z.zo,rfl⟩
 unfold pyNext
 refine wpAny_bind (wpAny_attempt (wpAny_callSpecial?_slot (name:=Str.ofString "__next__") ty F.slot_zip_next (wpAny_call_entry F.slot_zip_next ty F.entry_zip_next ?_ (F.args_zip_next_1 _))))
 refine zbz Z na nb nc la lb lc hx hy hz fun h2 a1 a2 a3 a4 a5 a6 a7=>wpAny_pure (go h2 a1 a2 a3 a4 a5 a6 a7)
theorem zei {n a b c:Addr} {i:Nat} {xs:Array Value} {u v t:Value} {Q:Option Value→Shared→Prop} (hh:A.handled=none) (Z:Z3 s.heap n a b c .none i u v t)
  (na:∀ d∈zf n,a≠d) (la:s.heap.IsList a xs) (hx:xs[i]?=none)
  (out:∀ h2,(∀ d o,d≠n + 5→d≠n→s.heap.get? d=some o→h2.get? d=some o)→Q none { s with heap:=h2 }) :
  wpAny (model prog w) A (pyNext (.ref (n + 5))) Q E s:=by
 have ty:s.TypeIs (.ref (n + 5)) "zip" := ⟨_,Z.zo,rfl⟩
 unfold pyNext
 refine wpAny_bind (wpAny_attempt (wpAny_callSpecial?_slot (name:=Str.ofString "__next__") ty F.slot_zip_next (wpAny_call_entry F.slot_zip_next ty F.entry_zip_next ?_ (F.args_zip_next_1 _))))
 refine zdi hh Z na la hx fun h2 e kp he=>?_
 obtain ⟨o,ho,hc⟩:=he
 exact wpAny_bind (wpAny_isInstance (T := "StopIteration") (b:=true) ⟨o,ho,hc⟩ isSubtype_stop (wpAny_pure (out _ kp)))
abbrev zA1 (h:Heap) (a:Addr):Heap:=h.push { cls:=.type "list_iterator", data:=.fields #[.ref a,.int 0 0] }
abbrev zA2 (h:Heap) (a b:Addr):Heap:=zA1 (zA1 h a) b
abbrev zA3 (h:Heap) (a b c:Addr):Heap:=zA1 (zA2 h a b) c
abbrev zA4 (h:Heap) (a b c:Addr):Heap:=(zA3 h a b c).push { cls:=.type "tuple", data:=.seq #[.ref h.objs.size,.ref (zA1 h a).objs.size,.ref (zA2 h a b).objs.size] }
abbrev zA5 (h:Heap) (a b c:Addr):Heap:=(zA4 h a b c).push { cls:=.type "tuple", data:=.seq #[.none,.none,.none] }
abbrev zA6 (h:Heap) (a b c:Addr):Heap:=(zA5 h a b c).push { cls:=.type "zip", data:=.fields #[.none,.bool false,.bool false,.ref (zA3 h a b c).objs.size,.ref (zA4 h a b c).objs.size] }
theorem new3 (a b c:Addr) (xs ys zs:Array Value) :
  Meets (Builtin.«zip.__new__» ⟨[.type "zip", .ref a,.ref b,.ref c],[]⟩) (fun _ R s=>s.heap.IsList a xs∧s.heap.IsList b ys∧s.heap.IsList c zs ∧
   R (.ok (.ret (.ref (zA5 s.heap a b c).objs.size))) { s with heap:=zA6 s.heap a b c }) :=
 .of_wp fun prog w A R s h=>by
  obtain ⟨hp,g,d,tk,os⟩:=s
  obtain ⟨la,lb,lc,h⟩:=h
  have hsub:=sub_zip
  have m1:Heap.IsList (Shared.heap ⟨hp,g,d,tk,os⟩) a xs:=la
  have m2:Heap.IsList (Shared.heap ⟨zA1 hp a,g,d,tk,os⟩) b ys:=lb.push _
  have m3:Heap.IsList (Shared.heap ⟨zA2 hp a b,g,d,tk,os⟩) c zs:=(lc.push _).push _
  wp_walk using wpAny_pyIter_list m1,wpAny_pyIter_list m2,wpAny_pyIter_list m3
  exact ⟨_,rfl,h⟩
theorem Zo (a b c:Value):checkTypeCall "zip" ⟨[a,b,c],[]⟩=pure ():=by kernel_rfl
theorem Yv (a b c:Value):checkBuiltinCall "zip.__new__" ⟨[.type "zip", a,b,c],[]⟩=pure ():=by kernel_rfl
theorem VQ (a b c d:Value):argsOk "object.__init__" ⟨[a,b,c,d],[]⟩:=by
 unfold argsOk; rw [signature?_of (id := "object.__init__") (n:=['_','_','t','i','n','i','_','_']) (o:=['t','c','e','j','b','o'])
  (by kernel_rfl) F.owner_object]
 kernel_rfl
theorem Qz {a b c:Addr} {xs ys zs:Array Value} {Q:Value→Shared→Prop} (la:s.heap.IsList a xs) (lb:s.heap.IsList b ys) (lc:s.heap.IsList c zs)
  (go:∀ h2,Z3 h2 s.heap.objs.size a b c .none 0 .none .none .none→(∀ d o,s.heap.get? d=some o→h2.get? d=some o)→Q (.ref (s.heap.objs.size + 5)) { s with heap:=h2 }) :
  wpAny (model prog w) A (call (.type "zip") [.ref a,.ref b,.ref c]) Q E s:=by
 refine callType_new F.called_zip (by decide) (Zo _ _ _) (Yv _ _ _) (fun obj=>VQ obj _ _ _) F.entry_zip_new (new3 a b c xs ys zs) ⟨la,lb,lc,?_⟩
 have z1:(zA1 s.heap a).objs.size=s.heap.objs.size + 1:=ξf ..
 have z2:(zA2 s.heap a b).objs.size=s.heap.objs.size + 2:=by rw [ξf,z1]
 have z3:(zA3 s.heap a b c).objs.size=s.heap.objs.size + 3:=by rw [ξf,z2]
 have z4:(zA4 s.heap a b c).objs.size=s.heap.objs.size + 4:=by rw [ξf,z3]
 have z5:(zA5 s.heap a b c).objs.size=s.heap.objs.size + 5:=by rw [ξf,z4]
 have p1:(zA1 s.heap a).get? s.heap.objs.size=some _:=ζp _ rfl
 have p2:(zA2 s.heap a b).get? (zA1 s.heap a).objs.size=some _:=ζp _ rfl
 have p3:(zA3 s.heap a b c).get? (zA2 s.heap a b).objs.size=some _:=ζp _ rfl
 have p4:(zA4 s.heap a b c).get? (zA3 s.heap a b c).objs.size=some _:=ζp _ rfl
 have p5:(zA5 s.heap a b c).get? (zA4 s.heap a b c).objs.size=some _:=ζp _ rfl
 have p6:(zA6 s.heap a b c).get? (zA5 s.heap a b c).objs.size=some _:=ζp _ rfl
 have u3:∀ d o,(zA3 s.heap a b c).get? d=some o→(zA6 s.heap a b c).get? d=some o:=fun d o e=>ζg _ (ζg _ (ζg _ e))
 have g1:=u3 _ _ (ζg _ (ζg _ p1))
 have g2:=u3 _ _ (ζg _ p2)
 have g3:=u3 _ _ p3
 have g4:(zA6 s.heap a b c).get? (zA3 s.heap a b c).objs.size=some _:=ζg _ (ζg _ p4)
 have g5:(zA6 s.heap a b c).get? (zA4 s.heap a b c).objs.size=some _:=ζg _ p5
 show _∧_
 rw [z3,z4,z5] at p6
 rw [z1,z2,z3] at g4
 rw [z4] at g5
 rw [z1] at g2
 rw [z2] at g3
 rw [z5]
 exact ⟨⟨_,p6,rfl⟩,go _ ⟨p6,g4,g5,⟨_,g1,rfl,rfl⟩,⟨_,g2,rfl,rfl⟩,⟨_,g3,rfl,rfl⟩⟩ fun d o e=>u3 _ _ (ζg _ (ζg _ (ζg _ e)))⟩
end
def It3 (K:ζb) (a b c:Addr):It :=
 ⟨fun i H=>∃ xs x ys y zs z,SqL K H a xs∧xs[i]?=some x∧SqL K H b ys∧ys[i]?=some y∧SqL K H c zs∧zs[i]?=some z,
  fun i H x H'=>∃ T u v t,H T=none∧x=.ref T∧H'=upd H T (.tup [u,v,t])∧(∀ xs,SqL K H a xs→xs[i]?=some u)∧(∀ ys,SqL K H b ys→ys[i]?=some v)∧∀ zs,SqL K H c zs→zs[i]?=some t,
  fun i H=>∃ xs,SqL K H a xs∧xs.length≤i⟩
theorem Tc {X:Cx} {n:Addr} {pins:List (Addr×Obj)} {s:Shared} {σ:St} {H:Hp} (I:Inv X pins σ H s) (hf:∀ b∈zf n,FpOk X pins H b) {c:Addr} {zs:List V} (hq:SqL X.K H c zs):∀ d∈zf n,c≠d:=fun d hd e=>by
 subst e
 have hn:=(hf c hd).1
 rcases hq with (q | ⟨o,q⟩) | ⟨o,its,m,q,_⟩
 ·rw [hn] at q; cases q
 ·rw [hn] at q; cases q
 ·have hb:X.base.get? c=some o:=I.ok.mod.kin c o q
  rcases (hf c hd).2.2.2.1 with z | z
  ·exact I.ok.noex c o hb z
  ·exact absurd (ζB (ζn hb) (ζM I.ok.bsz z)) (ζ3 _)
theorem Zm {n c:Addr} {R:Addr→Prop} (hc:c∈zf n) (h5:R (n + 5)) (h3:R (n + 3)) (h4:R (n + 4)) (h0:R n) (h1:R (n + 1)) (h2:R (n + 2)):R c:=by
 simp only [List.mem_cons,List.not_mem_nil,or_false] at hc
 rcases hc with rfl | rfl | rfl | rfl | rfl | rfl <;> assumption
theorem TU {P:Program} {w:World} {K:ζb} {es:List Expr} {k:Nat} {tpos:Pos} (a b c n:Addr) :
  Turn P w K (.Tuple es k tpos) (It3 K a b c) (zf n) (n + 5) (fun i h=>∃ x y z,Z3 h n a b c .none i x y z) where
 mem:=by simp
 obj:=fun i h st d hd=>by
  obtain ⟨x,y,z,zo,ti,to,⟨o1,e1,_,d1⟩,⟨o2,e2,_,d2⟩,⟨o3,e3,_,d3⟩⟩:=st
  refine Zm (R:=fun d=>∃ o,h.get? d=some o∧∀ v,o.data≠.cell v) hd ?_ ?_ ?_ ?_ ?_ ?_
  ·exact ⟨_,zo,fun v z=>by have y:Data.fields _=Data.cell v:=z; cases y⟩
  ·exact ⟨_,ti,fun v z=>by have y:Data.seq _ _=Data.cell v:=z; cases y⟩
  ·exact ⟨_,to,fun v z=>by have y:Data.seq _ _=Data.cell v:=z; cases y⟩
  ·exact ⟨_,e1,fun v z=>by rw [d1] at z; cases z⟩
  ·exact ⟨_,e2,fun v z=>by rw [d2] at z; cases z⟩
  ·exact ⟨_,e3,fun v z=>by rw [d3] at z; cases z⟩
 keep:=fun i h h' st k=>by
  obtain ⟨x,y,z,zo,ti,to,j1,j2,j3⟩:=st
  exact ⟨x,y,z,k _ (by simp) _ zo,k _ (by simp) _ ti,k _ (by simp) _ to,j1.at fun o e=>k _ (by simp) o e,j2.at fun o e=>k _ (by simp) o e,j3.at fun o e=>k _ (by simp) o e⟩
 item:=by
  intro X hP hw hK hc i pins s σ H E I hf st hg
  subst hP hw hK
  obtain ⟨u0,v0,t0,Z⟩:=st
  obtain ⟨xs,x,ys,y,zs,z,hxs,hx,hys,hy,hzs,hz⟩:=hg
  obtain ⟨its,rx,px,zx⟩:=I.list hxs
  obtain ⟨jts,ry,py,zy⟩:=I.list hys
  obtain ⟨kts,rz,pz,zz⟩:=I.list hzs
  obtain ⟨u,hu,ru⟩:=rx.get hx
  obtain ⟨v,hv,rv⟩:=ry.get hy
  obtain ⟨t,ht,rt⟩:=rz.get hz
  refine zet Z (Tc I hf hxs) (Tc I hf hys) (Tc I hf hzs) px.isList py.isList pz.isList (x:=u) (y:=v) (z:=t) (by simpa using hu) (by simpa using hv) (by simpa using ht) fun h' z' o' i1' i2' i3' t' kp=>?_
  refine ⟨_,rfl,wpAny_letOwnedTupleGo_zip z' fun h'' z'' sb=>?_⟩
  have kp2:∀ d o,d∉zf n→s.heap.get? d=some o→h''.get? d=some o:=fun d o hd e =>
   (sb.2 d (fun z=>hd (by simp [z]))).trans (kp d o (fun z=>hd (by simp [z])) (fun z=>hd (by simp [z])) (fun z=>hd (by simp [z])) (fun z=>hd (by simp [z])) (fun z=>hd (by simp [z])) e)
  have lts:∀ d∈zf n,d < s.heap.objs.size:=fun d hd=>by
   obtain ⟨_,e1,_⟩:=Z.i1
   obtain ⟨_,e2,_⟩:=Z.i2
   obtain ⟨_,e3,_⟩:=Z.i3
   exact Zm (R:=fun d=>d < s.heap.objs.size) hd (ζn Z.zo) (ζn Z.ti) (ζn Z.to) (ζn e1) (ζn e2) (ζn e3)
  have tz:s.heap.objs.size≠n + 5:=Nat.ne_of_gt (lts _ (by simp))
  have e05:(n:Addr)≠n + 5:=ad (by omega)
  have e15:(n + 1:Addr)≠n + 5:=ad (by omega)
  have e25:(n + 2:Addr)≠n + 5:=ad (by omega)
  have e35:(n + 3:Addr)≠n + 5:=ad (by omega)
  have e45:(n + 4:Addr)≠n + 5:=ad (by omega)
  refine ⟨.ref s.heap.objs.size,upd H s.heap.objs.size (.tup [x,y,z]),I.turnNew (t':=s.toks) hf kp2 (ζm _) ?_,rfl,⟨_,x,y,z,I.hok.fresh (ζm _),rfl,rfl,fun zs hq=>by rw [I.list_inj hq hxs]; exact hx,fun zs hq=>by rw [I.list_inj hq hys]; exact hy,fun zs hq=>by rw [I.list_inj hq hzs]; exact hz⟩,?_,fun d hd=>?_⟩
  ·exact ⟨by show 3≤sizeLine; decide,[u,v,t],.cons ru (.cons rv (.cons rt .nil)),⟨_,(sb.2 _ tz).trans t',rfl,_,rfl⟩⟩
  ·exact ⟨_,_,_,z'',(sb.2 _ e35).trans (kp _ _ e35 (ad (by omega)) (ad (by omega)) (ad (by omega)) (ad (by omega)) Z.ti),(sb.2 _ e45).trans o',i1'.at fun o e=>(sb.2 _ e05).trans e,i2'.at fun o e=>(sb.2 _ e15).trans e,i3'.at fun o e=>(sb.2 _ e25).trans e⟩
  ·rw [zt (ζG (lts d hd))]
   exact (hf d hd).1
 done:=by
  intro X hP hw hK hc i pins s σ H E I hf st hg
  subst hP hw hK
  obtain ⟨u0,v0,t0,Z⟩:=st
  obtain ⟨xs,hxs,hl⟩:=hg
  obtain ⟨its,rx,px,zx⟩:=I.list hxs
  have l1:=rx.length
  have hend:its.toArray[i]?=none:=by simp; omega
  exact zei (I.ok.hd hc) Z (Tc I hf hxs) px.isList hend fun h' kp=>⟨rfl,I.turnAll (t':=s.toks) hf fun d o hd e=>kp d o (fun z=>hd (by simp [z])) (fun z=>hd (by simp [z])) e⟩
 self:=fun _ _ _ _ _ ⟨_,_,_,st⟩ h=>wpAny_pyIter_zip st.zo h
section
variable {X:Cx}
def zc9 (K:ζb) (ta:TA):TI:=fun σ H R=>ta σ H fun vs H1=>∃ a b c,vs=[.ref a,.ref b,.ref c]∧(∃ xs,SqL K H1 a xs)∧(∃ ys,SqL K H1 b ys)∧(∃ zs,SqL K H1 c zs)∧R (It3 K a b c) H1
theorem zbX {K:ζb} {a b c:Expr} {ta:TA} {p pos:Pos} {es:List Expr} {k:Nat} {tpos:Pos} (hK:X.K=K) (hg:Gl X "zip") (hm:X.mg "zip" = none) (ha:PA X [a,b,c] ta) (he:starEach (a :: [b,c]) X.env=(false,eval a X.env) :: starEach [b,c] X.env:=by rfl)
  (hpl:(backTo pos (starEach [b,c] X.env)).any (·.1)=false:=by rfl):PI X (.Tuple es k tpos) (.Call (.Name "zip" p) [a,b,c] [] pos) (zc9 K ta):=by
 subst hK
 intro pins s σ H R I h
 refine wpAny_Call_Name_kw (uj I hg hm (u:=.type "zip") (by decide +kernel) ?_ (by decide) (by decide))
 refine PyProof.Rows.callWith_type1 (thn (ha pos pins s σ H _ I h) fun us s1 ⟨vs,H1,I1,r1,q1⟩=>?_) he hpl
 obtain ⟨a1,b1,c1,rfl,⟨xs,hx⟩,⟨ys,hy⟩,⟨zs,hz⟩,q⟩:=q1
 cases r1 with
 | cons ru r1 =>
  cases r1 with
  | cons rv r1 =>
   cases r1 with
   | cons rt r1 =>
    cases r1
    cases (show _=Value.ref a1 from ru)
    cases (show _=Value.ref b1 from rv)
    cases (show _=Value.ref c1 from rt)
    obtain ⟨its,rx,px,zx⟩:=I1.list hx
    obtain ⟨jts,ry,py,zy⟩:=I1.list hy
    obtain ⟨kts,rz,pz,zz⟩:=I1.list hz
    refine Qz px.isList py.isList pz.isList fun h' Z kp=>?_
    refine wpAny_pyIter_zip Z.zo ?_
    refine ⟨s1.heap.objs.size + 5,_,_,_,H1,rfl,I1.kept (t':=s1.toks) kp,TU a1 b1 c1 s1.heap.objs.size,⟨_,_,_,Z⟩,fun c hc=>?_,q⟩
    have hc':s1.heap.objs.size≤c:=Zm (R:=fun c=>s1.heap.objs.size≤c) hc (ζ8 _ _) (ζ8 _ _) (ζ8 _ _) (ζm _) (ζ8 _ _) (ζ8 _ _)
    exact I1.fpOk hc' (I1.hok.fresh hc')
end
end L2
namespace PD
open PySem L2
section
variable {K:ζb} {S:Sx} {κ:Bool} {Γ:Ctx}
def zip3 (xs ys zs:List PyData):List PyData:=List.zipWith (fun x (p:PyData×PyData)=>.tuple [x,p.1,p.2]) xs (List.zip ys zs)
theorem WC {xs ys zs:List PyData} {i:Nat} {x y z:PyData} (h1:xs[i]?=some x) (h2:ys[i]?=some y) (h3:zs[i]?=some z):(zip3 xs ys zs)[i]?=some (.tuple [x,y,z]):=by
 unfold zip3
 rw [List.getElem?_zipWith,h1,(ξn (z:=(y,z))).mpr ⟨h2,h3⟩]
theorem Zl {xs ys zs:List PyData} (e1:ys.length=xs.length) (e2:zs.length=xs.length):(zip3 xs ys zs).length=xs.length:=by
 unfold zip3
 rw [ξj,ξy]
 omega
theorem zcy {t:TA} {xs ys zs:List PyData} (e1:ys.length=xs.length) (e2:zs.length=xs.length) (h:EvA K S κ t Γ [.list xs,.list ys,.list zs]):EvI K S κ (zc9 K t) Γ (zip3 xs ys zs):=fun H0 F0 H F σ e R q =>
 h H0 F0 H F σ e _ fun vs H1 F1 g1 p1=>by
  cases p1 with
  | cons p p1 =>
   cases p1 with
   | cons p' p1 =>
    cases p1 with
    | cons p'' p1 =>
     cases p1
     obtain ⟨a,us,rfl,h1,h2⟩:=x9 p
     obtain ⟨b,ws,rfl,h3,h4⟩:=x9 p'
     obtain ⟨c,ts,rfl,h5,h6⟩:=x9 p''
     have l1:=zj.length h2
     have l2:=zj.length h4
     have l3:=zj.length h6
     have up:∀ {F' H':Hp},Same F1 F'→Same F' H'→SqL K H' a us:=fun s1 s2=>(s1.trans s2).seq h1.sq
     have uq:∀ {F' H':Hp},Same F1 F'→Same F' H'→SqL K H' b ws:=fun s1 s2=>(s1.trans s2).seq h3.sq
     have ur:∀ {F' H':Hp},Same F1 F'→Same F' H'→SqL K H' c ts:=fun s1 s2=>(s1.trans s2).seq h5.sq
     refine ⟨a,b,c,rfl,⟨us,up (.refl _) g1.le⟩,⟨ws,uq (.refl _) g1.le⟩,⟨ts,ur (.refl _) g1.le⟩,q _ H1 F1 g1 ⟨fun i H' F' s1 s2 hi=>?_,fun i H' F' x H'' s1 s2 sd hi y=>?_,fun H' F' s1 s2=>?_⟩⟩
     ·rw [Zl e1 e2] at hi
      exact ⟨us,us[i]'(by omega),ws,ws[i]'(by omega),ts,ts[i]'(by omega),up s1 s2,by simp,uq s1 s2,by simp,ur s1 s2,by simp⟩
     ·obtain ⟨T,u,v,t,hT,rfl,rfl,y1,y2,y3⟩:=y
      obtain ⟨d,hd,hp⟩:=zj.get' h2 (y1 us (up s1 s2))
      obtain ⟨f,hf,hq⟩:=zj.get' h4 (y2 ws (uq s1 s2))
      obtain ⟨g,hg,hr⟩:=zj.get' h6 (y3 ts (ur s1 s2))
      have s3:Same F' (upd F' T (.tup [u,v,t])):=Same.new (s2.free hT) _
      have s13:=s1.trans s3
      exact ⟨.tuple [d,f,g],_,WC hd hf hg,.new s2 hT _,.tup (SqT.of zp) (.cons (yK s13 hp) (.cons (yK s13 hq) (.cons (yK s13 hr) .nil)))⟩
     ·refine ⟨us,up s1 s2,?_⟩
      rw [Zl e1 e2]
      omega
end
section
variable {K:ζb} {S S':Sx} {κ κ':Bool} {Γ Γ' Γ'':Ctx} {P:Post}
def FrT (T:Addr→Prop) (H H':Hp):Prop:=∀ b o,H b=some o→(YX (some o)=false∨¬ T b→H' b=some o)∧H' b≠none
theorem FrT.put {T:Addr→Prop} {H H':Hp} {c:Addr} {us ws:List V} (h:FrT T H H') (hc:T c∨H c=none) (e:H' c=some (.lst us)):FrT T H (upd H' c (.lst ws)):=fun b o z=>by
 by_cases bc:b=c
 ·subst bc
  refine ⟨fun q=>?_,by rw [zp]; exact fun w=>nomatch w⟩
  rcases hc with hc | hc
  ·have:=(h b o z).1 q
   rw [e] at this
   cases this
   rcases q with q | q
   ·cases q
   ·exact absurd hc q
  ·rw [hc] at z; cases z
 ·rw [zt bc]; exact h b o z
theorem FrT.new {T:Addr→Prop} {H H':Hp} {p:Addr} {ws:List V} (h:FrT T H H') (hp:H' p=none):FrT T H (upd H' p (.lst ws))∧H p=none:=by
 have:H p=none:=by
  cases q:H p with
  | none=>rfl
  | some o=>exact absurd hp (h p o q).2
 refine ⟨fun b o z=>?_,this⟩
 rw [zt (zK z this)]
 exact h b o z
section
variable {T:Addr→Prop} {H H':Hp} {a0 a1 a2 c:Addr} {vs2 us us' ws:List V} {n:Nat} {x:V}
variable {K:ζb}
end
end
section
variable {K:ζb} {S S':Sx} {κ κ':Bool} {Γ Γ' Γ'':Ctx} {P:Post}
theorem zba (i:Nat) {κ0:Bool} {t:TE} {xs ds0:List PyData} {Γf:Ctx} (h:GetC Γ i (.ow κ0 ds0)) (es:SetC Γ i (some (.fz κ0 (.list ds0))) Γf) (k:EvO K S κ t Γf xs) (him:∀ d∈xs,imm d=true):EvO K S κ t Γ xs:=fun H0 F0 H F σ e Q q=>by
 obtain ⟨a,Ff,e',g⟩:=thaw e h es
 refine k H0 F0 H Ff σ e' Q fun b vs H' F' g' n p f q'=>q b vs H' _ (g H' F' g') n p ?_ (zaM him (zU q'))
 cases z:drop (fun c=>c=a) F' b with
 | none=>rfl
 | some o=>rw [(ya.mp z).1] at f; cases f
theorem za4 {te:TE} {G:PyData→Prop} (h:EvG K S false te Γ G) (k:P.nx Γ):ExS K S (xH te) Γ P:=fun H0 F0 H F σ B e b _ D I =>
 h H0 F0 H F σ e _ fun d v H' F' _ g p=>I.nx _ _ H' F' k (b.trans g.f) (e.mono g)
section
variable {T:Addr→Prop} {H H':Hp} {a0 a1 a2 c:Addr} {vs1 vs2 us us' ws:List V} {n:Nat} {x:V}
end
inductive NoT:Ctx→Prop
 | nil:NoT []
 | no {Γ:Ctx}:NoT Γ→NoT (none :: Γ)
 | fz {κ:Bool} {d:PyData} {Γ:Ctx}:NoT Γ→NoT (some (.fz κ d) :: Γ)
theorem NoT.tn (h:NoT Γ):∀ (i:Nat) d,Γ[i]?≠some (some (.tn d)):=by
 induction h with
 | nil=>intro i d e; simp at e
 | no _ ih =>
  intro i d e
  cases i with
  | zero=>simp at e
  | succ i=>exact ih i d (by simpa using e)
 | fz _ ih =>
  intro i d e
  cases i with
  | zero=>simp at e
  | succ i=>exact ih i d (by simpa using e)
end
end PD
namespace L2
open PySem PySem.Spec PyProof.Rows Builtin Builtin.Str
section
variable {X:Cx} {K:ζb}
def zad:V→List V→Hp→VK→Prop:=fun x vs H Q=>∃ z y,x=.str z∧vs=[.str y]∧Q (.bl (Txt.endswith z y)) H
theorem Vr:MtM X "str.endswith" zad:=by
 intro pins s σ H x vs v us Q I rx rv h
 obtain ⟨z,y,rfl,rfl,q⟩:=h
 obtain ⟨t,rfl⟩:=rx
 obtain ⟨u,rfl,ru⟩:=rv.one
 obtain ⟨t',rfl⟩:=ru
 exact SC.endswith ⟨.bl _,H,I,rfl,q⟩
def rRsC:V→List V→Hp→VK→Prop:=fun x vs H Q=>∃ z y,x=.str z∧vs=[.str y]∧z.length≤sizeLine∧Q (.str (Txt.rstripChars z y)) H
theorem zdN:MtM X "str.rstrip" rRsC:=by
 intro pins s σ H x vs v us Q I rx rv h
 obtain ⟨z,y,rfl,rfl,hz,q⟩:=h
 obtain ⟨t,rfl⟩:=rx
 obtain ⟨u,rfl,ru⟩:=rv.one
 obtain ⟨t',rfl⟩:=ru
 exact SC.rstripChars (hsz:=hz) fun t' k=>⟨.str _,H,I.tok _,⟨_,rfl⟩,q⟩
theorem YJ:∀ (l:List (PySem.Str×Tok)),Vals ((l.map (·.1)).map V.str) (strValues l)
 | []=>.nil
 | (z,t) :: r=>.cons ⟨t,rfl⟩ (YJ r)
def Q9:V→List V→Hp→VK→Prop:=fun x vs H Q=>∃ z y,x=.str z∧vs=[.str y]∧(y.length == 0)=false∧z.length≤sizeLine∧(partsBetween z (occurrences z y 0 z.length (z.length + 1)) y.length).length≤sizeLine∧(Txt.split z y).length≤sizeLine∧∀ l,H l=none→Q (.ref l) (upd H l (.lst ((Txt.split z y).map V.str)))
theorem zax {pins:List (Addr×Obj)} {s:Shared} {σ:St} {H:Hp} {Q:VK} {zs:List PySem.Str} {k:Nat} (I:Inv X pins σ H s) (l:List (PySem.Str×Tok)) (e:l.map (·.1)=zs) (hl:zs.length≤sizeLine) (q:∀ l,H l=none→Q (.ref l) (upd H l (.lst (zs.map V.str)))) :
  EP X pins σ Q (.ref s.heap.objs.size) { s with toks:=k,heap:=s.heap.push { cls:=.type "list", data:=.seq (strValues l).toArray } }:=by
 subst e
 refine ⟨.ref s.heap.objs.size,_,I.laid (t':=k) (o:=.lst ((l.map (·.1)).map V.str)) (fun b ob q=>ζg _ q) (ζm _) ?_,rfl,q _ (I.hok.fresh (ζm _))⟩
 exact ⟨by rw [ζa]; exact hl,strValues l,0,YJ l,ζp _ rfl⟩
theorem Vp:MtM X "str.split" Q9:=by
 intro pins s σ H x vs v us Q I rx rv h
 obtain ⟨z,y,rfl,rfl,hy,hz,hp,hl,q⟩:=h
 obtain ⟨t,rfl⟩:=rx
 obtain ⟨u,rfl,ru⟩:=rv.one
 obtain ⟨t',rfl⟩:=ru
 have fin:∀ (k:Nat) (l:List (PySem.Str×Tok)),l.map (·.1)=Txt.split z y→EP X pins σ Q (.ref s.heap.objs.size) { s with toks:=k,heap:=s.heap.push { cls:=.type "list", data:=.seq (strValues l).toArray } }:=fun k l e=>zax I l e hl q
 by_cases a:(decide (z.length < y.length) || decide (strKind z < strKind y))=true
 ·refine call_meets F.slot_str_split (typeIs_str _ _ _) F.entry_str_split (F.args_str_split_2 ..) (meets_str_split_cannot_occur z y t t' a) ?_
  exact fin s.toks [(z,t)] (by unfold Txt.split; rw [if_pos a]; rfl)
 ·have a':=Bool.eq_false_iff.mpr a
  by_cases b:(occurrences z y 0 z.length (z.length + 1)).isEmpty=true
  ·refine call_meets F.slot_str_split (typeIs_str _ _ _) F.entry_str_split (F.args_str_split_2 ..) (meets_str_split_not_found z y t t' a' hy b) ?_
   exact fin s.toks [(z,t)] (by unfold Txt.split; rw [if_neg a,if_pos b]; rfl)
  ·have b':=Bool.eq_false_iff.mpr b
   refine call_meets F.slot_str_split (typeIs_str _ _ _) F.entry_str_split (F.args_str_split_2 ..) (meets_str_split_sep z y t t' a' hy b' hz hp) ?_
   have f:=fin (s.toks + (partsBetween z (occurrences z y 0 z.length (z.length + 1)) y.length).length) (numbered s.toks (partsBetween z (occurrences z y 0 z.length (z.length + 1)) y.length)) (by rw [numbered_texts]; unfold Txt.split; rw [if_neg a,if_neg b])
   rw [← strsFrom_eq] at f
   exact f
end
end L2
namespace PD
open PySem L2
section
variable {K:ζb} {S S':Sx} {κ κ':Bool} {Γ Γ' Γ'' Γ3:Ctx} {P:Post} {E:XK}
theorem ZX {ta tb:TE} {z y:Str} (ha:EvE K S false ta Γ (.str z)) (hb:EvE K S false tb Γ (.str y)):EvE K S κ (tBM K "str" zad ta (zE tb tNil)) Γ (.bool (Txt.endswith z y)):=fun H0 F0 H F σ e Q q =>
 ha H0 F0 H F σ e _ fun v H1 F1 g1 p1=>by
  cases yT p1
  exact ⟨rfl,hb H0 F0 H1 F1 σ (e.mono g1) _ fun w H2 F2 g2 p2=>by
   cases yT p2
   exact ⟨z,y,rfl,rfl,q _ H2 F2 (g1.trans g2) (.bl _)⟩⟩
theorem zd2 {ta tb:TE} {z y:Str} (ha:EvE K S false ta Γ (.str z)) (hb:EvE K S false tb Γ (.str y)) (hz:z.length≤sizeLine):EvE K S κ (tBM K "str" rRsC ta (zE tb tNil)) Γ (.str (Txt.rstripChars z y)):=fun H0 F0 H F σ e Q q =>
 ha H0 F0 H F σ e _ fun v H1 F1 g1 p1=>by
  cases yT p1
  exact ⟨rfl,hb H0 F0 H1 F1 σ (e.mono g1) _ fun w H2 F2 g2 p2=>by
   cases yT p2
   exact ⟨z,y,rfl,rfl,hz,q _ H2 F2 (g1.trans g2) (.str _)⟩⟩
theorem Zv {κ:Bool} {H F:Hp}:∀ zs:List Str,zj K κ S H F (zs.map V.str) (zs.map PyData.str)
 | []=>.nil
 | z :: r=>.cons (.str z) (Zv r)
theorem Y6 {ta tb:TE} {z y:Str} (ha:EvE K S false ta Γ (.str z)) (hb:EvE K S false tb Γ (.str y)) (hy:(y.length == 0)=false) (hz:z.length≤sizeLine) (hp:(Builtin.Str.partsBetween z (Builtin.Str.occurrences z y 0 z.length (z.length + 1)) y.length).length≤sizeLine) (hl:(Txt.split z y).length≤sizeLine):EvO K S κ (tBM K "str" Q9 ta (zE tb tNil)) Γ ((Txt.split z y).map .str):=fun H0 F0 H F σ e Q q =>
 ha H0 F0 H F σ e _ fun v H1 F1 g1 p1=>by
  cases yT p1
  exact ⟨rfl,hb H0 F0 H1 F1 σ (e.mono g1) _ fun w H2 F2 g2 p2=>by
   cases yT p2
   exact ⟨z,y,rfl,rfl,hy,hz,hp,hl,fun p hp=>q p _ _ F2 ((g1.trans g2).trans (.newO (g1.trans g2).le hp _)) ((g1.trans g2).h.free hp) zp ((g1.trans g2).le.free hp) (Zv _)⟩⟩
end
end PD
namespace L2
open PySem PySem.Spec PyProof.Rows
def Its (x:PySem.Str):It:=⟨fun i _=>i < x.cps.size,fun i H v H'=>H'=H∧∃ c,x.cps[i]?=some c∧v=.str ⟨#[c]⟩,fun i _=>x.cps.size≤i⟩
theorem WJ {P:Program} {w:World} {K:ζb} {tg:Expr} (it:Addr) (x:PySem.Str) (t:Tok) (T:String) (hT:T = "str_ascii_iterator" ∨ T = "str_iterator"):Turn P w K tg (Its x) [it] it (fun i h=>h.IsStrIter it T x t i) where
 mem:=ζh.mpr rfl
 obj:=fun i h st b hb=>by
  cases ζh.mp hb
  obtain ⟨o,e,c,d⟩:=st
  exact ⟨o,e,fun v z=>by rw [d] at z; cases z⟩
 keep:=fun i h h' st k=>by
  obtain ⟨o,e,r⟩:=st
  exact ⟨o,k it (ζh.mpr rfl) o e,r⟩
 item:=by
  intro X hP hw hK hc i pins s σ H E I hf st hg
  subst hP hw hK
  have hg:i < x.cps.size:=hg
  obtain ⟨f0,f1,f2,f3,f4,f5⟩:=hf it (ζh.mpr rfl)
  have W:Walks X.prog X.w X.A it [it] [it] x.cps.size (SignAt x) (fun i h=>h.IsStrIter it T x t i):=by
   rcases hT with rfl | rfl
   ·exact Walks.strAscii (I.ok.hd hc) it x t
   ·exact Walks.strWide (I.ok.hd hc) it x t
  refine W.item i s _ _ hg st fun v h' tk hv st' kk=>?_
  obtain ⟨c,u,hcc,rfl⟩:=hv
  have I1:Inv X pins σ H { s with heap:=h',toks:=tk }:=I.turned (fun b o hb e=>kk b o (fun z=>hb (ζh.mp z)) e) f0 f1 f3 f4 f5
  obtain ⟨o,e,cl,d⟩:=id st'
  refine ⟨_,rfl,Tq (s:={ s with heap:=h',toks:=tk }) (n:=T) e cl d ?_ ⟨.str ⟨#[c]⟩,H,I1,⟨u,rfl⟩,⟨rfl,c,hcc,rfl⟩,st',fun b hb=>(hf b hb).1⟩⟩
  rcases hT with rfl | rfl <;> decide
 done:=by
  intro X hP hw hK hc i pins s σ H E I hf st hg
  subst hP hw hK
  have hg:x.cps.size≤i:=hg
  obtain ⟨f0,f1,f2,f3,f4,f5⟩:=hf it (ζh.mpr rfl)
  have no:x.cps[i]?=none:=Array.getElem?_eq_none hg
  rcases hT with rfl | rfl
  ·exact wpAny_pyNext_ascii_end (I.ok.hd hc) st no fun h' eb=>⟨rfl,I.turned (t':=s.toks) (fun b o hb e=>eb b o hb e) f0 f1 f3 f4 f5⟩
  ·exact wpAny_pyNext_wide_end (I.ok.hd hc) st no fun h' eb=>⟨rfl,I.turned (t':=s.toks) (fun b o hb e=>eb b o hb e) f0 f1 f3 f4 f5⟩
 self:=by
  intro A i s Q E st h
  rcases hT with rfl | rfl
  ·exact wpAny_pyIter_striter_ascii st h
  ·exact wpAny_pyIter_striter_wide st h
section
variable {X:Cx} {tg:Expr}
def iStr (tl:TE):TI:=fun σ H R=>tl σ H fun x H1=>∃ z,x=.str z∧R (Its z) H1
theorem zaj {l:Expr} {tl:TE} (hl:PE X l tl):PI X tg l (iStr tl):=by
 intro pins s σ H R I h
 refine thn (hl pins s σ H _ I h) fun v s1 ⟨x,H1,I1,r1,q1⟩=>?_
 obtain ⟨z,e,q⟩:=q1
 subst e
 obtain ⟨t,rfl⟩:=r1
 have fp:∀ b∈[s1.heap.objs.size],FpOk X pins H1 b:=fun b hb=>by
  cases ζh.mp hb
  exact I1.fpOk (ζm _) (I1.hok.fresh (ζm _))
 cases ha:z.cps.all (· < 128)
 ·exact wpAny_pyIter_wide ha ⟨s1.heap.objs.size,[s1.heap.objs.size],_,_,H1,rfl,I1.kept (t':=s1.toks) fun b o e=>ζg _ e,WJ _ z t _ (.inr rfl),⟨_,ζp _ rfl,rfl,rfl⟩,fp,q⟩
 ·exact wpAny_pyIter_ascii ha ⟨s1.heap.objs.size,[s1.heap.objs.size],_,_,H1,rfl,I1.kept (t':=s1.toks) fun b o e=>ζg _ e,WJ _ z t _ (.inl rfl),⟨_,ζp _ rfl,rfl,rfl⟩,fp,q⟩
def zc1:List V→Hp→VK→Prop:=fun xs H Q=>∃ z n,xs=[.str z]∧intText? z=some n∧z.length≤640∧Q (.int n) H
theorem Xb:yB X (.type "int") zc1:=by
 intro pins s σ H xs us Q I r h
 obtain ⟨z,n,rfl,hn,hl,q⟩:=h
 obtain ⟨u,rfl,rx⟩:=xJ r
 obtain ⟨t,rfl⟩:=rx
 exact PySem.W.KIN.call_text hn hl ⟨.int n,H,I.tok _,⟨_,rfl⟩,q⟩
def rInS:R2:=fun x y H Q=>∃ u v,x=.str u∧y=.str v∧Q (.bl (Txt.contains v u)) H
theorem zat:OpR X (compareOp .In) rInS:=by
 intro pins s σ H x y v w Q I rx ry h
 obtain ⟨a,b,rfl,rfl,q⟩:=h
 obtain ⟨t,rfl⟩:=rx
 obtain ⟨u,rfl⟩:=ry
 exact P.in_str ⟨.bl _,H,I,rfl,q⟩
end
end L2
namespace PD
open PySem L2
section
variable {K:ζb} {S S':Sx} {κ κ':Bool} {Γ Γ' Γ'' Γ3:Ctx} {P:Post} {E:XK}
abbrev sgs (z:Str):List PyData:=z.cps.toList.map fun c=>PyData.str ⟨#[c]⟩
theorem zbm {t:TE} {z:Str} (h:EvE K S false t Γ (.str z)):EvI K S κ (iStr t) Γ (sgs z):=fun H0 F0 H F σ e R q =>
 h H0 F0 H F σ e _ fun v H1 F1 g1 p1=>by
  cases yT p1
  refine ⟨z,rfl,q _ H1 F1 g1 ⟨fun i H' F' s1 s2 hi=>?_,fun i H' F' x H'' s1 s2 _ hi y=>?_,fun H' F' s1 s2=>?_⟩⟩
  ·show i < z.cps.size
   simpa using hi
  ·obtain ⟨rfl,c,hc,rfl⟩:=y
   exact ⟨.str ⟨#[c]⟩,F',by simp [hc],.refl s2,.str _⟩
  ·show z.cps.size≤_
   simp
theorem TC {ta:TE} {z:Str} {n:Int} (h:EvE K S false ta Γ (.str z)) (hn:intText? z=some n) (hl:z.length≤640):EvE K S κ (tCB zc1 (zE ta tNil)) Γ (.int n):=fun H0 F0 H F σ e Q q =>
 h H0 F0 H F σ e _ fun v H1 F1 g1 p1=>by
  cases yT p1
  exact ⟨z,n,rfl,hn,hl,q _ H1 F1 g1 (.int _)⟩
theorem zbg {ta tb:TE} {u v:Str} (ha:EvE K S false ta Γ (.str u)) (hb:EvE K S false tb Γ (.str v)):EvE K S κ (tOp rInS ta tb) Γ (.bool (Txt.contains v u)):=fun H0 F0 H F σ e Q q =>
 ha H0 F0 H F σ e _ fun a H1 F1 g1 p1=>hb H0 F0 H1 F1 σ (e.mono g1) _ fun w H2 F2 g2 p2=>by
  cases yT p1
  cases yT p2
  exact ⟨u,v,rfl,rfl,q _ H2 F2 (g1.trans g2) (.bl _)⟩
end
end PD
namespace Tx
open PySem PySem.StrLaws PySem.Builtin PySem.Builtin.Str
abbrev sg (c:Nat):PySem.Str:=⟨#[c]⟩
theorem UV (x:PySem.Str) (c i:Nat):subAt x (sg c) i=decide (x.cps.toList[i]?=some c):=by
 unfold subAt
 have e:(x.cps.extract i (i + (sg c).length)).toList=(x.cps.toList.drop i).take 1:=by
  rw [Array.toList_extract,List.extract_eq_drop_take]
  show List.take (i + 1 - i) _=_
  rw [Nat.add_sub_cancel_left]
 rw [ξA,beq_iff_eq,decide_eq_true_iff,← ξE,e]
 show List.take 1 (x.cps.toList.drop i)=[c]↔_
 rw [← List.head?_drop]
 cases x.cps.toList.drop i with
 | nil=>exact ⟨fun h=>(nomatch h),fun h=>(nomatch h)⟩
 | cons a r=>simp
theorem XU (s:PySem.Str) (c hi limit:Nat):∀ (l:List Nat) (st:Array Nat×Nat),l.Pairwise (· < ·)→(∀ i∈l,st.2≤i)→st.1.size + l.length≤limit→(forIn l st (occBody s (sg c) hi limit)).run.fst.size=st.1.size + (l.filter fun i=>decide (i + 1≤hi) && subAt s (sg c) i).length
 | [],st,_,_,_=>rfl
 | a :: l,st,pw,hf,hl=>by
  obtain ⟨p1,p2⟩:=ξw.mp pw
  have ha:=hf a ζi
  rw [ζL] at hl
  rw [List.forIn_cons]
  unfold occBody
  by_cases q:a + 1≤hi∧subAt s (sg c) a=true
  ·rw [if_pos ⟨⟨⟨by omega,ha⟩,q.1⟩,q.2⟩,List.filter_cons_of_pos (by rw [decide_eq_true q.1,q.2]; rfl),ζL]
   have ih:=XU s c hi limit l (st.1.push a,a + 1) p2 (fun i hi'=>p1 i hi') (by rw [Array.size_push]; omega)
   rw [Array.size_push] at ih
   refine ih.trans ?_
   omega
  ·rw [if_neg fun z=>q ⟨z.1.2,z.2⟩,List.filter_cons_of_neg (by simpa using fun z=>Bool.eq_false_iff.mpr fun w=>q ⟨z,w⟩)]
   exact XU s c hi limit l st p2 (fun i hi'=>hf i (ζk _ hi')) (by omega)
theorem Xa (c:Nat):∀ (l:List Nat) (k:Nat),((List.range' k l.length).filter fun i=>decide (l[i - k]?=some c)).length=l.count c
 | [],_=>rfl
 | a :: l,k=>by
  have ih:=Xa c l (k + 1)
  have e:((List.range' (k + 1) l.length).filter fun i=>decide ((a :: l)[i - k]?=some c))=(List.range' (k + 1) l.length).filter fun i=>decide (l[i - (k + 1)]?=some c):=List.filter_congr fun i hi=>by
   have:=(List.mem_range'_1.mp hi).1
   rw [show i - k=(i - (k + 1)) + 1 by omega,List.getElem?_cons_succ]
  rw [ζL,List.range'_succ,List.count_cons]
  by_cases q:a=c
  ·rw [List.filter_cons_of_pos (by simp [q]),List.length_cons,e,ih,if_pos (by simp [q])]
  ·rw [List.filter_cons_of_neg (by simp [q]),e,ih,if_neg (by simp [q])]
   rfl
theorem Tb (x:PySem.Str) (c:Nat):(occurrences x (sg c) 0 x.length (x.length + 1)).length=x.cps.toList.count c:=by
 rw [occ_eq,ζU,XU x c x.length (x.length + 1) _ _ (List.pairwise_lt_range' ..) (fun _ _=>ζY _) (by rw [List.length_range']; show 0 + _≤_; omega)]
 have n:x.length=x.cps.toList.length:=rfl
 rw [Nat.sub_zero,List.range'_1_concat,ξK,ζj,← Xa c x.cps.toList 0,← n]
 have z:([0 + x.length].filter fun i=>decide (i + 1≤x.length) && subAt x (sg c) i)=[]:=List.filter_eq_nil_iff.mpr fun i hi=>by
  rw [ζh.mp hi,decide_eq_false (show ¬ 0 + x.length + 1≤x.length by omega)]
  simp
 rw [z]
 show 0 + (_ + 0)=_
 rw [Nat.zero_add,Nat.add_zero]
 refine congrArg List.length (List.filter_congr fun i hi=>?_)
 have:=(List.mem_range'_1.mp hi).2
 rw [decide_eq_true (show i + 1≤x.length by omega),UV]
 rfl
theorem x6 (c:Nat):∀ (z:PySem.Str) (r:List PySem.Str),(PySem.Str.join (sg c) (z :: r)).cps.toList=z.cps.toList ++ r.flatMap fun y=>c :: y.cps.toList
 | z,[]=>by
  show z.cps.toList=_
  simp
 | z,y :: r=>by
  show (z.cps ++ #[c] ++ (PySem.Str.join (sg c) (y :: r)).cps).toList=_
  rw [ξZ,ξZ,x6 c y r]
  simp
theorem zaJ (c:Nat):∀ (r r':List PySem.Str) (z z':PySem.Str),(∀ y∈z :: r,c∉y.cps.toList)→(∀ y∈z' :: r',c∉y.cps.toList)→(z.cps.toList ++ r.flatMap fun y=>c :: y.cps.toList)=(z'.cps.toList ++ r'.flatMap fun y=>c :: y.cps.toList)→z :: r=z' :: r':=by
 have head:∀ (a b u v:List Nat),c∉a→c∉b→(u=[]∨∃ t,u=c :: t)→(v=[]∨∃ t,v=c :: t)→a ++ u=b ++ v→a=b∧u=v:=by
  intro a
  induction a with
  | nil =>
   intro b u v _ hb hu hv e
   cases b with
   | nil=>exact ⟨rfl,e⟩
   | cons x b =>
    exfalso
    rcases hu with rfl | ⟨t,rfl⟩
    ·cases e
    ·exact hb (by cases e; exact ζi)
  | cons x a ih =>
   intro b u v ha hb hu hv e
   cases b with
   | nil =>
    exfalso
    rcases hv with rfl | ⟨t,rfl⟩
    ·cases e
    ·exact ha (by cases e; exact ζi)
   | cons y b =>
    injection e with e1 e2
    obtain ⟨h1,h2⟩:=ih b u v (fun h=>ha (ζk _ h)) (fun h=>hb (ζk _ h)) hu hv e2
    exact ⟨by rw [e1,h1],h2⟩
 have tail:∀ r:List PySem.Str,(r.flatMap fun y=>c :: y.cps.toList)=[]∨∃ t,(r.flatMap fun y=>c :: y.cps.toList)=c :: t:=fun r=>by
  cases r with
  | nil=>exact .inl rfl
  | cons y r=>exact .inr ⟨_,rfl⟩
 intro r
 induction r with
 | nil =>
  intro r' z z' h1 h2 e
  obtain ⟨a,b⟩:=head _ _ _ _ (h1 z ζi) (h2 z' ζi) (tail []) (tail r') e
  have:z=z':=by cases z; cases z'; rw [PySem.Str.mk.injEq]; exact ξE.mp a
  cases r' with
  | nil=>rw [this]
  | cons y r'=>cases b
 | cons y r ih =>
  intro r' z z' h1 h2 e
  obtain ⟨a,b⟩:=head _ _ _ _ (h1 z ζi) (h2 z' ζi) (tail (y :: r)) (tail r') e
  have:z=z':=by cases z; cases z'; rw [PySem.Str.mk.injEq]; exact ξE.mp a
  cases r' with
  | nil=>cases b
  | cons y' r' =>
   injection b with _ b
   rw [this,ih r' y y' (fun w hw=>h1 w (ζk _ hw)) (fun w hw=>h2 w (ζk _ hw)) b]
theorem Vc (x:PySem.Str):partsBetween x [] 1=[x]:=by
 show [strSub x 0 x.length]=[x]
 have:strSub x 0 x.length=x:=by
  unfold strSub
  cases x
  simp [PySem.Str.length]
 rw [this]
theorem QV (x:PySem.Str) {c:Nat} (hc:c < 256):Txt.split x (sg c)=partsBetween x (occurrences x (sg c) 0 x.length (x.length + 1)) 1:=by
 unfold Txt.split
 have k1:Builtin.Str.strKind (sg c)=1:=by simp [Builtin.Str.strKind,hc]
 have k2:¬ Builtin.Str.strKind x < 1:=by unfold Builtin.Str.strKind; split <;> (try split) <;> omega
 by_cases a:x.length=0
 ·have o:occurrences x (sg c) 0 x.length (x.length + 1)=[]:=ζO.mp (by
   rw [Tb]
   have:x.cps.toList=[]:=ζO.mp a
   rw [this]
   rfl)
  rw [o,if_pos (by rw [a]; rfl)]
  exact (Vc x).symm
 ·rw [k1,decide_eq_false k2,decide_eq_false (show ¬ x.length < (sg c).length from fun z=>a (Nat.lt_one_iff.mp z)),if_neg (by simp)]
  split
  ·next e =>
   rw [List.isEmpty_iff.mp e]
   exact (Vc x).symm
  ·rfl
theorem Ur (c:Nat) (z:PySem.Str) (r:List PySem.Str):(PySem.Str.join (sg c) (z :: r)).cps.toList.count c=r.length + ((z :: r).map fun y=>y.cps.toList.count c).sum:=by
 rw [x6,List.count_append,ζT,ξW]
 have:(r.flatMap fun y=>c :: y.cps.toList).count c=r.length + (r.map fun y=>y.cps.toList.count c).sum:=by
  induction r with
  | nil=>rfl
  | cons y r ih =>
   rw [List.flatMap_cons,List.count_append,ih,List.count_cons_self,ζT,ξW,ζL]
   omega
 omega
theorem WM:∀ {l:List Nat},l.sum=0→∀ x∈l,x=0
 | a :: l,h,x,hx=>by
  rw [ξW] at h
  rcases ζs.mp hx with rfl | hx
  ·omega
  ·exact WM (show l.sum=0 by omega) x hx
theorem Zr {c:Nat} (hc:c < 256) {zs:List PySem.Str} (ne:zs≠[]) (no:∀ y∈zs,c∉y.cps.toList):Txt.split (PySem.Str.join (sg c) zs) (sg c)=zs:=by
 rw [QV _ hc]
 generalize hx:PySem.Str.join (sg c) zs=x
 have g:=glued_between_self x (sg c) (x.length + 1)
 rw [glued_eq_join] at g
 have l:=length_partsBetween x (occurrences x (sg c) 0 x.length (x.length + 1)) 1
 rw [Tb] at l
 have g:PySem.Str.join (sg c) (partsBetween x (occurrences x (sg c) 0 x.length (x.length + 1)) 1)=x:=g
 generalize partsBetween x (occurrences x (sg c) 0 x.length (x.length + 1)) 1=ps at g l
 cases ps with
 | nil=>cases l
 | cons p r =>
  cases zs with
  | nil=>exact absurd rfl ne
  | cons z s =>
   have jc:=Ur c p r
   rw [g] at jc
   rw [ζL] at l
   have z0:((p :: r).map fun y=>y.cps.toList.count c).sum=0:=by omega
   have nop:∀ y∈p :: r,c∉y.cps.toList:=fun y hy=>List.count_eq_zero.mp (WM z0 _ (ζq.mpr ⟨y,hy,rfl⟩))
   refine zaJ c r s p z nop no ?_
   rw [← x6,← x6,g,hx]
theorem Wn (x:PySem.Str) (c:Nat):Txt.endswith x (sg c)=decide (x.cps.toList.getLast?=some c):=by
 unfold Txt.endswith
 have n:x.length=x.cps.toList.length:=rfl
 show (decide (0 + 1≤x.length) && subAt x (sg c) (x.length - 1))=_
 rw [UV,List.getLast?_eq_getElem?,← n]
 by_cases h:0 + 1≤x.length
 ·rw [decide_eq_true h]
  rfl
 ·have:x.cps.toList=[]:=ζO.mp (by omega)
  rw [decide_eq_false h,this]
  rfl
theorem vM (z y:PySem.Str):(z ++ y).cps.toList=z.cps.toList ++ y.cps.toList:=by
 rw [PySem.Str.cps_append,ξZ]
theorem Xj {a b:PySem.Str} (h:a.cps.toList=b.cps.toList):a=b:=by
 cases a
 cases b
 rw [PySem.Str.mk.injEq]
 exact ξE.mp h
theorem zbq (z:PySem.Str) (c:Nat):Txt.slice (z ++ sg c) none (some (-1))=z:=by
 have n:(z ++ sg c).length=z.cps.toList.length + 1:=by rw [PySem.Str.length_append]; rfl
 refine (sliceText_to_neg (x:=z ++ sg c) (by decide) (by rw [n]; omega)).trans (Xj ?_)
 rw [n,vM]
 show List.take _ (List.drop 0 _)=_
 rw [ξP,show (-1 + ((z.cps.toList.length + 1:Nat):Int) - 0).toNat=z.cps.toList.length by omega,List.take_left]
theorem zcT (x:PySem.Str) (c:Nat):(Txt.rstripChars x (sg c)).cps.toList=x.cps.toList.take (x.cps.toList.length - (x.cps.toList.reverse.takeWhile fun e=>(sg c).cps.contains e).length):=by
 unfold Txt.rstripChars
 rw [PyProof.Rows.stripBy_eq]
 show (strSub x 0 (x.length - ((x.cps.toList.drop 0).reverse.takeWhile _).length)).cps.toList=_
 unfold strSub
 rw [ξP]
 show (x.cps.extract 0 _).toList=_
 rw [Array.toList_extract,List.extract_eq_drop_take,ξP,Nat.sub_zero]
 rfl
theorem Vz (c e:Nat):(sg c).cps.contains e=decide (e=c):=by simp
theorem zcH {c:Nat}:∀ {l:List Nat},c∉l→(l.takeWhile fun e=>(sg c).cps.contains e)=[]
 | [],_=>rfl
 | a :: r,h=>by
  have:(sg c).cps.contains a=false:=by
   rw [Vz]
   exact decide_eq_false fun z=>h (z ▸ ζi)
  rw [List.takeWhile_cons,this]
  rfl
theorem zek {z:PySem.Str} {c:Nat} (h:c∉z.cps.toList):Txt.rstripChars z (sg c)=z:=by
 refine Xj ?_
 rw [zcT,zcH (fun w=>h (ξ9.mp w))]
 exact ζA (ζm _)
theorem zdu {z:PySem.Str} {c:Nat} (h:c∉z.cps.toList):Txt.rstripChars (z ++ sg c) (sg c)=z:=by
 refine Xj ?_
 have e:(z ++ sg c).cps.toList=z.cps.toList ++ [c]:=vM z (sg c)
 have g:(sg c).cps.contains c=true:=by rw [Vz]; exact decide_eq_true rfl
 rw [zcT,e,List.reverse_append]
 show List.take (_ - ((c :: z.cps.toList.reverse).takeWhile _).length) _=_
 rw [List.takeWhile_cons,g,if_pos rfl,zcH (fun w=>h (ξ9.mp w)),ζj]
 show List.take (z.cps.toList.length + 1 - 1) _=_
 rw [Nat.add_sub_cancel,List.take_left]
theorem Wo (m:Nat):0 < (Nat.toDigits 10 m).length:=by
 by_cases h:m < 10
 ·rw [ξ6 h]
  exact Nat.one_pos
 ·have hm:m % 10 < 10:=Nat.mod_lt m (by decide)
  have t:Nat.toDigits 10 (m / 10) ++ Nat.toDigits 10 (m % 10)=Nat.toDigits 10 (10 * (m / 10) + m % 10):=Nat.toDigits_append_toDigits (by decide) (by omega) hm
  rw [Nat.div_add_mod] at t
  rw [← t,ζj,ξ6 hm]
  exact ζB Nat.one_pos (Nat.le_add_left _ _)
theorem xU {m c:Nat} (hc:c∈(PySem.Str.ofString (toString ((m:Nat):Int))).cps.toList):48≤c∧c≤57:=by
 rw [PySem.W.KIN.signs_num] at hc
 obtain ⟨ch,h1,rfl⟩:=ζq.mp hc
 exact PyProof.Rows.digit_range (Nat.isDigit_of_mem_toDigits (by decide) (by decide) h1)
theorem zav (m:Nat):(PySem.Str.ofString (toString ((m:Nat):Int))).cps.toList≠[]:=fun z=>by
 have h:=Tx.Wo m
 rw [PySem.W.KIN.signs_num] at z
 rw [List.map_eq_nil_iff.mp z] at h
 cases h
theorem Vn {m:Nat} (hl:(PySem.Str.ofString (toString ((m:Nat):Int))).length≤640):intText? (PySem.Str.ofString (toString ((m:Nat):Int)))=some ((m:Nat):Int):=by
 have e:=PySem.intText_digits (fun c hc=>xU hc) (zav m) (ζM hl (by decide))
 rw [PySem.W.KIN.signs_num,PySem.W.KIN.val_back] at e
 exact e
theorem zbn:∀ m:Nat,m≠0→∀ c,(Nat.toDigits 10 m).head?=some c→c≠'0':=by
 intro m
 induction m using Nat.strongRecOn with
 | _ m ih =>
  intro h0 c hc
  by_cases h:m < 10
  ·rw [ξ6 h] at hc
   cases hc
   have:∀ d:Nat,d < 10→d≠0→Nat.digitChar d≠'0':=by decide
   exact this m h h0
  ·have hm:m % 10 < 10:=Nat.mod_lt m (by decide)
   have t:Nat.toDigits 10 (m / 10) ++ Nat.toDigits 10 (m % 10)=Nat.toDigits 10 (10 * (m / 10) + m % 10):=Nat.toDigits_append_toDigits (by decide) (by omega) hm
   rw [Nat.div_add_mod] at t
   rw [← t] at hc
   have lp:=Wo (m / 10)
   cases e:Nat.toDigits 10 (m / 10) with
   | nil=>rw [e] at lp; cases lp
   | cons a r =>
    rw [e] at hc
    exact ih (m / 10) (by omega) (by omega) c (by rw [e]; exact hc)
end Tx
namespace L2
open PySem PySem.Spec PyProof.Rows
section
variable {X:Cx} {K:ζb}
def rInT (K:ζb) (neg:Bool):R2:=fun x y H Q=>∃ p xs d ds,y=.ref p∧SqT K H p xs∧Dp K H x d∧zT K H xs ds∧low d=true∧(∀ e∈ds,low e=true)∧Q (.bl (if neg then !ds.any (PyData.eqv · d) else ds.any (PyData.eqv · d))) H
theorem T7 (hu:X.A.units + 64 < cLine):OpR X (compareOp .NotIn) (rInT X.K true):=by
 intro pins s σ H x y v u Q I rx ry h
 obtain ⟨p,xs,d,ds,rfl,hq,h1,h2,l1,l2,q⟩:=h
 cases ry
 obtain ⟨its,r,pl,hz⟩:=I.tuple hq
 obtain ⟨as,ra⟩:=h1.reads I rx
 obtain ⟨bs,rb⟩:=zT.reads I h2 r
 have q2:Q (.bl !its.toArray.any (eqU2 s.heap d)) H:=by
  rw [← uW rb l2] at q
  rw [← List.any_toArray] at q
  exact q
 refine SeqAt.notIn_tupleAt (items:=its.toArray) (eqU2 s.heap d) pl (fun w hw=>?_) ⟨.bl _,H,I,rfl,q2⟩
 obtain ⟨dw,hd,cs,rc⟩:=vk rb w (by simpa using hw)
 have m1:=v4 l1
 have m2:=ξ8 dw.depth d.depth
 rw [v5 rc (l2 dw hd)]
 exact SeqAt.eqAt_reads dw d _ s w v cs as rc ra (wy (l2 dw hd)) (wy l1) (Nat.lt_of_le_of_lt (show X.A.units + 1 + min dw.depth d.depth≤X.A.units + 64 by omega) hu)
theorem Ud (hK:X.K=K) (hu:X.A.units + 64 < cLine):OpR X (compareOp .NotIn) (rInT K true):=by subst hK; exact T7 hu
end
end L2
namespace PD
open PySem L2
section
variable {K:ζb} {S S':Sx} {κ κ':Bool} {Γ Γ' Γ'' Γ3:Ctx} {P:Post}
theorem VZ {a:Addr} {x y z:Str} {d:Option Addr} {t u v:Tok} {n:Nat} {sl:Array (Option Value)} (h:K.lookup a=some ⟨.type "tuple", d,.seq #[.str x t,.str y u,.str z v] n,sl⟩) (H:Hp):SqT K H a [.str x,.str y,.str z]:=.inr ⟨_,_,_,h,rfl,rfl,by show 3≤sizeLine; decide,.cons ⟨t,rfl⟩ (.cons ⟨u,rfl⟩ (.cons ⟨v,rfl⟩ .nil))⟩
theorem Ux {a:Addr} {x y z:Str} (h:∀ H,SqT K H a [.str x,.str y,.str z]):EvE K S κ (tC (.ref a)) Γ (.tuple [.str x,.str y,.str z]):=fun H0 F0 H F σ e Q q=>q _ H F (.refl e.le) (.tup (h F) (.cons (.str x) (.cons (.str y) (.cons (.str z) .nil))))
theorem zd7 {neg:Bool} {ta tb:TE} {d:PyData} {ds:List PyData} (ha:EvE K S false ta Γ d) (hb:EvE K S false tb Γ (.tuple ds)) (l1:low d=true) (l2:∀ e∈ds,low e=true):EvE K S κ (tOp (rInT K neg) ta tb) Γ (.bool (if neg then !ds.any (PyData.eqv · d) else ds.any (PyData.eqv · d))):=fun H0 F0 H F σ e Q q =>
 ha H0 F0 H F σ e _ fun v H1 F1 g1 p1=>hb H0 F0 H1 F1 σ (e.mono g1) _ fun w H2 F2 g2 p2=>by
  obtain ⟨a,vs,rfl,h1,h2⟩:=u5 p2
  exact ⟨a,vs,d,ds,rfl,Same.seqT g2.le h1,xX (g1.le.trans g2.h) (wj p1),xF g2.le (zU h2),l1,l2,q _ H2 F2 (g1.trans g2) (.bl _)⟩
theorem zez {S':Sx} {i:Nat} {u:TS} (es:SetC Γ i (some (.o2 none [[]])) Γ') (k:ExT K S S' u Γ' P):ExT K S S' (tSeq (tAsg (tLst (zE (tLst tNil) tNil)) (xa i)) u) Γ P:=fun H0 F0 H F σ B e bb vv D I=>by
 refine ⟨ζY _,fun b hb=>⟨by show 1≤sizeLine; decide,fun p hp=>?_⟩⟩
 have g1:Gr H F (upd H b (.lst [])) F:=.newO e.le hb _
 have e1:=e.mono g1
 have g2:Gr (upd H b (.lst [])) F (upd (upd H b (.lst [])) p (.lst [.ref b])) F:=.newO e1.le hp _
 have pb:b≠p:=by
  rintro rfl
  rw [zp] at hp
  cases hp
 have e2:=(e1.mono g2).set (i:=i) (v:=.ref p) (x:=.o2 none [[]]) ⟨p,[.ref b],⟨rfl,fun _ z=>nomatch z⟩,⟨zp,e1.le.free hp,e1.gr.h.free hp,e1.out hp⟩,fun z=>pb (by cases List.mem_singleton.mp z; rfl),by simp,rfl,fun j x hx=>by
  cases j with
  | zero =>
   cases hx
   exact ⟨b,[],[],rfl,⟨(zt pb).trans zp,e.le.free hb,e.gr.h.free hb,e.out hb⟩,rfl,.nil⟩
  | succ j=>cases hx⟩ fun c oc j y w hj z hw o=>by
  rcases oc with oc | ⟨q,xs,ep,hq,hm⟩
  ·cases oc
   exact e1.newOwn g2 hp j y w z hw o
  ·cases ep
   rw [zp] at hq
   cases hq
   cases ζh.mp hm
   exact e.newOwn (g1.trans g2) hb j y w z hw o
 rw [es.eq] at e2
 exact k H0 F0 _ F _ B e2 bb vv D I
end
end PD
namespace L2
open PySem PySem.Spec PyProof.Rows
def stS (l:List Str) (v:Str):List Str:=if v∈l then l else l ++ [v]
def ddS (zs:List Str):List Str:=zs.foldl stS []
theorem UX (l:List Str) (v k:Str):k∈stS l v↔k∈l∨k=v:=by
 unfold stS
 by_cases h:v∈l
 ·rw [if_pos h]
  exact ⟨.inl,fun z=>z.elim id fun e=>by rw [e]; exact h⟩
 ·rw [if_neg h,ζu,ζh]
theorem Z4 (zs:List Str) (v:Str):ddS (zs ++ [v])=stS (ddS zs) v:=by
 unfold ddS
 rw [ξi]
 rfl
theorem TK:∀ (n:Nat) (zs:List Str),zs.length=n→∀ k,k∈ddS zs↔k∈zs
 | 0,zs,h,k=>by rw [ζO.mp h]; rfl
 | n + 1,zs,h,k=>by
  have ne:zs≠[]:=fun z=>by rw [z] at h; cases h
  have e:=(ξx ne).symm
  have l:zs.dropLast.length=n:=by rw [List.length_dropLast,h]; rfl
  rw [e,Z4,UX,TK n _ l,ζu,ζh]
theorem Wq:∀ (n:Nat) (zs:List Str),zs.length=n→(ddS zs).length≤n∧((ddS zs).length=n↔zs.Nodup)
 | 0,zs,h=>by rw [ζO.mp h]; exact ⟨ζm _,fun _=>.nil,fun _=>rfl⟩
 | n + 1,zs,h=>by
  have ne:zs≠[]:=fun z=>by rw [z] at h; cases h
  have e:=(ξx ne).symm
  have l:zs.dropLast.length=n:=by rw [List.length_dropLast,h]; rfl
  generalize zs.getLast ne=v at e
  generalize zs.dropLast=ys at e l
  obtain ⟨h1,h2⟩:=Wq n ys l
  have m:=TK n ys l v
  rw [e,Z4]
  have nd:(ys ++ [v]).Nodup↔ys.Nodup∧v∉ys:=by
   rw [ξB]
   constructor
   ·rintro ⟨a,_,c⟩
    exact ⟨a,fun z=>c _ z _ (by simp) rfl⟩
   ·rintro ⟨a,c⟩
    refine ⟨a,by simp,fun x hx y hy=>?_⟩
    rw [ζh.mp hy]
    rintro rfl
    exact c hx
  rw [nd]
  unfold stS
  by_cases hv:v∈ddS ys
  ·rw [if_pos hv]
   exact ⟨by omega,fun z=>by omega,fun z=>absurd (m.mp hv) z.2⟩
  ·rw [if_neg hv,ζj]
   show _ + 1≤_∧(_ + 1=_↔_)
   exact ⟨by omega,fun z=>⟨h2.mp (by omega),fun w=>hv (m.mpr w)⟩,fun z=>by have:=h2.mpr z.1; omega⟩
def fmS (val:Nat→Str) (i:Nat):List Str:=ddS ((List.range i).map val)
theorem VA (val:Nat→Str) (i:Nat):fmS val (i + 1)=stS (fmS val i) (val i):=by
 unfold fmS
 rw [ξX,ζE]
 exact Z4 _ _
section
variable {prog:Program} {w:World} {A:Around} {R:Result→Shared→Prop} {I:Addr} {fp wr:List Addr} {G:Array GenState→Array GenState→Prop} {n:Nat} {P:Nat→Value→Prop} {St:Nat→Shared→Prop}
def InS (h:Heap) (prog:Program) (w:World) (S:Addr) (l:List Str):Prop:=h.SetOf (strKind prog w) S (fun k=>decide (k∈l)) l.length
theorem InS.at {h h':Heap} {S:Addr} {l:List Str} (x:InS h prog w S l) (e:∀ o,h.get? S=some o→h'.get? S=some o):InS h' prog w S l :=
 let ⟨o,es,ep,t,ho,r⟩:=x
 ⟨o,es,ep,t,e o ho,r⟩
theorem zbC (W:WalksS prog w A.in1 I fp wr G n P St) (S:Addr) (hSf:S∉fp) (val:Nat→Str) (hval:∀ i v,P i v→∃ t,v=.str (val i) t) (hz:n + 1 < scanBound) :
  ∀ (k i:Nat) (s:Shared),n - i=k→i≤n→St i s→InS s.heap prog w S (fmS val i)→(∀ s',Moved (S :: wr) G s s'→InS s'.heap prog w S (fmS val n)→R (.ok (.ret .none)) s') →
   codeAny (model prog w) A (.builtin "set.update.loop" ⟨[.ref S,.ref I],[]⟩) R s:=by
 have hSw:S∉wr:=fun h=>hSf (W.sub _ h)
 have sb:∀ c∈wr,c∈S :: wr:=fun c=>ζk _
 intro k
 induction k with
 | zero =>
  intro i s hk hi st hS hR
  obtain rfl:i=n:=by omega
  refine codeAny_builtin F.entry_set_update_loop ?_
  rw [Around.under_plainId F.plain_set_update_loop _]
  show wpAny _ A.in1 (pyNext (.ref I) >>= _) _ _ s
  refine wpAny_bind (W.done s _ _ st fun s' hm=>wpAny_pure (hR s' (hm.mono sb) (hS.at fun o z=>hm.heap S o hSw z)))
 | succ k ih =>
  intro i s hk hi st hS hR
  have hlt:i < n:=by omega
  refine codeAny_builtin F.entry_set_update_loop ?_
  rw [Around.under_plainId F.plain_set_update_loop _]
  show wpAny _ A.in1 (pyNext (.ref I) >>= _) _ _ s
  refine wpAny_bind (W.item i s _ _ hlt st fun v s' hP st' hm=>?_)
  obtain ⟨t,rfl⟩:=hval i v hP
  have hS':InS s'.heap prog w S (fmS val i):=hS.at fun o z=>hm.heap S o hSw z
  show wpAny _ A.in1 (holding [Value.str (val i) t] (setAdd S (.str (val i) t)) >>= _) _ _ s'
  refine wpAny_bind (wpAny_holding ?_)
  unfold setAdd
  refine wpAny_holding (wpAny_bind ((strKind prog w).pyHash (k:=val i) (strKind_is _ _ _ _) ?_))
  have room:(fmS val i).length + 1 < scanBound:=by
   have:=(Wq i ((List.range i).map val) (by rw [ζa,ζz])).1
   have:(fmS val i).length≤i:=this
   omega
  refine wpAny_setAddHashed_of (knd:=strKind prog w) (s:={ s' with toks:=s'.toks + 1 }) (strKind_is _ _ _ _) rfl hS' room fun h' u hS2=>?_
  have hS3:InS h' prog w S (fmS val (i + 1)):=by
   refine SetOf_congr hS2 (fun c=>?_) ?_
   ·rw [VA]
    show (decide (c∈fmS val i) || decide (c=val i))=decide _
    rw [← Bool.decide_or]
    exact decide_eq_decide.mpr (UX _ _ _).symm
   ·rw [VA]
    unfold stS
    by_cases hv:val i∈fmS val i
    ·simp [hv]
    ·simp [hv]
  refine wpAny_pure ⟨plainId_quiet F.plain_set_update_loop _,ih (i + 1) _ (by omega) hlt (W.frame _ s' _ _ st' (Nat.le_succ _) fun c hc o z=>?_) hS3 fun s'' hm'' hS''=>?_⟩
  ·rw [u.2 c fun q:c=S=>hSf (by rw [← q]; exact hc)]; exact z
  ·refine hR s'' (Moved.trans W.gtrans ((hm.mono sb).then_heap (Nat.le_succ _) fun c o hc z=>?_) hm'') hS''
   rw [u.2 c fun q:c=S=>hc (by rw [q]; exact .head _)]; exact z
end
section
variable {prog:Program} {w:World} {A:Around} {E:Value→Shared→Prop} {s:Shared}
set_option maxHeartbeats 3200000 in
theorem zdo {L:Addr} {items:Array Value} {val:Nat→Str} {Q:Value→Shared→Prop} (hh:A.handled=none) (hl:s.heap.IsList L items) (hval:∀ (i:Nat) (v:Value),items[i]?=some v→∃ t,v=.str (val i) t) (hz:items.size + 1 < scanBound)
  (k:∀ (h':Heap) (tk:Nat),InS h' prog w s.heap.objs.size (fmS val items.size)→(∀ c o,s.heap.get? c=some o→h'.get? c=some o)→Q (.ref s.heap.objs.size) { s with heap:=h',toks:=tk }) :
  wpAny (model prog w) A (call (.type "set") [.ref L]) Q E s:=by
 obtain ⟨c,tl,hmro⟩:=F.called_set.mro
 have hmade:=F.called_set.made
 have hsub:=F.called_set.sub
 refine wpAny_call (codeAny_of_tree ?_)
 show wpAny _ _ (callAny (.type "set") _) _ _ _
 refine wpAny_pure ⟨Code.quiet_builtin _ (by decide +kernel),codeAny_builtin F.entry_type_call ?_⟩
 rw [Around.under_plain (weight_type_call_type "set" [.ref L] []) rfl]
 have h1:=F.called_set.notType
 have h2:=F.called_set.canCreate
 have hct:=F.typeCall_set_1 (.ref L)
 repeat (any_goals (first | assumption | wp_step))
 refine codeAny_mono (code_set_new_1 (.ref L) (E:=E) (Q₁:=fun x s₁=>∃ b:Bool,x=.ref s.heap.objs.size∧s₁={ s with heap:=s.heap.push { cls:=.type "set", dict:=none,data:=.set #[] 0 (.fresh 0 0 b) } }) fun b=>⟨b,rfl,rfl⟩) fun r s₁ hr=>?_
 cases r with
 | error e=>exact hr
 | ok fl =>
  cases fl with
  | ret obj =>
   obtain ⟨b,rfl,rfl⟩:=hr
   generalize ho0:({ cls:=.type "set", dict:=none,data:=.set #[] 0 (.fresh 0 0 b) }:Obj)=o0
   have hS:(s.heap.push o0).get? s.heap.objs.size=some o0:=ζp _ (by rw [← ho0]; rfl)
   have hS0:InS (s.heap.push o0) prog w s.heap.objs.size (fmS val 0):=SetOf_congr ((setObjOf_fresh (knd:=strKind prog w) b).setOf (by rw [ho0]; exact hS) (by unfold scanBound; omega)) (fun _=>rfl) rfl
   have hT:Shared.TypeIs { s with heap:=s.heap.push o0 } (.ref s.heap.objs.size) "set" := ⟨_,hS,by rw [← ho0]⟩
   have hli:=F.called_set.init.lookup
   have hbi:=F.called_set.init.bind (.ref s.heap.objs.size)
   repeat (any_goals (first | assumption | wp_step))
   refine codeAny_mono (codeAny_call_builtin (R:=wants (fun r s₂=>r=.none∧∃ h' tk,s₂={ s with heap:=h',toks:=tk }∧InS h' prog w s.heap.objs.size (fmS val items.size) ∧
     (∀ c o,s.heap.get? c=some o→h'.get? c=some o)) E) F.called_set.init.plain F.entry_set_init (check_set_init_1 hT ?_)) fun r₂ s₂ hr₂=>?_
   ·obtain ⟨ol,hol,hcl,nl,hdl⟩:=hl
    obtain ⟨oc,od,odt,osl⟩:=ol
    simp only at hcl hdl
    subst hcl; subst hdl
    have hol':(s.heap.push o0).get? L=some { cls:=.type "list", dict:=od,data:=.seq items nl,slots:=osl }:=ζg _ hol
    have e1:=F.sub_list_set
    have e2:=F.sub_list_frozenset
    have hne:(Value.type "list" == Value.type "dict")=false:=by decide
    have hl1:(s.heap.push o0).IsList L items:=⟨_,hol',rfl,nl,rfl⟩
    have hz0:(s.heap.push o0).objs.size=s.heap.objs.size + 1:=ξf _ _
    subst ho0
    unfold Builtin.«set.__init__» noKeywords Builtin.Frozenset.updateFrom
    generalize hPI:pyIter=PI
    wp_walk
    subst hPI
    refine wpAny_pyIter_list hl1 ?_
    refine wpAny_bind (wpAny_runValue ?_)
    have hlS:L < s.heap.objs.size:=ζn hol
    have hh3:A.in1.in1.in1.handled=none:=hh
    have hneI:L≠(s.heap.push { cls:=.type "set", dict:=none,data:=.set #[] 0 (.fresh 0 0 b) }).objs.size:=by rw [hz0]; exact ζG (ξq hlS)
    have hSf:s.heap.objs.size∉[(s.heap.push { cls:=.type "set", dict:=none,data:=.set #[] 0 (.fresh 0 0 b) }).objs.size,L]:=by
     rw [hz0]
     intro z
     rcases ζs.mp z with z | z
     ·exact ζG (ξR _) z
     ·exact ξb hlS (ζh.mp z)
    refine zbC ((Walks.list hh3 _ L hneI items).toS) s.heap.objs.size hSf val hval hz (items.size - 0) 0 _ (by omega) (ζY _) ⟨⟨_,ζp _ rfl,rfl,rfl⟩,(hl1.push _)⟩ ?hS0 ?hR
    case hS0=>exact hS0.at fun o z=>ζg _ z
    case hR =>
     intro s' hm hS'
     obtain ⟨h',g',d',tk',os'⟩:=s'
     have eg:g'=s.gens:=hm.gens
     have ed:d'=s.drawn:=hm.drawn
     have eo:os'=s.os:=hm.os
     subst eg; subst ed; subst eo
     show wpAny _ _ _ _ _ _
     refine wpAny_pure ?_
     show wpAny _ _ (ret Value.none) _ _ _
     refine wpAny_pure ⟨rfl,h',tk',rfl,hS',fun c o z=>?_⟩
     have hc:c < s.heap.objs.size:=ζn z
     refine hm.heap c o (fun q=>?_) (ζg _ (ζg _ z))
     rcases ζs.mp q with q | q
     ·exact ζG hc q
     ·have q:=ζh.mp q
      rw [hz0] at q
      exact ζG (ξq hc) q
   ·cases r₂ with
    | error e=>exact hr₂
    | ok fl₂ =>
     cases fl₂ with
     | ret r =>
      obtain ⟨rfl,h',tk,rfl,hS',hk'⟩:=hr₂
      repeat (any_goals (first | assumption | wp_step))
      exact k _ _ hS' hk'
     | _=>exact hr₂.elim
  | _=>exact hr.elim
end
def zc7 (n:Nat) (a:Addr):Heap→Prop:=fun h=>∃ o es ep t,h.get? a=some o∧o.ExactSet∧o.data=.set es ep t∧t.fits es.size=true∧es.size < scanBound∧es.size=n
section
variable {X:Cx} {K:ζb}
def zcV (K:ζb):List V→Hp→VK→Prop:=fun xs H Q=>∃ p zs,xs=[.ref p]∧SqL K H p (zs.map V.str)∧zs.length < 4000∧∀ l,H l=none→Q (.ref l) (upd H l (.ext (zc7 (ddS zs).length l)))
theorem WH:∀ {zs:List Str} {its:List Value},Vals (zs.map V.str) its→∀ (i:Nat) (v:Value),its[i]?=some v→∃ t,v=.str (zs.getD i Str.empty) t
 | [],_,.nil,i,v,h=>by simp at h
 | z :: r,_,.cons h0 h,i,v,hv=>by
  cases i with
  | zero =>
   obtain ⟨t,rfl⟩:=h0
   cases hv
   exact ⟨t,rfl⟩
  | succ i=>exact WH h i v (by simpa using hv)
theorem QB (hK:X.K=K) (hc:X.calm=true):yB X (.type "set") (zcV K):=by
 subst hK
 intro pins s σ H xs us Q I r h
 obtain ⟨p,zs,rfl,hq,hb,q⟩:=h
 obtain ⟨u,rfl,rx⟩:=xJ r
 cases rx
 obtain ⟨its,r',pl,hz⟩:=I.list hq
 have hl:=r'.length
 rw [ζa] at hl hz
 refine zdo (val:=fun i=>zs.getD i Str.empty) (I.ok.hd hc) pl.isList (fun i v hv=>WH r' i v (by simpa using hv)) (by rw [List.size_toArray]; unfold scanBound; omega) fun h' tk hS hk=>?_
 have hz2:its.toArray.size=zs.length:=by rw [ζP,hl]
 have fe:fmS (fun i=>zs.getD i Str.empty) zs.length=ddS zs:=by
  unfold fmS
  congr 1
  refine ξa fun i=>?_
  rw [ζl]
  by_cases h:i < zs.length
  ·rw [ζV h,ζf h]
   show some (zs.getD i Str.empty)=_
   rw [ζc,ζf h]
   rfl
  ·rw [ζF (by rw [ζz]; omega),ζF (by omega)]
   rfl
 rw [hz2,fe] at hS
 obtain ⟨o,es,ep,t,ho,hex,hd,_,_,hb2,hf,hn⟩:=hS
 refine ⟨.ref s.heap.objs.size,_,I.laid (t':=tk) (fun b u e=>hk b u e) (ζm _) (show yR X.prog X.w _ _ _ (.ext _) from ⟨⟨o,es,ep,t,ho,hex,hd,hf,hb2,hn⟩,⟨o,ho⟩,fun h1 h2 ⟨o,es,ep,t,z,y⟩ k=>⟨o,es,ep,t,k o z,y⟩⟩),rfl,q _ (I.hok.fresh (ζm _))⟩
def zcY:List V→Hp→VK→Prop:=fun xs H Q=>∃ p n,xs=[.ref p]∧H p=some (.ext (zc7 n p))∧Q (.int n) H
theorem QE:yB X (.builtin "len") zcY:=by
 intro pins s σ H xs us Q I r h
 obtain ⟨p,n,rfl,hH,q⟩:=h
 obtain ⟨u,rfl,rx⟩:=xJ r
 cases rx
 obtain ⟨⟨o,es,ep,t,ho,hex,hd,hf,hb,hn⟩,_,_⟩:=I.hok p _ hH
 exact PySem.call_len_set ho hex hd hf (by unfold scanBound at hb; omega) ⟨.int n,H,I.tok _,⟨_,by rw [hn]⟩,q⟩
theorem zbV {y n:Str} {np hpos tpos:Pos} {body suite:List Stmt} {b0:Stmt} {tb:TS} (hb:PSs X body tb) (hx0:∀ e s,¬ X.xe e s):PS X (.Try body [.ExceptHandler (some (.Name y np)) (some n) (b0 :: suite) hpos] [] [] tpos) tb:=by
 intro pins s σ H D' I h
 refine wpAny_Try_except ?_
 refine wpAny_mono (hb pins s σ H D' I h) (fun f s1 q=>?_) fun e' s' z=>absurd z (hx0 e' s')
 cases f with
 | next=>exact wpAny_execs_nil q
 | _=>exact q
end
end L2
namespace PD
open PySem L2
section
variable {K:ζb} {S S':Sx} {κ κ':Bool} {Γ Γ' Γ'':Ctx} {P:Post}
theorem Uz {ta:TE} {zs:List Str} (h:EvL K S false ta Γ (zs.map .str)) (hz:zs.length < 4000):EvE K S κ (tCB zcY (zE (tCB (zcV K) (zE ta tNil)) tNil)) Γ (.int (ddS zs).length):=fun H0 F0 H F σ e Q q =>
 h H0 F0 H F σ e _ fun a vs H1 F1 g1 p1 k1=>by
  cases vh (zU k1)
  exact ⟨a,zs,rfl,p1,hz,fun p hp=>⟨p,_,rfl,zp,q _ _ F1 (g1.trans (.newO g1.le hp _)) (.int _)⟩⟩
end
end PD
namespace L2
open PySem PySem.Spec PyProof.Rows
section
variable {X:Cx}
def zcX:R2:=fun x y H Q=>∃ (z:Str) (b:Bool),x=.str z∧y=.int (if b then 1 else 0)∧Q (.str (if b then z else Str.empty)) H
theorem zb2:OpR X (binaryOp .Mult) zcX:=by
 intro pins s σ H x y v w Q I rx ry h
 obtain ⟨z,b,rfl,rfl,q⟩:=h
 obtain ⟨t,rfl⟩:=rx
 obtain ⟨u,rfl⟩:=ry
 cases b with
 | true =>
  refine SB.mul (n:=1) ⟨by decide,fun _ h=>by simp at h,fun _ h=>by simp at h⟩ fun t' k=>⟨.str _,H,I.tok _,⟨_,rfl⟩,?_⟩
  exact q
 | false =>
  refine SB.mul (n:=0) ⟨by decide,fun h=>absurd (by decide) h,fun h=>absurd (by decide) h⟩ fun t' k=>⟨.str _,H,I.tok _,⟨_,rfl⟩,?_⟩
  exact q
end
end L2
namespace PD
open PySem L2
def spI (K:ζb) (pre:List PyData→PyData→Prop):Sp:=fun vs H Q _=>∃ Hc F ds d,Same Hc H∧Same F H∧zj K true .fresh Hc F vs ds∧pre ds d∧∀ v H' F',Gr H F H' F'→Rp K true .fresh Hc F' v d→Q v H'
section
variable {K:ζb} {S S':Sx} {κ κ':Bool} {Γ Γ' Γ'':Ctx} {P:Post} {E:XK}
theorem UZ {pre:List PyData→PyData→Prop} {n:Nat} (h:∀ ds d,pre ds d→ds.length=n) {vs:List V} {H:Hp} {Q:VK} (s:spI K pre vs H Q E):vs.length=n:=by
 obtain ⟨Hc,F,ds,d,_,_,k,p,_⟩:=s
 rw [zj.length k]
 exact h ds d p
theorem VG {pre:List PyData→PyData→Prop} {t:TA} {ds:List PyData} {d:PyData} (h:EvA K .fresh true t Γ ds) (hp:pre ds d):EvE K .fresh true (uv (spI K pre) [] E t) Γ d:=fun H0 F0 H F σ e Q q =>
 h H0 F0 H F σ e _ fun vs H1 F1 g1 p1=>⟨H0,F1,ds,d,e.gr.h.trans g1.h,g1.le,by rw [ζW]; exact p1,hp,fun v H2 F2 g2 p2=>q v H2 F2 (g1.trans g2) p2⟩
def uc (n:Nat) (ds:List PyData):Ctx:=ds.map (fun d=>some (.fz true d)) ++ List.replicate (n - ds.length) none
abbrev oldH (Hc F H:Hp):Hp:=fun a=>if Hc a=none∧F a≠none then none else H a
open Classical in
theorem yQ {Hc F H:Hp} {a:Addr} {o:HO}:oldH Hc F H a=some o↔H a=some o∧¬ (Hc a=none∧F a≠none):=by
 unfold oldH
 split
 ·rename_i h
  exact ⟨fun z=>(nomatch z),fun z=>absurd h z.2⟩
 ·rename_i h
  exact ⟨fun z=>⟨z,h⟩,fun z=>z.1⟩
theorem tU {Hc F H:Hp} {N:List Str} {vs:List V} {ds:List PyData} (le:Same F H) (k:zj K true .fresh Hc F vs ds):DEnv K .fresh (oldH Hc F H) (oldH Hc F F) H F (L2.start N vs) (uc N.length ds):=by
 have l:=zj.length k
 have no:∀ (i:Nat) (x:DV),(uc N.length ds)[i]?=some (some x)→∃ d,x=.fz true d∧ds[i]?=some d:=fun i x h=>by
  unfold uc at h
  by_cases hi:i < ds.length
  ·rw [List.getElem?_append_left (by simpa using hi),List.getElem?_map] at h
   rw [ζf hi] at h ⊢
   have h':some (DV.fz true ds[i])=some x:=ζD h
   exact ⟨_,(ζD h').symm,rfl⟩
  ·rw [List.getElem?_append_right (by simpa using Nat.le_of_not_lt hi)] at h
   rw [ξJ] at h
   split at h <;> cases h
 have k':zj K true .fresh (oldH Hc F H) F vs ds:=xr (κ:=true) (κ':=true) (S:=.fresh) (H0:=Hc) (S':=.fresh) (H0':=oldH Hc F H) (fun a xs z=>⟨z.1,fun c=>by
  have hc:Hc a=none:=Classical.byContradiction fun w=>z.2 w
  have:oldH Hc F H a=none:=by unfold oldH; rw [if_pos ⟨hc,by rw [z.1]; exact fun w=>nomatch w⟩]
  exact c this⟩) (fun _ _ z=>z) k
 refine ⟨⟨fun a o z=>(yQ.mp z).1,fun a o z=>(yQ.mp z).1,le,fun a o z n=>?_⟩,fun a o z=>yQ.mpr ⟨le _ _ (yQ.mp z).1,(yQ.mp z).2⟩,fun a c=>?_,fun T z=>(nomatch z),by unfold L2.start uc; simp [l],fun i x h=>?_,fun i j x y v w a h _ _ _ o=>?_⟩
 ·obtain ⟨_,z2⟩:=yQ.mp z
  cases q:F a with
  | none=>rfl
  | some u =>
   have:oldH Hc F F a=some u:=yQ.mpr ⟨q,z2⟩
   rw [n] at this; cases this
 ·cases q:oldH Hc F H a with
  | none=>exact absurd q c
  | some o=>exact ⟨o,(yQ.mp q).1⟩
 ·obtain ⟨d',e,h'⟩:=no i _ h
  cases e
  have hi:i < vs.length:=by rw [l]; exact (ζe.mp h').1
  obtain ⟨d2,h1,h2⟩:=zj.get' k' (ζf hi)
  rw [h'] at h1
  cases h1
  refine ⟨vs[i],?_,h2⟩
  unfold L2.start
  rw [List.getElem?_append_left (by simpa using hi),List.getElem?_map,List.getElem?_eq_getElem hi]
  rfl
 ·obtain ⟨d',e,_⟩:=no i _ h
  cases e
  exact o.elim
theorem zdf {Hc F H F':Hp} {v:V} {d:PyData} (sc:Same Hc H) (p:Rp K true .fresh (oldH Hc F H) F' v d):Rp K true .fresh Hc F' v d :=
 wC (κ:=true) (κ':=true) (S:=.fresh) (H0:=oldH Hc F H) (S':=.fresh) (H0':=Hc) (fun a xs z=>⟨z.1,fun c=>by
  have c:Hc a≠none:=c
  cases q:Hc a with
  | none=>exact c q
  | some o=>exact z.2 (by show oldH Hc F H a≠none; rw [yQ.mpr ⟨sc _ _ q,fun w=>by rw [q] at w; exact nomatch w.1⟩]; exact fun w=>nomatch w)⟩) (fun _ _ z=>z) p
theorem zds {te:TE} {N:List Str} {n:Nat} {Hc H F:Hp} {vs:List V} {ds:List PyData} {d:PyData} {Q:VK} (sc:Same Hc H) (le:Same F H) (k:zj K true .fresh Hc F vs ds) (q:∀ v H' F',Gr H F H' F'→Rp K true .fresh Hc F' v d→Q v H') (hn:N.length=n) (hΓ:uc n ds=Γ) (h:EvE K .fresh true te Γ d) :
  tRet te { nx:=fun _ H'=>Q .non H',rt:=Q } (L2.start N vs) H:=by
 subst hn hΓ
 exact h _ _ H F _ (tU le k) _ fun v H' F' g p=>q v H' F' g (zdf sc p)
theorem zej {t1:TS} {j:Nat} {N:List Str} {n:Nat} {Hc H F:Hp} {vs:List V} {ds:List PyData} {d:PyData} {Q:VK} (sc:Same Hc H) (le:Same F H) (k:zj K true .fresh Hc F vs ds) (q:∀ v H' F',Gr H F H' F'→Rp K true .fresh Hc F' v d→Q v H') (hn:N.length=n) (hΓ:uc n ds=Γ)
  (h:ExS K .fresh t1 Γ { nx:=fun Γ'=>∃ es,Γ'[j]?=some (some (.ow true es))∧d=.list es,rt:=fun _=>False }) :
  tSeq t1 (tRet (tVar j)) { nx:=fun _ H'=>Q .non H',rt:=Q } (L2.start N vs) H:=by
 subst hn hΓ
 refine h _ _ H F _ F (tU le k) (.refl _) (.inl rfl) _ ⟨fun Γ' σ' H' F' n b e=>?_,fun _ _ _ _ z=>z.elim,fun _ _ _ _ z=>z.elim,fun _ _ _ _ z=>z.elim⟩
 obtain ⟨es,hj,rfl⟩:=n
 obtain ⟨v,q1,a,us,rfl,w,q5⟩:=e.has j _ hj
 have sF:Same F' (upd F' a (.lst us)):=Same.new w.f _
 have hF:Same (upd F' a (.lst us)) H':=fun c o z=>by
  by_cases hc:c=a
  ·subst hc
   rw [zp] at z
   cases z
   exact w.h
  ·rw [zt hc] at z
   exact e.gr.le _ _ z
 have na:¬ Sx.has .fresh (oldH Hc F H) a:=w.s
 refine ⟨_,q1,q _ H' (upd F' a (.lst us)) ⟨fun c o z=>?_,b.trans sF,hF,fun c o z n=>?_⟩ (zdf sc (.lst ⟨zp,na⟩ (zD sF q5)))⟩
 ·by_cases hc:Hc c=none∧F c≠none
  ·cases fc:F c with
   | none=>exact absurd fc hc.2
   | some u =>
    have:=le _ _ fc
    rw [z] at this
    cases this
    exact e.gr.le _ _ (b _ _ fc)
  ·exact e.gr.h _ _ (yQ.mpr ⟨z,hc⟩)
 ·have nc:¬ (Hc c=none∧F c≠none):=fun w=>w.2 n
  have z1:=yQ.mpr ⟨z,nc⟩
  have ca:c≠a:=fun w'=>by
   subst w'
   exact na (by show oldH Hc F H c≠none; rw [z1]; exact fun w=>nomatch w)
  rw [zt ca]
  refine e.gr.ap _ _ z1 ?_
  unfold oldH
  rw [if_neg nc,n]
theorem zdt {t1 t2 t3 t4:TS} {j:Nat} {N:List Str} {n:Nat} {Hc H F:Hp} {vs:List V} {ds:List PyData} {d:PyData} {Q:VK} (sc:Same Hc H) (le:Same F H) (k:zj K true .fresh Hc F vs ds) (q:∀ v H' F',Gr H F H' F'→Rp K true .fresh Hc F' v d→Q v H') (hn:N.length=n) (hΓ:uc n ds=Γ)
  (h:ExS K .fresh (tSeq t1 (tSeq t2 (tSeq t3 t4))) Γ { nx:=fun Γ'=>∃ es,Γ'[j]?=some (some (.ow true es))∧d=.list es,rt:=fun _=>False }) :
  tSeq t1 (tSeq t2 (tSeq t3 (tSeq t4 (tRet (tVar j))))) { nx:=fun _ H'=>Q .non H',rt:=Q } (L2.start N vs) H:=zej (t1:=tSeq t1 (tSeq t2 (tSeq t3 t4))) sc le k q hn hΓ h
theorem Uu {κ':Bool} {js:List (Option Nat)} {wi:TI} {g:TG} {tt:TT} {te:TE} {is:List Nat} {G:List PyData→Prop} (p:PyData→Bool) (f:PyData→PyData) (hi:EvIG K S κ' wi Γ G) (hjs:∀ i∈is,js[i]?=some none) (hj:∀ i j k:Nat,js[i]?=some (some k)→js[j]?=some (some k)→i=j)
  (hz:∀ ds,G ds→ds.length≤sizeLine) (hb:∀ ds,G ds→∀ d∈ds,ExG K S κ' g is d (v9 js Γ) fun Γ'=>EvT K S tt Γ' (p d)∧(p d=true→EvE K S κ te Γ' (f d))):EvOG K S κ (vi js wi g tt te) Γ fun es=>∃ ds,G ds∧es=(ds.filter p).map f:=fun H0 F0 H F σ e Q q =>
 hi H0 F0 H F σ e _ fun ds J H1 F1 hG g1 I1=>by
  have hz:=hz ds hG
  have hb:=hb ds hG
  intro D hD
  have sdm:∀ {H2 F2:Hp},Gr H1 F1 H2 F2→∀ a,S.has H0 a→∃ o,H2 a=some o:=fun g2 a c=>let ⟨o,z⟩:=(e.mono g1).sd a c; ⟨o,g2.h _ _ z⟩
  refine ⟨fun i m ys H2=>m=ds.length - i∧i≤ds.length∧∃ F2,Gr H1 F1 H2 F2∧H2 D=some (.lst ys)∧F2 D=none∧zj K κ S H0 F2 ys (((ds.take i).filter p).map f),⟨_,rfl,ζY _,F1,.newO g1.le hD _,zp,g1.le.free hD,.nil⟩,?_⟩
  rintro i m ys H2 ⟨rfl,hi,F2,g2,hl,fl,k2⟩
  by_cases hlt:i < ds.length
  ·refine .inr ⟨I1.go i H2 F2 g2.f g2.le hlt,fun zs H3=>i + 1≤ds.length∧∃ F2,Gr H1 F1 H3 F2∧H3 D=some (.lst zs)∧F2 D=none∧zj K κ S H0 F2 zs (((ds.take (i + 1)).filter p).map f),fun zs H3 h3=>⟨ds.length - (i + 1),by omega,rfl,h3⟩,fun x H3 y=>?_⟩
   obtain ⟨d,F3,hd,g3,p3⟩:=I1.yld i H2 F2 x H3 g2.f g2.le (sdm g2) hlt y
   have hl3:=g3.h _ _ hl
   have fl3:=g3.ap _ _ hl fl
   have E3:=((e.mono g1).mono (g2.trans g3)).capt hj
   refine hb d (ζd hd) H0 F0 H3 F3 _ x E3 p3 _ fun Γ' σ' H4 F4 hΓ g4 E4 len4 out4=>?_
   obtain ⟨ht,he⟩:=hΓ
   have hl4:=g4.h _ _ hl3
   have fl4:=g4.ap _ _ hl3 fl3
   have tk:ds.take (i + 1)=ds.take i ++ [d]:=by rw [ξ1,hd]; rfl
   refine ⟨⟨len4.symm,fun j v hv=>?_⟩,ht H0 F0 H4 F4 σ' E4 _ fun H5 F5 g5=>?_⟩
   ·by_cases hjj:j∈is
    ·have:=hjs j hjj
     unfold L2.capt at hv
     rw [ζl,this] at hv
     cases hv
    ·rw [out4 j hjj]; exact hv
   have hl5:=g5.h _ _ hl4
   have fl5:=g5.ap _ _ hl4 fl4
   cases hpd:p d with
   | false =>
    refine iteF ⟨hlt,F5,g2.trans ((g3.trans g4).trans g5),hl5,fl5,?_⟩
    rw [tk,ξK,ζE]
    simp only [List.filter_cons,hpd,List.filter_nil]
    simpa using zD ((g3.trans g4).trans g5).f k2
   | true =>
    refine iteT (he hpd H0 F0 H5 F5 σ' (E4.mono g5) _ fun v H6 F6 g6 p6=>?_)
    have hl6:=g6.h _ _ hl5
    have fl6:=g6.ap _ _ hl5 fl5
    have gg:=(g3.trans g4).trans (g5.trans g6)
    have G6:=g2.trans gg
    refine ⟨hl6,?_,hlt,F6,⟨fun b u z=>?_,G6.f,fun b u z=>?_,G6.ap⟩,zp,fl6,?_⟩
    ·have h1:=zj.length k2
     rw [ζa] at h1
     have h2:=ξl p (ds.take i)
     rw [ζy] at h2
     omega
    ·rw [zt (zK z hD)]; exact G6.h _ _ z
    ·rw [zt (by rintro rfl; rw [fl6] at z; cases z)]; exact G6.le _ _ z
    ·rw [tk,ξK,ζE]
     simp only [List.filter_cons,hpd,List.filter_nil,if_true,List.map_cons,List.map_nil]
     exact zj.append (zD gg.f k2) (.cons p6 .nil)
  ·have ei:i=ds.length:=by omega
   subst ei
   rw [ζ4] at k2
   exact .inl ⟨I1.stop H2 F2 g2.f g2.le,q _ D ys H2 F2 ⟨ds,hG,rfl⟩ (g1.trans g2) (g1.h.free hD) hl fl k2⟩
theorem ZG:∀ {js:List (Option Nat)},(js.filterMap id).Nodup→∀ i j k:Nat,js[i]?=some (some k)→js[j]?=some (some k)→i=j
 | [],_,i,j,k,h1,_=>by simp at h1
 | o :: js,hj,i,j,k,h1,h2=>by
  have mem:∀ {m n:Nat},js[n]?=some (some m)→m∈js.filterMap id:=fun h=>ξd.mpr ⟨some _,ζd h,rfl⟩
  cases o with
  | none =>
   cases i with
   | zero=>simp at h1
   | succ i =>
    cases j with
    | zero=>simp at h2
    | succ j=>rw [ZG (js:=js) (by simpa using hj) i j k (by simpa using h1) (by simpa using h2)]
  | some m =>
   have hj':(m :: js.filterMap id).Nodup:=by simpa using hj
   obtain ⟨hm,hn⟩:=ξI.mp hj'
   cases i with
   | zero =>
    cases j with
    | zero=>rfl
    | succ j =>
     have e1:m=k:=by simpa using h1
     subst e1
     exact absurd (mem (n:=j) (by simpa using h2)) hm
   | succ i =>
    cases j with
    | zero =>
     have e1:m=k:=by simpa using h2
     subst e1
     exact absurd (mem (n:=i) (by simpa using h1)) hm
    | succ j=>rw [ZG (js:=js) hn i j k (by simpa using h1) (by simpa using h2)]
theorem za9 {js:List (Option Nat)} {Γc:Ctx} {wi:TI} {g:TG} {te:TE} {is:List Nat} {G:List PyData→Prop} (κ':Bool) (f:PyData→PyData) (hi:EvIG K S κ' wi Γ G) (hc:xR js Γ Γc) (hjs:(is.all fun i=>js[i]? == some none)=true)
  (hj:(js.filterMap id).Nodup) (hz:∀ ds,G ds→ds.length≤sizeLine) (hb:∀ ds,G ds→∀ d∈ds,ExG K S κ' g is d Γc fun Γ'=>EvE K S κ te Γ' (f d)):EvOG K S κ (vi js wi g tYes te) Γ fun es=>∃ ds,G ds∧es=ds.map f:=fun H0 F0 H F σ e Q q=>by
 refine Uu (K:=K) (S:=S) (κ:=κ) (κ':=κ') (g:=g) (tt:=tYes) (te:=te) (is:=is) (fun _=>true) f hi (fun i hi=>by have:=List.all_eq_true.mp hjs i hi; simpa using this) (ZG hj) hz (by rw [hc.eq]; exact fun ds hd d hm H0 F0 H F σ v e p Q q=>hb ds hd d hm H0 F0 H F σ v e p Q fun Γ' σ' H' F' k=>q Γ' σ' H' F' ⟨Wm,fun _=>k⟩) H0 F0 H F σ e Q fun es a vs H' F' ⟨ds,hd,ee⟩=>q es a vs H' F' ⟨ds,hd,?_⟩
 rw [ee,List.filter_eq_self.mpr (fun _ _=>rfl)]
theorem EvOG.toG {t:TE} {G:List PyData→Prop} (h:EvOG K S κ t Γ G):EvG K S κ t Γ fun d=>∃ es,G es∧d=.list es:=fun H0 F0 H F σ e Q q=>h H0 F0 H F σ e Q fun ds a vs H' F' hd g n p f k=>by
 have s:Same F' (upd F' a (.lst vs)):=Same.new f _
 refine q _ (.ref a) H' (upd F' a (.lst vs)) ⟨ds,hd,rfl⟩ ⟨g.h,g.f.trans s,fun b u z=>?_,fun b u z y=>?_⟩ (.lst (LN.new (e.out n)) (zD s k))
 ·by_cases eb:b=a
  ·subst eb; rw [zp] at z; rw [← z]; exact p
  ·rw [zt eb] at z; exact g.le _ _ z
 ·rw [zt (zK z n)]; exact g.ap _ _ z y
theorem Uv {pre:List PyData→(PyData→Prop)→Prop} {t:TE} {G1 G:PyData→Prop} (h:EvG K S false t Γ G1) (hp:∀ d,G1 d→∃ G',pre [d] G'∧∀ x,G' x→G x):EvG K S κ (uv (spW K true pre) [] E (zE t tNil)) Γ G:=fun H0 F0 H F σ e Q q =>
 h H0 F0 H F σ e _ fun d v H1 F1 hd g1 p1=>by
  obtain ⟨G',hp,hg⟩:=hp d hd
  exact ⟨F1,[d],G',g1.le,.cons (wj p1) .nil,hp,fun d v H2 F2 hd g2 p2=>q d v H2 F2 (hg d hd) (g1.trans g2) (Zb (κ:=true) (fun _=>rfl) (wC (κ:=true) (κ':=true) (S':=S) (H0':=H0) (fun a xs z=>⟨z.1,fun c=>by
   obtain ⟨u,hu⟩:=(e.mono g1).sd a c
   exact z.2 (by show H1 a≠none; rw [hu]; simp)⟩) (fun _ _ z=>z) p2))⟩
theorem zcu {ta tb:TE} {z:Str} {b:Bool} (ha:EvE K S false ta Γ (.str z)) (hb:EvE K S false tb Γ (.int (if b then 1 else 0))):EvE K S κ (tOp zcX ta tb) Γ (.str (if b then z else Str.empty)):=fun H0 F0 H F σ e Q q =>
 ha H0 F0 H F σ e _ fun v H1 F1 g1 p1=>hb H0 F0 H1 F1 σ (e.mono g1) _ fun w H2 F2 g2 p2=>by
  cases yT p1
  cases yH p2
  exact ⟨z,b,rfl,rfl,q _ H2 F2 (g1.trans g2) (.str _)⟩
theorem cutL {α:Type} (g:α→PyData) (xs:List α):cutD (xs.map g) none (some (-1))=xs.dropLast.map g:=by
 unfold cutD
 have e1:HT.sIx (xs.map g).length 0 none=0:=rfl
 have e2:HT.sIx (xs.map g).length (xs.map g).length (some (-1))=xs.length - 1:=by
  show (if (-1:Int) < 0 then ((-1:Int) + ((xs.map g).length:Int)).toNat else min (-1:Int).toNat (xs.map g).length)=_
  rw [if_pos (by decide),ζa]
  omega
 rw [e1,e2,ξP,Nat.sub_zero,← ξ7,List.dropLast_eq_take]
end
inductive Rg (T:Addr→Prop) (F:Hp):Nat→Addr→Prop
 | mk {n:Nat} {b:Addr} {ws:List V}:T b→F b=some (.lst ws)→ws.length≤3000→(∀ y∈ws,(∃ i,y=.int i)∨(∃ s,y=.str s)∨∃ c,y=.ref c)→(∀ c,V.ref c∈ws→Rg T F n c)→Rg T F (n + 1) b
def NwL (H H':Hp) (n:Nat) (c:Addr):Prop:=H c=none∧∃ us,H' c=some (.lst us)∧us.length≤3000 + n
def OkE (T:Addr→Prop) (F H H':Hp) (n:Nat) (b:Addr) (y:V):Prop:=(∃ i,y=.int i)∨(∃ s,y=.str s)∨∃ c,y=.ref c∧((∃ k,Rg T F k c∧¬ Rg T F k b)∨NwL H H' n c)
structure SpQ (T:Addr→Prop) (F H:Hp) (n:Nat) (H':Hp):Prop where
 fr:FrT T H H'
 rg:∀ m b,Rg T F m b→∃ ws,H' b=some (.lst ws)∧ws.length≤3000 + n∧∀ y∈ws,OkE T F H H' n b y
section
variable {T:Addr→Prop} {F H H':Hp} {n:Nat}
theorem Rg.low:∀ {m:Nat} {b:Addr},Rg T F m b→∃ k,Rg T F (k + 1) b∧¬ Rg T F k b
 | 0,b,h=>by cases h
 | m + 1,b,h=>by
  by_cases z:Rg T F m b
  ·exact Rg.low z
  ·exact ⟨m,h,z⟩
theorem Rg.t {m:Nat} {b:Addr} (h:Rg T F m b):T b:=by cases h with | mk t _ _ _ _=>exact t
theorem Rg.f {m:Nat} {b:Addr} (h:Rg T F m b):∃ ws,F b=some (.lst ws):=by cases h with | mk _ f _ _ _=>exact ⟨_,f⟩
theorem SpQ.start (le:Same F H):SpQ T F H 0 H:=⟨fun b o z=>⟨fun _=>z,by rw [z]; exact fun w=>nomatch w⟩,fun m b r=>by
 obtain ⟨k,r1,r2⟩:=r.low
 cases r1 with
 | mk t f l e c =>
  refine ⟨_,le _ _ f,by omega,fun y hy=>?_⟩
  rcases e y hy with z | z | ⟨d,rfl⟩
  ·exact .inl z
  ·exact .inr (.inl z)
  ·exact .inr (.inr ⟨d,rfl,.inl ⟨k,c d hy,r2⟩⟩)⟩
theorem OkE.up {H2:Hp} {k:Nat} {b:Addr} {y:V} (h:OkE T F H H' n b y) (u:∀ c,NwL H H' n c→NwL H H2 k c):OkE T F H H2 k b y:=by
 rcases h with z | z | ⟨c,e,z⟩
 ·exact .inl z
 ·exact .inr (.inl z)
 ·exact .inr (.inr ⟨c,e,z.elim .inl fun z=>.inr (u c z)⟩)
theorem SpQ.put (s:SpQ T F H n H') {b:Addr} {ws:List V} {x:V} (hb:(∃ m,Rg T F m b)∨H b=none) (e:H' b=some (.lst ws)) (l:ws.length≤3000 + n) (hx:∀ d,OkE T F H H' n d x):SpQ T F H (n + 1) (upd H' b (.lst (ws ++ [x]))):=by
 have up:∀ c,NwL H H' n c→NwL H (upd H' b (.lst (ws ++ [x]))) (n + 1) c:=fun c ⟨h1,us,h2,h3⟩=>by
  by_cases cb:c=b
  ·subst cb
   rw [e] at h2
   cases h2
   exact ⟨h1,_,zp,by rw [ζj]; show _ + 1≤_; omega⟩
  ·exact ⟨h1,us,by rw [zt cb]; exact h2,by omega⟩
 refine ⟨s.fr.put (hb.imp (fun ⟨m,r⟩=>r.t) id) e,fun m d r=>?_⟩
 obtain ⟨vs,h1,h2,h3⟩:=s.rg m d r
 by_cases db:d=b
 ·subst db
  rw [e] at h1
  cases h1
  refine ⟨_,zp,by rw [ζj]; show _ + 1≤_; omega,fun y hy=>?_⟩
  rcases ζu.mp hy with hy | hy
  ·exact (h3 y hy).up up
  ·rw [ζh.mp hy]
   exact (hx d).up up
 ·exact ⟨vs,by rw [zt db]; exact h1,by omega,fun y hy=>(h3 y hy).up up⟩
theorem SpQ.new (s:SpQ T F H n H') {p:Addr} {us:List V} (hp:H' p=none) (l:us.length≤3000):SpQ T F H n (upd H' p (.lst us))∧NwL H (upd H' p (.lst us)) n p:=by
 obtain ⟨f1,f2⟩:=s.fr.new (ws:=us) hp
 have up:∀ c,NwL H H' n c→NwL H (upd H' p (.lst us)) n c:=fun c ⟨h1,vs,h2,h3⟩=>⟨h1,vs,by rw [zt (zK h2 hp)]; exact h2,h3⟩
 refine ⟨⟨f1,fun m d r=>?_⟩,f2,us,zp,by omega⟩
 obtain ⟨vs,h1,h2,h3⟩:=s.rg m d r
 exact ⟨vs,by rw [zt (zK h1 hp)]; exact h1,h2,fun y hy=>(h3 y hy).up up⟩
end
section
variable {K:ζb} {T:Addr→Prop} {F:Hp} {v:V}
theorem W3 {ds:List PyData} (h:Rp K true (.spoil fun a=>¬ T a) (fun _=>none) F v (.list ds)) (l:ds.length≤3000) (a:∀ d∈ds,(∃ i,d=.int i)∨∃ s,d=.str s):∃ b,v=.ref b∧Rg T F 1 b:=by
 obtain ⟨b,us,rfl,hl,hk⟩:=x9 h
 have at2:∀ y∈us,(∃ i,y=.int i)∨∃ s,y=.str s:=fun y hy=>by
  obtain ⟨j,hj⟩:=ζH.mp hy
  obtain ⟨d,hd,hp⟩:=zj.get' hk hj
  rcases a d (ζd hd) with ⟨i,rfl⟩ | ⟨s,rfl⟩
  ·exact .inl ⟨i,yH hp⟩
  ·exact .inr ⟨s,yT hp⟩
 refine ⟨b,rfl,.mk (Classical.byContradiction fun z=>hl.2 (.inr z)) hl.1 (by rw [zj.length hk]; exact l) (fun y hy=>(at2 y hy).imp id .inl) fun c hc=>?_⟩
 rcases at2 _ hc with ⟨i,z⟩ | ⟨s,z⟩ <;> cases z
theorem Q5 {n:Nat} {ds:List PyData} (h:Rp K true (.spoil fun a=>¬ T a) (fun _=>none) F v (.list ds)) (l:ds.length≤3000) (a:∀ d∈ds,∀ w,Rp K true (.spoil fun a=>¬ T a) (fun _=>none) F w d→∃ b,w=.ref b∧Rg T F n b):∃ b,v=.ref b∧Rg T F (n + 1) b:=by
 obtain ⟨b,us,rfl,hl,hk⟩:=x9 h
 have at2:∀ y∈us,∃ b,y=.ref b∧Rg T F n b:=fun y hy=>by
  obtain ⟨j,hj⟩:=ζH.mp hy
  obtain ⟨d,hd,hp⟩:=zj.get' hk hj
  exact a d (ζd hd) y hp
 refine ⟨b,rfl,.mk (Classical.byContradiction fun z=>hl.2 (.inr z)) hl.1 (by rw [zj.length hk]; exact l) (fun y hy=>?_) fun c hc=>?_⟩
 ·obtain ⟨c,e,_⟩:=at2 y hy
  exact .inr (.inr ⟨c,e⟩)
 ·obtain ⟨d,e,r⟩:=at2 _ hc
  cases e
  exact r
end
abbrev zdn (K:ζb) (i j1 j2:Nat) (z0:Str) (u:TS):TS :=
 tSeq (xH (tBM K "list" y8 (tOp (rIxT K) (tVar i) (tC (.int 0))) (zE (tC (.str z0)) tNil)))
  (tSeq (xH (tBM K "list" y8 (tOp (rIxT K) (tVar i) (tC (.int 2))) (zE (tC (.int 0)) tNil)))
   (tSeq (tFor (iTup K (tOp (rIxT K) (tVar i) (tC (.int 1)))) (xa j1)
    (tSeq (tFor (Vy K (tVar j1)) (xa j2) (tIfS (tB (tCB (rIsi K) (zE (tVar j2) (zE (tC (.ty "list")) tNil)))) (xH (tBM K "list" y8 (tVar j2) (zE (tLst (zE (tC (.int 7)) tNil)) tNil))) YM))
     (xH (tBM K "list" y8 (tVar j1) (zE (tLst tNil) tNil))))) u))
section
variable {K:ζb} {S S':Sx} {κ κ':Bool} {Γ Γ' Γ'':Ctx} {P:Post}
theorem Qs {T:Addr→Prop} {i j1 j2:Nat} {z0:Str} {u:TS} {xs as bs cs hs:List PyData} {Γ1 Γ2 Γ3 Γ4:Ctx} (big:200000 < sizeLine) (hi:GetC Γ i (.tn (.tuple [.list xs,.tuple [.list as,.list bs,.list cs],.list hs])))
  (kl:PySem.W.kitOne K (.type "list") (.type "list")=some true) (ki:PySem.W.kitOne K (.type "int") (.type "list")=some false) (ks:PySem.W.kitOne K (.type "str") (.type "list")=some false)
  (px:∀ F v,Rp K true (.spoil fun a=>¬ T a) (fun _=>none) F v (.list xs)→∃ b,v=.ref b∧∃ m,Rg T F m b) (pa:∀ F v,Rp K true (.spoil fun a=>¬ T a) (fun _=>none) F v (.list as)→∃ b,v=.ref b∧∃ m,Rg T F m b) (pb:∀ F v,Rp K true (.spoil fun a=>¬ T a) (fun _=>none) F v (.list bs)→∃ b,v=.ref b∧∃ m,Rg T F m b)
  (pc:∀ F v,Rp K true (.spoil fun a=>¬ T a) (fun _=>none) F v (.list cs)→∃ b,v=.ref b∧∃ m,Rg T F m b) (ph:∀ F v,Rp K true (.spoil fun a=>¬ T a) (fun _=>none) F v (.list hs)→∃ b,v=.ref b∧∃ m,Rg T F m b)
  (d1:i≠j1) (d2:i≠j2) (d3:j1≠j2) (l1:j1 < Γ.length) (l2:j2 < Γ.length) (s1:SetC Γ i none Γ1) (s2:SetC Γ1 j1 none Γ2) (s3:SetC Γ2 j2 none Γ3) (nt:NoT Γ3) (hsp:SpC Γ3 Γ4) (kk:ExT K .fresh .fresh u Γ4 P):ExT K (.spoil T) .fresh (zdn K i j1 j2 z0 u) Γ P:=fun H0 F0 H F σ B e bb v0 D I=>by
 obtain ⟨vm,qm,Tm,em,rm⟩:=e.has i _ hi.eq
 cases em
 obtain ⟨t,vs,rfl,ht,hk⟩:=u5 rm
 cases hk with
 | cons hx hk =>
 cases hk with
 | cons hy hk =>
 cases hk with
 | cons hz hk =>
 cases hk
 obtain ⟨n0,rfl,m0,r0⟩:=px F _ hx
 obtain ⟨h0,rfl,m1,r1⟩:=ph F _ hz
 obtain ⟨t2,vs2,rfl,ht2,hk2⟩:=u5 hy
 have vl:vs2.length=3:=zj.length hk2
 have zc6:∀ x∈vs2,∃ b,x=V.ref b∧∃ m,Rg T F m b:=fun x hx=>by
  obtain ⟨j,hj⟩:=ζH.mp hx
  obtain ⟨d,hd,hp⟩:=zj.get' hk2 hj
  rcases ζs.mp (ζd hd) with rfl | hd
  ·exact pa F _ hp
  rcases ζs.mp hd with rfl | hd
  ·exact pb F _ hp
  ·rw [ζh.mp hd] at hp
   exact pc F _ hp
 have tu:∀ {t:Addr} {vs:List V} {H':Hp},SqT K F t vs→FrT T H H'→SqT K H' t vs:=fun {t vs H'} ht f=>by
  rcases ht with (z | ⟨o,z⟩) | z
  ·exact .inl (.inl ((f _ _ (e.le _ _ z)).1 (.inl rfl)))
  ·exact .inl (.inr ⟨o,(f _ _ (e.le _ _ z)).1 (.inl rfl)⟩)
  ·exact .inr z
 have S0:SpQ T F H 0 H:=SpQ.start e.le
 have oks:∀ {n:Nat} {H':Hp} (s:Str) (d:Addr),OkE T F H H' n d (.str s):=fun s d=>.inr (.inl ⟨s,rfl⟩)
 have oki:∀ {n:Nat} {H':Hp} (j:Int) (d:Addr),OkE T F H H' n d (.int j):=fun j d=>.inl ⟨j,rfl⟩
 have inH:∀ {m:Nat} {b:Addr},Rg T F m b→H b≠none:=fun r z=>by
  obtain ⟨ws,f⟩:=r.f
  rw [e.le _ _ f] at z
  cases z
 obtain ⟨w0,g0,b0,_⟩:=S0.rg _ _ r0
 refine ⟨_,qm,t,_,0,_,rfl,rfl,tu ht S0.fr,atI0,.inl ⟨rfl,_,SqL.of g0⟩,n0,w0,_,rfl,rfl,g0,by omega,?_⟩
 have S1:=S0.put (.inl ⟨_,r0⟩) g0 b0 (oks z0)
 generalize upd H n0 (.lst (w0 ++ [.str z0]))=H1 at S1
 obtain ⟨w1,g1,b1,_⟩:=S1.rg _ _ r1
 refine ⟨_,qm,t,_,2,_,rfl,rfl,tu ht S1.fr,yX (j:=2) rfl,.inl ⟨rfl,_,SqL.of g1⟩,h0,w1,_,rfl,rfl,g1,by omega,?_⟩
 have S2:=S1.put (.inl ⟨_,r1⟩) g1 b1 (oki 0)
 generalize upd H1 h0 (.lst (w1 ++ [.int 0]))=H2 at S2
 have sl:=e.len
 refine ⟨_,qm,t,_,1,_,rfl,rfl,tu ht S2.fr,atI1,t2,rfl,⟨_,tu ht2 S2.fr⟩,?_⟩
 refine zcl (K:=K) (a:=t2) (fun m σ' H'=>σ'.length=σ.length∧(∀ q,q≠j1→q≠j2→σ'[q]?=σ[q]?)∧∃ n,n≤4000 * 3 ^ m∧SpQ T F H n H') ⟨rfl,fun _ _ _=>rfl,2,by decide,S2⟩ (fun m σ' H' _ h=>by obtain ⟨_,_,_,_,z⟩:=h; exact tu ht2 z.fr) ?_ ?_
 ·rintro m v σ' H' hv ⟨w1,w2,n,nb,S3⟩
  have ml:m < 3:=by rw [← vl]; exact (ζe.mp hv).1
  have n3:n≤4000 * 9:=ζM nb (Nat.mul_le_mul_left 4000 (Nat.pow_le_pow_right (by decide) (show m≤2 by omega)))
  obtain ⟨a,rfl,k0,ra⟩:=zc6 v (ζd hv)
  obtain ⟨ws,ga,ba,_⟩:=S3.rg _ _ ra
  have y1:(σ'.set j1 (some (.ref a)))[j1]?=some (some (.ref a)):=ζt (by omega)
  refine ⟨_,y1,a,rfl,⟨ws,SqL.of ga⟩,?_⟩
  refine zaT (K:=K) (a:=a) (xs:=ws) (fun r σ2 H2=>σ2.length=σ.length∧(∀ q,q≠j1→q≠j2→σ2[q]?=σ[q]?)∧σ2[j1]?=some (some (.ref a))∧H2 a=some (.lst ws)∧∃ n',n≤n'∧n'≤n + r∧SpQ T F H n' H2) ⟨by simpa using w1,fun q h1 h2=>by rw [List.getElem?_set_ne (Ne.symm h1)]; exact w2 q h1 h2,y1,ga,n,by omega,by omega,S3⟩ (fun r σ2 H2 _ h=>SqL.of h.2.2.2.1) ?_ ?_
  ·rintro r y σ2 H2 hy ⟨x1,x2,x3,x4,n',n1,nn,S4⟩
   have rl:r < ws.length:=(ζe.mp hy).1
   have y2:(σ2.set j2 (some y))[j2]?=some (some y):=ζt (by omega)
   have y3:(σ2.set j2 (some y))[j1]?=some (some (.ref a)):=by rw [ζx (Ne.symm d3)]; exact x3
   have y4:∀ q,q≠j1→q≠j2→(σ2.set j2 (some y))[q]?=σ[q]?:=fun q h1 h2=>by rw [ζx (Ne.symm h2)]; exact x2 q h1 h2
   have y5:(σ2.set j2 (some y)).length=σ.length:=by simpa using x1
   obtain ⟨ws',ga',_,oe⟩:=S4.rg _ _ ra
   rw [x4] at ga'
   cases ga'
   rcases oe y (ζd hy) with ⟨j,rfl⟩ | ⟨s,rfl⟩ | ⟨c,rfl,hc⟩
   ·exact ⟨_,y2,_, "list", _,false,rfl,.int j,ki,false,rfl,iteF ⟨y5,y4,y3,x4,n',by omega,by omega,S4⟩⟩
   ·exact ⟨_,y2,_, "list", _,false,rfl,.str s,ks,false,rfl,iteF ⟨y5,y4,y3,x4,n',by omega,by omega,S4⟩⟩
   ·obtain ⟨us,hu,ul,ca,co⟩:∃ us,H2 c=some (.lst us)∧us.length≤3000 + n'∧c≠a∧((∃ m,Rg T F m c)∨H c=none):=by
     rcases hc with ⟨k,rc,na⟩ | ⟨hc,us,hu,ul⟩
     ·obtain ⟨us,hu,ul,_⟩:=S4.rg _ _ rc
      exact ⟨us,hu,ul,fun z=>na (z ▸ rc),.inl ⟨k,rc⟩⟩
     ·exact ⟨us,hu,ul,fun z=>inH ra (z ▸ hc),.inr hc⟩
    refine ⟨_,y2,_, "list", _,true,rfl,.lst hu,kl,true,rfl,iteT ⟨_,y2,.inl ⟨rfl,_,SqL.of hu⟩,by show 1≤sizeLine; omega,fun p hp=>?_⟩⟩
    obtain ⟨S5,nw⟩:=S4.new (us:=[.int 7]) hp (by show 1≤_; omega)
    have cp:c≠p:=zK hu hp
    have ap:a≠p:=zK x4 hp
    have S6:=S5.put (x:=.ref p) co (by rw [zt cp]; exact hu) ul fun d=>.inr (.inr ⟨p,rfl,.inr nw⟩)
    exact ⟨c,us,.ref p,rfl,rfl,by rw [zt cp]; exact hu,by omega,y5,y4,y3,by rw [zt (Ne.symm ca),zt ap]; exact x4,n' + 1,by omega,by omega,S6⟩
  ·rintro σ2 H2 ⟨x1,x2,x3,x4,n',n1,nn,S4⟩
   refine ⟨_,x3,.inl ⟨rfl,_,SqL.of x4⟩,ζY _,fun p hp=>?_⟩
   obtain ⟨S5,nw⟩:=S4.new (us:=[]) hp (ζY _)
   have ap:a≠p:=zK x4 hp
   have S6:=S5.put (x:=.ref p) (.inl ⟨_,ra⟩) (by rw [zt ap]; exact x4) (by omega) fun d=>.inr (.inr ⟨p,rfl,.inr nw⟩)
   have p3:1≤3 ^ m:=Nat.pow_pos (by decide)
   refine ⟨a,ws,.ref p,rfl,rfl,by rw [zt ap]; exact x4,by omega,x1,x2,n' + 1,?_,S6⟩
   rw [Nat.pow_succ]
   omega
 rintro σ3 H4 ⟨w1,w2,n,_,S4⟩
 have e4:DEnv K (.spoil T) H0 F0 H F σ Γ3:=by
  have:=((e.forget i).forget j1).forget j2
  rw [s1.eq,s2.eq,s3.eq] at this
  exact this
 have out:∀ (m:Nat) (d:DV),Γ3[m]?=some (some d)→m≠j1∧m≠j2:=fun m d h=>by
  rw [← s3.eq] at h
  have n2:m≠j2:=fun z=>by subst z; rw [List.getElem?_set] at h; simp at h
  rw [ζx (Ne.symm n2),← s2.eq] at h
  exact ⟨fun z=>by subst z; rw [List.getElem?_set] at h; simp at h,n2⟩
 have e5:DEnv K (.spoil T) H0 F0 H F σ3 Γ3:=by
  refine ⟨e4.gr,e4.l0,e4.sd,e4.s0,by rw [w1]; exact e4.len,fun m d h=>?_,fun m n x y v w b h1 h2 g3 g4 p1 p2=>?_⟩
  ·obtain ⟨c1,c2⟩:=out m d h
   rw [w2 m c1 c2]
   exact e4.has m d h
  ·obtain ⟨c1,c2⟩:=out m _ h1
   obtain ⟨c3,c4⟩:=out n _ h2
   rw [w2 m c1 c2] at g3
   rw [w2 n c3 c4] at g4
   exact e4.ne m n x y v w b h1 h2 g3 g4 p1 p2
 exact kk H0 F0 H4 _ σ3 B (e5.spoilt (fun b o hb hq=>(S4.fr b o hb).1 hq) hsp (fun i j d f h _=>absurd h (nt.tn i d)) fun m es d us' h _ _=>absurd h (nt.tn m _)) (UI bb (zbw v0)) (.inl rfl) D I
end
end PD
open PySem L2 PD
local macro_rules | `(tactic| walk_at"comp_ok")=>`(tactic| (refine vY.of (by with_unfolding_all rfl) (by decide +kernel) rfl (by decide +kernel) ?_ (by with_unfolding_all rfl) rfl (by with_unfolding_all rfl); (repeat (with_unfolding_all refine List.forall_mem_cons.mpr ⟨by with_unfolding_all rfl,?_⟩)); exact List.forall_mem_nil _))
local macro_rules | `(tactic| walk_at"comp_okC")=>`(tactic| (refine CompOkC.of (by with_unfolding_all rfl) (fun _ _=>by with_unfolding_all rfl) (by decide +kernel) rfl rfl rfl (by decide +kernel) ?_ (by with_unfolding_all rfl) rfl (by with_unfolding_all rfl); (repeat (with_unfolding_all refine List.forall_mem_cons.mpr ⟨by with_unfolding_all rfl,?_⟩)); exact List.forall_mem_nil _))
local macro_rules | `(tactic| walk_at"comp_lam")=>`(tactic| exact vY.lam (by assumption) (by decide +kernel) rfl (by decide +kernel) (by decide +kernel) rfl (by with_unfolding_all rfl))
local macro_rules | `(tactic| walk_at"gc")=>`(tactic| ((repeat ((with_reducible apply GetC.succ))) ; (with_reducible exact GetC.zero)))
local macro_rules | `(tactic| walk_at"sc")=>`(tactic| ((repeat ((with_reducible apply SetC.succ))) ; (with_reducible exact SetC.zero)))
local macro_rules | `(tactic| walk_at"st")=>`(tactic| ((repeat (first | (with_reducible apply wg.got) | ((with_reducible apply wg.no)))) ; (with_reducible exact wg.z)))
local macro_rules | `(tactic| walk_at"cc")=>`(tactic| ((repeat (first | (with_reducible apply xR.no) | ((with_reducible apply xR.got) ; focus walk_at"gc"))); (with_reducible exact xR.nil)))
local macro_rules | `(tactic| walk_at"mk")=>`(tactic| ((repeat (first | ((with_reducible apply wW.got); focus (first | exact MkD.fz | exact MkD.ow | exact MkD.im rfl | exact MkD.ox)) | (with_reducible apply wW.no))); (with_reducible exact wW.nil)))
local macro_rules | `(tactic| walk_at"sp")=>`(tactic| ((repeat (first | ((with_reducible apply SpC.got); focus (first | exact SpD.fz | exact SpD.ow | exact SpD.im rfl | exact SpD.ox | exact SpD.tn)) | (with_reducible apply SpC.no))); (with_reducible exact SpC.nil)))
local macro_rules | `(tactic| walk_at"sd")=>`(tactic| first | ((with_reducible apply asm) ; assumption) | decide | omega | skip)
local macro_rules | `(tactic| walk_at"ln")=>`(tactic| (simp only [List.length_cons,List.length_nil]; decide))
local macro_rules | `(tactic| walk_at"ev")=>`(tactic| first
 | (with_reducible exact zd6)
 | (with_reducible exact zd4)
 | (with_reducible exact zeC)
 | (with_reducible exact zd1)
 | (with_reducible exact Wm)
 | (with_reducible exact zG)
 | (with_reducible exact zcx)
 | ((with_reducible apply asm) ; (with_reducible assumption))
 | ((with_reducible apply evv) ; walk_at"gc"; decide)
 | ((with_reducible apply evi) ; walk_at"gc"; rfl)
 | ((with_reducible apply evtn) ; walk_at"gc"; done)
 | ((with_reducible apply evw) ; walk_at"gc"; decide)
 | ((with_reducible apply yv) <;> walk_at"ev")
 | ((with_reducible apply zbe) <;> walk_at"ev")
 | ((with_reducible apply VE) <;> walk_at"ev")
 | ((with_reducible apply ev_le) <;> walk_at"ev")
 | ((with_reducible apply ZW) <;> walk_at"ev")
 | ((with_reducible apply zdc) <;> walk_at"ev")
 | ((with_reducible apply wc) <;> walk_at"ev")
 | ((with_reducible apply xx) <;> walk_at"ev")
 | ((with_reducible apply ev_fdivB) <;> walk_at"ev")
 | ((with_reducible apply yJ) <;> walk_at"ev")
 | ((with_reducible apply Uy) <;> walk_at"ev")
 | ((with_reducible apply Wi) <;> walk_at"ev")
 | ((with_reducible refine' UA (EvE.toD (κ:=false) ?_)) <;> walk_at"ev")
 | ((with_reducible refine' ev_notN (EvE.toD (κ:=false) ?_)) <;> walk_at"ev")
 | ((with_reducible apply zY) <;> walk_at"ev")
 | ((with_reducible apply yV) <;> walk_at"ev")
 | ((with_reducible apply wN) <;> walk_at"ev" <;> done)
 | ((with_reducible apply Wj) <;> walk_at"ev" <;> done)
 | ((with_reducible apply ev_eqB) <;> walk_at"ev" <;> done)
 | ((with_reducible apply ev_neB) <;> walk_at"ev" <;> done)
 | ((with_reducible apply ev_eqS) <;> walk_at"ev" <;> done)
 | ((with_reducible apply ev_neS) <;> walk_at"ev" <;> done)
 | ((with_reducible apply wf) <;> (try (with_reducible intro _)) <;> walk_at"ev")
 | ((with_reducible apply VD) <;> (try (with_reducible intro _)) <;> walk_at"ev")
 | ((with_reducible apply zd3) <;> walk_at"ev")
 | ((with_reducible apply yf) <;> walk_at"ev")
 | ((with_reducible apply et_B) <;> walk_at"ev")
 | ((with_reducible apply UB) <;> (try (with_reducible intro _)) <;> walk_at"ev")
 | ((with_reducible apply tT) <;> (try (with_reducible intro _)) <;> walk_at"ev")
 | ((with_reducible apply xk) <;> walk_at"ev")
 | ((with_reducible apply zi) <;> walk_at"ev")
 | ((with_reducible apply vg) <;> walk_at"ev")
 | ((with_reducible apply EvO.toE) ; ((with_reducible apply zZ)) <;> walk_at"ev")
 | ((with_reducible apply zZ) <;> walk_at"ev")
 | ((with_reducible apply yu) <;> walk_at"ev" <;> done)
 | ((with_reducible apply ev_lenT) <;> walk_at"ev")
 | ((with_reducible apply EvO.toE) ; ((with_reducible apply ZV)) <;> walk_at"ev")
 | ((with_reducible apply ZV) <;> walk_at"ev")
 | ((with_reducible apply ev_abs) <;> walk_at"ev")
 | ((with_reducible apply xf) <;> walk_at"ev")
 | ((with_reducible apply EvO.toE) ; ((with_reducible apply y6)) <;> walk_at"ev")
 | ((with_reducible apply y6) <;> walk_at"ev")
 | ((with_reducible apply EvO.toE) ; ((with_reducible apply wT)) <;> walk_at"ev")
 | ((with_reducible apply wT) <;> walk_at"ev")
 | ((with_reducible apply EvO.toE) ; ((with_reducible apply Zg)) <;> walk_at"ev")
 | ((with_reducible apply Zg) <;> walk_at"ev")
 | ((with_reducible apply EvO.toE) ; ((with_reducible apply evo_listRev)) <;> walk_at"ev")
 | ((with_reducible apply evo_listRev) <;> walk_at"ev")
 | ((with_reducible refine' zd5 (EvE.toD (κ:=false) ?_) ?_) <;> walk_at"ev")
 | ((with_reducible apply zr) <;> walk_at"ev")
 | ((with_reducible apply VF) <;> walk_at"ev")
 | ((with_reducible apply zbd) ; walk_at"ev"; done)
 | ((with_reducible apply zbc) ; walk_at"ev"; done)
 | ((with_reducible apply EvE.toL) ; walk_at"ev"; done)
 | ((with_reducible apply EvO.toL) ; walk_at"ev"; done)
 | (with_reducible apply isE)
 | (with_reducible apply isL)
 | (with_reducible apply isT)
 | (with_reducible apply isA)
 | (with_reducible apply isO)
 | (with_reducible apply isD)
 | (with_reducible apply isI)
 | (with_reducible exact atI0)
 | (with_reducible exact atI1)
 | ((with_reducible apply asm) ; (with_reducible assumption))
 | ((with_reducible apply X7) ; with_unfolding_all rfl)
 | (simp only [List.length_cons,List.length_nil]; decide)
 | decide
 | omega
 | skip)
local macro_rules | `(tactic| walk_at"go")=>`(tactic| repeat (first
 | ((with_reducible apply exo (te:=tLst tNil) true) ; (focus (walk_at"ev"; done)); (focus walk_at"sc"))
 | ((with_reducible apply exs true) ; (focus (walk_at"ev"; done)); (focus walk_at"sc"))
 | ((with_reducible apply exs false) ; (focus (walk_at"ev"; done)); (focus walk_at"sc"))
 | ((with_reducible apply exa) ; (focus walk_at"gc"); (focus (walk_at"ev"; done)); (focus walk_at"sc"); (focus (walk_at"sd"; done)))
 | (with_reducible apply exn)))
local macro_rules | `(tactic| walk_at"run")=>`(tactic| (apply zbR; assumption; assumption; assumption; assumption; focus walk_at"st"))
local macro_rules | `(tactic| walk_at"ot")=>`(tactic| first | exact oneT_of (Nat.le_refl 1) | exact oneT_of (Nat.zero_le 1))
local macro_rules | `(tactic| walk_at"sv")=>`(tactic| ((repeat (first | (with_reducible apply StartV.got) | ((with_reducible apply StartV.no)))) ; (with_reducible exact StartV.z)))
local macro_rules | `(tactic| walk_at"runv")=>`(tactic| (apply run_defV; assumption; assumption; assumption; assumption; focus walk_at"sv"))
namespace K87
open PySem L2 PD Cm
def top (i:Nat):Stmt:=PySem.Challenge.pw_causebook_k87_read.main.body.getD i (.Pass ⟨0,0,0,0⟩)
structure Bs (mg:Str→Option Value):Prop where
 len:mg "len" = none
 set:mg "set" = none
 list:mg "list" = none
 range:mg "range" = none
 reversed:mg "reversed" = none
 min:mg "min" = none
 isinstance:mg "isinstance" = none
 int:mg "int" = none
 bool:mg "bool" = none
 zip:mg "zip" = none
 all:mg "all" = none
 sorted:mg "sorted" = none
 sum:mg "sum" = none
 enumerate:mg "enumerate" = none
 str:mg "str" = none
 max:mg "max" = none
 tuple:mg "tuple" = none
structure Cs (K:ζb) (mg:Str→Option Value) (cA cB:Addr) (τa τb τc τd τe τf τg τh:Tok):Prop where
 n_MOST_THINGS:mg "MOST_THINGS" = some (.int 12 τa)
 n_MOST_CAUSES:mg "MOST_CAUSES" = some (.int 5 τb)
 n_LEAST_SIZE:mg "LEAST_SIZE" = some (.int 2 τc)
 n_GREATEST_SIZE:mg "GREATEST_SIZE" = some (.int 4 τd)
 n_LONGEST_NAME:mg "LONGEST_NAME" = some (.int 8 τe)
 n_LONGEST_WEIGHT:mg "LONGEST_WEIGHT" = some (.int 60 τf)
 n_LETTERS:mg "LETTERS" = some (.str "abcdefghijklmnopqrstuvwxyz" τg)
 n_FIGURES:mg "FIGURES" = some (.str "0123456789" τh)
 n_NoBook:mg "NoBook" = some (.ref cA)
 n_SIZE_WORDS:mg "SIZE_WORDS" = some (.ref cB)
 o_SIZE_WORDS:∀ H,SqT K H cB [.str "2", .str "3", .str "4"]
section
variable {P:Program} {w:World} {K:ζb} {mg:Str→Option Value} {base:Heap} {f:Addr} {fd:FuncData} {cA cB:Addr} {τa τb τc τd τe τf τg τh:Tok}
seal PE PA PS PSs PT PG PI
open Wd Sh Sx2
theorem zJ:200000 < sizeLine:=by decide
def wt (ds:List PyData) (d:PyData):Prop:=∃ i:Int,ds=[.int i]∧d=.bool true
theorem X4 (ds:List PyData) (d:PyData) (h:wt ds d):ds.length=1:=by obtain ⟨ss,rfl,_⟩:=h; rfl
theorem WX:zB ["thing"] ["thing"] (zm (top 13)):=⟨rfl,rfl,rfl,by decide +kernel,rfl,by decide +kernel,by decide +kernel⟩
theorem Vk (F:Fun K "is_whole" "is_whole" (top 13) f fd) (B:Bs mg) (Z:Cs K mg cA cB τa τb τc τd τe τf τg τh)  : FnOk P w K mg base CX0 1 f fd ["thing"] (spD K true wt):=by
 have sc:=WX
 refine F.ok sc (fun vs H Q E h=>zR X4 h) (fun cdv A outer s H vs Q E hr h=>?_)
 obtain ⟨Fh,ds,d,le,dp,p,q⟩:=h
 refine ⟨_,(zg (zH (xT (zq (yW (K:=K) rfl) rfl B.isinstance (by decide +kernel) (zb (pv 0) (zb (xW (v:=.ty "int") rfl B.int (by decide +kernel) rfl) zd))) (xO (zan (zq (yW (K:=K) rfl) rfl B.isinstance (by decide +kernel) (zb (pv 0) (zb (xW (v:=.ty "bool") rfl B.bool (by decide +kernel) rfl) zd)))))))),?_⟩
 have hN:(["thing"]:List Str).length=1:=rfl
 obtain ⟨i,rfl,rfl⟩:=p
 walk_at"run"
 exact zP (d:=.bool (true && !false)) true (by walk_at"ev") rfl (.inl ⟨rfl,rfl⟩)
abbrev nl (ks:List Nat):PyData:=.list (ks.map fun k:Nat=>.int (k:Int))
def wD (ds:List PyData) (d:PyData):Prop:=∃ (vs:List PyData) (ks:List Nat),ds=[.list vs,nl ks]∧(∀ d∈vs,imm d=true)∧(∀ k∈ks,k < vs.length)∧ks.length≤63∧d=.list (ks.map fun k=>vs.getD k .none)
theorem Uo (ds:List PyData) (d:PyData) (h:wD ds d):ds.length=2:=by obtain ⟨a,b,rfl,_⟩:=h; rfl
def pkF (vs:List PyData):PyData→PyData
 | .int k=>vs.getD k.toNat .none
 | _=>.none
theorem XG (ss:List Int) (ks:List Nat) (h:∀ k∈ks,k < ss.length):(ks.map fun k=>(ss.map PyData.int).getD k .none)=(pk ss ks).map .int:=by
 unfold Sx2.pk
 rw [ζr]
 refine ζK fun k hk=>?_
 have:=h k hk
 rw [ζc,ζl,ζf this]
 show PyData.int _=PyData.int (ss.getD k 0)
 rw [ζc,ζf this]
 rfl
theorem T1:zB ["values", "things"] ["values", "things"] (zm (top 36)):=⟨rfl,rfl,rfl,by decide +kernel,rfl,by decide +kernel,by decide +kernel⟩
theorem Qb (F:Fun K "picked" "picked" (top 36) f fd) (B:Bs mg) (Z:Cs K mg cA cB τa τb τc τd τe τf τg τh)  : FnOk P w K mg base CX0 1 f fd ["values", "things"] (spD K true wD):=by
 have sc:=T1
 refine F.ok sc (fun vs H Q E h=>zR Uo h) (fun cdv A outer s H vs Q E hr h=>?_)
 obtain ⟨Fh,ds,d,le,dp,p,q⟩:=h
 refine ⟨_,(zg (zH (yk rfl (N:=["k", "values"]) (js:=[none,some 0]) (by walk_at"comp_ok") (zI (K:=K) rfl (pv 1)) (fun _ _ _ _=>(zk (i:=0) (show List.Nodup (["k", "values"]:List PySem.Str) by decide +kernel) rfl (Or.inl rfl))) (fun _ _ _ _=>yh) (fun _ _ _ _=>(zL (zA (K:=K) rfl) (pv 1) (pv 0) (fun _ _=>rfl)))))),?_⟩
 have hN:(["values", "things"]:List Str).length=2:=rfl
 obtain ⟨vs',ks,rfl,him,hk,hl,rfl⟩:=p
 walk_at"run"
 refine zP true (EvO.toE (EvO.eq (Wg (is:=[0]) false (pkF vs') (zS (by walk_at"ev")) (by walk_at"cc") rfl (by decide) ?_ ?_) ?_)) rfl (.inl ⟨rfl,rfl⟩)
 ·rw [ζa]
  have:=zJ
  omega
 ·intro d hd
  obtain ⟨k,hk',rfl⟩:=ζq.mp hd
  have hkl:=hk k hk'
  refine egn (by walk_at"sc") ?_
  have at1:atI vs' (k:Int)=some (pkF vs' (.int k)):=yX (by
   show _=some (vs'.getD (Int.toNat (k:Int)) .none)
   rw [ζI,ζc,ζf hkl]
   rfl)
  exact zY ((EvE.toL (κ:=false) (by walk_at"ev")).imm him) (by walk_at"ev") at1
 ·rw [ζr]
  rfl
theorem wV {ns:List Int} {k:Nat} (h:k < ns.length):atI (ns.map PyData.int) (k:Int)=some (.int (ns.getD k 0)):=by
 rw [ζc,ζf h]
 exact yM (ζf h)
abbrev nls (cs:List (List Nat)):PyData:=.list (cs.map nl)
abbrev tbl (ts:List (List (List Int))):PyData:=.list (ts.map lls)
abbrev yr (ss:List Int) (cs:List (List Nat)) (ts:List (List (List Int))):PyData:=.tuple [il ss,nls cs,tbl ts]
structure ua (s:Int) (r:List Int):Prop where
 l:(r.length:Int)=s
 w:∀ x∈r,0≤x∧x < 10 ^ 60
 p:1≤r.sum
 b:r.sum < 10 ^ 62
structure BkOk (ss:List Int) (cs:List (List Nat)) (ts:List (List (List Int))):Prop where
 s:∀ s∈ss,2≤s∧s≤4
 n:ss.length≤12
 cl:cs.length=ss.length
 tl:ts.length=ss.length
 ck:∀ (k:Nat) own,cs[k]?=some own→(∀ c∈own,c < ss.length)∧own.length≤5
 tk:∀ (k:Nat) own t,cs[k]?=some own→ts[k]?=some t→(t.length:Int)=prod (pk ss own)
 rk:∀ (k:Nat) t,ts[k]?=some t→∀ r∈t,ua (ss.getD k 0) r
theorem atI2 {α:Type} {a b c:α} {l:List α}:atI (a :: b :: c :: l) 2=some c:=yX (j:=2) rfl
theorem zu {α:Type} {l:List α} {k:Nat} {d:α} (h:k < l.length):l[k]?=some (l.getD k d):=by
 rw [ζc,ζf h]
 rfl
theorem yE {ss:List Int} (h:∀ s∈ss,2≤s∧s≤4) {k:Nat} (hk:k < ss.length):2≤ss.getD k 0∧ss.getD k 0≤4:=by
 rw [ζc,ζf hk]
 exact h _ (ξv hk)
theorem uD:∀ (xs:List Int) (n:Nat),(∀ x∈xs,1≤x∧x≤4)→xs.length≤n→prod xs≤4 ^ n∧1≤prod xs
 | [],n,_,_=>by
  show (1:Int)≤4 ^ n∧(1:Int)≤1
  exact ⟨by have:=Int.pow_pos (n:=4) (m:=n) (by decide); omega,by decide⟩
 | x :: r,0,_,h=>by cases h
 | x :: r,n + 1,hx,h=>by
  have ih:=uD r n (fun y hy=>hx y (List.mem_cons_of_mem _ hy)) (by simpa using h)
  have h1:=hx x ζi
  show x * prod r≤4 ^ (n + 1)∧1≤x * prod r
  rw [Int.pow_succ,Int.mul_comm ((4:Int) ^ n) 4]
  refine ⟨Int.mul_le_mul h1.2 ih.1 (by omega) (by decide),?_⟩
  have:=Int.mul_le_mul h1.1 ih.2 (by decide) (by omega)
  omega
theorem BkOk.pr {ss:List Int} {cs:List (List Nat)} {ts:List (List (List Int))} (h:BkOk ss cs ts) {k:Nat} {own:List Nat} (hc:cs[k]?=some own):prod (pk ss own)≤1024:=by
 have c:=h.ck k own hc
 have:=uD (pk ss own) 5 (fun x hx=>by
  obtain ⟨j,hj,rfl⟩:=ζq.mp hx
  have:=yE h.s (k:=j) (c.1 j hj)
  omega) (by unfold Sx2.pk; rw [List.length_map]; exact c.2)
 exact this.1
def nD (cs:List Nat):List PyData:=cs.map fun k:Nat=>.int (k:Int)
def zl (ks:List Nat):List Int:=ks.map fun k:Nat=>(k:Int)
theorem vN (ks:List Nat):nl ks=il (zl ks):=by
 unfold zl
 show PyData.list _=.list _
 rw [ζr]
 rfl
theorem zeG {ns:List Int} (h:ns.Nodup):dd ns=ns:=by
 suffices z:∀ n,dd (ns.take n)=ns.take n by simpa using z ns.length
 intro n
 induction n with
 | zero=>rfl
 | succ n ih =>
  by_cases hn:n < ns.length
  ·have e:ns.take (n + 1)=ns.take n ++ [ns[n]]:=by rw [List.take_succ,ζf hn]; rfl
   rw [e,Wp,ih]
   unfold PyProof.Rows.step_dedup
   refine if_neg fun z=>?_
   obtain ⟨x,hx,ex⟩:=ξe.mp z
   have ex:=eq_of_beq ex
   subst ex
   have hh:=h.sublist (List.take_sublist (n + 1) ns)
   rw [e,ξB] at hh
   exact hh.2.2 _ hx _ (ζh.mpr rfl) rfl
  ·have e1:ns.take (n + 1)=ns.take n:=by rw [ζA (by omega),ζA (by omega)]
   rw [e1]
   exact ih
theorem Q4 {r:List Nat} (h:r.Pairwise (· < ·)):(srt (dd (zl r))).map PyData.int=r.map fun k:Nat=>PyData.int (k:Int):=by
 have hz:(zl r).Pairwise (· < ·):=by
  unfold zl
  rw [ξ2]
  exact h.imp fun {a b} z=>by omega
 have e1:dd (zl r)=zl r:=zeG (by rw [List.nodup_iff_pairwise_ne]; exact hz.imp fun {a b} z=>by omega)
 have e2:zl r=srt (zl r):=V3 (.refl _) (hz.imp fun {a b} z=>by omega)
 rw [e1,← e2]
 unfold zl
 rw [ζr]
 rfl
theorem TY (ks:List Nat):SeqAt.shaped (nl ks)=true:=YO (wz (g:=fun k:Nat=>PyData.int (k:Int)) (fun _=>rfl) ks) (by
 have:=xI (g:=fun k:Nat=>PyData.int (k:Int)) (n:=0) (fun _=>ζm _) ks
 show PyData.depthAll _ + 1≤50
 omega)
def ZA (ds:List PyData) (d:PyData):Prop:=∃ a b:List Int,ds=[il a,il b]∧a.length + b.length < 2000∧d=.bool (a.any fun k=>decide (k∈b))
theorem zaF (ds:List PyData) (d:PyData) (h:ZA ds d):ds.length=2:=by obtain ⟨a,b,rfl,_⟩:=h; rfl
theorem zbN:zB ["some", "others"] ["some", "others"] (zm (top 7)):=⟨rfl,rfl,rfl,by decide +kernel,rfl,by decide +kernel,by decide +kernel⟩
theorem zb8 (F:Fun K "meet" "meet" (top 7) f fd) (B:Bs mg) (Z:Cs K mg cA cB τa τb τc τd τe τf τg τh)  : FnOk P w K mg base CX0 1 f fd ["some", "others"] (spD K true ZA):=by
 have sc:=zbN
 refine F.ok sc (fun vs H Q E h=>zR zaF h) (fun cdv A outer s H vs Q E hr h=>?_)
 obtain ⟨Fh,ds,d,le,dp,p,q⟩:=h
 refine ⟨_,(zg (zH (yA YU (zq (QF (b:=w.params.followText "set-order")) rfl B.len (by decide +kernel) (zb (zv (zb5 rfl rfl) (yD (tI (K:=K) rfl rfl rfl) rfl B.set (by decide +kernel) (zb (pv 0) zd)) (yD (tI (K:=K) rfl rfl rfl) rfl B.set (by decide +kernel) (zb (pv 1) zd))) zd)) zh (ye _)))),?_⟩
 have hN:(["some", "others"]:List Str).length=2:=rfl
 obtain ⟨a,b,rfl,hl,rfl⟩:=p
 walk_at"run"
 refine zP true (EvE.eq (ZW (Qw (ns:=a) (ms:=b) (EvE.toL (κ:=false) (by walk_at"ev")) (EvE.toL (κ:=false) (by walk_at"ev")) hl) (by walk_at"ev")) ?_) rfl (.inl ⟨rfl,rfl⟩)
 rw [zaB]
structure OrdC (n:Nat) (cs:List (List Nat)):Prop where
 l:cs.length=n
 n12:n≤12
 r:∀ r∈cs,(∀ c∈r,c < n)∧r.length≤5
 o:∃ ord:List Nat,ord.Perm (List.range n)∧∀ (i k:Nat),ord[i]?=some k→∀ c∈cs.getD k [],c∈ord.take i
def rdP (cs:List (List Nat)) (ns:List Int) (x:Int):Bool:=!((zl (cs.getD x.toNat [])).any fun c=>decide (c∈ns))
open Classical in
theorem VB (p:Nat→Prop):∀ {ord:List Nat},(∃ k,k∈ord∧p k)→∃ i k,ord[i]?=some k∧p k∧∀ c∈ord.take i,¬ p c
 | [],h=>by obtain ⟨_,z,_⟩:=h; cases z
 | x :: r,h=>by
  by_cases hx:p x
  ·exact ⟨0,x,rfl,hx,fun c hc=>by cases hc⟩
  ·obtain ⟨k,hk,pk⟩:=h
   have hk:k∈r:=by
    rcases ζs.mp hk with rfl | hk
    ·exact absurd pk hx
    ·exact hk
   obtain ⟨i,m,h1,h2,h3⟩:=VB p (ord:=r) ⟨k,hk,pk⟩
   refine ⟨i + 1,m,by simpa using h1,h2,fun c hc=>?_⟩
   rcases ζs.mp hc with rfl | hc
   ·exact hx
   ·exact h3 c hc
theorem zdx {n:Nat} {cs:List (List Nat)} (h:OrdC n cs) {ns:List Int} (hn:∀ x∈ns,0≤x∧x < n) (ne:ns≠[]):∃ x r,ns.filter (rdP cs ns)=x :: r∧x∈ns:=by
 obtain ⟨ord,pm,tp⟩:=h.o
 obtain ⟨y,ym⟩:∃ y,y∈ns:=by
  cases ns with
  | nil=>exact absurd rfl ne
  | cons y r=>exact ⟨y,ζi⟩
 have hy:=hn y ym
 obtain ⟨i,k,h1,h2,h3⟩:=VB (fun k=>((k:Nat):Int)∈ns) (ord:=ord) ⟨y.toNat,pm.mem_iff.mpr (ζQ.mpr (by omega)),by rw [ξu hy.1]; exact ym⟩
 have hm:(k:Int)∈ns.filter (rdP cs ns):=by
  refine ζ6.mpr ⟨h2,?_⟩
  unfold rdP
  rw [Bool.not_eq_true',List.any_eq_false]
  intro c hc
  obtain ⟨c',hc',rfl⟩:=ζq.mp hc
  have:=h3 c' (tp i k h1 c' hc')
  simpa using this
 cases e:ns.filter (rdP cs ns) with
 | nil=>rw [e] at hm; cases hm
 | cons x r=>exact ⟨x,r,rfl,(ζ6.mp (by rw [e]; exact ζi)).1⟩
theorem zdv {k:Int} {ns:List Int} {x:Int} (h:x∈rm k ns):x∈ns:=by
 rcases ζu.mp h with h | h
 ·exact ζZ h
 ·exact ξU h
theorem zdw {k:Int} {ns:List Int} (h:k∈ns):(rm k ns).length + 1=ns.length:=by
 have:=ξs.mpr h
 unfold rm
 rw [ζj,ζy,ζR]
 omega
def vA (ds:List PyData) (G:PyData→Prop):Prop:=∃ (n:Nat) (cs:List (List Nat)),ds=[nls cs]∧OrdC n cs∧G=fun _=>True
theorem XZ (ds:List PyData) (G:PyData→Prop) (h:vA ds G):ds.length=1:=by obtain ⟨a,b,rfl,_⟩:=h; rfl
theorem WS:zB ["causes", "found", "left", "ready"] ["causes"] (zm (top 8)):=⟨rfl,rfl,rfl,by decide +kernel,rfl,by decide +kernel,by decide +kernel⟩
theorem Vf (F:Fun K "order_of" "order_of" (top 8) f fd) (B:Bs mg) (Z:Cs K mg cA cB τa τb τc τd τe τf τg τh) (c_meet:zC P w K mg base CX0 "meet" ["some", "others"] 1 (spD K true ZA)):FnOk P w K mg base CX0 2 f fd ["causes"] (spW K true vA):=by
 have sc:=WS
 refine F.ok sc (fun vs H Q E h=>wq XZ h) (fun cdv A outer s H vs Q E hr h=>?_)
 obtain ⟨Fh,ds,G,le,dp,p,q⟩:=h
 refine ⟨_,(ze (zF (i:=1) sc.nd rfl (Or.inl rfl) (zW zd))
   (ze (zF (i:=2) sc.nd rfl (Or.inr rfl) (yD (Wt rfl) rfl B.list (by decide +kernel) (zb (yD QC rfl B.range (by decide +kernel) (zb (zq (zw (K:=K) rfl) rfl B.len (by decide +kernel) (zb (pv 0) zd)) zd)) zd)))
   (ze (zah PassesOwn.never (yn YU (zq (zw (K:=K) rfl) rfl B.len (by decide +kernel) (zb (pv 2) zd)) zh (ye _)) (ze (xC (i:=3) rfl sc.nd rfl rfl (N:=["k", "left", "causes"]) (js:=[none,some 2,some 0]) (by walk_at"comp_ok") (zI (K:=K) rfl (pv 2)) (fun _ _ _ _=>(zk (i:=0) (show List.Nodup (["k", "left", "causes"]:List PySem.Str) by decide +kernel) rfl (Or.inl rfl))) (fun _ _ _ _=>(uF (yU (yC (zM c_meet (hr.mono (by decide)) rfl zN (zb (zL (zA (K:=K) rfl) (pv 2) (pv 0) (fun _ _=>rfl)) (zb (pv 1) zd))))))) (fun _ _ _ _=>(pv 0)))
   (ze (yF (yn v8 (zq (zw (K:=K) rfl) rfl B.len (by decide +kernel) (zb (pv 3) zd)) zh (ye _)) (zg yY) yc)
   (ze (yd (yb (K:=K) rfl ζo ζw ζv zV (pv 1) (zb (zL (zA (K:=K) rfl) (pv 3) zh (fun _ _=>rfl)) zd)))
   (zg (yd (yb (K:=K) rfl ζo PySem.F.slot_list_remove PySem.F.type_list_remove Qf (pv 2) (zb (zL (zA (K:=K) rfl) (pv 3) zh (fun _ _=>rfl)) zd))))))))
   (zg (zH (pv 1)))))),?_⟩
 have hN:(["causes", "found", "left", "ready"]:List Str).length=4:=rfl
 obtain ⟨n,cs,rfl,ok,rfl⟩:=p
 have big:=zJ
 have n12:=ok.n12
 have cl:=ok.l
 refine xK le dp q hN (by walk_at"st") ?_
 refine exo true (ds:=[]) (zZ (ds:=[]) zG (by decide)) (by walk_at"sc") ?_
 refine exo true (VC (n:=n) (EvE.eq (yu (ds:=cs.map nl) (by walk_at"ev")) (by rw [ζa,cl])) (by omega)) (by walk_at"sc") ?_
 refine wa (fun Γ=>∃ (fd:List PyData) (b2 b3:Option DV),Γ=[some (.fz false (nls cs)),some (.ow true fd),b2,b3]) (zaZ (fun m Γ=>∃ (fd:List PyData) (ns:List Int) (b3:Option DV),Γ=[some (.fz false (nls cs)),some (.ow true fd),some (.ow true (ns.map .int)),b3]∧ns.length=m∧fd.length + ns.length=n∧∀ x∈ns,0≤x∧x < n) n ⟨[],(List.range n).map fun i:Nat=>(i:Int),none,by rw [ζr]; rfl,Q6,by rw [Q6]; exact Nat.zero_add n,fun x hx=>?_⟩ ?_) ?_
 ·obtain ⟨i,hi,rfl⟩:=ζq.mp hx
  have:=ζQ.mp hi
  omega
 ·rintro m Γ' ⟨fd,ns,b3,rfl,hl,fl,hn⟩
  refine ⟨decide ((0:Int) < ((ns.map PyData.int).length:Nat)),yf (ZW (yu (ds:=ns.map PyData.int) (by walk_at"ev")) (by walk_at"ev")),fun c=>?_,fun _=>⟨fd,_,_,rfl⟩⟩
  have c:=of_decide_eq_true c
  rw [ζa] at c
  obtain ⟨x,r,er,xm⟩:=zdx ok hn (fun z=>by rw [z] at c; exact absurd c (by decide))
  have fl2:=ξl (rdP cs ns) ns
  refine exs true (d:=il (ns.filter (rdP cs ns))) (EvO.toE (zba 2 (by walk_at"gc") (by walk_at"sc") (vJ (κ:=true) (is:=[0]) (xs:=ns) false PyData.int PyData.int (rdP cs ns) (fun x _ y _ h=>by cases h; exact ⟨rfl,rfl⟩) (zS (by walk_at"ev")) (by walk_at"cc") rfl (by decide) (by omega) ?_) (x8 _))) (by walk_at"sc") ?_
  ·intro k hk
   have kn:=hn k hk
   have g:=zu (d:=([]:List Nat)) (l:=cs) (k:=k.toNat) (by omega)
   have rk:=ok.r _ (ζd g)
   have ak:atI (cs.map nl) k=some (nl (cs.getD k.toNat [])):=by
    have:=yM (g:=nl) g
    rw [ξu kn.1] at this
    exact this
   refine egn (by walk_at"sc") ⟨xk (et_B (zr (ds:=[il (zl (cs.getD k.toNat [])),il ns]) (d:=.bool ((zl (cs.getD k.toNat [])).any fun c=>decide (c∈ns))) (zi (EvE.eq (zY (by walk_at"ev") (by walk_at"ev") ak) (vN _)) (by walk_at"ev")) ⟨_,_,rfl,by unfold zl; rw [List.length_map]; omega,rfl⟩)),fun _=>by walk_at"ev"⟩
  rw [er]
  refine xP (b:=decide ((((x :: r).map PyData.int).length:Int)=0)) (yf (wN (yu (ds:=(x :: r).map PyData.int) (by walk_at"ev")) (by walk_at"ev"))) (decide_eq_false (by rw [ζa,ζL]; omega)) ?_
  have a0:atI ((x :: r).map PyData.int) 0=some (.int x):=atI0
  refine exa (d:=.int x) (by walk_at"gc") (zY (by walk_at"ev") (by walk_at"ev") a0) (by walk_at"sc") (by omega) ?_
  refine exrm (ns:=ns) (k:=x) (by walk_at"gc") (zY (by walk_at"ev") (by walk_at"ev") a0) xm (by walk_at"sc") ?_
  have rl:=zdw xm
  refine ⟨(rm x ns).length,by omega,fd ++ [.int x],rm x ns,_,rfl,rfl,by rw [ζj]; show fd.length + 1 + _=n; omega,fun y hy=>hn y (zdv hy)⟩
 ·rintro Γ' ⟨fd,b2,b3,rfl⟩
  refine exfz 1 (by walk_at"gc") (by walk_at"sc") ?_
  exact zP true (d:=.list fd) (by walk_at"ev") trivial (.inl ⟨rfl,rfl⟩)
def wu (ds:List PyData) (d:PyData):Prop:=∃ ss:List Int,ds=[il ss]∧(∀ s∈ss,1≤s∧s≤4)∧ss.length≤5∧d=.int (prod ss)
theorem X6 (ds:List PyData) (d:PyData) (h:wu ds d):ds.length=1:=by obtain ⟨a,rfl,_⟩:=h; rfl
theorem WZ:zB ["sizes", "found", "size"] ["sizes"] (zm (top 15)):=⟨rfl,rfl,rfl,by decide +kernel,rfl,by decide +kernel,by decide +kernel⟩
theorem Vm (F:Fun K "count_of" "count_of" (top 15) f fd) (B:Bs mg) (Z:Cs K mg cA cB τa τb τc τd τe τf τg τh)  : FnOk P w K mg base CX0 1 f fd ["sizes"] (spD K true wu):=by
 have sc:=WZ
 refine F.ok sc (fun vs H Q E h=>zR X6 h) (fun cdv A outer s H vs Q E hr h=>?_)
 obtain ⟨Fh,ds,d,le,dp,p,q⟩:=h
 refine ⟨_,(ze (zF (i:=1) sc.nd rfl (Or.inl rfl) zh)
   (ze (yi PassesOwn.never rfl (zI (K:=K) rfl (pv 0)) (zk (i:=2) sc.nd rfl (Or.inl rfl)) (zg (zF (i:=1) sc.nd rfl (Or.inl rfl) (zv xu (pv 1) (pv 2)))))
   (zg (zH (pv 1))))),?_⟩
 have hN:(["sizes", "found", "size"]:List Str).length=3:=rfl
 obtain ⟨ss,rfl,hs,hl,rfl⟩:=p
 have big:=zJ
 walk_at"run"
 refine exs true (d:=.int 1) (by walk_at"ev") (by walk_at"sc") ?_
 refine xc (ds:=ss.map .int) false (fun i Γ=>∃ b,Γ=[some (.fz false (il ss)),some (.fz true (.int (prod (ss.take i)))),b]) (zS (by walk_at"ev")) ⟨none,rfl⟩ ?_ ?_
 ·rintro i d Γ' hd ⟨b,rfl⟩
  obtain ⟨x,hx,rfl⟩:=xw hd
  refine ⟨_,egn (by walk_at"sc") ?_⟩
  have hm:=hs x (ζd hx)
  have hi:=(ζe.mp hx).1
  have pl:=uD (ss.take i) 5 (fun y hy=>hs y (ζZ hy)) (by rw [ζy]; omega)
  have m1:IntMulOk (prod (ss.take i)) x:=yN (by omega) (by omega)
  refine exs1 true (d:=.int (prod (ss.take i) * x)) (wc (by walk_at"ev") (by walk_at"ev") m1) (by walk_at"sc") ?_
  refine ⟨some (.fz false (.int x)),?_⟩
  rw [take_succ hx,u6]
 ·rintro Γ' ⟨b,rfl⟩
  rw [ζa,ζ4]
  exact zP true (by walk_at"ev") rfl (.inl ⟨rfl,rfl⟩)
def yP (ds:List PyData) (d:PyData):Prop:=∃ (xs:List PyData) (m:Int),ds=[.list xs,.int m]∧(xs.length:Int)=m∧d=.bool true
theorem ZO (ds:List PyData) (d:PyData) (h:yP ds d):ds.length=2:=by obtain ⟨a,b,rfl,_⟩:=h; rfl
theorem Yf:zB ["thing", "length"] ["thing", "length"] (zm (top 27)):=⟨rfl,rfl,rfl,by decide +kernel,rfl,by decide +kernel,by decide +kernel⟩
theorem Yp (F:Fun K "is_list_of" "is_list_of" (top 27) f fd) (B:Bs mg) (Z:Cs K mg cA cB τa τb τc τd τe τf τg τh)  : FnOk P w K mg base CX0 1 f fd ["thing", "length"] (spD K true yP):=by
 have sc:=Yf
 refine F.ok sc (fun vs H Q E h=>zR ZO h) (fun cdv A outer s H vs Q E hr h=>?_)
 obtain ⟨Fh,ds,d,le,dp,p,q⟩:=h
 refine ⟨_,(zg (zH (xT (zq (yW (K:=K) rfl) rfl B.isinstance (by decide +kernel) (zb (pv 0) (zb (xW (v:=.ty "list") rfl B.list (by decide +kernel) rfl) zd))) (xO (yA v8 (zq (zw (K:=K) rfl) rfl B.len (by decide +kernel) (zb (pv 0) zd)) (pv 1) (ye _)))))),?_⟩
 have hN:(["thing", "length"]:List Str).length=2:=rfl
 obtain ⟨xs,m,rfl,hl,rfl⟩:=p
 walk_at"run"
 refine zP (d:=.bool (true && decide ((xs.length:Int)=m))) true (wf (by walk_at"ev") fun _=>wN (yu (by walk_at"ev")) (by walk_at"ev")) ?_ (.inl ⟨rfl,rfl⟩)
 rw [decide_eq_true hl]
 rfl
def xM (ds:List PyData) (d:PyData):Prop:=∃ x a b:Int,ds=[.int x,.int a,.int b]∧a≤x∧x≤b∧d=.bool true
theorem ZP (ds:List PyData) (d:PyData) (h:xM ds d):ds.length=3:=by obtain ⟨a,b,c,rfl,_⟩:=h; rfl
theorem Yg:zB ["thing", "least", "greatest"] ["thing", "least", "greatest"] (zm (top 28)):=⟨rfl,rfl,rfl,by decide +kernel,rfl,by decide +kernel,by decide +kernel⟩
theorem Yq (F:Fun K "is_from_to" "is_from_to" (top 28) f fd) (B:Bs mg) (Z:Cs K mg cA cB τa τb τc τd τe τf τg τh) (c_is_whole:zC P w K mg base CX0 "is_whole" ["thing"] 1 (spD K true wt)):FnOk P w K mg base CX0 2 f fd ["thing", "least", "greatest"] (spD K true xM):=by
 have sc:=Yg
 refine F.ok sc (fun vs H Q E h=>zR ZP h) (fun cdv A outer s H vs Q E hr h=>?_)
 obtain ⟨Fh,ds,d,le,dp,p,q⟩:=h
 refine ⟨_,(zg (zH (xT (zM c_is_whole (hr.mono (by decide)) rfl zN (zb (pv 0) zd)) (xO (Vb YT YT (pv 1) (pv 0) (pv 2)))))),?_⟩
 have hN:(["thing", "least", "greatest"]:List Str).length=3:=rfl
 obtain ⟨x,a,b,rfl,h1,h2,rfl⟩:=p
 walk_at"run"
 refine zP (d:=.bool (true && (decide (a≤x) && decide (x≤b)))) true (wf (zr (by walk_at"ev") ⟨x,rfl,rfl⟩) fun _=>ZY (by walk_at"ev") (by walk_at"ev") fun _=>by walk_at"ev") ?_ (.inl ⟨rfl,rfl⟩)
 rw [decide_eq_true h1,decide_eq_true h2]
 rfl
def ve (ds:List PyData) (d:PyData):Prop:=∃ ss:List Int,ds=[il ss]∧ss.length≤12∧(∀ s∈ss,2≤s∧s≤4)∧d=.bool true
theorem YG (ds:List PyData) (d:PyData) (h:ve ds d):ds.length=1:=by obtain ⟨a,rfl,_⟩:=h; rfl
theorem Xz:zB ["sizes"] ["sizes"] (zm (top 29)):=⟨rfl,rfl,rfl,by decide +kernel,rfl,by decide +kernel,by decide +kernel⟩
theorem XT (F:Fun K "are_sizes" "are_sizes" (top 29) f fd) (B:Bs mg) (Z:Cs K mg cA cB τa τb τc τd τe τf τg τh) (c_is_from_to:zC P w K mg base CX0 "is_from_to" ["thing", "least", "greatest"] 2 (spD K true xM)):FnOk P w K mg base CX0 3 f fd ["sizes"] (spD K true ve):=by
 have sc:=Xz
 refine F.ok sc (fun vs H Q E h=>zR YG h) (fun cdv A outer s H vs Q E hr h=>?_)
 obtain ⟨Fh,ds,d,le,dp,p,q⟩:=h
 refine ⟨_,(ze (yF (PW.pt (Zy (yU (yC (zq (yW (K:=K) rfl) rfl B.isinstance (by decide +kernel) (zb (pv 0) (zb (xW (v:=.ty "list") rfl B.list (by decide +kernel) rfl) zd))))) (Zx (yn YU (zq (zw (K:=K) rfl) rfl B.len (by decide +kernel) (zb (pv 0) zd)) (wx (v:=.int 12) rfl Z.n_MOST_THINGS ⟨_,rfl⟩) (ye _))))) (zg (zH tQ)) yc)
   (zg (zH (zq (xy (K:=K) rfl rfl) rfl B.all (by decide +kernel) (zb (yk rfl (N:=["size"]) (js:=[none]) (by walk_at"comp_ok") (zI (K:=K) rfl (pv 0)) (fun _ _ _ _=>(zk (i:=0) (show List.Nodup (["size"]:List PySem.Str) by decide +kernel) rfl (Or.inl rfl))) (fun _ _ _ _=>yh) (fun _ _ _ _=>(zM c_is_from_to (hr.mono (by decide)) rfl zN (zb (pv 0) (zb (wx (v:=.int 2) rfl Z.n_LEAST_SIZE ⟨_,rfl⟩) (zb (wx (v:=.int 4) rfl Z.n_GREATEST_SIZE ⟨_,rfl⟩) zd)))))) zd))))),?_⟩
 have hN:(["sizes"]:List Str).length=1:=rfl
 obtain ⟨ss,rfl,hl,hs,rfl⟩:=p
 have big:=zJ
 walk_at"run"
 refine xP (b:=!true || decide ((12:Int) < ((ss.map PyData.int).length:Nat))) (tT (by walk_at"ev") fun _=>yf (ZW (yu (ds:=ss.map PyData.int) (by walk_at"ev")) (by walk_at"ev"))) (by rw [decide_eq_false (by rw [ζa]; omega)]; rfl) ?_
 refine zP true (EvE.eq (vK (bs:=ss.map fun _=>true) (EvO.toL (EvO.eq (yg (κ:=false) (is:=[0]) (xs:=ss) false PyData.int (fun _=>.bool true) (fun x _ y _ h=>rfl) (zS (by walk_at"ev")) (by walk_at"cc") rfl (by decide) (by omega) ?_) (by rw [List.map_map]; rfl)))) (by simp)) rfl (.inl ⟨rfl,rfl⟩)
 intro s h
 exact egn (by walk_at"sc") (zr (ds:=[.int s,.int 2,.int 4]) (by walk_at"ev") ⟨s,2,4,rfl,(hs s h).1,(hs s h).2,rfl⟩)
def xE (ds:List PyData) (d:PyData):Prop:=∃ (r:List Nat) (n:Nat),ds=[nl r,.int n]∧r.length≤5∧(∀ c∈r,c < n)∧r.Pairwise (· < ·)∧d=.bool true
theorem ui (ds:List PyData) (d:PyData) (h:xE ds d):ds.length=2:=by obtain ⟨a,b,rfl,_⟩:=h; rfl
theorem uy:zB ["own", "number"] ["own", "number"] (zm (top 31)):=⟨rfl,rfl,rfl,by decide +kernel,rfl,by decide +kernel,by decide +kernel⟩
theorem uJ (F:Fun K "are_own_causes" "are_own_causes" (top 31) f fd) (B:Bs mg) (Z:Cs K mg cA cB τa τb τc τd τe τf τg τh) (c_is_from_to:zC P w K mg base CX0 "is_from_to" ["thing", "least", "greatest"] 2 (spD K true xM)):FnOk P w K mg base CX0 3 f fd ["own", "number"] (spD K true xE):=by
 have sc:=uy
 refine F.ok sc (fun vs H Q E h=>zR ui h) (fun cdv A outer s H vs Q E hr h=>?_)
 obtain ⟨Fh,ds,d,le,dp,p,q⟩:=h
 refine ⟨_,(ze (yF (PW.pt (Zy (yU (yC (zq (yW (K:=K) rfl) rfl B.isinstance (by decide +kernel) (zb (pv 0) (zb (xW (v:=.ty "list") rfl B.list (by decide +kernel) rfl) zd))))) (Zx (yn YU (zq (zw (K:=K) rfl) rfl B.len (by decide +kernel) (zb (pv 0) zd)) (wx (v:=.int 5) rfl Z.n_MOST_CAUSES ⟨_,rfl⟩) (ye _))))) (zg (zH tQ)) yc)
   (zg (zH (xT (zq (xy (K:=K) rfl rfl) rfl B.all (by decide +kernel) (zb (yk rfl (N:=["c", "number"]) (js:=[none,some 1]) (by walk_at"comp_ok") (zI (K:=K) rfl (pv 0)) (fun _ _ _ _=>(zk (i:=0) (show List.Nodup (["c", "number"]:List PySem.Str) by decide +kernel) rfl (Or.inl rfl))) (fun _ _ _ _=>yh) (fun _ _ _ _=>(zM c_is_from_to (hr.mono (by decide)) rfl zN (zb (pv 0) (zb zh (zb (zv zap (pv 1) zh) zd)))))) zd)) (xO (yA (Zc (K:=K) rfl hr.units) (pv 0) (zq (Wr rfl rfl) rfl B.sorted (by decide +kernel) (zb (yD (tI (K:=K) rfl rfl rfl) rfl B.set (by decide +kernel) (zb (pv 0) zd)) zd)) (ye _))))))),?_⟩
 have hN:(["own", "number"]:List Str).length=2:=rfl
 obtain ⟨r,n,rfl,hl,hr,hp,rfl⟩:=p
 have big:=zJ
 walk_at"run"
 refine xP (b:=!true || decide ((5:Int) < ((r.map fun k:Nat=>PyData.int (k:Int)).length:Nat))) (tT (by walk_at"ev") fun _=>yf (ZW (yu (ds:=r.map fun k:Nat=>PyData.int (k:Int)) (by walk_at"ev")) (by walk_at"ev"))) (by rw [decide_eq_false (by rw [ζa]; omega)]; rfl) ?_
 have zlen:(zl r).length=r.length:=by unfold zl; rw [List.length_map]
 refine zP (d:=.bool (((r.map fun _=>true).all fun b=>b) && true)) true (wf (vK (bs:=r.map fun _=>true) (EvO.toL (EvO.eq (yg (κ:=false) (is:=[0]) (xs:=r) false (fun k:Nat=>PyData.int (k:Int)) (fun _=>.bool true) (fun x _ y _ h=>rfl) (zS (by walk_at"ev")) (by walk_at"cc") rfl (by decide) (by omega) ?_) (by rw [ζr]; rfl)))) fun _=>Zi (d:=nl r) (EvE.toD (κ:=false) (by walk_at"ev")) (EvE.toD (κ:=false) (EvO.toE (EvO.eq (YH (ns:=zl r) (EvE.toL (EvE.eq (κ:=false) (by walk_at"ev") (vN r))) (by omega)) (Q4 hp)))) (TY r)) ?_ (.inl ⟨rfl,rfl⟩)
 ·intro c hc
  have:=hr c hc
  exact egn (by walk_at"sc") (zr (ds:=[.int (c:Int),.int 0,.int ((n:Int) - 1)]) (by walk_at"ev") ⟨c,0,(n:Int) - 1,rfl,by omega,by omega,rfl⟩)
 ·simp
def wL (ds:List PyData) (d:PyData):Prop:=∃ (cs:List (List Nat)) (n:Nat),ds=[nls cs,.int n]∧cs.length=n∧n≤12∧(∀ r∈cs,r.length≤5∧(∀ c∈r,c < n)∧r.Pairwise (· < ·))∧d=.bool true
theorem ZT (ds:List PyData) (d:PyData) (h:wL ds d):ds.length=2:=by obtain ⟨a,b,rfl,_⟩:=h; rfl
theorem Yk:zB ["causes", "number"] ["causes", "number"] (zm (top 30)):=⟨rfl,rfl,rfl,by decide +kernel,rfl,by decide +kernel,by decide +kernel⟩
theorem Yu (F:Fun K "are_causes" "are_causes" (top 30) f fd) (B:Bs mg) (Z:Cs K mg cA cB τa τb τc τd τe τf τg τh) (c_is_list_of:zC P w K mg base CX0 "is_list_of" ["thing", "length"] 1 (spD K true yP)) (c_are_own_causes:zC P w K mg base CX0 "are_own_causes" ["own", "number"] 3 (spD K true xE)):FnOk P w K mg base CX0 4 f fd ["causes", "number"] (spD K true wL):=by
 have sc:=Yk
 refine F.ok sc (fun vs H Q E h=>zR ZT h) (fun cdv A outer s H vs Q E hr h=>?_)
 obtain ⟨Fh,ds,d,le,dp,p,q⟩:=h
 refine ⟨_,(zg (zH (xT (zM c_is_list_of (hr.mono (by decide)) rfl zN (zb (pv 0) (zb (pv 1) zd))) (xO (zq (xy (K:=K) rfl rfl) rfl B.all (by decide +kernel) (zb (yk rfl (N:=["own", "number"]) (js:=[none,some 1]) (by walk_at"comp_ok") (zI (K:=K) rfl (pv 0)) (fun _ _ _ _=>(zk (i:=0) (show List.Nodup (["own", "number"]:List PySem.Str) by decide +kernel) rfl (Or.inl rfl))) (fun _ _ _ _=>yh) (fun _ _ _ _=>(zM c_are_own_causes (hr.mono (by decide)) rfl zN (zb (pv 0) (zb (pv 1) zd))))) zd)))))),?_⟩
 have hN:(["causes", "number"]:List Str).length=2:=rfl
 obtain ⟨cs,n,rfl,hl,n12,hr,rfl⟩:=p
 have big:=zJ
 walk_at"run"
 refine zP (d:=.bool (true && ((cs.map fun _=>true).all fun b=>b))) true (wf (zr (ds:=[.list (cs.map nl),.int (n:Int)]) (by walk_at"ev") ⟨cs.map nl,(n:Int),rfl,by rw [ζa]; omega,rfl⟩) fun _=>vK (bs:=cs.map fun _=>true) (EvO.toL (EvO.eq (yg (κ:=false) (is:=[0]) (xs:=cs) false nl (fun _=>.bool true) (fun x _ y _ h=>rfl) (zS (by walk_at"ev")) (by walk_at"cc") rfl (by decide) (by omega) ?_) (by rw [ζr]; rfl)))) ?_ (.inl ⟨rfl,rfl⟩)
 ·intro r h
  obtain ⟨r1,r2,r3⟩:=hr r h
  exact egn (by walk_at"sc") (zr (ds:=[nl r,.int (n:Int)]) (by walk_at"ev") ⟨r,n,rfl,r1,r2,r3,rfl⟩)
 ·simp
def vc (ds:List PyData) (d:PyData):Prop:=∃ x:Int,ds=[.int x]∧0≤x∧d=.bool true
theorem YE (ds:List PyData) (d:PyData) (h:vc ds d):ds.length=1:=by obtain ⟨a,rfl,_⟩:=h; rfl
theorem Xx:zB ["weight"] ["weight"] (zm (top 35)):=⟨rfl,rfl,rfl,by decide +kernel,rfl,by decide +kernel,by decide +kernel⟩
theorem XR (F:Fun K "is_weight" "is_weight" (top 35) f fd) (B:Bs mg) (Z:Cs K mg cA cB τa τb τc τd τe τf τg τh) (c_is_whole:zC P w K mg base CX0 "is_whole" ["thing"] 1 (spD K true wt)):FnOk P w K mg base CX0 2 f fd ["weight"] (spD K true vc):=by
 have sc:=Xx
 refine F.ok sc (fun vs H Q E h=>zR YE h) (fun cdv A outer s H vs Q E hr h=>?_)
 obtain ⟨Fh,ds,d,le,dp,p,q⟩:=h
 refine ⟨_,(zg (zH (xT (zM c_is_whole (hr.mono (by decide)) rfl zN (zb (pv 0) zd)) (xO (yA zep (pv 0) zh (ye _)))))),?_⟩
 have hN:(["weight"]:List Str).length=1:=rfl
 obtain ⟨x,rfl,h0,rfl⟩:=p
 walk_at"run"
 refine zP (d:=.bool (true && decide ((0:Int)≤x))) true (wf (zr (by walk_at"ev") ⟨x,rfl,rfl⟩) fun _=>zdc (by walk_at"ev") (by walk_at"ev")) ?_ (.inl ⟨rfl,rfl⟩)
 rw [decide_eq_true h0]
 rfl
def uf (ds:List PyData) (d:PyData):Prop:=∃ (r:List Int) (s:Int),ds=[il r,.int s]∧ua s r∧r.length≤1000∧d=.bool true
theorem Up (ds:List PyData) (d:PyData) (h:uf ds d):ds.length=2:=by obtain ⟨a,b,rfl,_⟩:=h; rfl
theorem T2:zB ["row", "size"] ["row", "size"] (zm (top 34)):=⟨rfl,rfl,rfl,by decide +kernel,rfl,by decide +kernel,by decide +kernel⟩
theorem Qc (F:Fun K "is_row" "is_row" (top 34) f fd) (B:Bs mg) (Z:Cs K mg cA cB τa τb τc τd τe τf τg τh) (c_is_list_of:zC P w K mg base CX0 "is_list_of" ["thing", "length"] 1 (spD K true yP)) (c_is_weight:zC P w K mg base CX0 "is_weight" ["weight"] 2 (spD K true vc)):FnOk P w K mg base CX0 3 f fd ["row", "size"] (spD K true uf):=by
 have sc:=T2
 refine F.ok sc (fun vs H Q E h=>zR Up h) (fun cdv A outer s H vs Q E hr h=>?_)
 obtain ⟨Fh,ds,d,le,dp,p,q⟩:=h
 refine ⟨_,(zg (zH (xT (zM c_is_list_of (hr.mono (by decide)) rfl zN (zb (pv 0) (zb (pv 1) zd))) (xT (zq (xy (K:=K) rfl rfl) rfl B.all (by decide +kernel) (zb (yk rfl (N:=["weight"]) (js:=[none]) (by walk_at"comp_ok") (zI (K:=K) rfl (pv 0)) (fun _ _ _ _=>(zk (i:=0) (show List.Nodup (["weight"]:List PySem.Str) by decide +kernel) rfl (Or.inl rfl))) (fun _ _ _ _=>yh) (fun _ _ _ _=>(zM c_is_weight (hr.mono (by decide)) rfl zN (zb (pv 0) zd)))) zd)) (xO (yA YU (zq (QA (K:=K) rfl rfl) rfl B.sum (by decide +kernel) (zb (pv 0) zd)) zh (ye _))))))),?_⟩
 have hN:(["row", "size"]:List Str).length=2:=rfl
 obtain ⟨r,s,rfl,ok,hl,rfl⟩:=p
 have big:=zJ
 have hp:=ok.p
 walk_at"run"
 refine zP (d:=.bool (true && (((r.map fun _=>true).all fun b=>b) && decide ((0:Int) < r.sum)))) true (wf (zr (ds:=[.list (r.map .int),.int s]) (by walk_at"ev") ⟨r.map .int,s,rfl,by rw [ζa]; exact ok.l,rfl⟩) fun _=>wf (vK (bs:=r.map fun _=>true) (EvO.toL (EvO.eq (yg (κ:=false) (is:=[0]) (xs:=r) false PyData.int (fun _=>.bool true) (fun x _ y _ h=>rfl) (zS (by walk_at"ev")) (by walk_at"cc") rfl (by decide) (by omega) ?_) (by rw [ζr]; rfl)))) fun _=>ZW (zd0 (ns:=r) (EvE.toL (κ:=false) (by walk_at"ev"))) (by walk_at"ev")) ?_ (.inl ⟨rfl,rfl⟩)
 ·intro x hx
  exact egn (by walk_at"sc") (zr (by walk_at"ev") ⟨x,rfl,(ok.w x hx).1,rfl⟩)
 ·rw [decide_eq_true (by omega)]
  simp
def vF (ds:List PyData) (d:PyData):Prop:=∃ (t:List (List Int)) (m s:Int),ds=[lls t,.int m,.int s]∧(t.length:Int)=m∧t.length≤1024∧(∀ r∈t,ua s r∧r.length≤1000)∧d=.bool true
theorem X5 (ds:List PyData) (d:PyData) (h:vF ds d):ds.length=3:=by obtain ⟨a,b,c,rfl,_⟩:=h; rfl
theorem WY:zB ["table", "rows", "size"] ["table", "rows", "size"] (zm (top 33)):=⟨rfl,rfl,rfl,by decide +kernel,rfl,by decide +kernel,by decide +kernel⟩
theorem Vl (F:Fun K "is_table" "is_table" (top 33) f fd) (B:Bs mg) (Z:Cs K mg cA cB τa τb τc τd τe τf τg τh) (c_is_list_of:zC P w K mg base CX0 "is_list_of" ["thing", "length"] 1 (spD K true yP)) (c_is_row:zC P w K mg base CX0 "is_row" ["row", "size"] 3 (spD K true uf)):FnOk P w K mg base CX0 4 f fd ["table", "rows", "size"] (spD K true vF):=by
 have sc:=WY
 refine F.ok sc (fun vs H Q E h=>zR X5 h) (fun cdv A outer s H vs Q E hr h=>?_)
 obtain ⟨Fh,ds,d,le,dp,p,q⟩:=h
 refine ⟨_,(zg (zH (xT (zM c_is_list_of (hr.mono (by decide)) rfl zN (zb (pv 0) (zb (pv 1) zd))) (xO (zq (xy (K:=K) rfl rfl) rfl B.all (by decide +kernel) (zb (yk rfl (N:=["row", "size"]) (js:=[none,some 2]) (by walk_at"comp_ok") (zI (K:=K) rfl (pv 0)) (fun _ _ _ _=>(zk (i:=0) (show List.Nodup (["row", "size"]:List PySem.Str) by decide +kernel) rfl (Or.inl rfl))) (fun _ _ _ _=>yh) (fun _ _ _ _=>(zM c_is_row (hr.mono (by decide)) rfl zN (zb (pv 0) (zb (pv 1) zd))))) zd)))))),?_⟩
 have hN:(["table", "rows", "size"]:List Str).length=3:=rfl
 obtain ⟨t,m,s,rfl,hl,tl,hr,rfl⟩:=p
 have big:=zJ
 walk_at"run"
 refine zP (d:=.bool (true && ((t.map fun _=>true).all fun b=>b))) true (wf (zr (ds:=[.list (t.map il),.int m]) (by walk_at"ev") ⟨t.map il,m,rfl,by rw [ζa]; exact hl,rfl⟩) fun _=>vK (bs:=t.map fun _=>true) (EvO.toL (EvO.eq (yg (κ:=false) (is:=[0]) (xs:=t) false il (fun _=>.bool true) (fun x _ y _ h=>rfl) (zS (by walk_at"ev")) (by walk_at"cc") rfl (by decide) (by omega) ?_) (by rw [ζr]; rfl)))) ?_ (.inl ⟨rfl,rfl⟩)
 ·intro r h
  exact egn (by walk_at"sc") (zr (ds:=[il r,.int s]) (by walk_at"ev") ⟨r,s,rfl,(hr r h).1,(hr r h).2,rfl⟩)
 ·simp
structure BkU (ss:List Int) (cs:List (List Nat)) (ts:List (List (List Int))):Prop where
 b:BkOk ss cs ts
 u:∀ r∈cs,r.Pairwise (· < ·)
 o:OrdC ss.length cs
theorem zdh {ss:List Int} {cs:List (List Nat)} {ts:List (List (List Int))} {i:Nat} {d:PyData} (h:BkOk ss cs ts) (hd:(zip3 (ss.map .int) (cs.map nl) (ts.map lls))[i]?=some d):i < ss.length∧d=.tuple [.int (ss.getD i 0),nl (cs.getD i []),lls (ts.getD i [])]:=by
 have cl:=h.cl
 have tl:=h.tl
 have il:=(ζe.mp hd).1
 rw [Zl (by rw [ζa,ζa]; exact cl) (by rw [ζa,ζa]; exact tl),ζa] at il
 refine ⟨il,?_⟩
 have g1:(ss.map PyData.int)[i]?=some (.int (ss.getD i 0)):=by rw [ζl,zu (d:=0) il]; rfl
 have g2:(cs.map nl)[i]?=some (nl (cs.getD i [])):=by rw [ζl,zu (d:=[]) (by omega)]; rfl
 have g3:(ts.map lls)[i]?=some (lls (ts.getD i [])):=by rw [ζl,zu (d:=[]) (by omega)]; rfl
 rw [WC g1 g2 g3] at hd
 exact (ζD hd).symm
def wK (ds:List PyData) (d:PyData):Prop:=∃ (ss:List Int) (cs:List (List Nat)) (ts:List (List (List Int))),ds=[il ss,nls cs,tbl ts]∧BkOk ss cs ts∧d=.bool true
theorem ZS (ds:List PyData) (d:PyData) (h:wK ds d):ds.length=3:=by obtain ⟨a,b,c,rfl,_⟩:=h; rfl
theorem Yj:zB ["sizes", "causes", "tables", "size", "own", "table"] ["sizes", "causes", "tables"] (zm (top 32)):=⟨rfl,rfl,rfl,by decide +kernel,rfl,by decide +kernel,by decide +kernel⟩
theorem Yt (F:Fun K "are_tables" "are_tables" (top 32) f fd) (B:Bs mg) (Z:Cs K mg cA cB τa τb τc τd τe τf τg τh) (c_is_list_of:zC P w K mg base CX0 "is_list_of" ["thing", "length"] 1 (spD K true yP)) (c_is_table:zC P w K mg base CX0 "is_table" ["table", "rows", "size"] 4 (spD K true vF)) (c_count_of:zC P w K mg base CX0 "count_of" ["sizes"] 1 (spD K true wu)) (c_picked:zC P w K mg base CX0 "picked" ["values", "things"] 1 (spD K true wD)):FnOk P w K mg base CX0 5 f fd ["sizes", "causes", "tables"] (spD K true wK):=by
 have sc:=Yj
 refine F.ok sc (fun vs H Q E h=>zR ZS h) (fun cdv A outer s H vs Q E hr h=>?_)
 obtain ⟨Fh,ds,d,le,dp,p,q⟩:=h
 refine ⟨_,(ze (yF (yU (yC (zM c_is_list_of (hr.mono (by decide)) rfl zN (zb (pv 2) (zb (zq (zw (K:=K) rfl) rfl B.len (by decide +kernel) (zb (pv 0) zd)) zd))))) (zg (zH tQ)) yc)
   (ze (yi PassesOwn.never rfl (zbX (K:=K) rfl rfl B.zip (zb (pv 0) (zb (pv 1) (zb (pv 2) zd)))) (ww (K:=K) (n:=3) rfl rfl (yo (zk (i:=3) sc.nd rfl (Or.inl rfl)) (yo (zk (i:=4) sc.nd rfl (Or.inl rfl)) (yo (zk (i:=5) sc.nd rfl (Or.inl rfl)) wv)))) (zg (yF (yU (yC (zM c_is_table (hr.mono (by decide)) rfl zN (zb (pv 5) (zb (zM c_count_of (hr.mono (by decide)) rfl zN (zb (zM c_picked (hr.mono (by decide)) rfl zN (zb (pv 0) (zb (pv 4) zd))) zd)) (zb (pv 3) zd)))))) (zg (zH tQ)) yc)))
   (zg (zH tQ)))),?_⟩
 have hN:(["sizes", "causes", "tables", "size", "own", "table"]:List Str).length=6:=rfl
 obtain ⟨ss,cs,ts,rfl,ok,rfl⟩:=p
 have big:=zJ
 have n12:=ok.n
 have cl:=ok.cl
 have tl:=ok.tl
 walk_at"run"
 refine xP (b:=!true) (xk (et_B (zr (ds:=[.list (ts.map lls),.int ((ss.map PyData.int).length:Nat)]) (zi (by walk_at"ev") (zi (yu (by walk_at"ev")) zG)) ⟨ts.map lls,_,rfl,by rw [ζa,ζa,tl],rfl⟩))) rfl ?_
 refine xc (ds:=zip3 (ss.map .int) (cs.map nl) (ts.map lls)) false (fun _ Γ=>∃ b3 b4 b5,Γ=[some (.fz false (il ss)),some (.fz false (nls cs)),some (.fz false (tbl ts)),b3,b4,b5]) (zcy (by rw [ζa,ζa]; exact cl) (by rw [ζa,ζa]; exact tl) (by walk_at"ev")) ⟨none,none,none,rfl⟩ ?_ ?_
 ·rintro i d Γ' hd ⟨b3,b4,b5,rfl⟩
  obtain ⟨hi,rfl⟩:=zdh ok hd
  have gc:=zu (d:=([]:List Nat)) (l:=cs) (k:=i) (by omega)
  have gt:=zu (d:=([]:List (List Int))) (l:=ts) (k:=i) (by omega)
  have ck:=ok.ck i _ gc
  have tk:=ok.tk i _ _ gc gt
  have pr:=ok.pr gc
  have pki:=XG ss (cs.getD i []) ck.1
  have gs:=yE ok.s hi
  refine ⟨_,eg3 (by walk_at"sc") (by walk_at"sc") (by walk_at"sc") ?_⟩
  refine xP (b:=!true) (xk (et_B (zr (ds:=[lls (ts.getD i []),.int (prod (pk ss (cs.getD i []))),.int (ss.getD i 0)]) (zi (by walk_at"ev") (zi (zr (ds:=[il (pk ss (cs.getD i []))]) (zi (zr (ds:=[.list (ss.map .int),nl (cs.getD i [])]) (by walk_at"ev") ⟨ss.map .int,cs.getD i [],rfl,x8 ss,by rw [List.length_map]; exact ck.1,by omega,by rw [pki]⟩) zG) ⟨pk ss (cs.getD i []),rfl,fun s hs=>?_,by unfold Sx2.pk; rw [List.length_map]; exact ck.2,rfl⟩) (by walk_at"ev"))) ⟨ts.getD i [],_,_,rfl,tk,by omega,fun r hr=>?_,rfl⟩))) rfl ?_
  ·obtain ⟨j,hj,rfl⟩:=ζq.mp hs
   have:=yE ok.s (k:=j) (ck.1 j hj)
   omega
  ·have:=ok.rk i _ gt r hr
   have:=this.l
   exact ⟨‹_›,by omega⟩
  ·exact xB ⟨_,_,_,rfl⟩
 ·rintro Γ' ⟨b3,b4,b5,rfl⟩
  exact zP true (by walk_at"ev") rfl (.inl ⟨rfl,rfl⟩)
def wJ (ds:List PyData) (d:PyData):Prop:=∃ (ss:List Int) (cs:List (List Nat)) (ts:List (List (List Int))),ds=[il ss,nls cs,tbl ts]∧BkU ss cs ts∧d=.none
theorem ZR (ds:List PyData) (d:PyData) (h:wJ ds d):ds.length=3:=by obtain ⟨a,b,c,rfl,_⟩:=h; rfl
theorem Yi:zB ["sizes", "causes", "tables"] ["sizes", "causes", "tables"] (zm (top 26)):=⟨rfl,rfl,rfl,by decide +kernel,rfl,by decide +kernel,by decide +kernel⟩
theorem Ys (F:Fun K "check_book" "check_book" (top 26) f fd) (B:Bs mg) (Z:Cs K mg cA cB τa τb τc τd τe τf τg τh) (c_are_sizes:zC P w K mg base CX0 "are_sizes" ["sizes"] 3 (spD K true ve)) (c_are_causes:zC P w K mg base CX0 "are_causes" ["causes", "number"] 4 (spD K true wL)) (c_are_tables:zC P w K mg base CX0 "are_tables" ["sizes", "causes", "tables"] 5 (spD K true wK)) (c_order_of:zC P w K mg base CX0 "order_of" ["causes"] 2 (spW K true vA)):FnOk P w K mg base CX0 6 f fd ["sizes", "causes", "tables"] (spD K true wJ):=by
 have sc:=Yi
 refine F.ok sc (fun vs H Q E h=>zR ZR h) (fun cdv A outer s H vs Q E hr h=>?_)
 obtain ⟨Fh,ds,d,le,dp,p,q⟩:=h
 refine ⟨_,(ze (yF (yU (yC (zM c_are_sizes (hr.mono (by decide)) rfl zN (zb (pv 0) zd)))) (zg yY) yc)
   (ze (yF (yU (yC (zM c_are_causes (hr.mono (by decide)) rfl zN (zb (pv 1) (zb (zq (zw (K:=K) rfl) rfl B.len (by decide +kernel) (zb (pv 0) zd)) zd))))) (zg yY) yc)
   (ze (yF (yU (yC (zM c_are_tables (hr.mono (by decide)) rfl zN (zb (pv 0) (zb (pv 1) (zb (pv 2) zd)))))) (zg yY) yc)
   (zg (yd (zM c_order_of (hr.mono (by decide)) rfl zN (zb (pv 1) zd))))))),?_⟩
 have hN:(["sizes", "causes", "tables"]:List Str).length=3:=rfl
 obtain ⟨ss,cs,ts,rfl,ok,rfl⟩:=p
 have n12:=ok.b.n
 have el:PyData.int (((ss.map PyData.int).length:Nat):Int)=.int (ss.length:Int):=by rw [ζa]
 walk_at"run"
 refine xP (b:=!true) (xk (et_B (zr (ds:=[il ss]) (by walk_at"ev") ⟨ss,rfl,n12,ok.b.s,rfl⟩))) rfl ?_
 refine xP (b:=!true) (xk (et_B (zr (ds:=[nls cs,.int (ss.length:Int)]) (zi (by walk_at"ev") (zi (EvE.eq (yu (ds:=ss.map PyData.int) (by walk_at"ev")) el) zG)) ⟨cs,ss.length,rfl,ok.b.cl,n12,fun r hr=>⟨(ok.o.r r hr).2,(ok.o.r r hr).1,ok.u r hr⟩,rfl⟩))) rfl ?_
 refine xP (b:=!true) (xk (et_B (zr (ds:=[il ss,nls cs,tbl ts]) (by walk_at"ev") ⟨ss,cs,ts,rfl,ok.b,rfl⟩))) rfl ?_
 exact za4 (y0 (ds:=[nls cs]) (by walk_at"ev") ⟨ss.length,cs,rfl,ok.o,rfl⟩) rfl
theorem UJ (ks:List Nat):(srt (zl ks))=zl ((srt (zl ks)).map Int.toNat):=by
 unfold zl
 rw [ζr]
 refine ((ζK fun x hx=>?_).trans (List.map_id _)).symm
 obtain ⟨k,_,rfl⟩:=ζq.mp ((vQ _).mem_iff.mp hx)
 rfl
def srtN (cs:List Nat):List Nat:=(srt (zl cs)).map Int.toNat
theorem xq (cs:List Nat):(srtN cs).Perm cs:=by
 have pr:(zl (srtN cs)).Perm (zl cs):=by
  unfold srtN
  rw [← UJ]
  exact vQ _
 have:=pr.map Int.toNat
 unfold zl at this
 rw [ζr,ζr] at this
 have e:(Int.toNat∘fun k:Nat=>(k:Int))=id:=by funext k; rfl
 rw [e,List.map_id,List.map_id] at this
 exact this
theorem TL {α:Type} (g:α→PyData) (xs:List α) (k:Nat):cutD (xs.map g) none (some (k:Int))=(xs.take k).map g:=by
 unfold cutD
 rw [HT.XA]
 show ((xs.map g).drop 0).take (min k (xs.map g).length - 0)=_
 rw [ξP,Nat.sub_zero,ζa,← ξ7]
 congr 1
 rcases Nat.le_total k xs.length with h | h
 ·rw [ξH h]
 ·rw [Nat.min_eq_right h,ζA (ζm _),ζA h]
def unN:PyData→List Nat
 | .list ds=>ds.map fun d=>match d with | .int i=>i.toNat | _=>0
 | _=>[]
theorem Zn (cs:List Nat):unN (nl cs)=cs:=by
 show (cs.map fun k:Nat=>PyData.int (k:Int)).map _=cs
 rw [ζr]
 exact List.map_id' _
theorem zaz {k:Nat} {r:List Nat}:decide ((k:Int)∈zl r)=decide (k∈r):=by
 unfold zl
 by_cases h:k∈r
 ·rw [decide_eq_true h,decide_eq_true (ζq.mpr ⟨k,h,rfl⟩)]
 ·rw [decide_eq_false h,decide_eq_false fun z=>?_]
  obtain ⟨j,hj,e⟩:=ζq.mp z
  have:j=k:=by omega
  exact h (this ▸ hj)
theorem v3 {cs:List Nat} (h:cs.Nodup):(srtN cs).Pairwise (· < ·):=by
 have h1:(srtN cs).Nodup:=(xq cs).nodup_iff.mpr h
 have h2:(srtN cs).Pairwise (·≤·):=by
  have:=Zp (zl cs)
  unfold srtN
  rw [ξ2]
  refine this.imp fun {a b} hab=>?_
  omega
 rw [List.nodup_iff_pairwise_ne] at h1
 exact (h1.and h2).imp fun {a b} z=>by omega
def kD (ks:List Nat):List PyData:=ks.map fun k:Nat=>.int (k:Int)
theorem Xk (ks:List Nat):(srt (zl ks)).map PyData.int=kD (srtN ks):=by
 have:=UJ ks
 have e:(srt (zl ks)).map PyData.int=(zl (srtN ks)).map PyData.int:=congrArg (List.map PyData.int) this
 rw [e]
 show (List.map _ (srtN ks)).map PyData.int=_
 rw [ζr]
 rfl
theorem tf {x y:Nat} (h:PyData.int (x:Int)=.int (y:Int)):x=y:=Int.ofNat.inj (PyData.int.inj h)
theorem ub (r:List Nat):(zl r).length=r.length:=ζa ..
abbrev stL (zs:List Str):PyData:=.list (zs.map .str)
abbrev tS (w:Int):Str:=toString w
theorem uM {sep:Str} {B:Nat}:∀ l:List Str,(∀ y∈l,y.length≤B)→(Str.join sep l).length≤l.length * (B + sep.length)
 | [],_=>ζY _
 | [x],h=>by
  have:=h x ζi
  show x.length≤1 * (B + sep.length)
  omega
 | x :: y :: r,h=>by
  have h1:=h x ζi
  have h2:=uM (sep:=sep) (y :: r) fun z hz=>h z (ζk _ hz)
  show (x ++ sep ++ Str.join sep (y :: r)).length≤(r.length + 1 + 1) * (B + sep.length)
  have h2:(Str.join sep (y :: r)).length≤(r.length + 1) * (B + sep.length):=h2
  rw [Str.length_append,Str.length_append,Nat.succ_mul]
  omega
theorem Vs {i:Int} (h0:0≤i) (h:i < 10 ^ 60):i.natAbs.log2 < 1920:=by
 by_cases z:i.natAbs=0
 ·rw [z]
  decide
 ·refine ζB ((Nat.log2_lt z).mpr (show i.natAbs < 2 ^ 200 from ?_)) (by decide)
  have:(10:Int) ^ 60≤2 ^ 200:=by decide
  have e:((2 ^ 200:Nat):Int)=2 ^ 200:=by decide
  omega
theorem zdl {i:Int} (h0:0≤i) (h:i < 10 ^ 60):(tS i).length≤60:=PyProof.Rows.toString_length_le h0 (by decide) h
theorem uV:16777216≤sizeLine:=by decide
theorem zdg {ss:List Nat} {k:Nat} (h:k < ss.length):atI (ss.map fun k:Nat=>PyData.int (k:Int)) (k:Int)=some (.int (ss.getD k 0:Nat)):=yM (g:=fun k:Nat=>PyData.int (k:Int)) (zu (d:=0) h)
theorem Ww {cs:List (List Nat)} {k:Nat} (h:k < cs.length):atI (cs.map nl) (k:Int)=some (nl (cs.getD k [])):=yM (zu (d:=[]) h)
def Zz (ds:List PyData) (d:PyData):Prop:=∃ ss ws:List Int,ds=[il ss,il ws]∧(∀ s∈ss,1≤s∧s≤9)∧d=.int (rkF ss ws)
theorem zaE (ds:List PyData) (d:PyData) (h:Zz ds d):ds.length=2:=by obtain ⟨ss,ws,rfl,_⟩:=h; rfl
theorem WB {xs ys:List Int} {i:Nat} {x y:Int} (h1:xs[i]?=some x) (h2:ys[i]?=some y):(xs.zip ys).take (i + 1)=(xs.zip ys).take i ++ [(x,y)]:=take_succ (ξn.mpr ⟨h1,h2⟩)
theorem zbM:zB ["sizes", "world", "place", "size", "value"] ["sizes", "world"] (zm (top 17)):=⟨rfl,rfl,rfl,by decide +kernel,rfl,by decide +kernel,by decide +kernel⟩
theorem zb7 (F:Fun K "rank" "rank" (top 17) f fd) (B:Bs mg) (Z:Cs K mg cA cB τa τb τc τd τe τf τg τh)  : FnOk P w K mg base CX0 1 f fd ["sizes", "world"] (spD K true Zz):=by
 have sc:=zbM
 refine F.ok sc (fun vs H Q E h=>zR zaE h) (fun cdv A outer s H vs Q E hr h=>?_)
 obtain ⟨Fh,ds,d,le,dp,p,q⟩:=h
 refine ⟨_,(ze (zF (i:=2) sc.nd rfl (Or.inl rfl) zh)
   (ze (yi PassesOwn.never rfl (uG (K:=K) rfl rfl B.zip (zb (pv 0) (zb (pv 1) zd))) (ww (K:=K) (n:=2) rfl rfl (yo (zk (i:=3) sc.nd rfl (Or.inl rfl)) (yo (zk (i:=4) sc.nd rfl (Or.inl rfl)) wv))) (zg (zF (i:=2) sc.nd rfl (Or.inl rfl) (zv yp (zv xu (pv 2) (pv 3)) (pv 4)))))
   (zg (zH (pv 2))))),?_⟩
 have hN:(["sizes", "world", "place", "size", "value"]:List Str).length=5:=rfl
 obtain ⟨ss,ws,rfl,hs,rfl⟩:=p
 walk_at"run"
 walk_at"go"
 refine xc false (fun i Γ=>∃ x y,Γ=[some (.fz false (il ss)),some (.fz false (il ws)),some (.fz true (.int (((ss.zip ws).take i).foldl (fun a x=>a * x.1 + x.2) 0))),x,y]) (ZZ (by walk_at"ev")) ⟨none,none,by rw [ξg]; rfl⟩ ?_ ?_
 ·rintro i d Γ' hd ⟨x,y,rfl⟩
  obtain ⟨s,v,hs',hv',rfl⟩:=Wb hd
  have hb:=hs s (ζd hs')
  refine ⟨_,egt (by walk_at"sc") (by walk_at"sc") ?_⟩
  refine exs1 true (by walk_at"ev"; exact yN (by omega) (by omega)) (by walk_at"sc") ?_
  show ∃ x y,_
  rw [WB hs' hv',ξi]
  exact ⟨_,_,rfl⟩
 ·rintro Γ' ⟨x,y,rfl⟩
  refine zP true (by walk_at"ev") ?_ (.inl ⟨rfl,rfl⟩)
  unfold rkF
  rw [ζA]
  rw [ξj,ξy,ζa,ζa]
  exact ζm _
def fitB (v:Int) (k:Option Int):Bool:=match k with | none=>true | some x=>decide (v=x)
def ZB (ds:List PyData) (d:PyData):Prop:=∃ (v:Int) (k:Option Int),ds=[.int v,optD k]∧d=.bool (fitB v k)
theorem zaG (ds:List PyData) (d:PyData) (h:ZB ds d):ds.length=2:=by obtain ⟨ss,ws,rfl,_⟩:=h; rfl
theorem zbO:zB ["value", "known"] ["value", "known"] (zm (top 18)):=⟨rfl,rfl,rfl,by decide +kernel,rfl,by decide +kernel,by decide +kernel⟩
theorem zb9 (F:Fun K "fits" "fits" (top 18) f fd) (B:Bs mg) (Z:Cs K mg cA cB τa τb τc τd τe τf τg τh)  : FnOk P w K mg base CX0 1 f fd ["value", "known"] (spD K true ZB):=by
 have sc:=zbO
 refine F.ok sc (fun vs H Q E h=>zR zaG h) (fun cdv A outer s H vs Q E hr h=>?_)
 obtain ⟨Fh,ds,d,le,dp,p,q⟩:=h
 refine ⟨_,(zg (zH (zc5 (yA zdH (pv 1) Uc (ye _)) (xO (yA v8 (pv 0) (pv 1) (ye _)))))),?_⟩
 have hN:(["value", "known"]:List Str).length=2:=rfl
 obtain ⟨v,k,rfl,rfl⟩:=p
 walk_at"run"
 cases k with
 | none =>
  dsimp only [optD]
  exact zP true (VD (a:=true) (b:=true) (UA (d:=.none) (EvE.toD (κ:=false) (evv (by walk_at"gc") (by decide)))) fun h=>nomatch h) rfl (.inl ⟨rfl,rfl⟩)
 | some x =>
  dsimp only [optD]
  exact zP true (VD (a:=false) (b:=decide (v=x)) (UA (d:=.int x) (EvE.toD (κ:=false) (evv (by walk_at"gc") (by decide)))) fun _=>wN (evv (by walk_at"gc") (by decide)) (evv (by walk_at"gc") (by decide))) rfl (.inl ⟨rfl,rfl⟩)
def u7 (ds:List PyData) (d:PyData):Prop:=∃ (hs:List (List Int)) (cs:List Int),ds=[lls hs,il cs]∧hs.length * cs.length≤100000∧(∀ h∈hs,h.length≤1000)∧d=lls (grow hs cs)
theorem Ql (ds:List PyData) (d:PyData) (h:u7 ds d):ds.length=2:=by obtain ⟨ss,ws,rfl,_⟩:=h; rfl
theorem QZ:zB ["heads", "choices", "found", "head", "value"] ["heads", "choices"] (zm (top 20)):=⟨rfl,rfl,rfl,by decide +kernel,rfl,by decide +kernel,by decide +kernel⟩
theorem zau (F:Fun K "grown" "grown" (top 20) f fd) (B:Bs mg) (Z:Cs K mg cA cB τa τb τc τd τe τf τg τh)  : FnOk P w K mg base CX0 1 f fd ["heads", "choices"] (spD K true u7):=by
 have sc:=QZ
 refine F.ok sc (fun vs H Q E h=>zR Ql h) (fun cdv A outer s H vs Q E hr h=>?_)
 obtain ⟨Fh,ds,d,le,dp,p,q⟩:=h
 refine ⟨_,(ze (zF (i:=2) sc.nd rfl (Or.inl rfl) (zW zd))
   (ze (yi PassesOwn.never rfl (zI (K:=K) rfl (pv 0)) (zk (i:=3) sc.nd rfl (Or.inl rfl)) (zg (yi PassesOwn.never rfl (zI (K:=K) rfl (pv 1)) (zk (i:=4) sc.nd rfl (Or.inl rfl)) (zg (yd (yb (K:=K) rfl ζo ζw ζv zV (pv 2) (zb (zv (x5 (K:=K) rfl) (pv 3) (zW (zb (pv 4) zd))) zd)))))))
   (zg (zH (pv 2))))),?_⟩
 have hN:(["heads", "choices", "found", "head", "value"]:List Str).length=5:=rfl
 obtain ⟨hs,cs,rfl,hz,hh,rfl⟩:=p
 walk_at"run"
 walk_at"go"
 refine xc false (fun i Γ=>∃ x y,Γ=[some (.fz false (lls hs)),some (.fz false (il cs)),some (.ow true ((grow (hs.take i) cs).map il)),x,y]) (zS (by walk_at"ev")) ⟨none,none,by rw [ξg]; rfl⟩ ?_ ?_
 ·rintro i d Γ' hd ⟨x,y,rfl⟩
  obtain ⟨h,hh',rfl⟩:=xw hd
  have hb:=hh h (ζd hh')
  have hi:=(ζe.mp hh').1
  refine ⟨_,egn (by walk_at"sc") ?_⟩
  refine tE false (fun j Γ=>∃ y,Γ=[some (.fz false (lls hs)),some (.fz false (il cs)),some (.ow true ((grow (hs.take i) cs ++ (cs.take j).map fun c=>h ++ [c]).map il)),some (.fz false (il h)),y]) (zS (by walk_at"ev")) ⟨_,by rw [ξg,List.map_nil,ζW]⟩ ?_ ?_
  ·rintro j d Γ' hd ⟨y,rfl⟩
   obtain ⟨c,hc',rfl⟩:=xw hd
   have hj:=(ζe.mp hc').1
   refine ⟨_,egn (by walk_at"sc") ?_⟩
   have e1:(h.map PyData.int).length + [PyData.int c].length≤sizeLine:=by
    rw [ζa]
    have:=zJ
    show h.length + 1≤_
    omega
   refine exa1 (by walk_at"gc") (by walk_at"ev") (by walk_at"sc") ?_ ?_
   ·rw [ζa,ζj,uN,ζa,ζy,ζy]
    have:=zJ
    have h2:min i hs.length * cs.length + min j cs.length≤hs.length * cs.length:=by
     rw [ξH (by omega),ξH (by omega)]
     have:(i + 1) * cs.length≤hs.length * cs.length:=Nat.mul_le_mul_right _ (by omega)
     rw [Nat.succ_mul] at this
     omega
    omega
   ·have e:(grow (hs.take i) cs ++ (cs.take (j + 1)).map fun c=>h ++ [c]).map il=(grow (hs.take i) cs ++ (cs.take j).map fun c=>h ++ [c]).map il ++ [.list (h.map .int ++ [.int c])]:=by
     rw [take_succ hc']
     simp [il]
    show ∃ y,_
    rw [e]
    exact ⟨_,rfl⟩
  ·rintro Γ' ⟨y,rfl⟩
   have e2:cs.take (cs.map PyData.int).length=cs:=by rw [ζa,ζ4]
   rw [take_succ hh',YZ,e2]
   exact ⟨_,_,rfl⟩
 ·rintro Γ' ⟨x,y,rfl⟩
  refine exro (by walk_at"gc") ?_ (.inl ⟨rfl,rfl⟩)
  rw [ζa,ζ4]
theorem WF:∀ (l:List (Int×Option Int)) (fd:List (List Int)) (h:List Int),h∈wbyF fd l→∃ g∈fd,h.length=g.length + l.length
 | [],fd,h,hm=>⟨h,hm,rfl⟩
 | x :: r,fd,h,hm=>by
  obtain ⟨g,hg,e⟩:=WF r _ h hm
  unfold grow at hg
  obtain ⟨a,ha,hb⟩:=List.mem_flatMap.mp hg
  obtain ⟨c,_,rfl⟩:=ζq.mp hb
  refine ⟨a,ha,?_⟩
  rw [e,ζj]
  show a.length + 1 + r.length=a.length + (r.length + 1)
  omega
theorem WG:∀ (l:List (Int×Option Int)) (fd:List (List Int)),(wbyF fd l).length≤fd.length * (l.map fun x=>x.1.toNat).foldr (· * ·) 1
 | [],fd=>by simp [wbyF]
 | x :: r,fd=>by
  show (wbyF (grow fd (chs x.1 x.2)) r).length≤fd.length * (x.1.toNat * (r.map fun x=>x.1.toNat).foldr (· * ·) 1)
  refine ζM (WG r _) ?_
  rw [uN,← Nat.mul_assoc]
  exact Nat.mul_le_mul_right _ (Nat.mul_le_mul_left _ (TM _ _))
theorem Y2:∀ (ss:List Int),(∀ s∈ss,1≤s∧s≤9)→((ss.map fun x=>x.toNat).foldr (· * ·) 1:Nat)=(prod ss).toNat
 | [],_=>rfl
 | s :: r,h=>by
  have hs:=h s ζi
  have hp:0 < prod r:=uC fun x hx=>by have:=h x (ζk _ hx); omega
  show s.toNat * (r.map fun x=>x.toNat).foldr (· * ·) 1=(s * prod r).toNat
  rw [Y2 r fun x hx=>h x (ζk _ hx)]
  have e1:s=(s.toNat:Int):=by omega
  have e2:prod r=((prod r).toNat:Int):=by omega
  conv=>rhs; rw [e1,e2,← ξL]
  rw [ζI]
theorem YS:∀ (n:Nat) (ss:List Int),(∀ s∈ss,1≤s∧s≤9)→prod (ss.take n)≤prod ss
 | 0,ss,h=>by
  have:=uC (ss:=ss) fun x hx=>by have:=h x hx; omega
  rw [ξg]
  show (1:Int)≤_
  omega
 | n + 1,[],_=>Int.le_refl _
 | n + 1,s :: r,h=>by
  have hs:=h s ζi
  exact Int.mul_le_mul_of_nonneg_left (YS n r fun x hx=>h x (ζk _ hx)) (by omega)
theorem UL:∀ (ss:List Int) (vw:List (Option Int)) (n:Nat),ss.length=vw.length→((ss.zip vw).take n).map (fun x=>x.1.toNat)=(ss.take n).map fun x=>x.toNat
 | [],_,n,_=>by simp
 | s :: r,[],_,h=>by simp at h
 | s :: r,v :: e,0,_=>rfl
 | s :: r,v :: e,n + 1,h=>by
  show s.toNat :: ((r.zip e).take n).map _=s.toNat :: (r.take n).map _
  rw [UL r e n (by simpa using h)]
def wX (ds:List PyData) (d:PyData):Prop:=∃ (ss:List Int) (vw:List (Option Int)),ds=[il ss,vl vw]∧ss.length=vw.length∧(∀ s∈ss,1≤s∧s≤9)∧ss.length≤63∧prod ss≤10000∧d=lls (wby ss vw)
theorem Yw (ds:List PyData) (d:PyData) (h:wX ds d):ds.length=2:=by obtain ⟨ss,ws,rfl,_⟩:=h; rfl
def fitP (k:Option Int):PyData→Bool
 | .int v=>fitB v k
 | _=>false
theorem UE (s:Int) (k:Option Int):(((List.range s.toNat).map fun i:Nat=>PyData.int (i:Int)).filter (fitP k)).map (fun d=>d)=(chs s k).map .int:=by
 unfold chs rng
 rw [List.map_id',List.filter_map,List.filter_map,ζr]
 rfl
theorem Xp:zB ["sizes", "view", "found", "size", "known"] ["sizes", "view"] (zm (top 19)):=⟨rfl,rfl,rfl,by decide +kernel,rfl,by decide +kernel,by decide +kernel⟩
theorem XH (F:Fun K "worlds_by" "worlds_by" (top 19) f fd) (B:Bs mg) (Z:Cs K mg cA cB τa τb τc τd τe τf τg τh) (c_grown:zC P w K mg base CX0 "grown" ["heads", "choices"] 1 (spD K true u7)) (c_fits:zC P w K mg base CX0 "fits" ["value", "known"] 1 (spD K true ZB)):FnOk P w K mg base CX0 2 f fd ["sizes", "view"] (spD K true wX):=by
 have sc:=Xp
 refine F.ok sc (fun vs H Q E h=>zR Yw h) (fun cdv A outer s H vs Q E hr h=>?_)
 obtain ⟨Fh,ds,d,le,dp,p,q⟩:=h
 refine ⟨_,(ze (zF (i:=2) sc.nd rfl (Or.inl rfl) (zW (zb (zW zd) zd)))
   (ze (yi PassesOwn.never rfl (uG (K:=K) rfl rfl B.zip (zb (pv 0) (zb (pv 1) zd))) (ww (K:=K) (n:=2) rfl rfl (yo (zk (i:=3) sc.nd rfl (Or.inl rfl)) (yo (zk (i:=4) sc.nd rfl (Or.inr rfl)) wv))) (zg (zF (i:=2) sc.nd rfl (Or.inl rfl) (zM c_grown (hr.mono (by decide)) rfl zN (zb (pv 2) (zb (yk rfl (N:=["value", "known"]) (js:=[none,some 4]) (by walk_at"comp_ok") (yt rfl B.range (zb (pv 3) zd)) (fun _ _ _ _=>(zk (i:=0) (show List.Nodup (["value", "known"]:List PySem.Str) by decide +kernel) rfl (Or.inl rfl))) (fun _ _ _ _=>(uF (yC (zM c_fits (hr.mono (by decide)) rfl zN (zb (pv 0) (zb (pv 1) zd)))))) (fun _ _ _ _=>(pv 0))) zd))))))
   (zg (zH (pv 2))))),?_⟩
 have hN:(["sizes", "view", "found", "size", "known"]:List Str).length=5:=rfl
 obtain ⟨ss,vw,rfl,hl,hs,h63,hp,rfl⟩:=p
 walk_at"run"
 refine exs true (d:=lls [[]]) (EvE.eq (a:=.list [.list []]) (by walk_at"ev") rfl) (by walk_at"sc") ?_
 refine xc false (fun i Γ=>∃ x y,Γ=[some (.fz false (il ss)),some (.fz false (vl vw)),some (.fz true (lls (wbyF [[]] ((ss.zip vw).take i)))),x,y]) (ZZ (by walk_at"ev")) ⟨none,none,by rw [ξg]; rfl⟩ ?_ ?_
 ·rintro i d Γ' hd ⟨x,y,rfl⟩
  obtain ⟨s,v,hs',hv',rfl⟩:=Wb hd
  have hb:=hs s (ζd hs')
  have hi:=(ζe.mp hs').1
  refine ⟨_,egt (by walk_at"sc") (by walk_at"sc") ?_⟩
  have hlen:(wbyF [[]] ((ss.zip vw).take i)).length≤10000:=by
   refine ζM (WG _ _) ?_
   rw [UL _ _ _ hl,Y2 _ fun x hx=>hs x (ζZ hx)]
   have:=YS i ss hs
   show 1 * _≤_
   omega
  have hc:=TM s v
  refine exs1 (d:=lls (grow (wbyF [[]] ((ss.zip vw).take i)) (chs s v))) true (zr (zi (by walk_at"ev") (zi (EvO.toE (tF (is:=[0]) false (fitP v) (fun d=>d) (xg (by walk_at"ev") (by omega) (by omega)) (by walk_at"cc") rfl (by decide) ?_ ?_)) zG)) ?_) (by walk_at"sc") ?_
  ·rw [yO]
   have:=zJ
   omega
  ·intro d hd
   obtain ⟨j,hj⟩:=ζH.mp hd
   obtain ⟨hj,rfl⟩:=yx hj
   refine egn (by walk_at"sc") ⟨et_B (zr (by walk_at"ev") ⟨_,_,rfl,rfl⟩),fun _=>by walk_at"ev"⟩
  ·refine ⟨_,_,by rw [UE],?_,?_,rfl⟩
   ·have:(chs s v).length≤9:=by omega
    exact ζM (Nat.mul_le_mul hlen this) (by decide)
   ·intro h hm
    obtain ⟨g,hg,e⟩:=WF _ _ h hm
    have:g=[]:=by simpa using hg
    subst this
    rw [e,ζy,ξy]
    show 0 + _≤_
    omega
  ·show ∃ x y,_
   rw [take_succ (x:=(s,v)) (ξn.mpr ⟨hs',hv'⟩),uY]
   exact ⟨_,_,rfl⟩
 ·rintro Γ' ⟨x,y,rfl⟩
  refine zP true (by walk_at"ev") ?_ (.inl ⟨rfl,rfl⟩)
  unfold wby
  rw [ζA]
  rw [ξj,ξy,ζa,ζa]
  exact ζm _
def ue (ds:List PyData) (d:PyData):Prop:=∃ (ss:List Int),ds=[il ss]∧(∀ s∈ss,1≤s∧s≤9)∧ss.length≤63∧prod ss≤10000∧d=lls (wds ss)
theorem Um (ds:List PyData) (d:PyData) (h:ue ds d):ds.length=1:=by obtain ⟨ss,rfl,_⟩:=h; rfl
theorem T0:zB ["sizes"] ["sizes"] (zm (top 16)):=⟨rfl,rfl,rfl,by decide +kernel,rfl,by decide +kernel,by decide +kernel⟩
theorem Qa (F:Fun K "worlds" "worlds" (top 16) f fd) (B:Bs mg) (Z:Cs K mg cA cB τa τb τc τd τe τf τg τh) (c_worlds_by:zC P w K mg base CX0 "worlds_by" ["sizes", "view"] 2 (spD K true wX)):FnOk P w K mg base CX0 3 f fd ["sizes"] (spD K true ue):=by
 have sc:=T0
 refine F.ok sc (fun vs H Q E h=>zR Um h) (fun cdv A outer s H vs Q E hr h=>?_)
 obtain ⟨Fh,ds,d,le,dp,p,q⟩:=h
 refine ⟨_,(zg (zH (zM c_worlds_by (hr.mono (by decide)) rfl zN (zb (pv 0) (zb (zv zaq (zW (zb Uc zd)) (zq (zw (K:=K) rfl) rfl B.len (by decide +kernel) (zb (pv 0) zd))) zd))))),?_⟩
 have hN:(["sizes"]:List Str).length=1:=rfl
 obtain ⟨ss,rfl,hs,h63,hp,rfl⟩:=p
 walk_at"run"
 refine zP true (zr (zi (by walk_at"ev") (zi (EvO.toE (Zg (k:=(ss.length:Int)) (by walk_at"ev") (EvE.eq (by walk_at"ev") (by rw [ζa])) (by omega) (by omega) ?_)) zG)) ?_) rfl (.inl ⟨rfl,rfl⟩)
 ·have:=zJ
  show 1 * _≤_
  omega
 ·refine ⟨ss,List.replicate ss.length none,?_,by rw [ξc],hs,h63,hp,?_⟩
  ·rw [ζI,W4]
  ·rw [zbA _ _ rfl fun x hx=>by have:=hs x hx; omega]
def ug (ds:List PyData) (d:PyData):Prop:=∃ (vw:List (Option Int)) (ks:List Nat) (ws:List Int),ds=[vl vw,nl ks,il ws]∧ks.length=ws.length∧(∀ k∈ks,k < vw.length)∧d=vl (fil vw ks ws)
theorem Uq (ds:List PyData) (d:PyData) (h:ug ds d):ds.length=3:=by obtain ⟨a,b,c,rfl,_⟩:=h; rfl
theorem zaW {vw:List (Option Int)} {ks:List Nat} {ws:List Int} {i k:Nat} {v:Int} (h1:ks[i]?=some k) (h2:ws[i]?=some v):((ks.zip ws).take (i + 1)).foldl (fun v x=>v.set x.1 (some x.2)) vw=(((ks.zip ws).take i).foldl (fun v x=>v.set x.1 (some x.2)) vw).set k (some v):=by
 rw [take_succ (x:=(k,v)) (ξn.mpr ⟨h1,h2⟩),ξi]
 rfl
theorem zaU (l:List (Nat×Int)):∀ vw:List (Option Int),(l.foldl (fun v x=>v.set x.1 (some x.2)) vw).length=vw.length:=by
 induction l with
 | nil=>intro _; rfl
 | cons x r ih=>intro vw; rw [List.foldl_cons,ih,ξr]
theorem T3:zB ["view", "things", "values", "found", "k", "value"] ["view", "things", "values"] (zm (top 40)):=⟨rfl,rfl,rfl,by decide +kernel,rfl,by decide +kernel,by decide +kernel⟩
theorem Qd (F:Fun K "filled" "filled" (top 40) f fd) (B:Bs mg) (Z:Cs K mg cA cB τa τb τc τd τe τf τg τh)  : FnOk P w K mg base CX0 1 f fd ["view", "things", "values"] (spD K true ug):=by
 have sc:=T3
 refine F.ok sc (fun vs H Q E h=>zR Uq h) (fun cdv A outer s H vs Q E hr h=>?_)
 obtain ⟨Fh,ds,d,le,dp,p,q⟩:=h
 refine ⟨_,(ze (zF (i:=3) sc.nd rfl (Or.inl rfl) (yD (YI (K:=K) rfl) rfl B.list (by decide +kernel) (zb (pv 0) zd)))
   (ze (yi PassesOwn.never rfl (uG (K:=K) rfl rfl B.zip (zb (pv 1) (zb (pv 2) zd))) (ww (K:=K) (n:=2) rfl rfl (yo (zk (i:=4) sc.nd rfl (Or.inl rfl)) (yo (zk (i:=5) sc.nd rfl (Or.inl rfl)) wv))) (zg (XF (pv 5) (zal (pv 3) (pv 4) WP))))
   (zg (zH (pv 3))))),?_⟩
 have hN:(["view", "things", "values", "found", "k", "value"]:List Str).length=6:=rfl
 obtain ⟨vw,ks,ws,rfl,hl,hk,rfl⟩:=p
 walk_at"run"
 refine exo true (ZV (by walk_at"ev")) (by walk_at"sc") ?_
 refine xc false (fun i Γ=>∃ x y,Γ=[some (.fz false (vl vw)),some (.fz false (nl ks)),some (.fz false (il ws)),some (.ow true ((((ks.zip ws).take i).foldl (fun v x=>v.set x.1 (some x.2)) vw).map optD)),x,y]) (ZZ (by walk_at"ev")) ⟨none,none,by rw [ξg]; rfl⟩ ?_ ?_
 ·rintro i d Γ' hd ⟨x,y,rfl⟩
  obtain ⟨k,v,hk',hv',rfl⟩:=Wb hd
  have hkl:=hk k (ζd hk')
  refine ⟨_,egt (by walk_at"sc") (by walk_at"sc") ?_⟩
  refine exi1 (j:=k) (by walk_at"gc") (by walk_at"ev") (by walk_at"ev") (X9 (by rw [ζa,zaU]; exact hkl)) (by walk_at"sc") ?_
  show ∃ x y,_
  rw [zaW hk' hv',List.map_set]
  exact ⟨_,_,rfl⟩
 ·rintro Γ' ⟨x,y,rfl⟩
  refine exro (by walk_at"gc") ?_ (.inl ⟨rfl,rfl⟩)
  unfold fil
  rw [ζA]
  rw [ξj,ξy,ζa,ζa]
  exact ζm _
structure SzOk (ss:List Int) (ks:List Nat):Prop where
 s:∀ s∈ss,1≤s∧s≤9
 k:∀ k∈ks,k < ss.length
 l:ks.length≤63
 p:prod (pk ss ks)≤10000
theorem SzOk.pk {ss:List Int} {ks:List Nat} (h:SzOk ss ks):∀ s∈pk ss ks,1≤s∧s≤9:=fun s hs=>by
 obtain ⟨k,hk,rfl⟩:=ζq.mp hs
 have:=h.k k hk
 refine h.s _ ?_
 rw [ζc,ζf this]
 exact ξv this
def vy (ds:List PyData) (d:PyData):Prop:=∃ (ss:List Int) (vw:List (Option Int)) (ks:List Nat),ds=[il ss,vl vw,nl ks]∧SzOk ss ks∧vw.length=ss.length∧d=.list ((wds (pk ss ks)).map fun w=>vl (fil vw ks w))
theorem XX (ds:List PyData) (d:PyData) (h:vy ds d):ds.length=3:=by obtain ⟨a,b,c,rfl,_⟩:=h; rfl
def unI:PyData→List Int
 | .list ds=>ds.map fun d=>match d with | .int i=>i | _=>0
 | _=>[]
theorem QN (w:List Int):unI (il w)=w:=by
 show (w.map PyData.int).map _=w
 rw [ζr]
 exact List.map_id' _
theorem t9 {ss:List Int} {w:List Int} (h:w∈wds ss):w.length=ss.length:=by
 unfold wds at h
 obtain ⟨j,_,rfl⟩:=ζq.mp h
 exact UN ss j
theorem WQ:zB ["sizes", "view", "things"] ["sizes", "view", "things"] (zm (top 41)):=⟨rfl,rfl,rfl,by decide +kernel,rfl,by decide +kernel,by decide +kernel⟩
theorem Vd (F:Fun K "views_of" "views_of" (top 41) f fd) (B:Bs mg) (Z:Cs K mg cA cB τa τb τc τd τe τf τg τh) (c_worlds:zC P w K mg base CX0 "worlds" ["sizes"] 3 (spD K true ue)) (c_picked:zC P w K mg base CX0 "picked" ["values", "things"] 1 (spD K true wD)) (c_filled:zC P w K mg base CX0 "filled" ["view", "things", "values"] 1 (spD K true ug)):FnOk P w K mg base CX0 4 f fd ["sizes", "view", "things"] (spD K true vy):=by
 have sc:=WQ
 refine F.ok sc (fun vs H Q E h=>zR XX h) (fun cdv A outer s H vs Q E hr h=>?_)
 obtain ⟨Fh,ds,d,le,dp,p,q⟩:=h
 refine ⟨_,(zg (zH (yk rfl (N:=["values", "view", "things"]) (js:=[none,some 1,some 2]) (by walk_at"comp_ok") (zI (K:=K) rfl (zM c_worlds (hr.mono (by decide)) rfl zN (zb (zM c_picked (hr.mono (by decide)) rfl zN (zb (pv 0) (zb (pv 2) zd))) zd))) (fun _ _ _ _=>(zk (i:=0) (show List.Nodup (["values", "view", "things"]:List PySem.Str) by decide +kernel) rfl (Or.inl rfl))) (fun _ _ _ _=>yh) (fun _ _ _ _=>(zM c_filled (hr.mono (by decide)) rfl zN (zb (pv 1) (zb (pv 2) (zb (pv 0) zd)))))))),?_⟩
 have hN:(["sizes", "view", "things"]:List Str).length=3:=rfl
 obtain ⟨ss,vw,ks,rfl,ok,hl,rfl⟩:=p
 walk_at"run"
 refine zP true (EvO.toE (EvO.eq (Wg (is:=[0]) true (fun d=>vl (fil vw ks (unI d))) (zS (zr (zi (EvE.eq (zr (by walk_at"ev") ⟨_,_,rfl,x8 ss,by rw [List.length_map]; exact ok.k,ok.l,rfl⟩) (congrArg PyData.list (XG ss ks ok.k))) zG) ⟨pk ss ks,rfl,ok.pk,by unfold Sx2.pk; rw [List.length_map]; exact ok.l,ok.p,rfl⟩)) (by walk_at"cc") rfl (by decide) ?_ ?_) ?_)) rfl (.inl ⟨rfl,rfl⟩)
 ·rw [ζa,Za]
  have:=zJ
  have:=ok.p
  omega
 ·intro d hd
  obtain ⟨v,hv,rfl⟩:=ζq.mp hd
  refine egn (by walk_at"sc") ?_
  rw [QN]
  refine zr (by walk_at"ev") ⟨_,_,_,rfl,?_,by rw [hl]; exact ok.k,rfl⟩
  rw [t9 hv]
  unfold Sx2.pk
  rw [ζa]
 ·rw [ζr]
  refine ζK fun v _=>?_
  show vl (fil vw ks (unI (il v)))=_
  rw [QN]
def vals (vw:List (Option Int)) (ks:List Nat):List Int:=ks.map fun k=>(vw.getD k none).getD 0
theorem zbW (vw:List (Option Int)) (ks:List Nat) (h:∀ k∈ks,k < vw.length) (hn:∀ k∈ks,vw.getD k none≠none):(ks.map fun k=>(vw.map optD).getD k .none)=(vals vw ks).map .int:=by
 unfold vals
 rw [ζr]
 refine ζK fun k hk=>?_
 have h1:=h k hk
 have h2:=hn k hk
 rw [ζc,ζl,ζf h1]
 rw [ζc,ζf h1] at h2
 show optD _=PyData.int ((vw.getD k none).getD 0)
 rw [ζc,ζf h1]
 cases e:vw[k] with
 | none=>exact absurd e h2
 | some v=>rfl
def effF (cs:List (List Nat)) (k:Nat):List Nat:=(List.range cs.length).filter fun o=>decide (k∈cs.getD o [])
def vU (ds:List PyData) (d:PyData):Prop:=∃ (cs:List (List Nat)) (k:Nat),ds=[nls cs,.int k]∧cs.length≤1000∧d=nl (effF cs k)
theorem Vv (ds:List PyData) (d:PyData) (h:vU ds d):ds.length=2:=by obtain ⟨a,b,rfl,_⟩:=h; rfl
theorem V7:zB ["causes", "k"] ["causes", "k"] (zm (top 11)):=⟨rfl,rfl,rfl,by decide +kernel,rfl,by decide +kernel,by decide +kernel⟩
theorem Ui (F:Fun K "effects" "effects" (top 11) f fd) (B:Bs mg) (Z:Cs K mg cA cB τa τb τc τd τe τf τg τh)  : FnOk P w K mg base CX0 1 f fd ["causes", "k"] (spD K true vU):=by
 have sc:=V7
 refine F.ok sc (fun vs H Q E h=>zR Vv h) (fun cdv A outer s H vs Q E hr h=>?_)
 obtain ⟨Fh,ds,d,le,dp,p,q⟩:=h
 refine ⟨_,(zg (zH (yk rfl (N:=["other", "k", "causes"]) (js:=[none,some 1,some 0]) (by walk_at"comp_ok") (yt rfl B.range (zb (zq (zw (K:=K) rfl) rfl B.len (by decide +kernel) (zb (pv 0) zd)) zd)) (fun _ _ _ _=>(zk (i:=0) (show List.Nodup (["other", "k", "causes"]:List PySem.Str) by decide +kernel) rfl (Or.inl rfl))) (fun _ _ _ _=>(uF (yn (ZD (K:=K) rfl) (pv 1) (zL (zA (K:=K) rfl) (pv 2) (pv 0) (fun _ _=>rfl)) (rfl)))) (fun _ _ _ _=>(pv 0))))),?_⟩
 have hN:(["causes", "k"]:List Str).length=2:=rfl
 obtain ⟨cs,k,rfl,hl,rfl⟩:=p
 have big:=zJ
 have el:(((cs.map nl).length:Nat):Int)=(cs.length:Int):=by rw [ζa]
 walk_at"run"
 refine zP true (EvO.toE (Qv (is:=[0]) (n:=cs.length) (fun o=>.int (o:Int)) (fun o=>decide (k∈cs.getD o [])) (zi (EvE.eq (yu (ds:=cs.map nl) (by walk_at"ev")) (congrArg PyData.int el)) zG) (by omega) (by walk_at"cc") rfl (by decide) ?_)) rfl (.inl ⟨rfl,rfl⟩)
 intro o ho
 have a1:atI (cs.map nl) (o:Int)=some (nl (cs.getD o [])):=yM (zu ho)
 refine egn (by walk_at"sc") ⟨EvT.eq (yf (zbh (neg:=false) (i:=(k:Int)) (ns:=zl (cs.getD o [])) (by walk_at"ev") (EvE.toL (EvE.eq (zY (κ:=false) (ds:=cs.map nl) (by walk_at"ev") (by walk_at"ev") a1) (vN _))))) ?_,fun _=>by walk_at"ev"⟩
 show decide _=_
 exact zaz
def hidK (cs:List (List Nat)) (k:Nat):Bool:=decide (((cs.getD k []).length:Int)=0) && decide (((effF cs k).length:Int)=2)
def hidF (cs:List (List Nat)) (hs:List Nat):Bool:=hs.all (hidK cs)
def vd (ds:List PyData) (d:PyData):Prop:=∃ (cs:List (List Nat)) (hs:List Nat),ds=[nls cs,nl hs]∧cs.length≤1000∧hs.length≤1000∧(∀ k∈hs,k < cs.length)∧d=.bool (hidF cs hs)
theorem YF (ds:List PyData) (d:PyData) (h:vd ds d):ds.length=2:=by obtain ⟨a,b,rfl,_⟩:=h; rfl
theorem Xy:zB ["causes", "hidden"] ["causes", "hidden"] (zm (top 38)):=⟨rfl,rfl,rfl,by decide +kernel,rfl,by decide +kernel,by decide +kernel⟩
theorem XS (F:Fun K "is_hidden" "is_hidden" (top 38) f fd) (B:Bs mg) (Z:Cs K mg cA cB τa τb τc τd τe τf τg τh) (c_effects:zC P w K mg base CX0 "effects" ["causes", "k"] 1 (spD K true vU)):FnOk P w K mg base CX0 2 f fd ["causes", "hidden"] (spD K true vd):=by
 have sc:=Xy
 refine F.ok sc (fun vs H Q E h=>zR YF h) (fun cdv A outer s H vs Q E hr h=>?_)
 obtain ⟨Fh,ds,d,le,dp,p,q⟩:=h
 refine ⟨_,(zg (zH (zq (xy (K:=K) rfl rfl) rfl B.all (by decide +kernel) (zb (yk rfl (N:=["k", "causes"]) (js:=[none,some 0]) (by walk_at"comp_ok") (zI (K:=K) rfl (pv 1)) (fun _ _ _ _=>(zk (i:=0) (show List.Nodup (["k", "causes"]:List PySem.Str) by decide +kernel) rfl (Or.inl rfl))) (fun _ _ _ _=>yh) (fun _ _ _ _=>(xT (yA v8 (zq (zw (K:=K) rfl) rfl B.len (by decide +kernel) (zb (zL (zA (K:=K) rfl) (pv 1) (pv 0) (fun _ _=>rfl)) zd)) zh (ye _)) (xO (yA v8 (zq (zw (K:=K) rfl) rfl B.len (by decide +kernel) (zb (zM c_effects (hr.mono (by decide)) rfl zN (zb (pv 1) (zb (pv 0) zd))) zd)) zh (ye _)))))) zd)))),?_⟩
 have hN:(["causes", "hidden"]:List Str).length=2:=rfl
 obtain ⟨cs,hs,rfl,hl,hl2,hk,rfl⟩:=p
 have big:=zJ
 walk_at"run"
 refine zP true (EvE.eq (vK (bs:=hs.map (hidK cs)) (EvO.toL (EvO.eq (yg (κ:=false) (is:=[0]) (xs:=hs) false (fun k:Nat=>.int (k:Int)) (fun k=>.bool (hidK cs k)) (fun x _ y _ h=>by cases tf h; rfl) (zS (by walk_at"ev")) (by walk_at"cc") rfl (by decide) (by omega) ?_) (by rw [List.map_map]; rfl)))) (by unfold hidF; rw [List.all_map]; rfl)) rfl (.inl ⟨rfl,rfl⟩)
 intro k hk'
 have kl:=hk k hk'
 have a1:atI (cs.map nl) (k:Int)=some (nl (cs.getD k [])):=yM (zu kl)
 have e1:∀ r:List Nat,PyData.int (((r.map fun k:Nat=>PyData.int (k:Int)).length:Nat):Int)=.int (r.length:Int):=fun r=>by rw [ζa]
 exact egn (by walk_at"sc") (wf (wN (EvE.eq (yu (ds:=(cs.getD k []).map fun k:Nat=>PyData.int (k:Int)) (EvE.toL (zY (κ:=false) (ds:=cs.map nl) (by walk_at"ev") (by walk_at"ev") a1))) (e1 _)) (by walk_at"ev")) fun _=>wN (EvE.eq (yu (ds:=(effF cs k).map fun k:Nat=>PyData.int (k:Int)) (EvE.toL (zr (by walk_at"ev") ⟨cs,k,rfl,hl,rfl⟩))) (e1 _)) (by walk_at"ev"))
theorem vS:∀ {a b:List Nat},a.Pairwise (· < ·)→b.Pairwise (· < ·)→(∀ x,x∈a↔x∈b)→a=b
 | [],[],_,_,_=>rfl
 | [],y :: b,_,_,h=>by have:=(h y).mpr ζi; cases this
 | x :: a,[],_,_,h=>by have:=(h x).mp ζi; cases this
 | x :: a,y :: b,ha,hb,h=>by
  obtain ⟨a1,a2⟩:=ξw.mp ha
  obtain ⟨b1,b2⟩:=ξw.mp hb
  have e:x=y:=by
   rcases ζs.mp ((h x).mp ζi) with z | z
   ·exact z
   ·rcases ζs.mp ((h y).mpr ζi) with w | w
    ·exact w.symm
    ·have:=b1 x z
     have:=a1 y w
     omega
  subst e
  refine congrArg (x :: ·) (vS a2 b2 fun z=>⟨fun hz=>?_,fun hz=>?_⟩)
  ·rcases ζs.mp ((h z).mp (ζk _ hz)) with w | w
   ·subst w
    have:=a1 z hz
    omega
   ·exact w
  ·rcases ζs.mp ((h z).mpr (ζk _ hz)) with w | w
   ·subst w
    have:=b1 z hz
    omega
   ·exact w
theorem zdP {c:Nat} (h:97≤c∧c≤122):Txt.contains ("abcdefghijklmnopqrstuvwxyz" : Str) ⟨#[c]⟩=true:=by
 refine (StrLaws.found_one _ c).trans (decide_eq_true ?_)
 have:∀ k,k < 26→(97 + k)∈("abcdefghijklmnopqrstuvwxyz" : Str).cps.toList:=by decide
 have:=this (c - 97) (by omega)
 rwa [show 97 + (c - 97)=c by omega] at this
theorem zdX {c:Nat} (h:48≤c∧c≤57):Txt.contains ("0123456789" : Str) ⟨#[c]⟩=true:=by
 refine (StrLaws.found_one _ c).trans (decide_eq_true ?_)
 have:∀ k,k < 10→(48 + k)∈("0123456789" : Str).cps.toList:=by decide
 have:=this (c - 48) (by omega)
 rwa [show 48 + (c - 48)=c by omega] at this
structure NmOk (z:Str):Prop where
 p:1≤z.length
 l:z.length≤8
 s:∀ c∈z.cps.toList,97≤c∧c≤122
def wR (ds:List PyData) (d:PyData):Prop:=∃ z:Str,ds=[.str z]∧NmOk z∧d=.bool true
theorem Vu (ds:List PyData) (d:PyData) (h:wR ds d):ds.length=1:=by obtain ⟨a,rfl,_⟩:=h; rfl
theorem V6:zB ["word"] ["word"] (zm (top 52)):=⟨rfl,rfl,rfl,by decide +kernel,rfl,by decide +kernel,by decide +kernel⟩
theorem Uh (F:Fun K "is_name" "is_name" (top 52) f fd) (B:Bs mg) (Z:Cs K mg cA cB τa τb τc τd τe τf τg τh)  : FnOk P w K mg base CX0 1 f fd ["word"] (spD K true wR):=by
 have sc:=V6
 refine F.ok sc (fun vs H Q E h=>zR Vu h) (fun cdv A outer s H vs Q E hr h=>?_)
 obtain ⟨Fh,ds,d,le,dp,p,q⟩:=h
 refine ⟨_,(zg (zH (xT (Vb YT YT zh (zq v6 rfl B.len (by decide +kernel) (zb (pv 0) zd)) (wx (v:=.int 8) rfl Z.n_LONGEST_NAME ⟨_,rfl⟩)) (xO (zq (xy (K:=K) rfl rfl) rfl B.all (by decide +kernel) (zb (yk rfl (N:=["sign"]) (js:=[none]) (by walk_at"comp_ok") (zaj (pv 0)) (fun _ _ _ _=>(zk (i:=0) (show List.Nodup (["sign"]:List PySem.Str) by decide +kernel) rfl (Or.inl rfl))) (fun _ _ _ _=>yh) (fun _ _ _ _=>(yA zat (pv 0) (wx (v:=.str "abcdefghijklmnopqrstuvwxyz") rfl Z.n_LETTERS ⟨_,rfl⟩) (rfl)))) zd)))))),?_⟩
 have hN:(["word"]:List Str).length=1:=rfl
 obtain ⟨z,rfl,nm,rfl⟩:=p
 have big:=zJ
 have l1:=nm.p
 have l2:=nm.l
 have ls:z.cps.toList.length=z.length:=rfl
 walk_at"run"
 refine zP true (d:=.bool true) (EvE.eq (wf (a:=decide ((1:Int)≤(z.length:Int)) && decide ((z.length:Int)≤8)) (b:=(z.cps.toList.map fun _=>true).all fun b=>b) (ZY (by walk_at"ev") (Zh (by walk_at"ev") (by omega)) fun _=>by walk_at"ev") fun _=>vK (bs:=z.cps.toList.map fun _=>true) (EvO.toL (EvO.eq (yg (κ:=false) (is:=[0]) (xs:=z.cps.toList) false (fun c=>.str ⟨#[c]⟩) (fun _=>.bool true) (fun x _ y _ h=>rfl) (zbm (by walk_at"ev")) (by walk_at"cc") rfl (by decide) (by omega) fun c hc=>egn (by walk_at"sc") (EvE.eq (zbg (by walk_at"ev") (by walk_at"ev")) (congrArg PyData.bool (zdP (nm.s c hc))))) (by rw [ζr]; rfl)))) ?_) rfl (.inl ⟨rfl,rfl⟩)
 rw [decide_eq_true (show (1:Int)≤(z.length:Int) by omega),decide_eq_true (show (z.length:Int)≤8 by omega)]
 simp
def fwS (z:Str) (b:Bool):Str:=if b then z ++ (⟨#[42]⟩:Str) else z
def y9 (ds:List PyData) (d:PyData):Prop:=∃ (z:Str) (b:Bool),ds=[.str (fwS z b)]∧NmOk z∧d=.bool true
theorem uL (ds:List PyData) (d:PyData) (h:y9 ds d):ds.length=1:=by obtain ⟨a,b,rfl,_⟩:=h; rfl
theorem NmOk.end {z:Str} (nm:NmOk z):Txt.endswith z ("*" : Str)=false:=by
 show Txt.endswith z (Tx.sg 42)=false
 rw [Tx.Wn]
 refine decide_eq_false fun h=>?_
 have:=nm.s 42 (List.mem_of_getLast? h)
 omega
theorem u4:zB ["word"] ["word"] (zm (top 51)):=⟨rfl,rfl,rfl,by decide +kernel,rfl,by decide +kernel,by decide +kernel⟩
theorem u9 (F:Fun K "is_first_word" "is_first_word" (top 51) f fd) (B:Bs mg) (Z:Cs K mg cA cB τa τb τc τd τe τf τg τh) (c_is_name:zC P w K mg base CX0 "is_name" ["word"] 1 (spD K true wR)):FnOk P w K mg base CX0 2 f fd ["word"] (spD K true y9):=by
 have sc:=u4
 refine F.ok sc (fun vs H Q E h=>zR uL h) (fun cdv A outer s H vs Q E hr h=>?_)
 obtain ⟨Fh,ds,d,le,dp,p,q⟩:=h
 refine ⟨_,(zg (zH (Va (yC (yb (K:=K) rfl ζ0 PySem.F.slot_str_endswith PySem.F.type_str_endswith Vr (pv 0) (zb yI zd))) (zM c_is_name (hr.mono (by decide)) rfl zN (zb (yZ Xm (pv 0) xN (xt (zam VU zh))) zd)) (zM c_is_name (hr.mono (by decide)) rfl zN (zb (pv 0) zd))))),?_⟩
 have hN:(["word"]:List Str).length=1:=rfl
 obtain ⟨z,b,rfl,nm,rfl⟩:=p
 have big:=zJ
 have l2:=nm.l
 cases b with
 | false =>
  have dp:zT K Fh vs [.str z]:=dp
  walk_at"run"
  exact zP true (d:=.bool true) (Wl (b:=false) (EvT.eq (et_B (ZX (z:=z) (y:=("*" : Str)) (by walk_at"ev") (by walk_at"ev"))) nm.end) (fun h=>nomatch h) fun _=>zr (by walk_at"ev") ⟨z,rfl,nm,rfl⟩) rfl (.inl ⟨rfl,rfl⟩)
 | true =>
  have dp:zT K Fh vs [.str (z ++ (⟨#[42]⟩:Str))]:=dp
  have ll:(z ++ (⟨#[42]⟩:Str)).length≤sizeLine:=by
   rw [Str.length_append]
   show z.length + 1≤_
   omega
  have e1:Txt.endswith (z ++ (⟨#[42]⟩:Str)) ("*" : Str)=true:=by
   show Txt.endswith (z ++ Tx.sg 42) (Tx.sg 42)=true
   rw [Tx.Wn,Tx.vM]
   exact decide_eq_true (by simp)
  have pn:wR [.str (Txt.slice (z ++ (⟨#[42]⟩:Str)) none (some (-1)))] (.bool true):=⟨_,rfl,by rw [show Txt.slice (z ++ (⟨#[42]⟩:Str)) none (some (-1))=z from Tx.zbq z 42]; exact nm,rfl⟩
  walk_at"run"
  exact zP true (d:=.bool true) (Wl (b:=true) (EvT.eq (et_B (ZX (z:=z ++ (⟨#[42]⟩:Str)) (y:=("*" : Str)) (by walk_at"ev") (by walk_at"ev"))) e1) (fun _=>zr (zi (Wh (z:=z ++ (⟨#[42]⟩:Str)) (by walk_at"ev") ll (by walk_at"ev") (xf (Wi (i:=1) (by walk_at"ev")))) zG) pn) fun h=>nomatch h) rfl (.inl ⟨rfl,rfl⟩)
abbrev numS (m:Nat):Str:=Str.ofString (toString ((m:Nat):Int))
def xD (ds:List PyData) (d:PyData):Prop:=∃ m:Nat,ds=[.str (numS m)]∧(numS m).length≤60∧d=.bool true
theorem uh (ds:List PyData) (d:PyData) (h:xD ds d):ds.length=1:=by obtain ⟨a,rfl,_⟩:=h; rfl
theorem xi {x:Str} (h:∀ c∈x.cps.toList,c≤127):SeqAt.shaped (.str x)=true:=by
 have:PyData.strOk x=true:=by
  show (x.cps.all fun c=>decide (c < 1114112))=true
  rw [← Array.all_toList,ζ9]
  intro c hc
  have:=h c hc
  exact decide_eq_true (by omega)
 simp [SeqAt.shaped,PyData.canLay0,PyData.depth,this]
theorem yL (x y:Str):PyData.eqv (.str x) (.str y)=decide (x=y):=by
 by_cases h:x=y
 ·subst h
  rw [decide_eq_true rfl]
  simp [PyData.eqv]
 ·rw [decide_eq_false h]
  simp [PyData.eqv,h]
theorem ux:zB ["word"] ["word"] (zm (top 55)):=⟨rfl,rfl,rfl,by decide +kernel,rfl,by decide +kernel,by decide +kernel⟩
theorem uI (F:Fun K "is_weight_word" "is_weight_word" (top 55) f fd) (B:Bs mg) (Z:Cs K mg cA cB τa τb τc τd τe τf τg τh)  : FnOk P w K mg base CX0 1 f fd ["word"] (spD K true xD):=by
 have sc:=ux
 refine F.ok sc (fun vs H Q E h=>zR uh h) (fun cdv A outer s H vs Q E hr h=>?_)
 obtain ⟨Fh,ds,d,le,dp,p,q⟩:=h
 refine ⟨_,(ze (yF (PW.pt (Zy (yU (zag YT YT zh (zq v6 rfl B.len (by decide +kernel) (zb (pv 0) zd)) (wx (v:=.int 60) rfl Z.n_LONGEST_WEIGHT ⟨_,rfl⟩))) (Zx (yU (yC (zq (xy (K:=K) rfl rfl) rfl B.all (by decide +kernel) (zb (yk rfl (N:=["sign"]) (js:=[none]) (by walk_at"comp_ok") (zaj (pv 0)) (fun _ _ _ _=>(zk (i:=0) (show List.Nodup (["sign"]:List PySem.Str) by decide +kernel) rfl (Or.inl rfl))) (fun _ _ _ _=>yh) (fun _ _ _ _=>(yA zat (pv 0) (wx (v:=.str "0123456789") rfl Z.n_FIGURES ⟨_,rfl⟩) (rfl)))) zd))))))) (zg (zH tQ)) yc)
   (zg (zH (zc5 (yA (U9 (K:=K) rfl hr.units) (pv 0) yI (ye _)) (xO (yA (U7 (K:=K) rfl hr.units) (zL X8 (pv 0) zh (fun _ _=>rfl)) yI (ye _))))))),?_⟩
 have hN:(["word"]:List Str).length=1:=rfl
 obtain ⟨m,rfl,hl,rfl⟩:=p
 have big:=zJ
 have ne:=Tx.zav m
 have ls:(numS m).cps.toList.length=(numS m).length:=rfl
 have lp:1≤(numS m).length:=by
  rw [← ls]
  exact List.length_pos_iff.mpr ne
 have fg:∀ c∈(numS m).cps.toList,48≤c∧c≤57:=fun c hc=>Tx.xU hc
 have sg:=PySem.W.KIN.signs_num m
 obtain ⟨c,c0,cz⟩:∃ c:Nat,(numS m).cps.toList[0]?=some c∧(m≠0→c≠48):=by
  cases e:Nat.toDigits 10 m with
  | nil =>
   have:=Tx.Wo m
   rw [e] at this
   cases this
  | cons a r =>
   refine ⟨a.toNat,by rw [sg,e]; rfl,fun h0 z=>?_⟩
   have:=Tx.zbn m h0 a (by rw [e]; rfl)
   refine this (Char.ext (UInt32.toNat_inj.mp ?_))
   exact z
 have at0:atI (numS m).cps.toList (0:Int)=some c:=yX (j:=0) c0
 have f7:∀ c∈(numS m).cps.toList,c≤127:=fun c hc=>by have:=fg c hc; omega
 have s0:SeqAt.shaped (.str ("0" : Str))=true:=xi (by decide)
 have fc:∀ e∈(⟨#[c]⟩:Str).cps.toList,e≤127:=fun e he=>by
  have he:e∈[c]:=he
  rw [ζh.mp he]
  exact f7 c (ζd c0)
 have m0:m=0→numS m=("0" : Str):=fun h=>by rw [h]; rfl
 walk_at"run"
 refine xP (b:=!(decide ((1:Int)≤((numS m).length:Int)) && decide (((numS m).length:Int)≤60)) || !(((numS m).cps.toList.map fun _=>true).all fun b=>b)) (tT (xk (yf (ZY (by walk_at"ev") (Zh (by walk_at"ev") (by omega)) fun _=>by walk_at"ev"))) fun _=>xk (et_B (vK (bs:=(numS m).cps.toList.map fun _=>true) (EvO.toL (EvO.eq (yg (κ:=false) (is:=[0]) (xs:=(numS m).cps.toList) false (fun c=>.str ⟨#[c]⟩) (fun _=>.bool true) (fun x _ y _ h=>rfl) (zbm (by walk_at"ev")) (by walk_at"cc") rfl (by decide) (by omega) fun c hc=>egn (by walk_at"sc") (EvE.eq (zbg (by walk_at"ev") (by walk_at"ev")) (congrArg PyData.bool (zdX (fg c hc))))) (by rw [ζr]; rfl)))))) ?_ ?_
 ·rw [decide_eq_true (show (1:Int)≤((numS m).length:Int) by omega),decide_eq_true (show ((numS m).length:Int)≤60 by omega)]
  simp
 by_cases h0:m=0
 ·have e:=m0 h0
  exact zP true (d:=.bool true) (EvE.eq (VD (a:=true) (b:=true) (EvE.eq (uk (neg:=false) (d:=.str (numS m)) (f:=.str ("0" : Str)) (EvE.toD (κ:=false) (by walk_at"ev")) (EvE.toD (κ:=false) (by walk_at"ev")) (xi f7) s0) (by show PyData.bool (PyData.eqv _ _)=_; rw [yL,decide_eq_true e])) fun h=>nomatch h) rfl) rfl (.inl ⟨rfl,rfl⟩)
 ·have c48:=cz h0
  have ne2:(⟨#[c]⟩:Str)≠("0" : Str):=fun h=>c48 (by
   have:=congrArg (fun s:Str=>s.cps.toList) h
   have:[c]=[48]:=this
   cases this
   rfl)
  have ne1:(numS m)≠("0" : Str):=fun h=>by
   rw [h] at c0
   have:some 48=some c:=c0
   cases this
   exact c48 rfl
  exact zP true (d:=.bool true) (EvE.eq (VD (a:=false) (b:=true) (EvE.eq (uk (neg:=false) (d:=.str (numS m)) (f:=.str ("0" : Str)) (EvE.toD (κ:=false) (by walk_at"ev")) (EvE.toD (κ:=false) (by walk_at"ev")) (xi f7) s0) (by show PyData.bool (PyData.eqv _ _)=_; rw [yL,decide_eq_false ne1])) fun _=>EvE.eq (uk (neg:=true) (d:=.str ⟨#[c]⟩) (f:=.str ("0" : Str)) (EvE.toD (κ:=false) (Wk (by walk_at"ev") (by walk_at"ev") (by omega) at0)) (EvE.toD (κ:=false) (by walk_at"ev")) (xi fc) s0) (by show PyData.bool (!PyData.eqv _ _)=_; rw [yL,decide_eq_false ne2]; rfl)) rfl) rfl (.inl ⟨rfl,rfl⟩)
def xV (ds:List PyData) (d:PyData):Prop:=∃ m:Nat,ds=[.str (numS m)]∧(numS m).length≤60∧d=.int (m:Int)
theorem Yx (ds:List PyData) (d:PyData) (h:xV ds d):ds.length=1:=by obtain ⟨a,rfl,_⟩:=h; rfl
theorem Xq:zB ["word"] ["word"] (zm (top 54)):=⟨rfl,rfl,rfl,by decide +kernel,rfl,by decide +kernel,by decide +kernel⟩
theorem XI (F:Fun K "weight_of" "weight_of" (top 54) f fd) (B:Bs mg) (Z:Cs K mg cA cB τa τb τc τd τe τf τg τh) (c_is_weight_word:zC P w K mg base CX0 "is_weight_word" ["word"] 1 (spD K true xD)):FnOk P w K mg base CX0 2 f fd ["word"] (spD K true xV):=by
 have sc:=Xq
 refine F.ok sc (fun vs H Q E h=>zR Yx h) (fun cdv A outer s H vs Q E hr h=>?_)
 obtain ⟨Fh,ds,d,le,dp,p,q⟩:=h
 refine ⟨_,(ze (yF (yU (yC (zM c_is_weight_word (hr.mono (by decide)) rfl zN (zb (pv 0) zd)))) (zg yY) yc)
   (zg (zH (yD Xb rfl B.int (by decide +kernel) (zb (pv 0) zd))))),?_⟩
 have hN:(["word"]:List Str).length=1:=rfl
 obtain ⟨m,rfl,hl,rfl⟩:=p
 walk_at"run"
 refine xP (b:=!true) (xk (et_B (zr (by walk_at"ev") ⟨m,rfl,hl,rfl⟩))) rfl ?_
 exact zP true (TC (by walk_at"ev") (Tx.Vn (ζM hl (by decide))) (ζM hl (by decide))) rfl (.inl ⟨rfl,rfl⟩)
structure NsOk (ns:List Str):Prop where
 nd:ns.Nodup
 s:∀ z∈ns,∀ c∈z.cps.toList,c≤127
 l:ns.length≤12
theorem wS {x:Str} (h:∀ c∈x.cps.toList,c≤127):low (.str x)=true:=by
 have:PyData.strOk x=true:=by
  show (x.cps.all fun c=>decide (c < 1114112))=true
  rw [← Array.all_toList,ζ9]
  intro c hc
  have:=h c hc
  exact decide_eq_true (by omega)
 simp [low,PyData.canLay0,PyData.depth,this]
theorem NsOk.at {ns:List Str} (n:NsOk ns) {k:Nat} (hk:k < ns.length):ns[k]?=some (ns.getD k Str.empty)∧ns.getD k Str.empty∈ns∧low (.str (ns.getD k Str.empty))=true:=by
 have g:ns[k]?=some (ns.getD k Str.empty):=by rw [ζc,ζf hk]; rfl
 exact ⟨g,ζd g,wS (n.s _ (ζd g))⟩
theorem NsOk.inj {ns:List Str} (n:NsOk ns) {i j:Nat} (hi:i < ns.length) (hj:j < ns.length) (h:ns.getD i Str.empty=ns.getD j Str.empty):i=j:=by
 rw [ζc,ζf hi,ζc,ζf hj] at h
 exact (List.getElem_inj n.nd).mp h
theorem NsOk.low {ns:List Str} (n:NsOk ns):∀ e∈ns.map PyData.str,low e=true:=fun e he=>by
 obtain ⟨z,hz,rfl⟩:=ζq.mp he
 exact wS (n.s z hz)
def wF (ds:List PyData) (d:PyData):Prop:=∃ (ns:List Str) (ks:List Nat),ds=[.list (ns.map .str),.list (ks.map fun k=>.str (ns.getD k Str.empty))]∧NsOk ns∧(∀ k∈ks,k < ns.length)∧ks.length≤12∧d=nl ks
theorem ZK (ds:List PyData) (d:PyData) (h:wF ds d):ds.length=2:=by obtain ⟨a,b,rfl,_⟩:=h; rfl
theorem Yb:zB ["names", "words"] ["names", "words"] (zm (top 56)):=⟨rfl,rfl,rfl,by decide +kernel,rfl,by decide +kernel,by decide +kernel⟩
theorem Yl (F:Fun K "numbers_of" "numbers_of" (top 56) f fd) (B:Bs mg) (Z:Cs K mg cA cB τa τb τc τd τe τf τg τh)  : FnOk P w K mg base CX0 1 f fd ["names", "words"] (spD K true wF):=by
 have sc:=Yb
 refine F.ok sc (fun vs H Q E h=>zR ZK h) (fun cdv A outer s H vs Q E hr h=>?_)
 obtain ⟨Fh,ds,d,le,dp,p,q⟩:=h
 refine ⟨_,(ze (yF (yU (yC (zq (xy (K:=K) rfl rfl) rfl B.all (by decide +kernel) (zb (yk rfl (N:=["word", "names"]) (js:=[none,some 0]) (by walk_at"comp_ok") (zI (K:=K) rfl (pv 1)) (fun _ _ _ _=>(zk (i:=0) (show List.Nodup (["word", "names"]:List PySem.Str) by decide +kernel) rfl (Or.inl rfl))) (fun _ _ _ _=>yh) (fun _ _ _ _=>(yA (zb3 (K:=K) rfl hr.units) (pv 0) (pv 1) (rfl)))) zd)))) (zg yY) yc)
   (zg (zH (yk rfl (N:=["word", "names"]) (js:=[none,some 0]) (by walk_at"comp_ok") (zI (K:=K) rfl (pv 1)) (fun _ _ _ _=>(zk (i:=0) (show List.Nodup (["word", "names"]:List PySem.Str) by decide +kernel) rfl (Or.inl rfl))) (fun _ _ _ _=>yh) (fun _ _ _ _=>(yb (K:=K) rfl ζo ξ5 ξ4 (ZH (K:=K) rfl hr.units) (pv 1) (zb (pv 0) zd))))))),?_⟩
 have hN:(["names", "words"]:List Str).length=2:=rfl
 obtain ⟨ns,ks,rfl,n,lt,kl,rfl⟩:=p
 have big:=zJ
 have inj:∀ x∈ks,∀ y∈ks,PyData.str (ns.getD x Str.empty)=PyData.str (ns.getD y Str.empty)→x=y:=fun x hx y hy h=>n.inj (lt x hx) (lt y hy) (PyData.str.inj h)
 walk_at"run"
 refine xP (b:=!((ks.map fun _=>true).all fun b=>b)) (xk (et_B (vK (bs:=ks.map fun _=>true) (EvO.toL (EvO.eq (yg (κ:=false) (is:=[0]) (xs:=ks) false (fun k=>.str (ns.getD k Str.empty)) (fun _=>.bool true) (fun x _ y _ h=>rfl) (zS (by walk_at"ev")) (by walk_at"cc") rfl (by decide) (by omega) fun k hk=>egn (by walk_at"sc") ?_) (by rw [List.map_map]; rfl)))))) (by simp) ?_
 ·have A:=n.at (lt k hk)
  refine EvE.eq (zbi (neg:=false) (d:=.str (ns.getD k Str.empty)) (ds:=ns.map PyData.str) (by walk_at"ev") (EvE.toL (by walk_at"ev")) A.2.2 n.low) (congrArg PyData.bool ?_)
  show (ns.map PyData.str).any _=true
  rw [List.any_map,ξe]
  exact ⟨_,A.2.1,by show PyData.eqv _ _=true; rw [yL]; exact decide_eq_true rfl⟩
 refine zP true (EvO.toE (yg (κ:=true) (is:=[0]) (xs:=ks) false (fun k=>.str (ns.getD k Str.empty)) (fun k:Nat=>.int (k:Int)) (fun x hx y hy h=>by rw [inj x hx y hy h]) (zS (by walk_at"ev")) (by walk_at"cc") rfl (by decide) (by omega) fun k hk=>egn (by walk_at"sc") ?_)) rfl (.inl ⟨rfl,rfl⟩)
 have kn:=lt k hk
 have A:=n.at kn
 refine Y7 (ds:=ns.map PyData.str) (d:=.str (ns.getD k Str.empty)) (j:=k) (EvE.toL (by walk_at"ev")) (by walk_at"ev") A.2.2 n.low (by rw [ζa]; exact kn) (fun e he=>?_) (fun m e mk he=>?_)
 ·rw [ζl,A.1] at he
  cases he
  rw [yL]
  exact decide_eq_true rfl
 ·have ml:m < ns.length:=by omega
  rw [ζl,(n.at ml).1] at he
  cases he
  rw [yL]
  exact decide_eq_false fun h=>by
   have:=n.inj ml kn h
   omega
structure LsOk (ls:List Str):Prop where
 n:∀ z∈ls,10∉z.cps.toList
 p:∀ z∈ls,1≤z.length
 s:∀ z∈ls,∀ c∈z.cps.toList,c≤127
 l:(Str.join (Tx.sg 10) ls).length + 2≤sizeLine
 k:ls.length≤12
def vB (ds:List PyData) (d:PyData):Prop:=∃ ls:List Str,ds=[.str (Str.join (Tx.sg 10) ls)]∧LsOk ls∧d=.list (ls.map .str)
theorem X0 (ds:List PyData) (d:PyData) (h:vB ds d):ds.length=1:=by obtain ⟨a,rfl,_⟩:=h; rfl
theorem LsOk.as {ls:List Str} (h:LsOk ls):∀ c∈(Str.join (Tx.sg 10) ls).cps.toList,c≤127:=fun c hc=>by
 cases ls with
 | nil=>cases hc
 | cons z r =>
  rw [Tx.x6] at hc
  rcases ζu.mp hc with hc | hc
  ·exact h.s z ζi c hc
  ·obtain ⟨y,hy,hc⟩:=List.mem_flatMap.mp hc
   rcases ζs.mp hc with rfl | hc
   ·decide
   ·exact h.s y (ζk _ hy) c hc
theorem WT:zB ["text"] ["text"] (zm (top 49)):=⟨rfl,rfl,rfl,by decide +kernel,rfl,by decide +kernel,by decide +kernel⟩
theorem Vg (F:Fun K "lines_of" "lines_of" (top 49) f fd) (B:Bs mg) (Z:Cs K mg cA cB τa τb τc τd τe τf τg τh)  : FnOk P w K mg base CX0 1 f fd ["text"] (spD K true vB):=by
 have sc:=WT
 refine F.ok sc (fun vs H Q E h=>zR X0 h) (fun cdv A outer s H vs Q E hr h=>?_)
 obtain ⟨Fh,ds,d,le,dp,p,q⟩:=h
 refine ⟨_,(ze (yF (yU (yC (zq (yW (K:=K) rfl) rfl B.isinstance (by decide +kernel) (zb (pv 0) (zb (xW (v:=.ty "str") rfl B.str (by decide +kernel) rfl) zd))))) (zg yY) yc)
   (zg (zH (Va (yn (U7 (K:=K) rfl hr.units) (pv 0) yI (ye _)) (yb (K:=K) rfl ζ0 PySem.F.slot_str_split PySem.F.type_str_split Vp (pv 0) (zb yI zd)) (zW zd))))),?_⟩
 have hN:(["text"]:List Str).length=1:=rfl
 obtain ⟨ls,rfl,ok,rfl⟩:=p
 have big:=zJ
 have l1:=ok.l
 have s1:=xi ok.as
 have s2:SeqAt.shaped (.str ("" : Str))=true:=xi (fun c hc=>by cases hc)
 walk_at"run"
 refine xP (b:=!true) (by walk_at"ev") rfl ?_
 cases ls with
 | nil =>
  refine zP true (d:=.list []) (Wl (b:=false) (EvT.eq (yf (uk (neg:=true) (EvE.toD (κ:=false) (by walk_at"ev")) (EvE.toD (κ:=false) (by walk_at"ev")) s1 s2)) ?_) (fun h=>nomatch h) fun _=>EvO.toE (zZ (ds:=[]) zG (by decide))) rfl (.inl ⟨rfl,rfl⟩)
  refine (if_pos rfl).trans ?_
  rw [yL]
  rfl
 | cons z r =>
  have sp:Txt.split (Str.join (Tx.sg 10) (z :: r)) (Tx.sg 10)=z :: r:=Tx.Zr (by decide) (fun h=>nomatch h) ok.n
  have ne:Str.join (Tx.sg 10) (z :: r)≠("" : Str):=fun h=>by
   have h:=congrArg (fun s:Str=>s.cps.toList) h
   have h:(Str.join (Tx.sg 10) (z :: r)).cps.toList=[]:=h
   rw [Tx.x6] at h
   have:=ok.p z ζi
   have hz:z.cps.toList=[]:=(List.append_eq_nil_iff.mp h).1
   have:z.cps.toList.length=z.length:=rfl
   rw [hz] at this
   have:0=z.length:=this
   omega
  have k12:=ok.k
  have hp:=length_partsBetween (Str.join (Tx.sg 10) (z :: r)) (Builtin.Str.occurrences (Str.join (Tx.sg 10) (z :: r)) (Tx.sg 10) 0 (Str.join (Tx.sg 10) (z :: r)).length ((Str.join (Tx.sg 10) (z :: r)).length + 1)) 1
  have ho:=StrLaws.occ_length_le (Str.join (Tx.sg 10) (z :: r)) (Tx.sg 10) 0 (Str.join (Tx.sg 10) (z :: r)).length ((Str.join (Tx.sg 10) (z :: r)).length + 1)
  refine zP true (d:=.list ((z :: r).map .str)) (Wl (b:=true) (EvT.eq (yf (uk (neg:=true) (EvE.toD (κ:=false) (by walk_at"ev")) (EvE.toD (κ:=false) (by walk_at"ev")) s1 s2)) ?_) (fun _=>EvO.toE (EvO.eq (Y6 (y:=("\n" : Str)) (by walk_at"ev") (by walk_at"ev") rfl (by omega) ?_ ?_) ?_)) fun h=>nomatch h) rfl (.inl ⟨rfl,rfl⟩)
  ·show (!PyData.eqv _ _)=true
   rw [yL,decide_eq_false ne]
   rfl
  ·show (Builtin.Str.partsBetween _ (Builtin.Str.occurrences _ (Tx.sg 10) _ _ _) 1).length≤_
   omega
  ·show (Txt.split _ (Tx.sg 10)).length≤_
   rw [sp]
   omega
  ·show (Txt.split _ (Tx.sg 10)).map _=_
   rw [sp]
def xS (ds:List PyData) (d:PyData):Prop:=∃ (z:Str) (b:Bool) (s:Nat) (r:List Str),ds=[.list ((fwS z b :: numS s :: r).map .str)]∧NmOk z∧2≤s∧s≤4∧r.length≤12∧d=.list ((fwS z b :: numS s :: r).map .str)
theorem tq (ds:List PyData) (d:PyData) (h:xS ds d):ds.length=1:=by obtain ⟨a,b,c,e,rfl,_⟩:=h; rfl
theorem zbK {s:Nat} (h1:2≤s) (h2:s≤4):([PyData.str ("2" : Str),.str ("3" : Str),.str ("4" : Str)].any fun e=>PyData.eqv e (.str (numS s)))=true:=by
 have:s=2∨s=3∨s=4:=by omega
 rw [ξe]
 rcases this with rfl | rfl | rfl
 ·exact ⟨_,.head _,by rw [yL]; exact decide_eq_true rfl⟩
 ·exact ⟨_,.tail _ (.head _),by rw [yL]; exact decide_eq_true rfl⟩
 ·exact ⟨_,.tail _ (.tail _ (.head _)),by rw [yL]; exact decide_eq_true rfl⟩
theorem tW:zB ["words"] ["words"] (zm (top 50)):=⟨rfl,rfl,rfl,by decide +kernel,rfl,by decide +kernel,by decide +kernel⟩
theorem tX (F:Fun K "checked_head" "checked_head" (top 50) f fd) (B:Bs mg) (Z:Cs K mg cA cB τa τb τc τd τe τf τg τh) (c_is_first_word:zC P w K mg base CX0 "is_first_word" ["word"] 2 (spD K true y9)):FnOk P w K mg base CX0 3 f fd ["words"] (spD K false xS):=by
 have sc:=tW
 refine F.ok sc (fun vs H Q E h=>zR tq h) (fun cdv A outer s H vs Q E hr h=>?_)
 obtain ⟨Fh,ds,d,le,dp,p,q⟩:=h
 refine ⟨_,(ze (yF (PW.pt (Zy (yn U8 (zq (zw (K:=K) rfl) rfl B.len (by decide +kernel) (zb (pv 0) zd)) zh (ye _)) (Zy (yU (yC (zM c_is_first_word (hr.mono (by decide)) rfl zN (zb (zL (zA (K:=K) rfl) (pv 0) zh (fun _ _=>rfl)) zd)))) (Zx (yn (Ud (K:=K) rfl hr.units) (zL (zA (K:=K) rfl) (pv 0) zh (fun _ _=>rfl)) (wx (v:=.ref cB) rfl Z.n_SIZE_WORDS rfl) (rfl)))))) (zg yY) yc)
   (zg (zH (pv 0)))),?_⟩
 have hN:(["words"]:List Str).length=1:=rfl
 obtain ⟨z,b,s,r,rfl,nm,h1,h2,rl,rfl⟩:=p
 have big:=zJ
 have ln:PyData.int ((((fwS z b :: numS s :: r).map PyData.str).length:Nat):Int)=.int ((r.length + 2:Nat):Int):=by rw [ζa]; rfl
 have a0:atI ((fwS z b :: numS s :: r).map PyData.str) (0:Int)=some (.str (fwS z b)):=yX (j:=0) rfl
 have a1:atI ((fwS z b :: numS s :: r).map PyData.str) (1:Int)=some (.str (numS s)):=yX (j:=1) rfl
 have pf:y9 [.str (fwS z b)] (.bool true):=⟨z,b,rfl,nm,rfl⟩
 have lw:low (.str (numS s))=true:=wS fun c hc=>by have:=Tx.xU hc; omega
 have l3:∀ e∈[PyData.str ("2" : Str),.str ("3" : Str),.str ("4" : Str)],low e=true:=fun e he=>by
  rcases ζs.mp he with rfl | he
  ·exact wS (by decide)
  rcases ζs.mp he with rfl | he
  ·exact wS (by decide)
  rw [ζh.mp he]
  exact wS (by decide)
 walk_at"run"
 refine xP (b:=decide (((r.length + 2:Nat):Int) < 2) || (!true || false)) (tT (yf (VE (EvE.eq (yu (ds:=(fwS z b :: numS s :: r).map PyData.str) (by walk_at"ev")) ln) (by walk_at"ev"))) fun _=>tT (xk (et_B (zr (zi (zY (κ:=false) (ds:=(fwS z b :: numS s :: r).map PyData.str) (by walk_at"ev") (by walk_at"ev") a0) zG) pf))) fun _=>EvT.eq (yf (zd7 (neg:=true) (d:=.str (numS s)) (ds:=[.str ("2" : Str),.str ("3" : Str),.str ("4" : Str)]) (zY (κ:=false) (ds:=(fwS z b :: numS s :: r).map PyData.str) (by walk_at"ev") (by walk_at"ev") a1) (Ux Z.o_SIZE_WORDS) lw l3)) ?_) ?_ ?_
 ·refine (if_pos rfl).trans ?_
  rw [zbK h1 h2]
  rfl
 ·rw [decide_eq_false (show ¬ ((r.length + 2:Nat):Int) < 2 by omega)]
  rfl
 exact zP false (by walk_at"ev") rfl (.inr rfl)
theorem zaK {n:Nat} (h:0 < n):ixN n (-1)=some (n - 1):=by
 unfold ixN
 simp
 omega
def tkS:Option Nat→Str
 | none=>("/" : Str)
 | some m=>numS m
def rowS (acc:List (List Nat)):Option Nat→List (List Nat)
 | none=>acc ++ [[]]
 | some m=>acc.set (acc.length - 1) (acc.getD (acc.length - 1) [] ++ [m])
def rwF (ts:List (Option Nat)):List (List Nat):=ts.foldl rowS [[]]
structure RwI (t:Nat) (acc:List (List Nat)):Prop where
 p:1≤acc.length
 l:acc.length≤t + 1
 r:∀ x∈acc,x.length≤t
theorem RwI.step {t:Nat} {acc:List (List Nat)} (h:RwI t acc) (o:Option Nat):RwI (t + 1) (rowS acc o):=by
 have p:=h.p
 have l:=h.l
 cases o with
 | none=>exact ⟨by show 1≤(acc ++ [[]]).length; rw [ζj]; exact Nat.le_add_left _ _,by show (acc ++ [[]]).length≤_; rw [ζj]; show acc.length + 1≤_; omega,fun x hx=>by
   rcases ζu.mp hx with hx | hx
   ·exact Nat.le_succ_of_le (h.r x hx)
   ·rw [ζh.mp hx]; exact ζY _⟩
 | some m=>exact ⟨by show 1≤(acc.set _ _).length; rw [ξr]; exact p,by show (acc.set _ _).length≤_; rw [ξr]; omega,fun x hx=>by
   rcases List.mem_or_eq_of_mem_set hx with hx | rfl
   ·exact Nat.le_succ_of_le (h.r x hx)
   ·rw [ζj]
    have g:acc[acc.length - 1]?=some (acc.getD (acc.length - 1) []):=by rw [ζc,ζf (by omega)]; rfl
    have:=h.r _ (ζd g)
    show _ + 1≤_
    omega⟩
theorem QW (m:Nat):numS m≠("/" : Str):=fun h=>by
 have h:=congrArg (fun s:Str=>s.cps.toList) h
 have h:(numS m).cps.toList=[47]:=h
 have:=Tx.xU (m:=m) (c:=47) (by show 47∈(numS m).cps.toList; rw [h]; exact ζh.mpr rfl)
 omega
def wQ (ds:List PyData) (d:PyData):Prop:=∃ ts:List (Option Nat),ds=[.list (ts.map fun o=>.str (tkS o))]∧(∀ m,some m∈ts→(numS m).length≤60)∧ts.length≤100000∧d=nls (rwF ts)
theorem Vt (ds:List PyData) (d:PyData) (h:wQ ds d):ds.length=1:=by obtain ⟨a,rfl,_⟩:=h; rfl
theorem V5:zB ["words", "found", "word"] ["words"] (zm (top 53)):=⟨rfl,rfl,rfl,by decide +kernel,rfl,by decide +kernel,by decide +kernel⟩
theorem Ug (F:Fun K "rows_of" "rows_of" (top 53) f fd) (B:Bs mg) (Z:Cs K mg cA cB τa τb τc τd τe τf τg τh) (c_weight_of:zC P w K mg base CX0 "weight_of" ["word"] 2 (spD K true xV)):FnOk P w K mg base CX0 3 f fd ["words"] (spD K true wQ):=by
 have sc:=V5
 refine F.ok sc (fun vs H Q E h=>zR Vt h) (fun cdv A outer s H vs Q E hr h=>?_)
 obtain ⟨Fh,ds,d,le,dp,p,q⟩:=h
 refine ⟨_,(ze (zF (i:=1) sc.nd rfl (Or.inl rfl) (zW (zb (zW zd) zd)))
   (ze (yi PassesOwn.never rfl (zI (K:=K) rfl (pv 0)) (zk (i:=2) sc.nd rfl (Or.inl rfl)) (zg (yF (yn (U9 (K:=K) rfl hr.units) (pv 2) yI (ye _)) (zg (yd (yb (K:=K) rfl ζo ζw ζv zV (pv 1) (zb (zW zd) zd)))) (zg (yd (yb (K:=K) rfl ζo ζw ζv zV (zL (zA (K:=K) rfl) (pv 1) (zam VU zh) (fun _ _=>rfl)) (zb (zM c_weight_of (hr.mono (by decide)) rfl zN (zb (pv 2) zd)) zd)))))))
   (zg (zH (pv 1))))),?_⟩
 have hN:(["words", "found", "word"]:List Str).length=3:=rfl
 obtain ⟨ts,rfl,ok,tl,rfl⟩:=p
 have big:=zJ
 have sl:SeqAt.shaped (.str ("/" : Str))=true:=xi (by decide)
 walk_at"run"
 refine zez (by walk_at"sc") ?_
 refine xc (ds:=ts.map fun o=>.str (tkS o)) false (fun t Γ=>∃ b,RwI t ((ts.take t).foldl rowS [[]])∧Γ=[some (.fz false (.list (ts.map fun o=>.str (tkS o)))),some (.o2 none (((ts.take t).foldl rowS [[]]).map nD)),b]) (zS (by walk_at"ev")) ⟨none,⟨ζm _,ζm _,fun x hx=>by rw [ζh.mp hx]; exact ζm _⟩,rfl⟩ ?_ ?_
 ·rintro t d Γ' hd ⟨b,I,rfl⟩
  obtain ⟨o,ho,rfl⟩:=xw hd
  have tlt:=(ζe.mp ho).1
  have st:(ts.take (t + 1)).foldl rowS [[]]=rowS ((ts.take t).foldl rowS [[]]) o:=by rw [take_succ ho,ξi]; rfl
  have I1:=I.step o
  rw [st]
  generalize (ts.take t).foldl rowS [[]]=acc at I I1
  have p:=I.p
  have l:=I.l
  refine ⟨_,egn (by walk_at"sc") ?_⟩
  cases o with
  | none =>
   refine Y3 (b:=true) (EvT.eq (yf (uk (neg:=false) (d:=.str (tkS none)) (f:=.str ("/" : Str)) (EvE.toD (κ:=false) (by walk_at"ev")) (EvE.toD (κ:=false) (by walk_at"ev")) sl sl)) (by show PyData.eqv _ _=_; rw [yL]; exact decide_eq_true rfl)) (fun _=>?_) fun h=>nomatch h
   refine Qt (ds:=[]) (by walk_at"gc") (zZ (ds:=[]) zG (by decide)) (by rw [ζa]; omega) (by walk_at"sc") ⟨some (.fz false (.str (tkS none))),I1,?_⟩
   have e:(rowS acc none).map nD=acc.map nD ++ [[]]:=by
    show (acc ++ [[]]).map nD=_
    rw [ζE]
    rfl
   rw [e]
  | some m =>
   have hm:=ok m (ζd ho)
   have g:acc[acc.length - 1]?=some (acc.getD (acc.length - 1) []):=by rw [ζc,ζf (by omega)]; rfl
   have rl:=I.r _ (ζd g)
   have sm:SeqAt.shaped (.str (tkS (some m)))=true:=xi fun c hc=>by have:=Tx.xU hc; omega
   refine Y3 (b:=false) (EvT.eq (yf (uk (neg:=false) (d:=.str (tkS (some m))) (f:=.str ("/" : Str)) (EvE.toD (κ:=false) (by walk_at"ev")) (EvE.toD (κ:=false) (by walk_at"ev")) sm sl)) (by show PyData.eqv _ _=_; rw [yL]; exact decide_eq_false (QW m))) (fun h=>nomatch h) fun _=>?_
   refine za1 (j:=acc.length - 1) (ds:=nD (acc.getD (acc.length - 1) [])) (d:=.int (m:Int)) (by walk_at"gc") (Wi (i:=1) (by walk_at"ev")) (by rw [List.length_map]; exact zaK p) (by rw [List.getElem?_map,g]; rfl) (zr (by walk_at"ev") (show xV [.str (tkS (some m))] (.int (m:Int)) from ⟨m,rfl,hm,rfl⟩)) (by unfold nD; rw [List.length_map]; omega) (by walk_at"sc") ⟨some (.fz false (.str (tkS (some m)))),I1,?_⟩
   have e:(rowS acc (some m)).map nD=(acc.map nD).set (acc.length - 1) (nD (acc.getD (acc.length - 1) []) ++ [.int (m:Int)]):=by
    show (acc.set (acc.length - 1) (acc.getD (acc.length - 1) [] ++ [m])).map nD=_
    rw [List.map_set]
    unfold nD
    rw [ζE]
    rfl
   rw [e]
 ·rintro Γ' ⟨b,I,rfl⟩
  rw [ζa,ζ4]
  refine zeB 1 (by walk_at"gc") (by walk_at"sc") ?_
  exact zP true (EvE.eq (by walk_at"ev") (by rw [ζr]; rfl)) rfl (.inl ⟨rfl,rfl⟩)
def tkF:List (List Nat)→List (Option Nat)
 | []=>[]
 | [r]=>r.map some
 | r :: t=>r.map some ++ none :: tkF t
theorem zbP (acc:List (List Nat)) (r:List Nat) (m:Nat):rowS (acc ++ [r]) (some m)=acc ++ [r ++ [m]]:=by
 have l:(acc ++ [r]).length - 1=acc.length:=by rw [ζj]; exact Nat.add_sub_cancel _ 1
 show (acc ++ [r]).set ((acc ++ [r]).length - 1) ((acc ++ [r]).getD ((acc ++ [r]).length - 1) [] ++ [m])=_
 rw [l,List.set_append_right _ _ (ζm _),ξF,ζc,ζN (ζm _),ξF]
 rfl
theorem V8:∀ (x r:List Nat) (acc:List (List Nat)),(x.map some).foldl rowS (acc ++ [r])=acc ++ [r ++ x]
 | [],r,acc=>by rw [ζW]; rfl
 | m :: x,r,acc=>by
  rw [ζT,List.foldl_cons,zbP,V8 x (r ++ [m]) acc,ζS]
  rfl
theorem U1:∀ (rs:List (List Nat)) (acc:List (List Nat)),rs≠[]→(tkF rs).foldl rowS (acc ++ [[]])=acc ++ rs
 | [],_,h=>absurd rfl h
 | [r],acc,_=>V8 r [] acc
 | r :: s :: t,acc,_=>by
  show (r.map some ++ none :: tkF (s :: t)).foldl rowS (acc ++ [[]])=_
  rw [ξi,V8 r [] acc,List.foldl_cons]
  show (tkF (s :: t)).foldl rowS (acc ++ [[] ++ r] ++ [[]])=_
  rw [U1 (s :: t) (acc ++ [[] ++ r]) (fun z=>nomatch z),ζS]
  rfl
theorem zbQ {rs:List (List Nat)} (h:rs≠[]):rwF (tkF rs)=rs:=U1 rs [] h
theorem ZU {z:Str} (nm:NmOk z) (b:Bool):Txt.rstripChars (fwS z b) ("*" : Str)=z:=by
 have no:42∉z.cps.toList:=fun h=>by have:=nm.s 42 h; omega
 cases b with
 | false=>exact Tx.zek (c:=42) no
 | true=>exact Tx.zdu (c:=42) no
theorem zdW {z:Str} (nm:NmOk z) (b:Bool):Txt.endswith (fwS z b) ("*" : Str)=b:=by
 cases b with
 | false=>exact nm.end
 | true =>
  show Txt.endswith (z ++ Tx.sg 42) (Tx.sg 42)=true
  rw [Tx.Wn,Tx.vM]
  exact decide_eq_true (by simp)
theorem uT {α:Type} (g:α→PyData) (xs:List α) (k:Nat):cutD (xs.map g) (some (k:Int)) none=(xs.drop k).map g:=by
 unfold cutD
 have e1:HT.sIx (xs.map g).length 0 (some (k:Int))=min k xs.length:=by
  simp [HT.sIx]
  omega
 have e2:HT.sIx (xs.map g).length (xs.map g).length none=xs.length:=by simp [HT.sIx]
 rw [e1,e2,← List.map_drop,← ξ7]
 congr 1
 by_cases h:k≤xs.length
 ·rw [ξH h]
  exact ζA (by rw [ζR]; omega)
 ·rw [Nat.min_eq_right (by omega),List.drop_of_length_le (ζm _),List.drop_of_length_le (by omega)]
  simp
def tabF (ss:List Int) (L:List Nat) (R:List (List Nat)):List (List Nat):=(wds (pk ss (srtN L))).map fun w=>R.getD (rkF (pk ss L) (vals (fil (List.replicate ss.length none) (srtN L) w) L)).toNat []
structure TbK (ss:List Int) (L:List Nat) (R:List (List Nat)):Prop where
 s:∀ s∈ss,2≤s∧s≤4
 n:ss.length≤12
 c:∀ c∈L,c < ss.length
 l:L.length≤5
 nd:L.Nodup
 r:(R.length:Int)=prod (pk ss L)
theorem vR (L:List Nat):(srtN L).length=L.length:=(xq L).length_eq
theorem v7 {ss:List Int} (hs:∀ s∈ss,2≤s∧s≤4) {L:List Nat} (hc:∀ c∈L,c < ss.length):∀ s∈pk ss L,2≤s∧s≤4:=fun s h=>by
 obtain ⟨j,hj,rfl⟩:=ζq.mp h
 exact yE hs (hc j hj)
theorem vf (ss:List Int) (L:List Nat):(pk ss L).length=L.length:=by unfold Sx2.pk; rw [List.length_map]
theorem uE {ss:List Int} (hs:∀ s∈ss,2≤s∧s≤4) {L:List Nat} (hc:∀ c∈L,c < ss.length) (hl:L.length≤5):prod (pk ss L)≤1024∧1≤prod (pk ss L):=uD (pk ss L) 5 (fun s h=>by have:=v7 hs hc s h; omega) (by rw [vf]; exact hl)
theorem Zf {ss:List Int} {Ks:List Nat} {w:List Int} {c:Nat} (hs:∀ s∈ss,2≤s∧s≤4) (kn:Ks.Nodup) (kl:∀ c∈Ks,c < ss.length) (hw:w∈wds (pk ss Ks)) (hc:c∈Ks):∃ (m:Nat) (x:Int),Ks[m]?=some c∧w[m]?=some x∧(fil (List.replicate ss.length none) Ks w).getD c none=some x∧0≤x∧x < ss.getD c 0:=by
 obtain ⟨m,hm⟩:=ζH.mp hc
 have ml:=(ζe.mp hm).1
 have wl:w.length=Ks.length:=by rw [t9 hw,vf]
 have hx:w[m]?=some w[m]:=ζf (by omega)
 have pm:(pk ss Ks)[m]?=some (ss.getD c 0):=by unfold Sx2.pk; rw [List.getElem?_map,hm]; rfl
 have b:=QL (fun s h=>by have:=v7 hs kl s h; omega) hw m _ _ pm hx
 have f:=zaX Ks w (List.replicate ss.length none) m c _ kn hm hx (by rw [ξc]; exact kl c hc)
 exact ⟨m,_,hm,hx,by rw [ζc,f]; rfl,b⟩
theorem UP {ss:List Int} {L Ks:List Nat} {w:List Int} (hs:∀ s∈ss,2≤s∧s≤4) (kn:Ks.Nodup) (kl:∀ c∈Ks,c < ss.length) (hw:w∈wds (pk ss Ks)) (sub:∀ c∈L,c∈Ks):0≤rkF (pk ss L) (vals (fil (List.replicate ss.length none) Ks w) L)∧rkF (pk ss L) (vals (fil (List.replicate ss.length none) Ks w) L) < prod (pk ss L):=by
 refine YR (by unfold vals; rw [vf,List.length_map]) fun i s v h1 h2=>?_
 unfold Sx2.pk at h1
 unfold vals at h2
 rw [ζl] at h1 h2
 obtain ⟨c,hc,rfl⟩:=ξk.mp h1
 rw [hc] at h2
 obtain ⟨m,x,_,_,e,x0,x1⟩:=Zf hs kn kl hw (sub c (ζd hc))
 have h2:((fil (List.replicate ss.length none) Ks w).getD c none).getD 0=v:=ζD h2
 rw [e] at h2
 have h2:x=v:=h2
 subst h2
 exact ⟨x0,x1⟩
def vz (ds:List PyData) (d:PyData):Prop:=∃ (ss:List Int) (L:List Nat) (R:List (List Nat)),ds=[il ss,nl L,nls R]∧TbK ss L R∧d=nls (tabF ss L R)
theorem XY (ds:List PyData) (d:PyData) (h:vz ds d):ds.length=3:=by obtain ⟨a,b,c,rfl,_⟩:=h; rfl
theorem WR:zB ["sizes", "own", "rows", "listed_sizes", "found", "view"] ["sizes", "own", "rows"] (zm (top 58)):=⟨rfl,rfl,rfl,by decide +kernel,rfl,by decide +kernel,by decide +kernel⟩
theorem Ve (F:Fun K "table_of" "table_of" (top 58) f fd) (B:Bs mg) (Z:Cs K mg cA cB τa τb τc τd τe τf τg τh) (c_picked:zC P w K mg base CX0 "picked" ["values", "things"] 1 (spD K true wD)) (c_count_of:zC P w K mg base CX0 "count_of" ["sizes"] 1 (spD K true wu)) (c_views_of:zC P w K mg base CX0 "views_of" ["sizes", "view", "things"] 4 (spD K true vy)) (c_rank:zC P w K mg base CX0 "rank" ["sizes", "world"] 1 (spD K true Zz)):FnOk P w K mg base CX0 5 f fd ["sizes", "own", "rows"] (spI K vz):=by
 have sc:=WR
 refine F.ok sc (fun vs H Q E h=>UZ XY h) (fun cdv A outer s H vs Q E hr h=>?_)
 obtain ⟨Hc,Fh,ds,d,hsc,le,dp,p,q⟩:=h
 refine ⟨_,(ze (zF (i:=3) sc.nd rfl (Or.inl rfl) (zM c_picked (hr.mono (by decide)) rfl zN (zb (pv 0) (zb (pv 1) zd))))
   (ze (yF (yn zas (zq (zw (K:=K) rfl) rfl B.len (by decide +kernel) (zb (pv 2) zd)) (zM c_count_of (hr.mono (by decide)) rfl zN (zb (pv 3) zd)) (ye _)) (zg yY) yc)
   (ze (zF (i:=4) sc.nd rfl (Or.inl rfl) (zW zd))
   (ze (yi PassesOwn.never rfl (zI (K:=K) rfl (zM c_views_of (hr.mono (by decide)) rfl zN (zb (pv 0) (zb (zv zaq (zW (zb Uc zd)) (zq (zw (K:=K) rfl) rfl B.len (by decide +kernel) (zb (pv 0) zd))) (zb (zq (wA (K:=K) rfl) rfl B.sorted (by decide +kernel) (zb (pv 1) zd)) zd))))) (zk (i:=5) sc.nd rfl (Or.inl rfl)) (zg (yd (yb (K:=K) rfl ζo ζw ζv zV (pv 4) (zb (zL (zA (K:=K) rfl) (pv 2) (zM c_rank (hr.mono (by decide)) rfl zN (zb (pv 3) (zb (zM c_picked (hr.mono (by decide)) rfl zN (zb (pv 5) (zb (pv 1) zd))) zd))) (fun _ _=>rfl)) zd)))))
   (zg (zH (pv 4))))))),?_⟩
 have hN:(["sizes", "own", "rows", "listed_sizes", "found", "view"]:List Str).length=6:=rfl
 obtain ⟨ss,L,R,rfl,ok,rfl⟩:=p
 have big:=zJ
 have n12:=ok.n
 have kp:=xq L
 have kn:(srtN L).Nodup:=kp.nodup_iff.mpr ok.nd
 have kl:∀ c∈srtN L,c < ss.length:=fun c hc=>ok.c c (kp.mem_iff.mp hc)
 have klen:=vR L
 have l5:=ok.l
 have pr:=uE ok.s ok.c l5
 have pr2:=uE ok.s kl (by omega)
 have sz:SzOk ss (srtN L):=⟨fun s h=>by have:=ok.s s h; omega,kl,by omega,by omega⟩
 have e1:∀ n:Nat,PyData.int (((ss.map PyData.int).length:Nat):Int)=.int (ss.length:Int):=fun _=>by rw [ζa]
 have e2:PyData.int (((R.map nl).length:Nat):Int)=.int (prod (pk ss L)):=by rw [ζa,ok.r]
 refine zdt (j:=4) (Γ:=[some (.fz true (il ss)),some (.fz true (nl L)),some (.fz true (nls R)),none,none,none]) hsc le dp q hN rfl ?_
 refine exs true (d:=il (pk ss L)) (EvE.eq (zr (by walk_at"ev") ⟨ss.map .int,L,rfl,x8 ss,by rw [ζa]; exact ok.c,by omega,rfl⟩) (congrArg PyData.list (XG ss L ok.c))) (by walk_at"sc") ?_
 refine xP (b:=!decide (prod (pk ss L)=prod (pk ss L))) (yf (Wj (EvE.eq (yu (ds:=R.map nl) (by walk_at"ev")) e2) (zr (ds:=[il (pk ss L)]) (by walk_at"ev") ⟨pk ss L,rfl,fun s h=>by have:=v7 ok.s ok.c s h; omega,by rw [vf]; exact l5,rfl⟩))) (by rw [decide_eq_true rfl]; rfl) ?_
 refine exo true (ds:=([]:List (List Nat)).map nl) (zZ (ds:=[]) zG (by decide)) (by walk_at"sc") ?_
 refine tE (ds:=(wds (pk ss (srtN L))).map fun w=>vl (fil (List.replicate ss.length none) (srtN L) w)) true (fun i Γ=>∃ b,Γ=[some (.fz true (il ss)),some (.fz true (nl L)),some (.fz true (nls R)),some (.fz true (il (pk ss L))),some (.ow true (((tabF ss L R).take i).map nl)),b]) (zS (zr (zi (by walk_at"ev") (zi (EvE.eq (EvO.toE (Zg (k:=(ss.length:Int)) (xs:=[.none]) (by walk_at"ev") (EvE.eq (yu (ds:=ss.map PyData.int) (by walk_at"ev")) (e1 0)) (by omega) (by omega) (by show 1 * _≤_; omega))) (by rw [ζI,W4])) (zi (EvE.eq (EvO.toE (vI (ns:=zl L) (EvE.toL (EvE.eq (κ:=false) (by walk_at"ev") (vN L))) (by rw [ub]; omega))) (congrArg PyData.list (Xk _))) zG))) ⟨ss,List.replicate ss.length none,srtN L,rfl,sz,ξc,rfl⟩)) ⟨none,rfl⟩ ?_ ?_
 ·rintro i d Γ' hd ⟨b,rfl⟩
  obtain ⟨w,hw,rfl⟩:=xw hd
  have wm:=ζd hw
  have vb:=UP (L:=L) ok.s kn kl wm fun c hc=>kp.mem_iff.mpr hc
  have il:i < (wds (pk ss (srtN L))).length:=(ζe.mp hw).1
  rw [Za] at il
  have ge:(tabF ss L R)[i]?=some (R.getD (rkF (pk ss L) (vals (fil (List.replicate ss.length none) (srtN L) w) L)).toNat []):=by
   unfold tabF
   rw [ζl,hw]
   rfl
  have vn:∀ k∈L,(fil (List.replicate ss.length none) (srtN L) w).getD k none≠none:=fun k hk z=>by
   obtain ⟨_,x,_,_,e,_⟩:=Zf ok.s kn kl wm (kp.mem_iff.mpr hk)
   rw [e] at z
   cases z
  have fl:∀ k∈L,k < (fil (List.replicate ss.length none) (srtN L) w).length:=fun k hk=>by rw [Tu,ξc]; exact ok.c k hk
  generalize fil (List.replicate ss.length none) (srtN L) w=vw at vb ge vn fl
  have rr:=ok.r
  obtain ⟨m,hm⟩:∃ m:Nat,rkF (pk ss L) (vals vw L)=(m:Int):=⟨(rkF (pk ss L) (vals vw L)).toNat,by omega⟩
  rw [hm,ζI] at ge
  have am:atI (R.map nl) (m:Int)=some (nl (R.getD m [])):=yM (zu (by omega))
  refine ⟨_,egn (by walk_at"sc") ?_⟩
  refine exa1 (d:=nl (R.getD m [])) (by walk_at"gc") (zY (ds:=R.map nl) (by walk_at"ev") (EvE.eq (zr (ds:=[.list ((pk ss L).map .int),.list ((vals vw L).map .int)]) (zi (by walk_at"ev") (zi (EvE.eq (zr (ds:=[.list (vw.map optD),nl L]) (by walk_at"ev") ⟨vw.map optD,L,rfl,Vx vw,by rw [ζa]; exact fl,by omega,rfl⟩) (congrArg PyData.list (zbW vw L fl vn))) zG)) ⟨pk ss L,vals vw L,rfl,fun s h=>by have:=v7 ok.s ok.c s h; omega,rfl⟩) (congrArg PyData.int hm)) am) (by walk_at"sc") (by rw [ζa,ζy]; omega) ?_
  refine ⟨some (.fz true (vl vw)),?_⟩
  rw [take_succ ge,ζE]
  rfl
 ·rintro Γ' ⟨b,rfl⟩
  refine ⟨_,rfl,?_⟩
  rw [ζa,ζA]
  unfold tabF
  rw [ζa]
  exact ζm _
def wY (ds:List PyData) (d:PyData):Prop:=∃ (ss:List Int) (Ls:List (List Nat)) (Rs:List (List (List Nat))),ds=[il ss,nls Ls,.list (Rs.map nls)]∧Ls.length=Rs.length∧Ls.length≤12∧(∀ x∈Ls.zip Rs,TbK ss x.1 x.2)∧d=.list ((Ls.zip Rs).map fun x=>nls (tabF ss x.1 x.2))
theorem Yy (ds:List PyData) (d:PyData) (h:wY ds d):ds.length=3:=by obtain ⟨a,b,c,rfl,_⟩:=h; rfl
theorem YW {x y:List Nat} (h:nl x=nl y):x=y:=by rw [← Zn x,h,Zn]
def unNs (d:PyData):List (List Nat):=match d with | .list ds=>ds.map unN | _=>[]
theorem WI (x:List (List Nat)):unNs (nls x)=x:=by
 show (x.map nl).map unN=x
 rw [ζr]
 exact (ζK fun a _=>Zn a).trans (List.map_id _)
theorem zcb {x y:List (List Nat)} (h:nls x=nls y):x=y:=by rw [← WI x,h,WI]
theorem Xr:zB ["sizes", "listed", "listed_rows"] ["sizes", "listed", "listed_rows"] (zm (top 57)):=⟨rfl,rfl,rfl,by decide +kernel,rfl,by decide +kernel,by decide +kernel⟩
theorem XJ (F:Fun K "tables_of" "tables_of" (top 57) f fd) (B:Bs mg) (Z:Cs K mg cA cB τa τb τc τd τe τf τg τh) (c_table_of:zC P w K mg base CX0 "table_of" ["sizes", "own", "rows"] 5 (spI K vz)):FnOk P w K mg base CX0 6 f fd ["sizes", "listed", "listed_rows"] (spI K wY):=by
 have sc:=Xr
 refine F.ok sc (fun vs H Q E h=>UZ Yy h) (fun cdv A outer s H vs Q E hr h=>?_)
 obtain ⟨Hc,Fh,ds,d,hsc,le,dp,p,q⟩:=h
 refine ⟨_,(zg (zH (yk rfl (N:=["own", "rows", "sizes"]) (js:=[none,none,some 0]) (by walk_at"comp_ok") (uG (K:=K) rfl rfl B.zip (zb (pv 1) (zb (pv 2) zd))) (fun _ _ _ _=>(ww (K:=K) (n:=2) rfl rfl (yo (zk (i:=0) (show List.Nodup (["own", "rows", "sizes"]:List PySem.Str) by decide +kernel) rfl (Or.inl rfl)) (yo (zk (i:=1) (show List.Nodup (["own", "rows", "sizes"]:List PySem.Str) by decide +kernel) rfl (Or.inl rfl)) wv)))) (fun _ _ _ _=>yh) (fun _ _ _ _=>(zM c_table_of (hr.mono (by decide)) rfl zN (zb (pv 2) (zb (pv 0) (zb (pv 1) zd)))))))),?_⟩
 have hN:(["sizes", "listed", "listed_rows"]:List Str).length=3:=rfl
 obtain ⟨ss,Ls,Rs,rfl,ll,l12,ok,rfl⟩:=p
 have big:=zJ
 refine zds (Γ:=[some (.fz true (il ss)),some (.fz true (nls Ls)),some (.fz true (.list (Rs.map nls)))]) hsc le dp q hN rfl ?_
 have zl2:(Ls.zip Rs).length≤12:=by rw [ξy]; omega
 exact EvO.toE (yg (κ:=true) (is:=[0,1]) (xs:=Ls.zip Rs) true (fun x=>.tuple [nl x.1,nls x.2]) (fun x=>nls (tabF ss x.1 x.2)) (fun x _ y _ h=>by
   injection h with h
   injection h with h1 h2
   injection h2 with h2 _
   rw [YW h1,zcb h2]) (EvI.eq (ZZ (xs:=Ls.map nl) (ys:=Rs.map nls) (by walk_at"ev")) (by rw [List.zipWith_map,List.zip_eq_zipWith,List.map_zipWith])) (by walk_at"cc") rfl (by decide) (by omega) fun x hx=>egt (by walk_at"sc") (by walk_at"sc") (VG (by walk_at"ev") ⟨ss,x.1,x.2,rfl,ok x hx,rfl⟩))
structure Ln where
 z:Str
 b:Bool
 s:Nat
 L:List Nat
 R:List (List Nat)
abbrev nmL (xs:List Ln):List Str:=xs.map Ln.z
abbrev szL (xs:List Ln):List Int:=xs.map fun x=>(x.s:Int)
abbrev nmW (zs:List Str) (L:List Nat):List Str:=L.map fun c=>zs.getD c Str.empty
def hdW (zs:List Str) (x:Ln):List Str:=fwS x.z x.b :: numS x.s :: nmW zs x.L
def lnW (zs:List Str) (x:Ln):List Str:=hdW zs x ++ (":" : Str) :: (tkF x.R).map tkS
def lnS (zs:List Str) (x:Ln):Str:=Str.join (Tx.sg 32) (lnW zs x)
def txS (xs:List Ln):Str:=Str.join (Tx.sg 10) (xs.map (lnS (nmL xs)))
def hsL (xs:List Ln):List Nat:=(List.range xs.length).filter fun k=>(xs.map Ln.b).getD k false
abbrev csL (xs:List Ln):List (List Nat):=xs.map fun x=>srtN x.L
abbrev tsL (xs:List Ln):List (List (List Int)):=xs.map fun x=>(tabF (szL xs) x.L x.R).map zl
structure XsOk (xs:List Ln):Prop where
 n:xs.length≤12
 nm:∀ x∈xs,NmOk x.z
 nd:(nmL xs).Nodup
 s:∀ x∈xs,2≤x.s∧x.s≤4
 t:∀ x∈xs,TbK (szL xs) x.L x.R
 w:∀ x∈xs,x.R≠[]∧∀ r∈x.R,r.length≤4∧∀ m∈r,(numS m).length≤60
 u:BkU (szL xs) (csL xs) (tsL xs)
 h:hidF (csL xs) (hsL xs)=true
theorem Ts {z:Str} (nm:NmOk z) (b:Bool):(∀ c∈(fwS z b).cps.toList,42≤c∧c≤122∧c≠58)∧(fwS z b).length≤60:=by
 have l:=nm.l
 cases b with
 | false=>exact ⟨fun c hc=>by have:=nm.s c hc; omega,by show z.length≤60; omega⟩
 | true =>
  refine ⟨fun c hc=>?_,by show (z ++ Tx.sg 42).length≤60; rw [Str.length_append]; show z.length + 1≤60; omega⟩
  have hc:c∈(z ++ Tx.sg 42).cps.toList:=hc
  rw [Tx.vM] at hc
  rcases ζu.mp hc with hc | hc
  ·have:=nm.s c hc; omega
  ·have:c=42:=by simpa using hc
   omega
theorem XsOk.ns {xs:List Ln} (ok:XsOk xs):NsOk (nmL xs):=⟨ok.nd,fun z hz c hc=>by
 obtain ⟨x,hx,rfl⟩:=ζq.mp hz
 have:=(ok.nm x hx).s c hc
 omega,by rw [ζa]; exact ok.n⟩
theorem XsOk.c {xs:List Ln} (ok:XsOk xs) {x:Ln} (hx:x∈xs):∀ c∈x.L,c < (nmL xs).length:=fun c hc=>by
 have:=(ok.t x hx).c c hc
 rw [ζa] at this
 rw [ζa]
 exact this
theorem To {xs:List Ln} (ok:XsOk xs) {x:Ln} (hx:x∈xs):∀ w∈hdW (nmL xs) x,(∀ c∈w.cps.toList,42≤c∧c≤122∧c≠58)∧w.length≤60:=fun w hw=>by
 rcases ζs.mp hw with rfl | hw
 ·exact Ts (ok.nm x hx) _
 rcases ζs.mp hw with rfl | hw
 ·refine ⟨fun c hc=>by have:=Tx.xU hc; omega,?_⟩
  have:x.s=2∨x.s=3∨x.s=4:=by have:=ok.s x hx; omega
  rcases this with e | e | e <;> rw [e] <;> decide
 ·obtain ⟨c,hc,rfl⟩:=ζq.mp hw
  obtain ⟨y,hy,e⟩:=ζq.mp (ok.ns.at (ok.c hx c hc)).2.1
  rw [← e]
  have:=(ok.nm y hy).l
  exact ⟨fun c hc=>by have:=(ok.nm y hy).s c hc; omega,by omega⟩
theorem Xh:∀ {R:List (List Nat)} {m:Nat},some m∈tkF R→∃ r∈R,m∈r
 | [],m,h=>by cases h
 | [r],m,h=>by
  obtain ⟨k,hk,e⟩:=ζq.mp h
  cases e
  exact ⟨r,ζi,hk⟩
 | r :: s :: t,m,h=>by
  have h:some m∈r.map some ++ none :: tkF (s :: t):=h
  rcases ζu.mp h with h | h
  ·obtain ⟨k,hk,e⟩:=ζq.mp h
   cases e
   exact ⟨r,ζi,hk⟩
  ·rcases ζs.mp h with h | h
   ·cases h
   ·obtain ⟨q,hq,hm⟩:=Xh h
    exact ⟨q,ζk _ hq,hm⟩
theorem VY:∀ {R:List (List Nat)},(∀ r∈R,r.length≤4)→(tkF R).length≤R.length * 5
 | [],_=>ζm _
 | [r],h=>by
  have:=h r ζi
  show (r.map some).length≤5
  rw [ζa]
  omega
 | r :: s :: t,h=>by
  have h1:=h r ζi
  have h2:=VY (R:=s :: t) fun q hq=>h q (ζk _ hq)
  show (r.map some ++ none :: tkF (s :: t)).length≤(t.length + 1 + 1) * 5
  have h2:(tkF (s :: t)).length≤(t.length + 1) * 5:=h2
  rw [ζj,ζa,ζL]
  omega
theorem Th {xs:List Ln} (ok:XsOk xs) {x:Ln} (hx:x∈xs):∀ w∈lnW (nmL xs) x,(∀ c∈w.cps.toList,42≤c∧c≤122)∧w.length≤60:=fun w hw=>by
 rcases ζu.mp hw with hw | hw
 ·have:=To ok hx w hw
  exact ⟨fun c hc=>by have:=this.1 c hc; omega,this.2⟩
 rcases ζs.mp hw with rfl | hw
 ·exact ⟨by decide,by decide⟩
 ·obtain ⟨o,ho,rfl⟩:=ζq.mp hw
  cases o with
  | none=>exact ⟨by decide,by decide⟩
  | some m =>
   obtain ⟨r,hr,hm⟩:=Xh ho
   exact ⟨fun c hc=>by have:=Tx.xU (m:=m) hc; omega,((ok.w x hx).2 r hr).2 m hm⟩
theorem zaA {c d:Nat} {ws:List Str} (h:d∈(Str.join (Tx.sg c) ws).cps.toList):d=c∨∃ w∈ws,d∈w.cps.toList:=by
 cases ws with
 | nil=>cases h
 | cons z r =>
  rw [Tx.x6] at h
  rcases ζu.mp h with h | h
  ·exact .inr ⟨z,ζi,h⟩
  ·obtain ⟨y,hy,h⟩:=List.mem_flatMap.mp h
   rcases ζs.mp h with rfl | h
   ·exact .inl rfl
   ·exact .inr ⟨y,ζk _ hy,h⟩
theorem Ti {xs:List Ln} (ok:XsOk xs) {x:Ln} (hx:x∈xs):(lnW (nmL xs) x).length≤5200∧(tkF x.R).length≤5120:=by
 have h1:=VY fun r hr=>((ok.w x hx).2 r hr).1
 have t:=ok.t x hx
 have h2:=(uE t.s t.c t.l).1
 have h3:=t.r
 have h4:=t.l
 unfold lnW hdW
 rw [ζj,ζL,ζL,ζL,ζa,ζa]
 omega
theorem XW {xs:List Ln} (ok:XsOk xs) {x:Ln} (hx:x∈xs):(lnS (nmL xs) x).length≤320000∧1≤(lnS (nmL xs) x).length:=by
 have h1:=uM (sep:=Tx.sg 32) (B:=60) _ fun y hy=>(Th ok hx y hy).2
 have h2:=(Ti ok hx).1
 have e:(Tx.sg 32).length=1:=rfl
 rw [e] at h1
 refine ⟨by unfold lnS; omega,?_⟩
 unfold lnS lnW hdW
 have:((Str.join (Tx.sg 32) (fwS x.z x.b :: numS x.s :: nmW (nmL xs) x.L ++ (":" : Str) :: (tkF x.R).map tkS)).cps.toList).length=(Str.join (Tx.sg 32) (fwS x.z x.b :: numS x.s :: nmW (nmL xs) x.L ++ (":" : Str) :: (tkF x.R).map tkS)).length:=rfl
 rw [← this]
 show 1≤(Str.join (Tx.sg 32) (fwS x.z x.b :: (numS x.s :: nmW (nmL xs) x.L ++ (":" : Str) :: (tkF x.R).map tkS))).cps.toList.length
 rw [Tx.x6,ζj]
 have p:=(ok.nm x hx).p
 have:x.z.length≤(fwS x.z x.b).cps.toList.length:=by
  show _≤(fwS x.z x.b).length
  cases x.b with
  | false=>exact ζm _
  | true=>show _≤(x.z ++ Tx.sg 42).length; rw [Str.length_append]; omega
 omega
theorem zeu {xs:List Ln} (ok:XsOk xs):LsOk (xs.map (lnS (nmL xs))):=by
 have sg:∀ z∈xs.map (lnS (nmL xs)),∀ c∈z.cps.toList,32≤c∧c≤122:=fun z hz c hc=>by
  obtain ⟨x,hx,rfl⟩:=ζq.mp hz
  rcases zaA hc with rfl | ⟨w,hw,hc⟩
  ·omega
  ·have:=(Th ok hx w hw).1 c hc
   omega
 have n:=ok.n
 have big:=uV
 refine ⟨fun z hz hc=>by have:=sg z hz 10 hc; omega,fun z hz=>?_,fun z hz c hc=>by have:=sg z hz c hc; omega,?_,by rw [ζa]; exact n⟩
 ·obtain ⟨x,hx,rfl⟩:=ζq.mp hz
  exact (XW ok hx).2
 ·have h1:=uM (sep:=Tx.sg 10) (B:=320000) (xs.map (lnS (nmL xs))) fun y hy=>by
   obtain ⟨x,hx,rfl⟩:=ζq.mp hy
   exact (XW ok hx).1
  have e:(Tx.sg 10).length=1:=rfl
  rw [e,ζa] at h1
  omega
theorem zev {xs:List Ln} (ok:XsOk xs) {x y:Ln} (hx:x∈xs) (hy:y∈xs) (h:x.z=y.z):x=y:=by
 obtain ⟨i,hi⟩:=ζH.mp hx
 obtain ⟨j,hj⟩:=ζH.mp hy
 have il:=(ζe.mp hi).1
 have jl:=(ζe.mp hj).1
 have gi:(nmL xs).getD i Str.empty=x.z:=by rw [ζc,ζl,hi]; rfl
 have gj:(nmL xs).getD j Str.empty=y.z:=by rw [ζc,ζl,hj]; rfl
 have:=ok.ns.inj (i:=i) (j:=j) (by rw [ζa]; exact il) (by rw [ζa]; exact jl) (by rw [gi,gj,h])
 subst this
 rw [hi] at hj
 exact ζD hj
abbrev hdD (zs:List Str) (x:Ln):PyData:=.list ((hdW zs x).map .str)
theorem Us {xs:List Ln} (ok:XsOk xs) {x y:Ln} (hx:x∈xs) (hy:y∈xs) (h:hdD (nmL xs) x=hdD (nmL xs) y):x=y:=by
 have h:=PyData.list.inj h
 have h:PyData.str (fwS x.z x.b) :: _=PyData.str (fwS y.z y.b) :: _:=h
 have h:=PyData.str.inj (List.cons.inj h).1
 refine zev ok hx hy ?_
 rw [← ZU (ok.nm x hx) x.b,h,ZU (ok.nm y hy)]
def wI (ds:List PyData) (d:PyData):Prop:=∃ (zs:List Str) (ss:List Int) (cs:List (List Nat)) (ts:List (List (List Int))),ds=[stL zs,yr ss cs ts]∧zs.Nodup∧zs.length≤12∧BkU ss cs ts∧d=.none
theorem ZQ (ds:List PyData) (d:PyData) (h:wI ds d):ds.length=2:=by obtain ⟨a,b,c,e,rfl,_⟩:=h; rfl
theorem Yh:zB ["names", "made", "error"] ["names", "made"] (zm (top 59)):=⟨rfl,rfl,rfl,by decide +kernel,rfl,by decide +kernel,by decide +kernel⟩
theorem Yr (F:Fun K "check_text" "check_text" (top 59) f fd) (B:Bs mg) (Z:Cs K mg cA cB τa τb τc τd τe τf τg τh) (c_check_book:zC P w K mg base CX0 "check_book" ["sizes", "causes", "tables"] 6 (spD K true wJ)):FnOk P w K mg base CX0 7 f fd ["names", "made"] (spD K true wI):=by
 have sc:=Yh
 refine F.ok sc (fun vs H Q E h=>zR ZQ h) (fun cdv A outer s H vs Q E hr h=>?_)
 obtain ⟨Fh,ds,d,le,dp,p,q⟩:=h
 refine ⟨_,(ze (yF (yn zas (zq QE rfl B.len (by decide +kernel) (zb (yD (QB (K:=K) rfl rfl) rfl B.set (by decide +kernel) (zb (pv 0) zd)) zd)) (zq (zw (K:=K) rfl) rfl B.len (by decide +kernel) (zb (pv 0) zd)) (ye _)) (zg yY) yc)
   (zg (zbV (zg (yd (zM c_check_book (hr.mono (by decide)) rfl zN (zb (zL (yq (K:=K) rfl) (pv 1) zh (fun _ _=>rfl)) (zb (zL (yq (K:=K) rfl) (pv 1) zh (fun _ _=>rfl)) (zb (zL (yq (K:=K) rfl) (pv 1) zh (fun _ _=>rfl)) zd)))))) (fun _ _ z=>z)))),?_⟩
 have hN:(["names", "made", "error"]:List Str).length=3:=rfl
 obtain ⟨zs,ss,cs,ts,rfl,nd,l12,ok,rfl⟩:=p
 have dl:((ddS zs).length:Int)=(zs.length:Int):=by rw [(Wq _ zs rfl).2.mpr nd]
 have el:PyData.int (((zs.map PyData.str).length:Nat):Int)=.int (zs.length:Int):=by rw [ζa]
 walk_at"run"
 refine xP (b:=!decide (((ddS zs).length:Int)=(zs.length:Int))) (yf (Wj (Uz (EvE.toL (κ:=false) (by walk_at"ev")) (by omega)) (EvE.eq (yu (ds:=zs.map PyData.str) (by walk_at"ev")) el))) (by rw [decide_eq_true dl]; rfl) ?_
 exact Tv (κ:=false) (d:=.none) (zr (ds:=[il ss,nls cs,tbl ts]) (zi (yV (ds:=[il ss,nls cs,tbl ts]) (by walk_at"ev") (by walk_at"ev") atI0) (zi (yV (ds:=[il ss,nls cs,tbl ts]) (by walk_at"ev") (by walk_at"ev") atI1) (zi (yV (ds:=[il ss,nls cs,tbl ts]) (by walk_at"ev") (by walk_at"ev") atI2) zG))) ⟨ss,cs,ts,rfl,ok,rfl⟩) rfl
theorem zdk (t:List (List Nat)):nls t=lls (t.map zl):=by
 show PyData.list _=.list _
 rw [ζr]
 exact congrArg PyData.list (ζK fun r _=>vN r)
def W6 (xs:List Ln):PyData:=.tuple [stL (nmL xs),yr (szL xs) (csL xs) (tsL xs),nl (hsL xs)]
def vj (ds:List PyData) (d:PyData):Prop:=∃ xs:List Ln,ds=[.str (txS xs)]∧XsOk xs∧d=W6 xs
theorem zaD (ds:List PyData) (d:PyData) (h:vj ds d):ds.length=1:=by obtain ⟨a,rfl,_⟩:=h; rfl
theorem zbL:zB ["text", "heads", "listed_rows", "line", "words", "colon", "names", "sizes", "listed", "made", "hidden"] ["text"] (zm (top 48)):=⟨rfl,rfl,rfl,by decide +kernel,rfl,by decide +kernel,by decide +kernel⟩
theorem zb6 (F:Fun K "read" "read" (top 48) f fd) (B:Bs mg) (Z:Cs K mg cA cB τa τb τc τd τe τf τg τh) (c_lines_of:zC P w K mg base CX0 "lines_of" ["text"] 1 (spD K true vB)) (c_checked_head:zC P w K mg base CX0 "checked_head" ["words"] 3 (spD K false xS)) (c_rows_of:zC P w K mg base CX0 "rows_of" ["words"] 3 (spD K true wQ)) (c_numbers_of:zC P w K mg base CX0 "numbers_of" ["names", "words"] 1 (spD K true wF)) (c_tables_of:zC P w K mg base CX0 "tables_of" ["sizes", "listed", "listed_rows"] 6 (spI K wY)) (c_check_text:zC P w K mg base CX0 "check_text" ["names", "made"] 7 (spD K true wI)) (c_is_hidden:zC P w K mg base CX0 "is_hidden" ["causes", "hidden"] 2 (spD K true vd)):FnOk P w K mg base CX0 8 f fd ["text"] (spD K true vj):=by
 have sc:=zbL
 refine F.ok sc (fun vs H Q E h=>zR zaD h) (fun cdv A outer s H vs Q E hr h=>?_)
 obtain ⟨Fh,ds,d,le,dp,p,q⟩:=h
 refine ⟨_,(ze (zF (i:=1) sc.nd rfl (Or.inl rfl) (zW zd))
   (ze (zF (i:=2) sc.nd rfl (Or.inl rfl) (zW zd))
   (ze (yi PassesOwn.never rfl (zI (K:=K) rfl (zM c_lines_of (hr.mono (by decide)) rfl zN (zb (pv 0) zd))) (zk (i:=3) sc.nd rfl (Or.inl rfl)) (ze (zF (i:=4) sc.nd rfl (Or.inl rfl) (yb (K:=K) rfl ζ0 PySem.F.slot_str_split PySem.F.type_str_split Vp (pv 3) (zb yI zd)))
   (ze (yF (yn (Ue (K:=K) rfl hr.units) yI (pv 4) (rfl)) (zg yY) yc)
   (ze (zF (i:=5) sc.nd rfl (Or.inl rfl) (yb (K:=K) rfl ζo ξ5 ξ4 (ZH (K:=K) rfl hr.units) (pv 4) (zb yI zd)))
   (ze (yd (yb (K:=K) rfl ζo ζw ζv zV (pv 1) (zb (zM c_checked_head (hr.mono (by decide)) rfl zN (zb (yZ (xY (K:=K) rfl) (pv 4) xN (xt (pv 5))) zd)) zd)))
   (zg (yd (yb (K:=K) rfl ζo ζw ζv zV (pv 2) (zb (zM c_rows_of (hr.mono (by decide)) rfl zN (zb (yZ (xY (K:=K) rfl) (pv 4) (xt (zv yp (pv 5) zh)) xN) zd)) zd)))))))))
   (ze (zF (i:=6) sc.nd rfl (Or.inr rfl) (yk rfl (N:=["head"]) (js:=[none]) (by walk_at"comp_ok") (zI (K:=K) rfl (pv 1)) (fun _ _ _ _=>(zk (i:=0) (show List.Nodup (["head"]:List PySem.Str) by decide +kernel) rfl (Or.inl rfl))) (fun _ _ _ _=>yh) (fun _ _ _ _=>(yb (K:=K) rfl ζ0 PySem.F.slot_str_rstrip PySem.F.type_str_rstrip zdN (zL (zA (K:=K) rfl) (pv 0) zh (fun _ _=>rfl)) (zb yI zd)))))
   (ze (xC (i:=7) rfl sc.nd rfl rfl (N:=["head"]) (js:=[none]) (by walk_at"comp_ok") (zI (K:=K) rfl (pv 1)) (fun _ _ _ _=>(zk (i:=0) (show List.Nodup (["head"]:List PySem.Str) by decide +kernel) rfl (Or.inl rfl))) (fun _ _ _ _=>yh) (fun _ _ _ _=>(yD Xb rfl B.int (by decide +kernel) (zb (zL (zA (K:=K) rfl) (pv 0) zh (fun _ _=>rfl)) zd))))
   (ze (xC (i:=8) rfl sc.nd rfl rfl (N:=["head", "names"]) (js:=[none,some 6]) (by walk_at"comp_ok") (zI (K:=K) rfl (pv 1)) (fun _ _ _ _=>(zk (i:=0) (show List.Nodup (["head", "names"]:List PySem.Str) by decide +kernel) rfl (Or.inl rfl))) (fun _ _ _ _=>yh) (fun _ _ _ _=>(zM c_numbers_of (hr.mono (by decide)) rfl zN (zb (pv 1) (zb (yZ (xY (K:=K) rfl) (pv 0) (xt zh) xN) zd)))))
   (ze (zF (i:=9) sc.nd rfl (Or.inl rfl) (vG (zb (pv 7) (zb (yk rfl (N:=["own"]) (js:=[none]) (by walk_at"comp_ok") (zI (K:=K) rfl (pv 8)) (fun _ _ _ _=>(zk (i:=0) (show List.Nodup (["own"]:List PySem.Str) by decide +kernel) rfl (Or.inl rfl))) (fun _ _ _ _=>yh) (fun _ _ _ _=>(zq (wA (K:=K) rfl) rfl B.sorted (by decide +kernel) (zb (pv 0) zd)))) (zb (zM c_tables_of (hr.mono (by decide)) rfl zN (zb (pv 7) (zb (pv 8) (zb (pv 2) zd)))) zd)))))
   (ze (yd (zM c_check_text (hr.mono (by decide)) rfl zN (zb (pv 6) (zb (pv 9) zd))))
   (ze (xC (i:=10) rfl sc.nd rfl rfl (N:=["k", "head"]) (js:=[none,none]) (by walk_at"comp_ok") (zak (K:=K) rfl rfl B.enumerate (zb (pv 1) zd)) (fun _ _ _ _=>(ww (K:=K) (n:=2) rfl rfl (yo (zk (i:=0) (show List.Nodup (["k", "head"]:List PySem.Str) by decide +kernel) rfl (Or.inl rfl)) (yo (zk (i:=1) (show List.Nodup (["k", "head"]:List PySem.Str) by decide +kernel) rfl (Or.inl rfl)) wv)))) (fun _ _ _ _=>(uF (yC (yb (K:=K) rfl ζ0 PySem.F.slot_str_endswith PySem.F.type_str_endswith Vr (zL (zA (K:=K) rfl) (pv 1) zh (fun _ _=>rfl)) (zb yI zd))))) (fun _ _ _ _=>(pv 0)))
   (ze (yF (yU (yC (zM c_is_hidden (hr.mono (by decide)) rfl zN (zb (zL (yq (K:=K) rfl) (pv 9) zh (fun _ _=>rfl)) (zb (pv 10) zd))))) (zg yY) yc)
   (zg (zH (vG (zb (pv 6) (zb (pv 9) (zb (pv 10) zd)))))))))))))))),?_⟩
 have hN:(["text", "heads", "listed_rows", "line", "words", "colon", "names", "sizes", "listed", "made", "hidden"]:List Str).length=11:=rfl
 obtain ⟨xs,rfl,ok,rfl⟩:=p
 have big:=zJ
 have big2:=uV
 have n12:=ok.n
 walk_at"run"
 refine exo false (ds:=([]:List Ln).map (hdD (nmL xs))) (zZ (ds:=[]) zG (by decide)) (by walk_at"sc") ?_
 refine exo true (ds:=([]:List Ln).map fun x=>nls x.R) (zZ (ds:=[]) zG (by decide)) (by walk_at"sc") ?_
 refine xc (ds:=(xs.map (lnS (nmL xs))).map .str) true (fun i Γ=>∃ b3 b4 b5,Γ=[some (.fz false (.str (txS xs))),some (.ow false ((xs.take i).map (hdD (nmL xs)))),some (.ow true ((xs.take i).map fun x=>nls x.R)),b3,b4,b5,none,none,none,none,none]) (zS (zr (ds:=[.str (txS xs)]) (by walk_at"ev") ⟨xs.map (lnS (nmL xs)),rfl,zeu ok,rfl⟩)) ⟨none,none,none,rfl⟩ ?_ ?_
 ·rintro i d Γ' hd ⟨b3,b4,b5,rfl⟩
  rw [ζr] at hd
  obtain ⟨x,hx,rfl⟩:=xw hd
  have xm:=ζd hx
  have il:=(ζe.mp hx).1
  have sp:Txt.split (lnS (nmL xs) x) (Tx.sg 32)=lnW (nmL xs) x:=Tx.Zr (by decide) (fun h=>nomatch h) fun w hw hc=>by have:=(Th ok xm w hw).1 32 hc; omega
  have wl:=Ti ok xm
  have sl:=(XW ok xm).1
  have hp:=length_partsBetween (lnS (nmL xs) x) (Builtin.Str.occurrences (lnS (nmL xs) x) (Tx.sg 32) 0 (lnS (nmL xs) x).length ((lnS (nmL xs) x).length + 1)) 1
  have ho:=StrLaws.occ_length_le (lnS (nmL xs) x) (Tx.sg 32) 0 (lnS (nmL xs) x).length ((lnS (nmL xs) x).length + 1)
  refine ⟨_,egn (d:=.str (lnS (nmL xs) x)) (by walk_at"sc") ?_⟩
  refine exs true (d:=.list ((lnW (nmL xs) x).map .str)) (EvE.eq (EvO.toE (Y6 (z:=lnS (nmL xs) x) (y:=(" " : Str)) (by walk_at"ev") (by walk_at"ev") rfl (by omega) (by show (Builtin.Str.partsBetween _ (Builtin.Str.occurrences _ (Tx.sg 32) _ _ _) 1).length≤_; omega) (by show (Txt.split _ (Tx.sg 32)).length≤_; rw [sp]; omega))) (by show PyData.list ((Txt.split _ (Tx.sg 32)).map _)=_; rw [sp])) (by walk_at"sc") ?_
  have lw:∀ e∈(lnW (nmL xs) x).map PyData.str,low e=true:=fun e he=>by
   obtain ⟨w,hw,rfl⟩:=ζq.mp he
   exact wS fun c hc=>by have:=(Th ok xm w hw).1 c hc; omega
  have lc:low (.str (":" : Str))=true:=wS (by decide)
  have gj:(lnW (nmL xs) x)[(hdW (nmL xs) x).length]?=some (":" : Str):=by
   unfold lnW
   rw [ζN (ζm _),ξF]
   rfl
  have jl:(hdW (nmL xs) x).length < (lnW (nmL xs) x).length:=(ζe.mp gj).1
  refine xP (b:=false) (EvT.eq (yf (zbi (neg:=true) (d:=.str (":" : Str)) (ds:=(lnW (nmL xs) x).map .str) (by walk_at"ev") (EvE.toL (by walk_at"ev")) lc lw)) ?_) rfl ?_
  ·refine (if_pos rfl).trans ?_
   rw [Bool.not_eq_false',List.any_map,ξe]
   exact ⟨_,ζd gj,by show PyData.eqv _ _=true; rw [yL]; exact decide_eq_true rfl⟩
  refine exs true (d:=.int ((hdW (nmL xs) x).length:Nat)) (Y7 (ds:=(lnW (nmL xs) x).map .str) (d:=.str (":" : Str)) (EvE.toL (by walk_at"ev")) (by walk_at"ev") lc lw (by rw [ζa]; exact jl) (fun e he=>?_) (fun m e mj he=>?_)) (by walk_at"sc") ?_
  ·rw [ζl,gj] at he
   cases he
   rw [yL]
   exact decide_eq_true rfl
  ·have:(lnW (nmL xs) x)[m]?=(hdW (nmL xs) x)[m]?:=by unfold lnW; rw [List.getElem?_append_left mj]
   rw [ζl,this,ζf mj] at he
   cases he
   rw [yL]
   refine decide_eq_false fun z=>?_
   have:=((To ok xm _ (ξv mj)).1 58 (by rw [z]; decide)).2.2
   exact this rfl
  have t1:(lnW (nmL xs) x).take (hdW (nmL xs) x).length=hdW (nmL xs) x:=List.take_left' rfl
  have t2:(lnW (nmL xs) x).drop ((hdW (nmL xs) x).length + 1)=(tkF x.R).map tkS:=by
   unfold lnW
   rw [← List.drop_drop,List.drop_left' rfl]
   rfl
  have sz:=ok.s x xm
  have l5:=(ok.t x xm).l
  refine exa (d:=hdD (nmL xs) x) (by walk_at"gc") (VF (ds:=[.list ((hdW (nmL xs) x).map .str)]) (zi (EvE.eq (EvO.toE (y6 (lo:=none) (hi:=some ((hdW (nmL xs) x).length:Int)) (ds:=(lnW (nmL xs) x).map .str) (by walk_at"ev") (by walk_at"ev") (xf (by walk_at"ev")))) (by rw [TL,t1])) zG) ⟨x.z,x.b,x.s,nmW (nmL xs) x.L,rfl,ok.nm x xm,sz.1,sz.2,by rw [ζa]; omega,rfl⟩) (by walk_at"sc") (by rw [ζa,ζy]; omega) ?_
  have pr:wQ [.list ((tkF x.R).map fun o=>.str (tkS o))] (nls x.R):=⟨tkF x.R,rfl,fun m hm=>by
   obtain ⟨r,hr,hm⟩:=Xh hm
   exact ((ok.w x xm).2 r hr).2 m hm,by omega,by rw [zbQ (ok.w x xm).1]⟩
  refine exa1 (d:=nls x.R) (by walk_at"gc") (zr (ds:=[.list ((tkF x.R).map fun o=>.str (tkS o))]) (zi (EvE.eq (EvO.toE (y6 (lo:=some (((hdW (nmL xs) x).length + 1:Nat):Int)) (hi:=none) (ds:=(lnW (nmL xs) x).map .str) (by walk_at"ev") (xf (EvE.eq (yv (by walk_at"ev") (by walk_at"ev")) (by rw [ζ2]; rfl))) (by walk_at"ev"))) (by rw [uT,t2,ζr]; rfl)) zG) pr) (by walk_at"sc") (by rw [ζa,ζy]; omega) ?_
  rw [take_succ hx,ζE,ζE]
  exact ⟨_,_,_,rfl⟩
 rintro Γ0 ⟨b3,b4,b5,rfl⟩
 rw [ζa,ζa,ζ4]
 refine exfz 1 (by walk_at"gc") (by walk_at"sc") ?_
 refine exfz 2 (by walk_at"gc") (by walk_at"sc") ?_
 have a0:∀ x:Ln,atI ((hdW (nmL xs) x).map PyData.str) (0:Int)=some (.str (fwS x.z x.b)):=fun x=>yX (j:=0) rfl
 have a1:∀ x:Ln,atI ((hdW (nmL xs) x).map PyData.str) (1:Int)=some (.str (numS x.s)):=fun x=>yX (j:=1) rfl
 have fl:∀ x∈xs,(fwS x.z x.b).length≤sizeLine:=fun x hx=>by have:=(Ts (ok.nm x hx) x.b).2; omega
 refine exs true (d:=stL (nmL xs)) (EvE.eq (EvO.toE (yg (κ:=true) (is:=[0]) (xs:=xs) false (hdD (nmL xs)) (fun x=>.str x.z) (fun x hx y hy h=>by rw [Us ok hx hy h]) (zS (by walk_at"ev")) (by walk_at"cc") rfl (by decide) (by omega) fun x hx=>egn (by walk_at"sc") (EvE.eq (zd2 (z:=fwS x.z x.b) (y:=("*" : Str)) (zY (κ:=false) (ds:=(hdW (nmL xs) x).map .str) (by walk_at"ev") (by walk_at"ev") (a0 x)) (by walk_at"ev") (fl x hx)) (congrArg PyData.str (ZU (ok.nm x hx) x.b))))) (by show _=PyData.list ((xs.map Ln.z).map .str); rw [ζr]; rfl)) (by walk_at"sc") ?_
 refine exs true (d:=il (szL xs)) (EvE.eq (EvO.toE (yg (κ:=true) (is:=[0]) (xs:=xs) false (hdD (nmL xs)) (fun x=>.int (x.s:Int)) (fun x hx y hy h=>by rw [Us ok hx hy h]) (zS (by walk_at"ev")) (by walk_at"cc") rfl (by decide) (by omega) fun x hx=>egn (by walk_at"sc") (TC (zY (κ:=false) (ds:=(hdW (nmL xs) x).map .str) (by walk_at"ev") (by walk_at"ev") (a1 x)) (Tx.Vn (by have:=(To ok hx (numS x.s) (.tail _ (.head _))).2; show (numS x.s).length≤640; omega)) (by have:=(To ok hx (numS x.s) (.tail _ (.head _))).2; omega)))) (by show _=PyData.list ((xs.map fun x=>(x.s:Int)).map .int); rw [ζr]; rfl)) (by walk_at"sc") ?_
 refine exs true (d:=nls (xs.map Ln.L)) (EvE.eq (EvO.toE (yg (κ:=true) (is:=[0]) (xs:=xs) false (hdD (nmL xs)) (fun x=>nl x.L) (fun x hx y hy h=>by rw [Us ok hx hy h]) (zS (by walk_at"ev")) (by walk_at"cc") rfl (by decide) (by omega) fun x hx=>egn (by walk_at"sc") (zr (ds:=[stL (nmL xs),.list (x.L.map fun k=>.str ((nmL xs).getD k Str.empty))]) (zi (by walk_at"ev") (zi (EvE.eq (EvO.toE (y6 (lo:=some ((2:Nat):Int)) (hi:=none) (ds:=(hdW (nmL xs) x).map .str) (by walk_at"ev") (xf (show EvE K .fresh false _ _ (.int 2) by walk_at"ev")) (by walk_at"ev"))) (by rw [uT]; show PyData.list ((nmW (nmL xs) x.L).map _)=_; rw [ζr]; rfl)) zG)) ⟨nmL xs,x.L,rfl,ok.ns,ok.c hx,by have:=(ok.t x hx).l; omega,rfl⟩))) (by show _=PyData.list ((xs.map Ln.L).map nl); rw [ζr]; rfl)) (by walk_at"sc") ?_
 have zz:(xs.map Ln.L).zip (xs.map Ln.R)=xs.map fun x=>(x.L,x.R):=by rw [List.zip_map',ζK]; intro x _; rfl
 refine exs true (d:=yr (szL xs) (csL xs) (tsL xs)) (EvE.eq (vg (ds:=[il (szL xs),nls (csL xs),.list (xs.map fun x=>nls (tabF (szL xs) x.L x.R))]) (zi (by walk_at"ev") (zi (EvE.eq (EvO.toE (yg (κ:=true) (is:=[0]) (xs:=xs) true (fun x=>nl x.L) (fun x=>nl (srtN x.L)) (fun x _ y _ h=>by rw [YW h]) (EvI.eq (zS (ds:=(xs.map Ln.L).map nl) (by walk_at"ev")) (by rw [ζr]; rfl)) (by walk_at"cc") rfl (by decide) (by omega) fun x hx=>egn (by walk_at"sc") (EvE.eq (EvO.toE (vI (ns:=zl x.L) (EvE.toL (EvE.eq (κ:=false) (by walk_at"ev") (vN x.L))) (by rw [ub]; have:=(ok.t x hx).l; omega))) (congrArg PyData.list (Xk _))))) (by show _=PyData.list ((xs.map fun x=>srtN x.L).map nl); rw [ζr]; rfl)) (zi (EvE.eq (VG (ds:=[il (szL xs),nls (xs.map Ln.L),.list ((xs.map Ln.R).map nls)]) (zi (by walk_at"ev") (zi (by walk_at"ev") (zi (EvE.eq (a:=.list (xs.map fun x=>nls x.R)) (by walk_at"ev") (by rw [ζr]; rfl)) zG))) ⟨szL xs,xs.map Ln.L,xs.map Ln.R,rfl,by rw [ζa,ζa],by rw [ζa]; exact n12,fun y hy=>?_,rfl⟩) ?_) zG))) (by show 3≤sizeLine; omega)) ?_) (by walk_at"sc") ?_
 ·rw [zz] at hy
  obtain ⟨x,hx,rfl⟩:=ζq.mp hy
  exact ok.t x hx
 ·rw [zz,ζr]
  rfl
 ·show PyData.tuple _=.tuple _
  have:xs.map (fun x=>nls (tabF (szL xs) x.L x.R))=(tsL xs).map lls:=by
   rw [ζr]
   exact ζK fun x _=>zdk _
  rw [this]
 refine za5 (d:=.none) (zr (ds:=[stL (nmL xs),yr (szL xs) (csL xs) (tsL xs)]) (by walk_at"ev") ⟨nmL xs,szL xs,csL xs,tsL xs,rfl,ok.nd,by rw [ζa]; exact n12,ok.u,rfl⟩) ?_
 have ml:(xs.map (hdD (nmL xs))).mapIdx (fun (i:Nat) x=>PyData.tuple [.int (i:Nat),x])=(List.range xs.length).map fun k=>PyData.tuple [.int (k:Nat),(xs.map (hdD (nmL xs))).getD k .none]:=by
  generalize e:xs.map (hdD (nmL xs))=hs
  have el:hs.length=xs.length:=by rw [← e,ζa]
  refine ξa fun k=>?_
  rw [List.getElem?_mapIdx,ζl]
  by_cases hk:k < xs.length
  ·rw [ζV hk,zu (d:=PyData.none) (show k < hs.length by omega)]
   rfl
  ·rw [ζF (show hs.length≤k by omega),ζF (show (List.range xs.length).length≤k by rw [ζz]; omega)]
   rfl
 refine exs true (d:=nl (hsL xs)) (EvO.toE (vJ (κ:=true) (is:=[0,1]) (xs:=List.range xs.length) false (fun k=>.tuple [.int (k:Nat),(xs.map (hdD (nmL xs))).getD k .none]) (fun k=>.int (k:Nat)) (fun k=>(xs.map Ln.b).getD k false) (fun x _ y _ h=>by
   injection h with h
   injection h with h1 _
   have:=tf h1
   subst this
   exact ⟨rfl,rfl⟩) (EvI.eq (zcz (xs:=xs.map (hdD (nmL xs))) (by walk_at"ev")) ml) (by walk_at"cc") rfl (by decide) (by rw [ζz]; omega) fun k hk=>?_)) (by walk_at"sc") ?_
 ·have kl:=ζQ.mp hk
  have gk:xs[k]?=some xs[k]:=ζf kl
  have e1:(xs.map (hdD (nmL xs))).getD k .none=hdD (nmL xs) xs[k]:=by rw [ζc,ζl,gk]; rfl
  have e2:(xs.map Ln.b).getD k false=xs[k].b:=by rw [ζc,ζl,gk]; rfl
  rw [e1,e2]
  exact egt (by walk_at"sc") (by walk_at"sc") ⟨EvT.eq (et_B (ZX (z:=fwS xs[k].z xs[k].b) (y:=("*" : Str)) (zY (κ:=false) (ds:=(hdW (nmL xs) xs[k]).map .str) (by walk_at"ev") (by walk_at"ev") (a0 xs[k])) (by walk_at"ev"))) (zdW (ok.nm _ (ζd gk)) _),fun _=>by walk_at"ev"⟩
 have hl:(hsL xs).length≤xs.length:=by
  have:=ξl (fun k=>(xs.map Ln.b).getD k false) (List.range xs.length)
  rw [ζz] at this
  exact this
 refine xP (b:=!true) (xk (et_B (EvE.eq (zr (ds:=[nls (csL xs),nl (hsL xs)]) (zi (yV (ds:=[il (szL xs),nls (csL xs),tbl (tsL xs)]) (by walk_at"ev") (by walk_at"ev") atI1) (by walk_at"ev")) ⟨csL xs,hsL xs,rfl,by rw [ζa]; omega,by omega,fun k hk=>by rw [ζa]; exact ζQ.mp (ζ6.mp hk).1,rfl⟩) (congrArg PyData.bool ok.h)))) rfl ?_
 exact zP true (vg (ds:=[stL (nmL xs),yr (szL xs) (csL xs) (tsL xs),nl (hsL xs)]) (by walk_at"ev") (by show 3≤sizeLine; omega)) rfl (.inl ⟨rfl,rfl⟩)
theorem xj (u:Int) {n:Nat} (h:0 < n):∃ m:Nat,u % (n:Int)=(m:Int)∧m < n:=⟨(u % (n:Int)).toNat,by
 have p0:=ξz u (show (n:Int)≠0 by omega)
 have p1:=ξM u (show (0:Int) < n by omega)
 omega⟩
def vo (kin:List (List Nat)) (o x:Nat):List (List Nat):=kin.set o (kin.getD o [] ++ [x])
theorem zeH (css:List (List Nat)) (o x:Nat):(css.map nl).set o (.list ((css.getD o []).map (fun k:Nat=>PyData.int (k:Int)) ++ [.int (x:Int)]))=(vo css o x).map nl:=by
 unfold vo
 rw [List.map_set]
 congr 1
 show _=PyData.list ((css.getD o [] ++ [x]).map fun k:Nat=>PyData.int (k:Int))
 rw [ζE]
 rfl
theorem Wf {φ:V→Prop} {S S':Sx} {Γ Γ':PD.Ctx} {P:Post} {ti te:TE} {u:TS} {x o v:Nat} {css:List (List Nat)} (hg:GetC Γ x (trP φ (nls css))) (ho:o < css.length) (h1:EvE K S false ti Γ (.int (o:Int))) (he:EvE K S false te Γ (.int (v:Int))) (hz:(css.getD o []).length≤1000)
  (es:SetC Γ x (some (trP φ (nls (vo css o v)))) Γ') (k:ExT K S S' u Γ' P):ExT K S S' (tSeq (xH (tBM K "list" y8 (tOp (rIxL K) (tVar x) ti) (zE te tNil))) u) Γ P:=by
 have big:=zJ
 refine zaY (es:=(css.getD o []).map fun k:Nat=>.int (k:Int)) hg (zeD (j:=o) (ds:=css.map nl) (zd8 hg) h1 (X9 (by rw [ζa]; exact ho)) (by rw [ζl,zu (d:=[]) ho]; rfl)) he rfl (by rw [ζa]; omega) ?_ es k
 show PyData.list _=.list _
 rw [zeH]
def xQ (ns:List Int) (k:Nat):Int:=((if k < ns.length then ns.getD k 0 % 2147483647 else 0) + 977 * (k:Int) + 12345) * 48271 % 2147483629
def zX (ds:List PyData) (d:PyData):Prop:=∃ (ns:List Int) (k:Nat),ds=[il ns,.int (k:Int)]∧k≤100∧d=.int (xQ ns k)
theorem tZ (ds:List PyData) (d:PyData) (h:zX ds d):ds.length=2:=by obtain ⟨a,b,rfl,_⟩:=h; rfl
theorem Zu:zB ["_law_script", "_law_k", "_law_cell"] ["_law_script", "_law_k"] (zm (top 61)):=⟨rfl,rfl,rfl,by decide +kernel,rfl,by decide +kernel,by decide +kernel⟩
theorem ZF (F:Fun K "_law_cell_at" "_law_cell_at" (top 61) f fd) (B:Bs mg) (Z:Cs K mg cA cB τa τb τc τd τe τf τg τh)  : FnOk P w K mg base CX0 1 f fd ["_law_script", "_law_k"] (spD K true zX):=by
 have sc:=Zu
 refine F.ok sc (fun vs H Q E h=>zR tZ h) (fun cdv A outer s H vs Q E hr h=>?_)
 obtain ⟨Fh,ds,d,le,dp,p,q⟩:=h
 refine ⟨_,(ze (zF (i:=2) sc.nd rfl (Or.inl rfl) zh)
   (ze (yF (yn U8 (pv 1) (zq (zw (K:=K) rfl) rfl B.len (by decide +kernel) (zb (pv 0) zd)) (ye _)) (zg (zF (i:=2) sc.nd rfl (Or.inl rfl) (zv yw (zL (zA (K:=K) rfl) (pv 0) (pv 1) (fun _ _=>rfl)) zh))) yc)
   (zg (zH (zv yw (zv xu (zv yp (zv yp (pv 2) (zv xu zh (pv 1))) zh) zh) zh))))),?_⟩
 have hN:(["_law_script", "_law_k", "_law_cell"]:List Str).length=3:=rfl
 obtain ⟨ns,k,rfl,k100,rfl⟩:=p
 have el:PyData.int (((ns.map PyData.int).length:Nat):Int)=.int (ns.length:Int):=by rw [ζa]
 walk_at"run"
 refine exs true (d:=.int 0) (by walk_at"ev") (by walk_at"sc") ?_
 refine exif (b:=decide ((k:Int) < (ns.length:Int))) (·=[some (.fz false (il ns)),some (.fz false (.int (k:Int))),some (.fz true (.int (if k < ns.length then ns.getD k 0 % 2147483647 else 0)))]) (yf (VE (by walk_at"ev") (EvE.eq (yu (ds:=ns.map .int) (by walk_at"ev")) el))) (fun h=>?_) (fun h=>?_) ?_
 ·have hk:k < ns.length:=by have:=of_decide_eq_true h; omega
  rw [if_pos hk]
  refine exs1 true (d:=.int (ns.getD k 0 % 2147483647)) (yJ (EvE.imm (κ:=false) (zY (ds:=ns.map .int) (by walk_at"ev") (by walk_at"ev") (yM (zu (d:=0) hk))) rfl) (by walk_at"ev") (by decide)) (by walk_at"sc") ?_
  rfl
 ·have hk:¬ k < ns.length:=by have:=of_decide_eq_false h; omega
  rw [if_neg hk]
  exact xB rfl
 rintro Γ0 rfl
 have m1:IntMulOk 977 (k:Int):=yN (by omega) (by omega)
 exact zP true (d:=.int (xQ ns k)) (yJ (wc (yv (yv (by walk_at"ev") (wc (by walk_at"ev") (by walk_at"ev") m1)) (by walk_at"ev")) (by walk_at"ev") (yN (by decide) (by decide))) (by walk_at"ev") (by decide)) rfl (.inl ⟨rfl,rfl⟩)
def yz (ds:List PyData) (G:PyData→Prop):Prop:=∃ (c:Int) (m:Nat),ds=[.int c,.int (m:Int)]∧m≤20000∧G=fun d=>∃ xs:List Int,xs.length=m∧(∀ x∈xs,0≤x∧x < 2147483647)∧d=il xs
theorem ZN (ds:List PyData) (G:PyData→Prop) (h:yz ds G):ds.length=2:=by obtain ⟨a,b,rfl,_⟩:=h; rfl
theorem Ye:zB ["_law_cell", "_law_many", "_law_number", "_law_found", "_law_k"] ["_law_cell", "_law_many"] (zm (top 62)):=⟨rfl,rfl,rfl,by decide +kernel,rfl,by decide +kernel,by decide +kernel⟩
theorem Yo (F:Fun K "_law_stream" "_law_stream" (top 62) f fd) (B:Bs mg) (Z:Cs K mg cA cB τa τb τc τd τe τf τg τh)  : FnOk P w K mg base CX0 1 f fd ["_law_cell", "_law_many"] (spW K true yz):=by
 have sc:=Ye
 refine F.ok sc (fun vs H Q E h=>wq ZN h) (fun cdv A outer s H vs Q E hr h=>?_)
 obtain ⟨Fh,ds,G,le,dp,p,q⟩:=h
 refine ⟨_,(ze (zF (i:=2) sc.nd rfl (Or.inl rfl) (zv yw (pv 0) zh))
   (ze (zF (i:=3) sc.nd rfl (Or.inl rfl) (zW zd))
   (ze (yi PassesOwn.never rfl (yt rfl B.range (zb (zv yp (pv 1) zh) zd)) (zk (i:=4) sc.nd rfl (Or.inl rfl)) (ze (zF (i:=2) sc.nd rfl (Or.inl rfl) (zv yw (zv yp (zv yp (zv yp (zv xu (pv 2) (pv 2)) (zv xu zh (pv 2))) (zv xu zh (pv 4))) zh) zh))
   (zg (yd (yb (K:=K) rfl ζo ζw ζv zV (pv 3) (zb (zv xA (pv 2) zh) zd))))))
   (zg (zH (yZ (xY (K:=K) rfl) (pv 3) (xt zh) xN)))))),?_⟩
 have hN:(["_law_cell", "_law_many", "_law_number", "_law_found", "_law_k"]:List Str).length=5:=rfl
 obtain ⟨c,m,rfl,hm,rfl⟩:=p
 have big:=zJ
 refine xK le dp q hN (by walk_at"st") ?_
 refine exs true (d:=.int (c % 2147483647)) (by walk_at"ev") (by walk_at"sc") ?_
 refine exo true (ds:=([]:List Int).map .int) (zZ (ds:=[]) zG (by decide)) (by walk_at"sc") ?_
 refine xc (ds:=(List.range (m + 2)).map fun i:Nat=>.int (i:Int)) true (fun t Γ=>∃ (nu:Int) (xs:List Int) (b:Option DV),0≤nu∧nu < 2147483647∧xs.length=t∧(∀ x∈xs,0≤x∧x < 2147483647)∧Γ=[some (.fz false (.int c)),some (.fz false (.int (m:Int))),some (.fz true (.int nu)),some (.ow true (xs.map .int)),b]) (xg (n:=((m + 2:Nat):Int)) (zi (EvE.eq (yv (by walk_at"ev") (by walk_at"ev")) (by rw [ζ2]; rfl)) zG) (by omega) (by omega)) ⟨c % 2147483647,[],none,ξz _ (by decide),ξM _ (by decide),rfl,fun _ z=>(nomatch z),rfl⟩ ?_ ?_
 ·rintro t d Γ' hd ⟨nu,xs,b,n0,n1,xl,xb,rfl⟩
  obtain ⟨ht,rfl⟩:=yx hd
  refine ⟨_,egn (by walk_at"sc") ?_⟩
  have m1:IntMulOk nu nu:=yN (by omega) (by omega)
  have m2:IntMulOk 69621 nu:=yN (by omega) (by omega)
  have m3:IntMulOk 3 (t:Int):=yN (by omega) (by omega)
  refine exs true (d:=.int ((nu * nu + 69621 * nu + 3 * (t:Int) + 7) % 2147483629)) (yJ (yv (yv (yv (wc (by walk_at"ev") (by walk_at"ev") m1) (wc (by walk_at"ev") (by walk_at"ev") m2)) (wc (by walk_at"ev") (by walk_at"ev") m3)) (by walk_at"ev")) (by walk_at"ev") (by decide)) (by walk_at"sc") ?_
  have q0:=ξz (nu * nu + 69621 * nu + 3 * (t:Int) + 7) (show (2147483629:Int)≠0 by decide)
  have q1:=ξM (nu * nu + 69621 * nu + 3 * (t:Int) + 7) (show (0:Int) < 2147483629 by decide)
  generalize (nu * nu + 69621 * nu + 3 * (t:Int) + 7) % 2147483629=q at q0 q1
  refine exa1 (d:=.int (q / 11)) (by walk_at"gc") (xx (by walk_at"ev") (by walk_at"ev") ⟨by decide,by decide⟩) (by walk_at"sc") (by rw [ζa]; omega) ?_
  refine ⟨q,xs ++ [q / 11],some (.fz true (.int (t:Int))),q0,by omega,by rw [ζj,xl]; rfl,fun x hx=>?_,by rw [ζE]; rfl⟩
  rcases ζu.mp hx with hx | hx
  ·exact xb x hx
  ·rw [ζh.mp hx]
   omega
 ·rintro Γ' ⟨nu,xs,b,n0,n1,xl,xb,rfl⟩
  rw [yO] at xl
  refine exfz 3 (by walk_at"gc") (by walk_at"sc") ?_
  exact zP true (d:=il (xs.drop 2)) (EvO.toE (EvO.eq (y6 (lo:=some ((2:Nat):Int)) (hi:=none) (ds:=xs.map .int) (by walk_at"ev") (xf (show EvE K .fresh false _ _ (.int 2) by walk_at"ev")) (by walk_at"ev")) (uT _ xs 2))) ⟨xs.drop 2,by rw [ζR]; omega,fun x hx=>xb x (ξU hx),rfl⟩ (.inl ⟨rfl,rfl⟩)
def xz (ds:List PyData) (G:PyData→Prop):Prop:=∃ xs:List Int,ds=[il xs]∧xs.length≤12∧G=fun d=>∃ p:List Nat,p.Perm (List.range xs.length)∧d=nl p
theorem tY (ds:List PyData) (G:PyData→Prop) (h:xz ds G):ds.length=1:=by obtain ⟨a,rfl,_⟩:=h; rfl
theorem Zt:zB ["_law_row", "_law_found", "_law_k"] ["_law_row"] (zm (top 63)):=⟨rfl,rfl,rfl,by decide +kernel,rfl,by decide +kernel,by decide +kernel⟩
theorem ZE (F:Fun K "_law_numbers" "_law_numbers" (top 63) f fd) (B:Bs mg) (Z:Cs K mg cA cB τa τb τc τd τe τf τg τh)  : FnOk P w K mg base CX0 1 f fd ["_law_row"] (spW K true xz):=by
 have sc:=Zt
 refine F.ok sc (fun vs H Q E h=>wq tY h) (fun cdv A outer s H vs Q E hr h=>?_)
 obtain ⟨Fh,ds,G,le,dp,p,q⟩:=h
 refine ⟨_,(ze (zF (i:=1) sc.nd rfl (Or.inl rfl) (zW zd))
   (ze (yi PassesOwn.never rfl (yt rfl B.range (zb (zq (zw (K:=K) rfl) rfl B.len (by decide +kernel) (zb (pv 0) zd)) zd)) (zk (i:=2) sc.nd rfl (Or.inl rfl)) (zg (yd (yb (K:=K) rfl ζo PySem.F.slot_list_insert PySem.F.type_list_insert Qg (pv 1) (zb (zv yw (zL (zA (K:=K) rfl) (pv 0) (pv 2) (fun _ _=>rfl)) (zv yp (pv 2) zh)) (zb (pv 2) zd))))))
   (zg (zH (pv 1))))),?_⟩
 have hN:(["_law_row", "_law_found", "_law_k"]:List Str).length=3:=rfl
 obtain ⟨xs,rfl,xl,rfl⟩:=p
 have big:=zJ
 have el:PyData.int (((xs.map PyData.int).length:Nat):Int)=.int (xs.length:Int):=by rw [ζa]
 refine xK le dp q hN (by walk_at"st") ?_
 refine exo true (ds:=([]:List Nat).map fun k:Nat=>.int (k:Int)) (zZ (ds:=[]) zG (by decide)) (by walk_at"sc") ?_
 refine xc (ds:=(List.range xs.length).map fun i:Nat=>.int (i:Int)) true (fun t Γ=>∃ (p:List Nat) (b:Option DV),p.Perm (List.range t)∧Γ=[some (.fz false (il xs)),some (.ow true (p.map fun k:Nat=>.int (k:Int))),b]) (xg (n:=(xs.length:Int)) (zi (EvE.eq (yu (ds:=xs.map .int) (by walk_at"ev")) el) zG) (by omega) (by omega)) ⟨[],none,.refl _,rfl⟩ ?_ ?_
 ·rintro t d Γ' hd ⟨p,b,pm,rfl⟩
  obtain ⟨ht,rfl⟩:=yx hd
  have pl:p.length=t:=by rw [pm.length_eq,ζz]
  refine ⟨_,egn (by walk_at"sc") ?_⟩
  obtain ⟨v,hv,vl⟩:=xj (xs.getD t 0) (show 0 < t + 1 by omega)
  refine exin (m:=(v:Int)) (d:=.int (t:Int)) (by walk_at"gc") (EvE.eq (yJ (j:=(t:Int) + 1) (EvE.imm (κ:=false) (zY (ds:=xs.map .int) (by walk_at"ev") (by walk_at"ev") (yM (zu (d:=0) ht))) rfl) (by walk_at"ev") (by omega)) (congrArg PyData.int (by rw [← hv]; rfl))) (by walk_at"ev") (by omega) (by rw [ζa]; omega) (by rw [ζa]; omega) (by walk_at"sc") ?_
  refine ⟨p.take v ++ t :: p.drop v,some (.fz true (.int (t:Int))),?_,?_⟩
  ·refine List.perm_middle.trans ?_
   rw [ξQ,ξX]
   exact (pm.cons _).trans (List.perm_append_singleton _ _).symm
  ·rw [ζE,ζT,ξ7,List.map_drop]
   rfl
 ·rintro Γ' ⟨p,b,pm,rfl⟩
  rw [yO] at pm
  exact exro (by walk_at"gc") ⟨p,pm,rfl⟩ (.inl ⟨rfl,rfl⟩)
def wgF (c x:Int):Int:=if x % 6=0 then 0 else if c % 4=0 then x / 6 % 10 else if c % 4=3 then (x + 3) ^ 8 % 10 ^ 60 else x / 6 % 100000
theorem zef (c x:Int):0≤wgF c x∧wgF c x < 10 ^ 60:=by
 have t:(100000:Int)≤10 ^ 60:=by decide
 have t1:(0:Int) < 10 ^ 60:=by decide
 unfold wgF
 split
 ·exact ⟨Int.le_refl _,t1⟩
 ·split
  ·exact ⟨ξz _ (by decide),by omega⟩
  ·split
   ·exact ⟨ξz _ (Int.ne_of_gt t1),ξM _ t1⟩
   ·exact ⟨ξz _ (by decide),by omega⟩
def wH (ds:List PyData) (d:PyData):Prop:=∃ c x:Int,ds=[.int c,.int x]∧0≤x∧x < 2147483647∧d=.int (wgF c x)
theorem ZM (ds:List PyData) (d:PyData) (h:wH ds d):ds.length=2:=by obtain ⟨a,b,rfl,_⟩:=h; rfl
theorem Yd:zB ["_law_cell", "_law_number"] ["_law_cell", "_law_number"] (zm (top 66)):=⟨rfl,rfl,rfl,by decide +kernel,rfl,by decide +kernel,by decide +kernel⟩
theorem Yn (F:Fun K "_law_weight" "_law_weight" (top 66) f fd) (B:Bs mg) (Z:Cs K mg cA cB τa τb τc τd τe τf τg τh)  : FnOk P w K mg base CX0 1 f fd ["_law_cell", "_law_number"] (spD K true wH):=by
 have sc:=Yd
 refine F.ok sc (fun vs H Q E h=>zR ZM h) (fun cdv A outer s H vs Q E hr h=>?_)
 obtain ⟨Fh,ds,d,le,dp,p,q⟩:=h
 refine ⟨_,(ze (yF (yn v8 (zv yw (pv 1) zh) zh (ye _)) (zg (zH zh)) yc)
   (ze (yF (yn v8 (zv yw (pv 0) zh) zh (ye _)) (zg (zH (zv yw (zv xA (pv 1) zh) zh))) yc)
   (ze (yF (yn v8 (zv yw (pv 0) zh) zh (ye _)) (zg (zH (zv yw (zv zar (zv yp (pv 1) zh) zh) (zv zar zh zh)))) yc)
   (zg (zH (zv yw (zv xA (pv 1) zh) zh)))))),?_⟩
 have hN:(["_law_cell", "_law_number"]:List Str).length=2:=rfl
 obtain ⟨c,x,rfl,x0,x1,rfl⟩:=p
 walk_at"run"
 have e8:(8:Int).toNat=8:=by decide
 have e60:(60:Int).toNat=60:=by decide
 refine exif (b:=decide (x % 6=0)) (fun Γ=>x % 6≠0∧Γ=[some (.fz false (.int c)),some (.fz false (.int x))]) (yf (wN (by walk_at"ev") (by walk_at"ev"))) (fun h=>?_) (fun h=>xB ⟨of_decide_eq_false h,rfl⟩) ?_
 ·refine zP true (d:=.int 0) (by walk_at"ev") ?_ (.inl ⟨rfl,rfl⟩)
  show _=_
  unfold wgF
  rw [if_pos (of_decide_eq_true h)]
 rintro Γ0 ⟨h1,rfl⟩
 refine exif (b:=decide (c % 4=0)) (fun Γ=>c % 4≠0∧Γ=[some (.fz false (.int c)),some (.fz false (.int x))]) (yf (wN (by walk_at"ev") (by walk_at"ev"))) (fun h=>?_) (fun h=>xB ⟨of_decide_eq_false h,rfl⟩) ?_
 ·refine zP true (d:=.int (x / 6 % 10)) (yJ (xx (by walk_at"ev") (by walk_at"ev") ⟨by decide,by decide⟩) (by walk_at"ev") (by decide)) ?_ (.inl ⟨rfl,rfl⟩)
  show _=_
  unfold wgF
  rw [if_neg h1,if_pos (of_decide_eq_true h)]
 rintro Γ0 ⟨h2,rfl⟩
 refine exif (b:=decide (c % 4=3)) (fun Γ=>c % 4≠3∧Γ=[some (.fz false (.int c)),some (.fz false (.int x))]) (yf (wN (by walk_at"ev") (by walk_at"ev"))) (fun h=>?_) (fun h=>xB ⟨of_decide_eq_false h,rfl⟩) ?_
 ·refine zP true (d:=.int ((x + 3) ^ (8:Int).toNat % 10 ^ (60:Int).toNat)) (yJ (Uy (i:=x + 3) (j:=8) (yv (by walk_at"ev") (by walk_at"ev")) (by walk_at"ev") ⟨by decide,by decide,by omega⟩) (Uy (i:=10) (j:=60) (by walk_at"ev") (by walk_at"ev") ⟨by decide,by decide,by decide⟩) (by decide)) ?_ (.inl ⟨rfl,rfl⟩)
  show _=_
  unfold wgF
  rw [if_neg h1,if_neg h2,if_pos (of_decide_eq_true h),e8,e60]
 rintro Γ0 ⟨h3,rfl⟩
 refine zP true (d:=.int (x / 6 % 100000)) (yJ (xx (by walk_at"ev") (by walk_at"ev") ⟨by decide,by decide⟩) (by walk_at"ev") (by decide)) ?_ (.inl ⟨rfl,rfl⟩)
 show _=_
 unfold wgF
 rw [if_neg h1,if_neg h2,if_neg h3]
theorem five {j:Nat} (h:j < 5):∃ dv:Int,atI [PyData.int 1,.int 3,.int 9,.int 27,.int 81] (j:Int)=some (.int dv)∧0 < dv∧dv < 100:=by
 have:j=0∨j=1∨j=2∨j=3∨j=4:=by omega
 rcases this with rfl | rfl | rfl | rfl | rfl
 ·exact ⟨1,yX (j:=0) rfl,by decide,by decide⟩
 ·exact ⟨3,yX (j:=1) rfl,by decide,by decide⟩
 ·exact ⟨9,yX (j:=2) rfl,by decide,by decide⟩
 ·exact ⟨27,yX (j:=3) rfl,by decide,by decide⟩
 ·exact ⟨81,yX (j:=4) rfl,by decide,by decide⟩
theorem Zk {css:List (List Nat)} {o x:Nat} (ho:o < css.length) (k:Nat):(vo css o x).getD k []=if k=o then css.getD k [] ++ [x] else css.getD k []:=by
 unfold vo
 by_cases h:k=o
 ·subst h
  rw [if_pos rfl,ζc,ζt ho]
  rfl
 ·rw [if_neg h,ζc,ζx (Ne.symm h),ζc]
theorem uX (css:List (List Nat)) (o x:Nat):(vo css o x).length=css.length:=by unfold vo; rw [List.length_set]
structure Pn (n:Nat) (p:List Nat):Prop where
 pm:p.Perm (List.range n)
theorem Pn.len {n:Nat} {p:List Nat} (h:Pn n p):p.length=n:=by rw [h.pm.length_eq,ζz]
theorem Pn.lt {n:Nat} {p:List Nat} (h:Pn n p) {i:Nat} (hi:i < n):p.getD i 0 < n:=ζQ.mp (h.pm.mem_iff.mp (ζd (zu (d:=0) (show i < p.length by rw [h.len]; exact hi))))
theorem Pn.inj {n:Nat} {p:List Nat} (h:Pn n p) {i j:Nat} (hi:i < n) (hj:j < n) (e:p.getD i 0=p.getD j 0):i=j:=by
 have nd:p.Nodup:=h.pm.nodup_iff.mpr List.nodup_range
 have hi:i < p.length:=by rw [h.len]; exact hi
 have hj:j < p.length:=by rw [h.len]; exact hj
 rw [ζc,ζf hi,ζc,ζf hj] at e
 exact (List.getElem_inj nd).mp e
theorem Pn.onto {n:Nat} {p:List Nat} (h:Pn n p) {o:Nat} (ho:o < n):∃ i,i < n∧o=p.getD i 0:=by
 obtain ⟨i,hi⟩:=ζH.mp (h.pm.mem_iff.mpr (ζQ.mpr ho))
 have il:=(ζe.mp hi).1
 rw [h.len] at il
 exact ⟨i,il,by rw [ζc,hi]; rfl⟩
def limK (k j i:Nat):Nat:=if i < k then i else if i=k then j else 0
structure G1 (m w:Nat) (p:List Nat) (k j:Nat) (css:List (List Nat)):Prop where
 l:css.length=m + w
 e:∀ o,o < m + w→(css.getD o []).length≤2∧(css.getD o []).Nodup
 v:∀ i,i < m→∀ c∈css.getD (p.getD i 0) [],∃ q,q < limK k j i∧q < i∧c=p.getD q 0
 h:∀ u,u < w→css.getD (p.getD (m + u) 0) []=[]
theorem G1.nil (m w:Nat) (p:List Nat):G1 m w p 0 0 (List.replicate (m + w) []):=by
 have g:∀ o,(List.replicate (m + w) ([]:List Nat)).getD o []=[]:=fun o=>by
  rw [ζc,ξJ]
  split <;> rfl
 exact ⟨ξc,fun o _=>by rw [g]; exact ⟨ζY _,.nil⟩,fun i _ c hc=>by (rw [g] at hc; cases hc),fun u _=>g _⟩
theorem Ul {k j i:Nat}:limK k j i≤limK k (j + 1) i:=by
 unfold limK
 split
 ·exact ζm _
 ·split <;> omega
theorem G1.up {m w k j:Nat} {p:List Nat} {css:List (List Nat)} (g:G1 m w p k j css):G1 m w p k (j + 1) css:=⟨g.l,g.e,fun i hi c hc=>by
 obtain ⟨q,q1,q2,q3⟩:=g.v i hi c hc
 exact ⟨q,ζB q1 Ul,q2,q3⟩,g.h⟩
theorem G1.next {m w k:Nat} {p:List Nat} {css:List (List Nat)} (g:G1 m w p k k css):G1 m w p (k + 1) 0 css:=⟨g.l,g.e,fun i hi c hc=>by
 obtain ⟨q,q1,q2,q3⟩:=g.v i hi c hc
 refine ⟨q,?_,q2,q3⟩
 unfold limK at q1 ⊢
 split at q1
 ·rw [if_pos (by omega)]
  exact q1
 ·split at q1
  ·rw [if_pos (by omega)]
   omega
  ·omega,g.h⟩
theorem G1.add {m w k j:Nat} {p:List Nat} {css:List (List Nat)} (g:G1 m w p k j css) (P:Pn (m + w) p) (hk:k < m) (hj:j < k) (hl:(css.getD (p.getD k 0) []).length < 2):G1 m w p k (j + 1) (vo css (p.getD k 0) (p.getD j 0)):=by
 have pk:=P.lt (show k < m + w by omega)
 have ag:=Zk (css:=css) (x:=p.getD j 0) (show p.getD k 0 < css.length by rw [g.l]; exact pk)
 refine ⟨by rw [uX]; exact g.l,fun o ho=>?_,fun i hi c hc=>?_,fun u hu=>?_⟩
 ·rw [ag]
  split
  ·rename_i e
   subst e
   refine ⟨by rw [ζj]; exact hl,?_⟩
   have nd:=(g.e _ ho).2
   rw [ξB]
   refine ⟨nd,by simp,fun x hx y hy=>?_⟩
   rw [ζh.mp hy]
   rintro rfl
   obtain ⟨q,q1,q2,q3⟩:=g.v k hk _ hx
   have:=P.inj (show j < m + w by omega) (show q < m + w by omega) q3
   unfold limK at q1
   rw [if_neg (ζ3 k),if_pos rfl] at q1
   omega
  ·exact g.e o ho
 ·rw [ag] at hc
  split at hc
  ·rename_i e
   have ik:=P.inj (show i < m + w by omega) (show k < m + w by omega) e
   subst ik
   rcases ζu.mp hc with hc | hc
   ·obtain ⟨q,q1,q2,q3⟩:=g.v i hi c hc
    exact ⟨q,ζB q1 Ul,q2,q3⟩
   ·refine ⟨j,?_,hj,ζh.mp hc⟩
    unfold limK
    rw [if_neg (ζ3 i),if_pos rfl]
    omega
  ·obtain ⟨q,q1,q2,q3⟩:=g.v i hi c hc
   exact ⟨q,ζB q1 Ul,q2,q3⟩
 ·rw [ag,if_neg fun e=>by have:=P.inj (show m + u < m + w by omega) (show k < m + w by omega) e; omega]
  exact g.h u hu
structure Gw (m w:Nat) (p:List Nat) (t:Nat) (css:List (List Nat)):Prop where
 l:css.length=m + w
 e:∀ o,o < m + w→(css.getD o []).length≤2 + t∧(css.getD o []).Nodup
 v:∀ i,i < m→∀ c∈css.getD (p.getD i 0) [],(∃ q,q < i∧c=p.getD q 0)∨∃ u,u < t∧c=p.getD (m + u) 0
 h:∀ u,u < w→css.getD (p.getD (m + u) 0) []=[]
 d:∀ u,u < t→∃ a b,a < m∧b < m∧a≠b∧∀ o,o < m + w→(p.getD (m + u) 0∈css.getD o []↔o=p.getD a 0∨o=p.getD b 0)
theorem G1.toW {m w k:Nat} {p:List Nat} {css:List (List Nat)} (g:G1 m w p k 0 css):Gw m w p 0 css:=⟨g.l,g.e,fun i hi c hc=>by
 obtain ⟨q,_,q2,q3⟩:=g.v i hi c hc
 exact .inl ⟨q,q2,q3⟩,g.h,fun u hu=>absurd hu (Nat.not_lt_zero u)⟩
theorem Gw.out {m w t:Nat} {p:List Nat} {css:List (List Nat)} (g:Gw m w p t css) (P:Pn (m + w) p) (tw:t < w) {o:Nat} (ho:o < m + w):p.getD (m + t) 0∉css.getD o []:=fun hc=>by
 obtain ⟨i,hi,rfl⟩:=P.onto ho
 by_cases im:i < m
 ·rcases g.v i im _ hc with ⟨q,q1,q2⟩ | ⟨u,u1,u2⟩
  ·have:=P.inj (show m + t < m + w by omega) (show q < m + w by omega) q2; omega
  ·have:=P.inj (show m + t < m + w by omega) (show m + u < m + w by omega) u2; omega
 ·have e:=g.h (i - m) (by omega)
  rw [show m + (i - m)=i by omega] at e
  rw [e] at hc
  cases hc
theorem Gw.add {m w t a b:Nat} {p:List Nat} {css:List (List Nat)} (g:Gw m w p t css) (P:Pn (m + w) p) (tw:t < w) (am:a < m) (bm:b < m) (ab:a≠b):Gw m w p (t + 1) (vo (vo css (p.getD a 0) (p.getD (m + t) 0)) (p.getD b 0) (p.getD (m + t) 0)):=by
 have pa:=P.lt (show a < m + w by omega)
 have pb:=P.lt (show b < m + w by omega)
 have pab:p.getD a 0≠p.getD b 0:=fun e=>ab (P.inj (by omega) (by omega) e)
 have ag:∀ k,(vo (vo css (p.getD a 0) (p.getD (m + t) 0)) (p.getD b 0) (p.getD (m + t) 0)).getD k []=if k=p.getD a 0∨k=p.getD b 0 then css.getD k [] ++ [p.getD (m + t) 0] else css.getD k []:=fun k=>by
  rw [Zk (by rw [uX,g.l]; exact pb),Zk (by rw [g.l]; exact pa)]
  by_cases h1:k=p.getD b 0
  ·have h2:k≠p.getD a 0:=fun e=>pab (e.symm.trans h1)
   rw [if_pos h1,if_neg h2,if_pos (Or.inr h1)]
  ·rw [if_neg h1]
   by_cases h2:k=p.getD a 0
   ·rw [if_pos h2,if_pos (Or.inl h2)]
   ·rw [if_neg h2,if_neg fun e=>e.elim h2 h1]
 refine ⟨by rw [uX,uX]; exact g.l,fun o ho=>?_,fun i hi c hc=>?_,fun u hu=>?_,fun u hu=>?_⟩
 ·rw [ag]
  have:=g.e o ho
  split
  ·refine ⟨by rw [ζj]; show _ + 1≤_; omega,?_⟩
   rw [ξB]
   refine ⟨this.2,by simp,fun x hx y hy=>?_⟩
   rw [ζh.mp hy]
   rintro rfl
   exact g.out P tw ho hx
  ·exact ⟨by omega,this.2⟩
 ·have old:∀ c∈css.getD (p.getD i 0) [],(∃ q,q < i∧c=p.getD q 0)∨∃ u,u < t + 1∧c=p.getD (m + u) 0:=fun c hc=>by
   rcases g.v i hi c hc with h | ⟨u,u1,u2⟩
   ·exact .inl h
   ·exact .inr ⟨u,by omega,u2⟩
  rw [ag] at hc
  split at hc
  ·rcases ζu.mp hc with hc | hc
   ·exact old c hc
   ·exact .inr ⟨t,ξR t,ζh.mp hc⟩
  ·exact old c hc
 ·rw [ag,if_neg fun e=>by
   rcases e with e | e
   ·have:=P.inj (show m + u < m + w by omega) (show a < m + w by omega) e; omega
   ·have:=P.inj (show m + u < m + w by omega) (show b < m + w by omega) e; omega]
  exact g.h u hu
 ·by_cases ut:u=t
  ·subst ut
   refine ⟨a,b,am,bm,ab,fun o ho=>?_⟩
   rw [ag]
   have no:=g.out P tw ho
   split
   ·rename_i e
    exact ⟨fun _=>e,fun _=>ζu.mpr (.inr (ζh.mpr rfl))⟩
   ·rename_i e
    exact ⟨fun z=>absurd z no,fun z=>absurd z e⟩
  ·obtain ⟨a',b',h1,h2,h3,h4⟩:=g.d u (by omega)
   refine ⟨a',b',h1,h2,h3,fun o ho=>?_⟩
   rw [← h4 o ho,ag]
   have ne:p.getD (m + u) 0≠p.getD (m + t) 0:=fun e=>by have:=P.inj (show m + u < m + w by omega) (show m + t < m + w by omega) e; omega
   split
   ·rw [ζu,ζh]
    exact ⟨fun z=>z.elim id fun z=>absurd z ne,.inl⟩
   ·exact Iff.rfl
structure Dx (n:Nat) (cs:List (List Nat)) (hs:List Nat):Prop where
 o:OrdC n cs
 n7:n≤7
 u:∀ r∈cs,r.Pairwise (· < ·)
 h:hidF cs hs=true
 r:hs.Pairwise (· < ·)
 b:∀ k∈hs,k < n
theorem len2 {l:List Nat} {a b:Nat} (nd:l.Nodup) (ab:a≠b) (h:∀ x,x∈l↔x=a∨x=b):l.length=2:=by
 have p:l.Perm [a,b]:=(List.perm_ext_iff_of_nodup nd (by simp [ab])).mpr fun x=>by rw [h x]; simp
 rw [p.length_eq]
 rfl
theorem Zq (css:List (List Nat)) (k:Nat):(css.map srtN).getD k []=srtN (css.getD k []):=by
 rw [ζc,ζl,ζc]
 cases css[k]? with
 | none=>exact (ζO.mp (by show (srtN []).length=0; rw [vR]; rfl)).symm
 | some r=>rfl
theorem Gw.dx {m w:Nat} {p:List Nat} {css:List (List Nat)} (g:Gw m w p w css) (P:Pn (m + w) p) (n7:m + w≤7) (w2:w≤2):Dx (m + w) (css.map srtN) (srtN (p.drop m)):=by
 have pl:=P.len
 have nd:p.Nodup:=P.pm.nodup_iff.mpr List.nodup_range
 have rl:∀ o,o < m + w→∀ c∈css.getD o [],c < m + w:=fun o ho c hc=>by
  obtain ⟨i,hi,rfl⟩:=P.onto ho
  by_cases im:i < m
  ·rcases g.v i im _ hc with ⟨q,q1,rfl⟩ | ⟨u,u1,rfl⟩
   ·exact P.lt (by omega)
   ·exact P.lt (by omega)
  ·have e:=g.h (i - m) (by omega)
   rw [show m + (i - m)=i by omega] at e
   rw [e] at hc
   cases hc
 have rows:∀ r∈css.map srtN,∃ o,o < m + w∧r=srtN (css.getD o []):=fun r hr=>by
  obtain ⟨q,hq,rfl⟩:=ζq.mp hr
  obtain ⟨o,ho⟩:=ζH.mp hq
  have ol:=(ζe.mp ho).1
  rw [g.l] at ol
  exact ⟨o,ol,by rw [ζc,ho]; rfl⟩
 have hm:∀ k∈srtN (p.drop m),∃ u,u < w∧k=p.getD (m + u) 0:=fun k hk=>by
  obtain ⟨u,hu⟩:=ζH.mp ((xq _).mem_iff.mp hk)
  have ul:=(ζe.mp hu).1
  rw [ζR] at ul
  rw [List.getElem?_drop] at hu
  exact ⟨u,by omega,by rw [ζc,hu]; rfl⟩
 refine ⟨⟨by rw [ζa]; exact g.l,by omega,fun r hr=>?_,p.drop m ++ p.take m,?_,fun i k hk c hc=>?_⟩,n7,fun r hr=>?_,?_,v3 (nd.sublist (List.drop_sublist m p)),fun k hk=>?_⟩
 ·obtain ⟨o,ho,rfl⟩:=rows r hr
  have:=g.e o ho
  exact ⟨fun c hc=>rl o ho c ((xq _).mem_iff.mp hc),by rw [vR]; omega⟩
 ·exact (List.perm_append_comm.trans (by rw [ξQ])).trans P.pm
 ·rw [Zq] at hc
  have hc:=(xq _).mem_iff.mp hc
  have dl:(p.drop m).length=w:=by rw [ζR]; omega
  by_cases iw:i < w
  ·rw [ζ1 (by omega),List.getElem?_drop] at hk
   have:k=p.getD (m + i) 0:=by rw [ζc,hk]; rfl
   rw [this,g.h i iw] at hc
   cases hc
  ·rw [ζN (by omega),dl] at hk
   have il:=(ζe.mp hk).1
   rw [ζy] at il
   rw [ξG (by omega)] at hk
   have:k=p.getD (i - w) 0:=by rw [ζc,hk]; rfl
   rw [this] at hc
   rw [List.take_append,dl,ζA (by omega)]
   rcases g.v (i - w) (by omega) c hc with ⟨q,q1,rfl⟩ | ⟨u,u1,rfl⟩
   ·refine ζu.mpr (.inr (ζH.mpr ⟨q,?_⟩))
    rw [ξG q1,ξG (by omega)]
    exact zu (by omega)
   ·refine ζu.mpr (.inl (ζH.mpr ⟨u,?_⟩))
    rw [List.getElem?_drop]
    exact zu (by omega)
 ·obtain ⟨o,ho,rfl⟩:=rows r hr
  exact v3 (g.e o ho).2
 ·unfold hidF
  rw [ζ9]
  intro k hk
  obtain ⟨u,hu,rfl⟩:=hm k hk
  obtain ⟨a,b,am,bm,ab,hd⟩:=g.d u hu
  have e1:(css.map srtN).getD (p.getD (m + u) 0) []=[]:=by rw [Zq,g.h u hu]; exact ζO.mp (by rw [vR]; rfl)
  have e2:(effF (css.map srtN) (p.getD (m + u) 0)).length=2:=by
   refine len2 (a:=p.getD a 0) (b:=p.getD b 0) (List.nodup_range.sublist ξY) (fun e=>ab (P.inj (by omega) (by omega) e)) fun o=>?_
   unfold effF
   rw [ζ6,ζQ,ζa,g.l,decide_eq_true_eq,Zq,(xq _).mem_iff]
   constructor
   ·rintro ⟨h1,h2⟩
    exact (hd o h1).mp h2
   ·intro h
    have ol:o < m + w:=by rcases h with rfl | rfl <;> exact P.lt (by omega)
    exact ⟨ol,(hd o ol).mpr h⟩
  unfold hidK
  rw [e1,e2]
  rfl
 ·obtain ⟨u,hu,rfl⟩:=hm k hk
  exact P.lt (by omega)
def w6 (ds:List PyData) (G:PyData→Prop):Prop:=∃ ns:List Int,ds=[il ns]∧G=fun d=>∃ n cs hs,Dx n cs hs∧d=.tuple [nls cs,nl hs]
theorem YB (ds:List PyData) (G:PyData→Prop) (h:w6 ds G):ds.length=1:=by obtain ⟨a,rfl,_⟩:=h; rfl
theorem Xu:zB ["_law_script", "_law_many", "_law_veiled", "_law_row", "_law_numbers_here", "_law_causes", "_law_k", "_law_j", "_law_one", "_law_other"] ["_law_script"] (zm (top 64)):=⟨rfl,rfl,rfl,by decide +kernel,rfl,by decide +kernel,by decide +kernel⟩
theorem XN (F:Fun K "_law_shape" "_law_shape" (top 64) f fd) (B:Bs mg) (Z:Cs K mg cA cB τa τb τc τd τe τf τg τh) (c_law_cell_at:zC P w K mg base CX0 "_law_cell_at" ["_law_script", "_law_k"] 1 (spD K true zX)) (c_law_stream:zC P w K mg base CX0 "_law_stream" ["_law_cell", "_law_many"] 1 (spW K true yz)) (c_law_numbers:zC P w K mg base CX0 "_law_numbers" ["_law_row"] 1 (spW K true xz)):FnOk P w K mg base CX0 2 f fd ["_law_script"] (spW K true w6):=by
 have sc:=Xu
 refine F.ok sc (fun vs H Q E h=>wq YB h) (fun cdv A outer s H vs Q E hr h=>?_)
 obtain ⟨Fh,ds,G,le,dp,p,q⟩:=h
 refine ⟨_,(ze (zF (i:=1) sc.nd rfl (Or.inl rfl) (zv yw (zM c_law_cell_at (hr.mono (by decide)) rfl zN (zb (pv 0) (zb zh zd))) zh))
   (ze (zF (i:=2) sc.nd rfl (Or.inl rfl) zh)
   (ze (yF (yn YU (pv 1) zh (ye _)) (zg (zF (i:=2) sc.nd rfl (Or.inl rfl) (zv yw (zv xA (zM c_law_cell_at (hr.mono (by decide)) rfl zN (zb (pv 0) (zb zh zd))) zh) zh))) yc)
   (ze (zF (i:=3) sc.nd rfl (Or.inl rfl) (zM c_law_stream (hr.mono (by decide)) rfl zN (zb (zM c_law_cell_at (hr.mono (by decide)) rfl zN (zb (pv 0) (zb zh zd))) (zb zh zd))))
   (ze (zF (i:=4) sc.nd rfl (Or.inl rfl) (zM c_law_numbers (hr.mono (by decide)) rfl zN (zb (yZ (xY (K:=K) rfl) (pv 3) xN (xt (zv yp (pv 1) (pv 2)))) zd)))
   (ze (xC (i:=5) rfl sc.nd rfl rfl (N:=["_law_k"]) (js:=[none]) (by walk_at"comp_ok") (zI (K:=K) rfl (pv 4)) (fun _ _ _ _=>(zk (i:=0) (show List.Nodup (["_law_k"]:List PySem.Str) by decide +kernel) rfl (Or.inl rfl))) (fun _ _ _ _=>yh) (fun _ _ _ _=>(zW zd)))
   (ze (yi PassesOwn.never rfl (yt rfl B.range (zb (pv 1) zd)) (zk (i:=6) sc.nd rfl (Or.inl rfl)) (zg (yi PassesOwn.never rfl (yt rfl B.range (zb (pv 6) zd)) (zk (i:=7) sc.nd rfl (Or.inl rfl)) (zg (yF (PW.pt (zaf (yn zas (zv yw (zv xA (zL (zA (K:=K) rfl) (pv 3) (zv yp zh (pv 6)) (fun _ _=>rfl)) (zL (yq (K:=K) rfl) (vG (zb zh (zb zh (zb zh (zb zh (zb zh zd)))))) (pv 7) (fun _ _=>rfl))) zh) zh (ye _)) (U6 (yn U8 (zq (zw (K:=K) rfl) rfl B.len (by decide +kernel) (zb (zL (zA (K:=K) rfl) (pv 5) (zL (zA (K:=K) rfl) (pv 4) (pv 6) (fun _ _=>rfl)) (fun _ _=>rfl)) zd)) zh (ye _))))) (zg (yd (yb (K:=K) rfl ζo ζw ζv zV (zL (zA (K:=K) rfl) (pv 5) (zL (zA (K:=K) rfl) (pv 4) (pv 6) (fun _ _=>rfl)) (fun _ _=>rfl)) (zb (zL (zA (K:=K) rfl) (pv 4) (pv 7) (fun _ _=>rfl)) zd)))) yc)))))
   (ze (yi PassesOwn.never rfl (yt rfl B.range (zb (pv 2) zd)) (zk (i:=6) sc.nd rfl (Or.inl rfl)) (ze (zF (i:=8) sc.nd rfl (Or.inl rfl) (zv yw (zL (zA (K:=K) rfl) (pv 3) (zv yp zh (pv 6)) (fun _ _=>rfl)) (pv 1)))
   (ze (zF (i:=9) sc.nd rfl (Or.inl rfl) (zv yw (zv yp (zv yp (pv 8) zh) (zv yw (zL (zA (K:=K) rfl) (pv 3) (zv yp zh (pv 6)) (fun _ _=>rfl)) (zv zap (pv 1) zh))) (pv 1)))
   (ze (yd (yb (K:=K) rfl ζo ζw ζv zV (zL (zA (K:=K) rfl) (pv 5) (zL (zA (K:=K) rfl) (pv 4) (pv 8) (fun _ _=>rfl)) (fun _ _=>rfl)) (zb (zL (zA (K:=K) rfl) (pv 4) (zv yp (pv 1) (pv 6)) (fun _ _=>rfl)) zd)))
   (zg (yd (yb (K:=K) rfl ζo ζw ζv zV (zL (zA (K:=K) rfl) (pv 5) (zL (zA (K:=K) rfl) (pv 4) (pv 9) (fun _ _=>rfl)) (fun _ _=>rfl)) (zb (zL (zA (K:=K) rfl) (pv 4) (zv yp (pv 1) (pv 6)) (fun _ _=>rfl)) zd))))))))
   (zg (zH (vG (zb (yk rfl (N:=["_law_row"]) (js:=[none]) (by walk_at"comp_ok") (zI (K:=K) rfl (pv 5)) (fun _ _ _ _=>(zk (i:=0) (show List.Nodup (["_law_row"]:List PySem.Str) by decide +kernel) rfl (Or.inl rfl))) (fun _ _ _ _=>yh) (fun _ _ _ _=>(zq (wA (K:=K) rfl) rfl B.sorted (by decide +kernel) (zb (pv 0) zd)))) (zb (zq (wA (K:=K) rfl) rfl B.sorted (by decide +kernel) (zb (yZ (xY (K:=K) rfl) (pv 4) (xt (pv 1)) xN) zd)) zd))))))))))))),?_⟩
 have hN:(["_law_script", "_law_many", "_law_veiled", "_law_row", "_law_numbers_here", "_law_causes", "_law_k", "_law_j", "_law_one", "_law_other"]:List Str).length=10:=rfl
 obtain ⟨ns,rfl,rfl⟩:=p
 have big:=zJ
 refine xK le dp q hN (by walk_at"st") ?_
 have pc0:zX [il ns,.int 0] (.int (xQ ns 0)):=⟨ns,0,rfl,by decide,rfl⟩
 have pc1:zX [il ns,.int 1] (.int (xQ ns 1)):=⟨ns,1,rfl,by decide,rfl⟩
 obtain ⟨m,hm,m6⟩:∃ m:Nat,xQ ns 0 % 6=(m:Int)∧m < 6:=xj (xQ ns 0) (show 0 < 6 by decide)
 obtain ⟨w,hw,w3⟩:∃ m:Nat,xQ ns 0 / 6 % 3=(m:Int)∧m < 3:=xj (xQ ns 0 / 6) (show 0 < 3 by decide)
 refine exs true (d:=.int (m:Int)) (EvE.eq (yJ (zr (by walk_at"ev") pc0) (by walk_at"ev") (by decide)) (congrArg PyData.int hm)) (by walk_at"sc") ?_
 refine exs true (d:=.int ((0:Nat):Int)) (show EvE K .fresh true _ _ (.int 0) by walk_at"ev") (by walk_at"sc") ?_
 refine exif (b:=decide ((1:Int) < (m:Int))) (fun Γ=>∃ w:Nat,w≤2∧(0 < w→1 < m)∧Γ=[some (.fz false (il ns)),some (.fz true (.int (m:Int))),some (.fz true (.int (w:Int))),none,none,none,none,none,none,none]) (yf (ZW (by walk_at"ev") (by walk_at"ev"))) (fun h=>?_) (fun _=>xB ⟨0,by decide,fun z=>absurd z (ζ3 0),rfl⟩) ?_
 ·have h:=of_decide_eq_true h
  exact exs1 true (d:=.int (w:Int)) (EvE.eq (yJ (xx (zr (by walk_at"ev") pc0) (by walk_at"ev") ⟨by decide,by decide⟩) (by walk_at"ev") (by decide)) (congrArg PyData.int hw)) (by walk_at"sc") ⟨w,by omega,fun _=>by omega,rfl⟩
 clear hw w3 w
 rintro Γ0 ⟨w,w2,wm,rfl⟩
 refine exg true (y0 (zi (zr (by walk_at"ev") pc1) (by walk_at"ev")) (show yz [.int (xQ ns 1),.int 24] _ from ⟨xQ ns 1,24,rfl,by decide,rfl⟩)) (fun d=>by walk_at"sc") ?_
 rintro d ⟨xs,xl,xb,rfl⟩
 have tl:(xs.take (m + w)).length=m + w:=by rw [ζy]; omega
 refine exg true (y0 (zi (EvO.toE (EvO.eq (y6 (lo:=none) (hi:=some ((m + w:Nat):Int)) (ds:=xs.map .int) (by walk_at"ev") (by walk_at"ev") (xf (EvE.eq (yv (by walk_at"ev") (by walk_at"ev")) (by rw [ζ2])))) (TL _ xs (m + w)))) zG) ⟨xs.take (m + w),rfl,by omega,rfl⟩) (fun d=>by walk_at"sc") ?_
 rintro d ⟨p,pm,rfl⟩
 rw [tl] at pm
 have PN:Pn (m + w) p:=⟨pm⟩
 have pl:=PN.len
 have pn:∀ i,i < m + w→p.getD i 0 < m + w:=fun i hi=>PN.lt hi
 have na:∀ {κ:Bool} {Γ0:PD.Ctx} {ti:TE} {i:Nat},GetC Γ0 4 (.fz true (nl p))→i < m + w→EvE K .fresh false ti Γ0 (.int (i:Int))→EvE K .fresh κ (tOp (rIxL K) (tVar 4) ti) Γ0 (.int (p.getD i 0:Nat)):=fun {κ Γ0 ti i} h hi h3=>EvE.imm (κ:=false) (zY (ds:=p.map fun k:Nat=>PyData.int (k:Int)) (EvE.toL (evv h (by decide))) h3 (zdg (by omega))) rfl
 refine exr (d:=nls (List.replicate (m + w) [])) (EvTr.eq (za7 (is:=[0]) (xs:=p) true (fun k:Nat=>.int (k:Int)) (fun _=>.list []) (fun _ _ _ _ _=>rfl) (zS (by walk_at"ev")) (by walk_at"cc") rfl (by decide) (by omega) fun x hx=>egn (by walk_at"sc") zcq) (by show PyData.list _=.list _; rw [List.map_replicate,List.map_const',pl]; rfl)) (by walk_at"sc") ?_
 refine xc (ds:=(List.range m).map fun i:Nat=>.int (i:Int)) true (fun t Γ=>∃ css b6 b7,G1 m w p t 0 css∧Γ=[some (.fz false (il ns)),some (.fz true (.int (m:Int))),some (.fz true (.int (w:Int))),some (.fz true (il xs)),some (.fz true (nl p)),some (trD (nls css)),b6,b7,none,none]) (xg (n:=(m:Int)) (by walk_at"ev") (by omega) (by omega)) ⟨_,none,none,G1.nil m w p,rfl⟩ ?_ ?_
 ·rintro k d Γ' hd ⟨css,b6,b7,co,rfl⟩
  obtain ⟨hk,rfl⟩:=yx hd
  refine ⟨_,egn (by walk_at"sc") ?_⟩
  refine tE (ds:=(List.range k).map fun i:Nat=>.int (i:Int)) true (fun j Γ=>∃ css b7,G1 m w p k j css∧Γ=[some (.fz false (il ns)),some (.fz true (.int (m:Int))),some (.fz true (.int (w:Int))),some (.fz true (il xs)),some (.fz true (nl p)),some (trD (nls css)),some (.fz true (.int (k:Int))),b7,none,none]) (xg (n:=(k:Int)) (by walk_at"ev") (by omega) (by omega)) ⟨css,_,co,rfl⟩ ?_ ?_
  ·clear co css
   rintro j d Γ' hd ⟨css,b7,co,rfl⟩
   obtain ⟨hj,rfl⟩:=yx hd
   refine ⟨_,egn (by walk_at"sc") ?_⟩
   obtain ⟨dv,hdv,dv0,dv1⟩:=five (show j < 5 by omega)
   have cl:=co.l
   have pk:=pn k (by omega)
   have ae:atI (css.map nl) (p.getD k 0:Nat)=some (nl (css.getD (p.getD k 0) [])):=Ww (by rw [cl]; exact pk)
   have ax:atI (xs.map PyData.int) (8 + (k:Int))=some (.int (xs.getD (8 + k) 0)):=by
    have:=yM (g:=PyData.int) (i:=8 + k) (zu (d:=0) (show 8 + k < xs.length by omega))
    rwa [ζ2] at this
   refine Y3 (b:=!decide (xs.getD (8 + k) 0 / dv % 3=0) && decide (((css.getD (p.getD k 0) []).length:Int) < 2)) (zbk 5 (by walk_at"gc") (by walk_at"sc") (UB (yf (Wj (yJ (xx (EvE.imm (κ:=false) (zY (ds:=xs.map .int) (by walk_at"ev") (yv (by walk_at"ev") (by walk_at"ev")) ax) rfl) (yV (κ:=false) (ds:=[.int 1,.int 3,.int 9,.int 27,.int 81]) (vg (ds:=[.int 1,.int 3,.int 9,.int 27,.int 81]) (by walk_at"ev") (by show 5≤sizeLine; omega)) (by walk_at"ev") hdv) ⟨dv0,by omega⟩) (by walk_at"ev") (by decide)) (by walk_at"ev"))) fun _=>yf (VE (EvE.eq (yu (ds:=(css.getD (p.getD k 0) []).map fun k:Nat=>PyData.int (k:Int)) (EvE.toL (zY (κ:=false) (ds:=css.map nl) (by walk_at"ev") (na (by walk_at"gc") (by omega) (by walk_at"ev")) ae))) (by rw [ζa])) (by walk_at"ev")))) (fun h=>?_) (fun _=>xB ⟨css,_,co.up,rfl⟩)
   have hl:(css.getD (p.getD k 0) []).length < 2:=by have:=of_decide_eq_true (ξp.mp h).2; omega
   exact za3 (Wf (o:=p.getD k 0) (v:=p.getD j 0) (by walk_at"gc") (by rw [cl]; exact pk) (na (by walk_at"gc") (by omega) (by walk_at"ev")) (na (by walk_at"gc") (by omega) (by walk_at"ev")) (by omega) (by walk_at"sc") (xB ⟨_,_,co.add PN hk hj hl,rfl⟩))
  ·clear co css
   rintro Γ' ⟨css,b7,co,rfl⟩
   rw [yO] at co
   exact ⟨css,_,_,co.next,rfl⟩
 rintro Γ0 ⟨css,b6,b7,co,rfl⟩
 refine xc (ds:=(List.range w).map fun i:Nat=>.int (i:Int)) true (fun t Γ=>∃ css b6 b8 b9,Gw m w p t css∧Γ=[some (.fz false (il ns)),some (.fz true (.int (m:Int))),some (.fz true (.int (w:Int))),some (.fz true (il xs)),some (.fz true (nl p)),some (trD (nls css)),b6,b7,b8,b9]) (xg (n:=(w:Int)) (by walk_at"ev") (by omega) (by omega)) ⟨css,_,_,_,co.toW,rfl⟩ ?_ ?_
 ·clear co css b6
  rintro t d Γ' hd ⟨css,b6,b8,b9,co,rfl⟩
  obtain ⟨ht,rfl⟩:=yx hd
  have m1:=wm (by omega)
  refine ⟨_,egn (by walk_at"sc") ?_⟩
  have ax:∀ {a:Nat},a + t < xs.length→atI (xs.map PyData.int) ((a:Int) + (t:Int))=some (.int (xs.getD (a + t) 0)):=fun {a} h=>by
   have:=yM (g:=PyData.int) (i:=a + t) (zu (d:=0) h)
   rwa [ζ2] at this
  obtain ⟨o,ho,om⟩:=xj (xs.getD (16 + t) 0) (show 0 < m by omega)
  obtain ⟨v,hv,vm⟩:=xj (xs.getD (20 + t) 0) (show 0 < m - 1 by omega)
  obtain ⟨u,hu,um⟩:=xj ((o:Int) + 1 + (v:Int)) (show 0 < m by omega)
  have ou:o≠u:=fun e=>by
   subst e
   have e2:((o:Int) + 1 + (v:Int)) % (m:Int)=if (o:Int) + 1 + v < m then (o:Int) + 1 + v else (o:Int) + 1 + v - m:=by
    split
    ·exact ξ3 (by omega) (by omega)
    ·rw [← Int.sub_emod_right,ξ3 (by omega) (by omega)]
   rw [e2] at hu
   split at hu <;> omega
  have hv':xs.getD (20 + t) 0 % ((m:Int) - 1)=(v:Int):=by rw [← hv]; congr 1; omega
  refine exs true (d:=.int (o:Int)) (EvE.eq (yJ (EvE.imm (κ:=false) (zY (ds:=xs.map .int) (by walk_at"ev") (yv (i:=((16:Nat):Int)) (show EvE K .fresh false _ _ (.int 16) by walk_at"ev") (by walk_at"ev")) (ax (a:=16) (by omega))) rfl) (by walk_at"ev") (by omega)) (congrArg PyData.int ho)) (by walk_at"sc") ?_
  refine exs true (d:=.int (u:Int)) (EvE.eq (yJ (yv (yv (by walk_at"ev") (by walk_at"ev")) (EvE.eq (yJ (EvE.imm (κ:=false) (zY (ds:=xs.map .int) (by walk_at"ev") (yv (i:=((20:Nat):Int)) (show EvE K .fresh false _ _ (.int 20) by walk_at"ev") (by walk_at"ev")) (ax (a:=20) (by omega))) rfl) (zbe (by walk_at"ev") (by walk_at"ev")) (by omega)) (congrArg PyData.int hv'))) (by walk_at"ev") (by omega)) (congrArg PyData.int hu)) (by walk_at"sc") ?_
  have cl:=co.l
  have mt:(m:Int) + (t:Int)=((m + t:Nat):Int):=(ζ2 ..).symm
  have c1:=(co.e _ (pn o (by omega))).1
  have po:=pn o (by omega)
  have pu:=pn u (by omega)
  have c2:((vo css (p.getD o 0) (p.getD (m + t) 0)).getD (p.getD u 0) []).length≤1000:=by
   rw [Zk (by rw [cl]; exact po)]
   have:=(co.e _ pu).1
   split
   ·rw [ζj]
    show _ + 1≤_
    omega
   ·omega
  refine Wf (o:=p.getD o 0) (v:=p.getD (m + t) 0) (by walk_at"gc") (by rw [cl]; exact po) (na (by walk_at"gc") (by omega) (by walk_at"ev")) (na (by walk_at"gc") (by omega) (EvE.eq (yv (by walk_at"ev") (by walk_at"ev")) (congrArg PyData.int mt))) (by omega) (by walk_at"sc") ?_
  exact za3 (Wf (o:=p.getD u 0) (v:=p.getD (m + t) 0) (by walk_at"gc") (by rw [uX,cl]; exact pu) (na (by walk_at"gc") (by omega) (by walk_at"ev")) (na (by walk_at"gc") (by omega) (EvE.eq (yv (by walk_at"ev") (by walk_at"ev")) (congrArg PyData.int mt))) c2 (by walk_at"sc") (xB ⟨_,_,_,_,co.add PN ht om um ou,rfl⟩))
 ·clear co css b6
  rintro Γ' ⟨css,b6,b8,b9,co,rfl⟩
  rw [yO] at co
  have cl:=co.l
  refine zdY 5 (by walk_at"gc") (by walk_at"sc") ?_
  have rl:∀ r∈css,r.length≤4:=fun r hr=>by
   obtain ⟨o,ho⟩:=ζH.mp hr
   have ol:=(ζe.mp ho).1
   have:=(co.e o (by omega)).1
   rw [ζc,ho] at this
   have:r.length≤2 + w:=this
   omega
  exact zP true (d:=.tuple [nls (css.map srtN),nl (srtN (p.drop m))]) (vg (ds:=[nls (css.map srtN),nl (srtN (p.drop m))]) (zi (EvO.toE (EvO.eq (yg (κ:=true) (is:=[0]) (xs:=css) true nl (fun r=>nl (srtN r)) (fun x _ y _ h=>by rw [show x=y from by rw [← Zn x,h,Zn]]) (zS (by walk_at"ev")) (by walk_at"cc") rfl (by decide) (by omega) fun r hr=>egn (by walk_at"sc") (EvE.eq (EvO.toE (vI (ns:=zl r) (EvE.toL (EvE.eq (κ:=false) (by walk_at"ev") (vN r))) (by rw [ub]; have:=rl r hr; omega))) (congrArg PyData.list (Xk _)))) (by rw [ζr]; rfl))) (zi (EvE.eq (EvO.toE (vI (ns:=zl (p.drop m)) (EvO.toL (EvO.eq (y6 (κ:=false) (lo:=some (m:Int)) (hi:=none) (ds:=p.map fun k:Nat=>.int (k:Int)) (by walk_at"ev") (xf (by walk_at"ev")) (by walk_at"ev")) ((uT _ p m).trans (PyData.list.inj (vN _))))) (by rw [ub,ζR]; omega))) (congrArg PyData.list (Xk _))) zG)) (by show 2≤sizeLine; omega)) ⟨m + w,css.map srtN,srtN (p.drop m),co.dx PN (by omega) w2,rfl⟩ (.inl ⟨rfl,rfl⟩)
abbrev abc:Str := "abcdefghijklmnopqrstuvwxyz"
theorem zby:∀ r:Nat,r < 26→atI abc.cps.toList (r:Int)=some (97 + r):=by decide +kernel
theorem TQ:abc.length=26:=by decide +kernel
theorem zed:∀ r:Nat,r < 26→Builtin.Str.occurrences abc ⟨#[97 + r]⟩ 0 abc.length 1=[r]:=by decide +kernel
def Let (z:Str):Prop:=∀ c∈z.cps.toList,∃ r,r < 26∧c=97 + r
theorem Let.snoc {z:Str} (h:Let z) {r:Nat} (hr:r < 26):Let (z ++ ⟨#[97 + r]⟩):=fun c hc=>by
 have hc:c∈(z.cps ++ #[97 + r]).toList:=hc
 rw [ξZ] at hc
 rcases ζu.mp hc with hc | hc
 ·exact h c hc
 ·exact ⟨r,hr,by simpa using hc⟩
theorem Ze (c:Nat):(⟨#[c]⟩:Str).length=1:=rfl
def nmF (z:Str) (a r:Nat) (fl:Bool) (t:Nat):Str:=if fl && decide (t < z.length) then Txt.slice z none (some ((t:Int) + 1)) else Txt.slice z none (some (a:Int)) ++ ⟨#[97 + (r + t) % 26]⟩ ++ Txt.slice z (some ((a:Int) + 1)) none
theorem zcR {z:Str} {k:Nat} (h:k≤z.length):(Txt.slice z none (some (k:Int))).cps.toList=z.cps.toList.take k:=by
 have:Txt.slice z none (some (k:Int))=_:=StrLaws.sliceText_to (x:=z) (j:=(k:Int)) ⟨by omega,by show (k:Int)≤(z.length:Nat); omega⟩
 rw [this]
 show List.take _ (List.drop 0 _)=_
 rw [ξP,show ((k:Int) - 0).toNat=k by omega]
theorem zbJ {z:Str} {k:Nat} (h:k≤z.length):(Txt.slice z (some (k:Int)) none).cps.toList=z.cps.toList.drop k:=by
 have:Txt.slice z (some (k:Int)) none=_:=StrLaws.sliceText_from (x:=z) (i:=(k:Int)) ⟨by omega,by show (k:Int)≤(z.length:Nat); omega⟩
 rw [this]
 show List.take _ (List.drop _ _)=_
 have e:z.cps.toList.length=z.length:=rfl
 rw [ζI,ζA (by rw [ζR]; omega)]
theorem Uj {z:Str} {a r t:Nat} {fl:Bool} (ha:a < z.length):(nmF z a r fl t).cps.toList=if fl && decide (t < z.length) then z.cps.toList.take (t + 1) else z.cps.toList.take a ++ (97 + (r + t) % 26) :: z.cps.toList.drop (a + 1):=by
 unfold nmF
 split
 ·rename_i h
  have:=of_decide_eq_true (ξp.mp h).2
  rw [show ((t:Int) + 1)=((t + 1:Nat):Int) by omega]
  exact zcR (by omega)
 ·rw [Tx.vM,Tx.vM,zcR (by omega),show ((a:Int) + 1)=((a + 1:Nat):Int) by omega,zbJ (by omega),ζS]
  rfl
theorem Td {z:Str} {a r:Nat} (ha:a < z.length) (t:Nat):(z.cps.toList.take a ++ (97 + (r + t) % 26) :: z.cps.toList.drop (a + 1))[a]?=some (97 + (r + t) % 26)∧(z.cps.toList.take a ++ (97 + (r + t) % 26) :: z.cps.toList.drop (a + 1)).length=z.length:=by
 have e:z.cps.toList.length=z.length:=rfl
 have tl:(z.cps.toList.take a).length=a:=by rw [ζy]; omega
 refine ⟨?_,by rw [ζj,ζL,tl,ζR]; omega⟩
 rw [ζN (by omega),tl,ξF]
 rfl
theorem zdM {z:Str} {a r t u:Nat} {fl:Bool} (ha:a < z.length) (hr:z.cps.toList[a]?=some (97 + r)) (r26:r < 26) (t26:t < 26) (u26:u < 26) (h:nmF z a r fl t=nmF z a r fl u):t=u:=by
 have e:z.cps.toList.length=z.length:=rfl
 have h:=congrArg (fun s:Str=>s.cps.toList) h
 have h:(nmF z a r fl t).cps.toList=(nmF z a r fl u).cps.toList:=h
 rw [Uj ha,Uj ha] at h
 have n1:=Td (r:=r) ha t
 have n2:=Td (r:=r) ha u
 have key:∀ {t u:Nat},t < 26→u < 26→z.cps.toList.take (t + 1)=z.cps.toList.take a ++ (97 + (r + u) % 26) :: z.cps.toList.drop (a + 1)→t < z.length→¬ u < z.length→False:=fun {t u} t26 u26 h tl ul=>by
  have n2:=Td (r:=r) ha u
  rw [← h] at n2
  have l:=n2.2
  rw [ζy] at l
  have x:=n2.1
  rw [ζA (by omega),hr] at x
  have x:=ζD x
  omega
 cases fl with
 | false =>
  rw [Bool.false_and,Bool.false_and,if_neg (fun z=>nomatch z),if_neg (fun z=>nomatch z)] at h
  rw [h] at n1
  have:=ζD (n1.1.symm.trans n2.1)
  omega
 | true =>
  rw [Bool.true_and,Bool.true_and] at h
  by_cases h1:t < z.length
  ·by_cases h2:u < z.length
   ·rw [if_pos (decide_eq_true h1),if_pos (decide_eq_true h2)] at h
    have:=congrArg List.length h
    rw [ζy,ζy] at this
    omega
   ·rw [if_pos (decide_eq_true h1),if_neg (fun z=>h2 (of_decide_eq_true z))] at h
    exact (key t26 u26 h h1 h2).elim
  ·by_cases h2:u < z.length
   ·rw [if_neg (fun z=>h1 (of_decide_eq_true z)),if_pos (decide_eq_true h2)] at h
    exact (key u26 t26 h.symm h2 h1).elim
   ·rw [if_neg (fun z=>h1 (of_decide_eq_true z)),if_neg (fun z=>h2 (of_decide_eq_true z))] at h
    rw [h] at n1
    have:=ζD (n1.1.symm.trans n2.1)
    omega
theorem zeq {z:Str} {a r t:Nat} {fl:Bool} (lz:Let z) (l8:z.length≤8) (ha:a < z.length):NmOk (nmF z a r fl t):=by
 have e:z.cps.toList.length=z.length:=rfl
 have c:=Uj (r:=r) (t:=t) (fl:=fl) ha
 have lq:(nmF z a r fl t).cps.toList.length=(nmF z a r fl t).length:=rfl
 have L:∀ c∈z.cps.toList,97≤c∧c≤122:=fun c hc=>by
  obtain ⟨r,hr,e⟩:=lz c hc
  omega
 split at c
 ·rename_i h
  have h:=of_decide_eq_true (ξp.mp h).2
  rw [c,ζy] at lq
  exact ⟨by omega,by omega,fun x hx=>by rw [c] at hx; exact L x (ζZ hx)⟩
 ·have:=(Td (r:=r) ha t).2
  rw [c,this] at lq
  refine ⟨by omega,by omega,fun x hx=>?_⟩
  rw [c] at hx
  rcases ζu.mp hx with hx | hx
  ·exact L x (ζZ hx)
  ·rcases ζs.mp hx with rfl | hx
   ·omega
   ·exact L x (ξU hx)
def w9 (ds:List PyData) (G:PyData→Prop):Prop:=∃ (c:Int) (m:Nat),ds=[.int c,.int (m:Int)]∧m≤12∧G=fun d=>∃ zs:List Str,zs.length=m∧zs.Nodup∧(∀ z∈zs,NmOk z)∧d=stL zs
theorem YD (ds:List PyData) (G:PyData→Prop) (h:w9 ds G):ds.length=2:=by obtain ⟨a,b,rfl,_⟩:=h; rfl
theorem Xw:zB ["_law_cell", "_law_many", "_law_letters", "_law_base", "_law_number", "_law_at", "_law_names_here", "_law_k", "_law_sign"] ["_law_cell", "_law_many"] (zm (top 65)):=⟨rfl,rfl,rfl,by decide +kernel,rfl,by decide +kernel,by decide +kernel⟩
theorem XQ (F:Fun K "_law_names" "_law_names" (top 65) f fd) (B:Bs mg) (Z:Cs K mg cA cB τa τb τc τd τe τf τg τh) (c_law_stream:zC P w K mg base CX0 "_law_stream" ["_law_cell", "_law_many"] 1 (spW K true yz)):FnOk P w K mg base CX0 2 f fd ["_law_cell", "_law_many"] (spW K true w9):=by
 have sc:=Xw
 refine F.ok sc (fun vs H Q E h=>wq YD h) (fun cdv A outer s H vs Q E hr h=>?_)
 obtain ⟨Fh,ds,G,le,dp,p,q⟩:=h
 refine ⟨_,(ze (zF (i:=2) sc.nd rfl (Or.inl rfl) yI)
   (ze (zF (i:=3) sc.nd rfl (Or.inl rfl) yI)
   (ze (yi PassesOwn.never rfl (zI (K:=K) rfl (zM c_law_stream (hr.mono (by decide)) rfl zN (zb (zv xA (pv 0) zh) (zb (zv yp zh (zv yw (pv 0) zh)) zd)))) (zk (i:=4) sc.nd rfl (Or.inl rfl)) (zg (zF (i:=3) sc.nd rfl (Or.inl rfl) (zv Zd (pv 3) (zL X8 (pv 2) (zv yw (pv 4) zh) (fun _ _=>rfl))))))
   (ze (zF (i:=5) sc.nd rfl (Or.inl rfl) (zv yw (zv xA (pv 0) zh) (zq v6 rfl B.len (by decide +kernel) (zb (pv 3) zd))))
   (ze (zF (i:=6) sc.nd rfl (Or.inl rfl) (zW zd))
   (ze (yi PassesOwn.never rfl (yt rfl B.range (zb (pv 1) zd)) (zk (i:=7) sc.nd rfl (Or.inl rfl)) (zg (yF (PW.pt (zaf (yn v8 (zv yw (zv xA (pv 0) zh) zh) zh (ye _)) (U6 (yn U8 (pv 7) (zq v6 rfl B.len (by decide +kernel) (zb (pv 3) zd)) (ye _))))) (zg (yd (yb (K:=K) rfl ζo ζw ζv zV (pv 6) (zb (yZ Xm (pv 3) xN (xt (zv yp (pv 7) zh))) zd)))) (ze (zF (i:=8) sc.nd rfl (Or.inl rfl) (zL X8 (pv 2) (zv yw (zv yp (yb (K:=K) rfl ζ0 PySem.F.slot_str_index PySem.F.type_str_index Qh (pv 2) (zb (zL X8 (pv 3) (pv 5) (fun _ _=>rfl)) zd)) (pv 7)) zh) (fun _ _=>rfl)))
   (zg (yd (yb (K:=K) rfl ζo ζw ζv zV (pv 6) (zb (zv Zd (zv Zd (yZ Xm (pv 3) xN (xt (pv 5))) (pv 8)) (yZ Xm (pv 3) (xt (zv yp (pv 5) zh)) xN)) zd))))))))
   (zg (zH (pv 6))))))))),?_⟩
 have hN:(["_law_cell", "_law_many", "_law_letters", "_law_base", "_law_number", "_law_at", "_law_names_here", "_law_k", "_law_sign"]:List Str).length=9:=rfl
 obtain ⟨c,m,rfl,m12,rfl⟩:=p
 have big:=zJ
 refine xK le dp q hN (by walk_at"st") ?_
 refine exs true (d:=.str abc) (by walk_at"ev") (by walk_at"sc") ?_
 refine exs true (d:=.str "") (by walk_at"ev") (by walk_at"sc") ?_
 obtain ⟨e,he,e8⟩:∃ m:Nat,c % 8=(m:Int)∧m < 8:=xj c (show 0 < 8 by decide)
 refine wa (fun Γ=>∃ z b4,Let z∧z.length=1 + e∧Γ=[some (.fz false (.int c)),some (.fz false (.int (m:Int))),some (.fz true (.str abc)),some (.fz true (.str z)),b4,none,none,none,none]) (za2 true (fun _ i Γ=>∃ z b4,Let z∧z.length=i∧i≤1 + e∧Γ=[some (.fz false (.int c)),some (.fz false (.int (m:Int))),some (.fz true (.str abc)),some (.fz true (.str z)),b4,none,none,none,none]) (VI (G:=fun d=>∃ xs:List Int,xs.length=1 + e∧(∀ x∈xs,0≤x∧x < 2147483647)∧d=il xs) (y0 (zi (xx (by walk_at"ev") (by walk_at"ev") ⟨by decide,by decide⟩) (zi (EvE.eq (yv (by walk_at"ev") (EvE.eq (yJ (by walk_at"ev") (by walk_at"ev") (by decide)) (congrArg PyData.int he))) (by rw [ζ2]; rfl)) zG)) ⟨c / 3,1 + e,rfl,by omega,rfl⟩) (fun d hd=>by obtain ⟨xs,_,_,rfl⟩:=hd; exact ⟨_,rfl⟩)) (fun _ _=>⟨"", none,fun c hc=>(nomatch hc),rfl,ζY _,rfl⟩) ?_ ?_) ?_
 ·rintro ds i d Γ' ⟨xs,xl,xb,ex⟩ hd ⟨z,b4,lz,zl,il,rfl⟩
  cases ex
  obtain ⟨x,hx,rfl⟩:=xw hd
  have ilt:=(ζe.mp hx).1
  refine ⟨_,egn (by walk_at"sc") ?_⟩
  obtain ⟨r,hr,r26⟩:∃ m:Nat,x % 26=(m:Int)∧m < 26:=xj x (show 0 < 26 by decide)
  refine exs1 true (d:=.str (z ++ ⟨#[97 + r]⟩)) (Zj (by walk_at"ev") (Wk (i:=(r:Int)) (by walk_at"ev") (EvE.eq (yJ (by walk_at"ev") (by walk_at"ev") (by decide)) (congrArg PyData.int hr)) (by rw [TQ]; omega) (zby r r26)) (by rw [Ze]; omega)) (by walk_at"sc") ?_
  exact ⟨_,_,lz.snoc r26,by rw [Str.length_append,Ze,zl],by omega,rfl⟩
 ·rintro ds Γ' ⟨xs,xl,xb,ex⟩ ⟨z,b4,lz,zl,il,rfl⟩
  cases ex
  exact ⟨z,b4,lz,by rw [zl,ζa,xl],rfl⟩
 rintro Γ0 ⟨z,b4,lz,zl,rfl⟩
 obtain ⟨a,ha,az⟩:=xj (c / 8) (show 0 < z.length by omega)
 refine exs true (d:=.int (a:Int)) (EvE.eq (yJ (xx (by walk_at"ev") (by walk_at"ev") ⟨by decide,by decide⟩) (Zh (by walk_at"ev") (by omega)) (by omega)) (congrArg PyData.int ha)) (by walk_at"sc") ?_
 refine exo true (ds:=(((List.range 0).map (nmF z a 0 false)):List Str).map .str) (zZ (ds:=[]) zG (by decide)) (by walk_at"sc") ?_
 have ag:z.cps.toList[a]?=some (z.cps.toList.getD a 0):=zu (d:=0) (by simpa [Str.length] using az)
 obtain ⟨r,r26,hr⟩:=lz (z.cps.toList.getD a 0) (ζd ag)
 rw [hr] at ag
 have az':atI z.cps.toList (a:Int)=some (97 + r):=yX ag
 refine xc (ds:=(List.range m).map fun i:Nat=>.int (i:Int)) true (fun t Γ=>∃ (b7 b8:Option DV),Γ=[some (.fz false (.int c)),some (.fz false (.int (m:Int))),some (.fz true (.str abc)),some (.fz true (.str z)),b4,some (.fz true (.int (a:Int))),some (.ow true (((List.range t).map (nmF z a r (decide (c / 64 % 2=1)))).map .str)),b7,b8]) (xg (n:=(m:Int)) (by walk_at"ev") (by omega) (by omega)) ⟨none,none,rfl⟩ ?_ ?_
 ·rintro t d Γ' hd ⟨b7,b8,rfl⟩
  obtain ⟨ht,rfl⟩:=yx hd
  refine ⟨_,egn (by walk_at"sc") ?_⟩
  have sn:∀ w:Str,nmF z a r (decide (c / 64 % 2=1)) t=w→((List.range (t + 1)).map (nmF z a r (decide (c / 64 % 2=1)))).map PyData.str=((List.range t).map (nmF z a r (decide (c / 64 % 2=1)))).map PyData.str ++ [.str w]:=fun w hw=>by rw [ξX,ζE,ζE,ζT,hw]; rfl
  refine Y3 (b:=decide (c / 64 % 2=1) && decide ((t:Int) < (z.length:Nat))) (UB (yf (wN (yJ (xx (by walk_at"ev") (by walk_at"ev") ⟨by decide,by decide⟩) (by walk_at"ev") (by decide)) (by walk_at"ev"))) fun _=>yf (VE (by walk_at"ev") (Zh (by walk_at"ev") (by omega)))) (fun h=>?_) (fun h=>?_)
  ·have e:nmF z a r (decide (c / 64 % 2=1)) t=Txt.slice z none (some ((t:Int) + 1)):=by
    unfold nmF
    have h2:=ξp.mp h
    rw [h2.1,decide_eq_true (show t < z.length by have:=of_decide_eq_true h2.2; omega)]
    rfl
   refine exa1 (d:=.str (Txt.slice z none (some ((t:Int) + 1)))) (by walk_at"gc") (Wh (by walk_at"ev") (by omega) (by walk_at"ev") (xf (by walk_at"ev"))) (by walk_at"sc") (by rw [ζa,ζa,ζz]; omega) ?_
   rw [sn _ e]
   exact ⟨_,_,rfl⟩
  ·obtain ⟨s,hs,s26⟩:∃ m:Nat,((r:Int) + (t:Int)) % 26=(m:Int)∧m < 26:=xj ((r:Int) + (t:Int)) (show 0 < 26 by decide)
   have es:(r + t) % 26=s:=by omega
   have e:nmF z a r (decide (c / 64 % 2=1)) t=Txt.slice z none (some (a:Int)) ++ ⟨#[97 + s]⟩ ++ Txt.slice z (some ((a:Int) + 1)) none:=by
    unfold nmF
    have h2:(decide (c / 64 % 2=1) && decide (t < z.length))=false:=by
     rw [← h]
     congr 1
     exact decide_eq_decide.mpr (by omega)
    rw [h2,es]
    rfl
   refine exs true (d:=.str ⟨#[97 + s]⟩) (Wk (i:=(s:Int)) (by walk_at"ev") (EvE.eq (yJ (yv (Qx (i:=r) (rest:=[]) (by walk_at"ev") (Wk (i:=(a:Int)) (by walk_at"ev") (by walk_at"ev") (by omega) az') (zed r r26)) (by walk_at"ev")) (by walk_at"ev") (by decide)) (congrArg PyData.int hs)) (by rw [TQ]; omega) (zby s s26)) (by walk_at"sc") ?_
   have l1:=Txt.slice_le z none (some (a:Int))
   have l2:=Txt.slice_le z (some ((a:Int) + 1)) none
   have l3:(Txt.slice z none (some (a:Int)) ++ (⟨#[97 + s]⟩:Str)).length≤9:=by rw [Str.length_append,Ze]; omega
   refine exa1 (d:=.str (Txt.slice z none (some (a:Int)) ++ ⟨#[97 + s]⟩ ++ Txt.slice z (some ((a:Int) + 1)) none)) (by walk_at"gc") (Zj (Zj (Wh (by walk_at"ev") (by omega) (by walk_at"ev") (xf (by walk_at"ev"))) (by walk_at"ev") (by rw [Ze]; omega)) (Wh (by walk_at"ev") (by omega) (xf (by walk_at"ev")) (by walk_at"ev")) (by omega)) (by walk_at"sc") (by rw [ζa,ζa,ζz]; omega) ?_
   rw [sn _ e]
   exact ⟨_,_,rfl⟩
 ·rintro Γ' ⟨b7,b8,rfl⟩
  rw [yO]
  refine exro (by walk_at"gc") ⟨(List.range m).map (nmF z a r (decide (c / 64 % 2=1))),by rw [ζa,ζz],?_,fun y hy=>?_,rfl⟩ (.inl ⟨rfl,rfl⟩)
  ·refine (ξ2.mpr ?_:List.Pairwise (·≠·) _)
   refine List.Pairwise.imp_of_mem ?_ (List.nodup_range (n:=m))
   intro x y hx hy ne e
   have:=ζQ.mp hx
   have:=ζQ.mp hy
   exact ne (zdM az ag r26 (by omega) (by omega) e)
  ·obtain ⟨t,ht,rfl⟩:=ζq.mp hy
   exact zeq lz (by omega) az
theorem QT:∀ (xs:List Int),(∀ x∈xs,0≤x)→0≤xs.sum
 | [],_=>by simp
 | x :: r,h=>by
  rw [ξW]
  have:=QT r fun y hy=>h y (ζk _ hy)
  have:=h x ζi
  omega
theorem QU:∀ (xs:List Int),(∀ x∈xs,0≤x∧x < 10 ^ 60)→xs.sum≤(xs.length:Int) * 10 ^ 60
 | [],_=>by simp
 | x :: r,h=>by
  rw [ξW,ζL,ζ2,Int.add_mul]
  have:=QU r fun y hy=>h y (ζk _ hy)
  have:=h x ζi
  show _≤_ + 1 * (10:Int) ^ 60
  omega
structure TbP (ss:List Int) (cs:List (List Nat)) (ts:List (List (List Int))):Prop where
 h:∀ (j:Nat) t,ts[j]?=some t→(t.length:Int)=prod (pk ss (cs.getD j []))∧∀ r∈t,ua (ss.getD j 0) r
theorem TbP.add {ss:List Int} {cs:List (List Nat)} {ts:List (List (List Int))} (h:TbP ss cs ts) {t:List (List Int)} (h1:(t.length:Int)=prod (pk ss (cs.getD ts.length []))) (h2:∀ r∈t,ua (ss.getD ts.length 0) r):TbP ss cs (ts ++ [t]):=⟨fun j u hu=>by
 by_cases hj:j < ts.length
 ·rw [ζ1 hj] at hu
  exact h.h j u hu
 ·have e:j=ts.length:=by
   have:=(ζe.mp hu).1
   rw [ζj] at this
   have:j < ts.length + 1:=this
   omega
  subst e
  rw [ζN (ζm _),ξF] at hu
  cases hu
  exact ⟨h1,h2⟩⟩
theorem zcC {α:Type} (g:α→PyData) (xs:List α) {a b:Nat} (h:a≤b) (hb:b≤xs.length):cutD (xs.map g) (some (a:Int)) (some (b:Int))=((xs.drop a).take (b - a)).map g:=by
 unfold cutD
 rw [HT.XA,HT.XA,ζa,ξH (show a≤xs.length by omega),ξH hb,← List.map_drop,← ξ7]
theorem UU:∀ {xs:List Int},(∀ x∈xs,0≤x)→(∃ x∈xs,1≤x)→1≤xs.sum
 | [],_,h=>by obtain ⟨_,z,_⟩:=h; cases z
 | x :: r,h,e=>by
  rw [ξW]
  have h1:=QT r fun y hy=>h y (ζk _ hy)
  have h2:=h x ζi
  obtain ⟨y,hy,y1⟩:=e
  rcases ζs.mp hy with rfl | hy
  ·omega
  ·have:=UU (fun y hy=>h y (ζk _ hy)) ⟨y,hy,y1⟩
   omega
theorem Q1 {s:Nat} {ws:List Int} (s4:s≤4) (wl:ws.length=s) (wb:∀ w∈ws,0≤w∧w < 10 ^ 60) (hp:∃ w∈ws,1≤w):ua (s:Int) ws:=by
 refine ⟨by rw [wl],wb,UU (fun w hw=>(wb w hw).1) hp,?_⟩
 have:=QU ws wb
 have e1:(ws.length:Int) * 10 ^ 60≤4 * 10 ^ 60:=Int.mul_le_mul_of_nonneg_right (by omega) (by decide)
 have e2:(4:Int) * 10 ^ 60 < 10 ^ 62:=by decide
 omega
def w4 (ds:List PyData) (G:PyData→Prop):Prop:=∃ (c:Int) (m s:Nat),ds=[.int c,.int (m:Int),.int (s:Int)]∧m≤4096∧1≤s∧s≤4∧G=fun d=>∃ t:List (List Int),t.length=m∧(∀ r∈t,ua (s:Int) r)∧d=lls t
theorem YA (ds:List PyData) (G:PyData→Prop) (h:w4 ds G):ds.length=3:=by obtain ⟨a,b,c,rfl,_⟩:=h; rfl
theorem Xt:zB ["_law_cell", "_law_many", "_law_size", "_law_row", "_law_table_here", "_law_j", "_law_weights"] ["_law_cell", "_law_many", "_law_size"] (zm (top 67)):=⟨rfl,rfl,rfl,by decide +kernel,rfl,by decide +kernel,by decide +kernel⟩
theorem XM (F:Fun K "_law_table" "_law_table" (top 67) f fd) (B:Bs mg) (Z:Cs K mg cA cB τa τb τc τd τe τf τg τh) (c_law_stream:zC P w K mg base CX0 "_law_stream" ["_law_cell", "_law_many"] 1 (spW K true yz)) (c_law_weight:zC P w K mg base CX0 "_law_weight" ["_law_cell", "_law_number"] 1 (spD K true wH)):FnOk P w K mg base CX0 2 f fd ["_law_cell", "_law_many", "_law_size"] (spW K true w4):=by
 have sc:=Xt
 refine F.ok sc (fun vs H Q E h=>wq YA h) (fun cdv A outer s H vs Q E hr h=>?_)
 obtain ⟨Fh,ds,G,le,dp,p,q⟩:=h
 refine ⟨_,(ze (zF (i:=3) sc.nd rfl (Or.inl rfl) (zM c_law_stream (hr.mono (by decide)) rfl zN (zb (pv 0) (zb (zv xu (pv 1) (pv 2)) zd))))
   (ze (zF (i:=4) sc.nd rfl (Or.inl rfl) (zW zd))
   (ze (yi PassesOwn.never rfl (yt rfl B.range (zb (pv 1) zd)) (zk (i:=5) sc.nd rfl (Or.inl rfl)) (ze (xC (i:=6) rfl sc.nd rfl rfl (N:=["_law_number", "_law_cell"]) (js:=[none,some 0]) (by walk_at"comp_ok") (zI (K:=K) rfl (yZ (xY (K:=K) rfl) (pv 3) (xt (zv xu (pv 2) (pv 5))) (xt (zv yp (zv xu (pv 2) (pv 5)) (pv 2))))) (fun _ _ _ _=>(zk (i:=0) (show List.Nodup (["_law_number", "_law_cell"]:List PySem.Str) by decide +kernel) rfl (Or.inl rfl))) (fun _ _ _ _=>yh) (fun _ _ _ _=>(zM c_law_weight (hr.mono (by decide)) rfl zN (zb (pv 1) (zb (pv 0) zd)))))
   (ze (yF (yn v8 (zq (UF (K:=K) rfl rfl) rfl B.max (by decide +kernel) (zb (pv 6) zd)) zh (ye _)) (zg (XF zh (zal (pv 6) (zv yw (zv xA (zL (zA (K:=K) rfl) (pv 3) (zv xu (pv 2) (pv 5)) (fun _ _=>rfl)) zh) (pv 2)) WP))) yc)
   (zg (yd (yb (K:=K) rfl ζo ζw ζv zV (pv 4) (zb (pv 6) zd)))))))
   (zg (zH (pv 4)))))),?_⟩
 have hN:(["_law_cell", "_law_many", "_law_size", "_law_row", "_law_table_here", "_law_j", "_law_weights"]:List Str).length=7:=rfl
 obtain ⟨c,m,s,rfl,hm,s1,s4,rfl⟩:=p
 have big:=zJ
 have ms:m * s≤4096 * 4:=Nat.mul_le_mul hm s4
 have m1:IntMulOk (m:Int) (s:Int):=yN (by omega) (by omega)
 refine xK le dp q hN (by walk_at"st") ?_
 refine exg true (y0 (zi (by walk_at"ev") (zi (EvE.eq (wc (by walk_at"ev") (by walk_at"ev") m1) (congrArg PyData.int (ξL m s).symm)) zG)) ⟨c,m * s,rfl,by omega,rfl⟩) (fun d=>by walk_at"sc") ?_
 rintro d ⟨xs,xl,xb,rfl⟩
 refine exo true (ds:=([]:List (List Int)).map il) (zZ (ds:=[]) zG (by decide)) (by walk_at"sc") ?_
 refine xc (ds:=(List.range m).map fun i:Nat=>.int (i:Int)) true (fun j Γ=>∃ (t:List (List Int)) (b5 b6:Option DV),t.length=j∧(∀ r∈t,ua (s:Int) r)∧Γ=[some (.fz false (.int c)),some (.fz false (.int (m:Int))),some (.fz false (.int (s:Int))),some (.fz true (il xs)),some (.ow true (t.map il)),b5,b6]) (xg (n:=(m:Int)) (by walk_at"ev") (by omega) (by omega)) ⟨[],none,none,rfl,fun _ z=>(nomatch z),rfl⟩ ?_ ?_
 ·rintro j d Γ' hd ⟨t,b5,b6,tl,tb,rfl⟩
  obtain ⟨hj,rfl⟩:=yx hd
  refine ⟨_,egn (by walk_at"sc") ?_⟩
  have m2:IntMulOk (s:Int) (j:Int):=yN (by omega) (by omega)
  have sj:s * j + s≤xs.length:=by
   rw [xl,Nat.mul_comm m s]
   exact Nat.mul_le_mul_left s (show j + 1≤m by omega)
  have e1:(s:Int) * (j:Int)=((s * j:Nat):Int):=(ξL s j).symm
  have wl:(((xs.drop (s * j)).take (s * j + s - s * j)).map (wgF c)).length=s:=by
   rw [ζa,ζy,ζR]
   omega
  have hx:∀ x∈(xs.drop (s * j)).take (s * j + s - s * j),0≤x∧x < 2147483647:=fun x hx=>xb x (ξU (ζZ hx))
  refine exo true (ds:=(((xs.drop (s * j)).take (s * j + s - s * j)).map (wgF c)).map .int) (EvO.eq (yg (κ:=true) (is:=[0]) (xs:=(xs.drop (s * j)).take (s * j + s - s * j)) false PyData.int (fun x=>.int (wgF c x)) (fun x _ y _ h=>by cases h; rfl) (zS (EvO.toE (EvO.eq (y6 (κ:=false) (lo:=some ((s * j:Nat):Int)) (hi:=some ((s * j + s:Nat):Int)) (ds:=xs.map .int) (by walk_at"ev") (xf (EvE.eq (wc (by walk_at"ev") (by walk_at"ev") m2) (congrArg PyData.int e1))) (xf (EvE.eq (yv (EvE.eq (wc (by walk_at"ev") (by walk_at"ev") m2) (congrArg PyData.int e1)) (by walk_at"ev")) (by rw [ζ2])))) (zcC _ xs (by omega) sj)))) (by walk_at"cc") rfl (by decide) (by rw [ζy]; omega) fun x hm=>egn (by walk_at"sc") (zr (by walk_at"ev") ⟨c,x,rfl,(hx x hm).1,(hx x hm).2,rfl⟩)) (by rw [ζr]; rfl)) (by walk_at"sc") ?_
  have wb:∀ w∈((xs.drop (s * j)).take (s * j + s - s * j)).map (wgF c),0≤w∧w < 10 ^ 60:=fun w hw=>by
   obtain ⟨x,_,rfl⟩:=ζq.mp hw
   exact zef c x
  generalize ((xs.drop (s * j)).take (s * j + s - s * j)).map (wgF c)=ws at wl wb
  obtain ⟨i,hi,is⟩:=xj (xs.getD (s * j) 0 / 7) (show 0 < s by omega)
  refine exif (b:=decide (mxL ws=0)) (fun Γ=>∃ ws:List Int,ua (s:Int) ws∧Γ=[some (.fz false (.int c)),some (.fz false (.int (m:Int))),some (.fz false (.int (s:Int))),some (.fz true (il xs)),some (.ow true (t.map il)),some (.fz true (.int (j:Int))),some (.ow true (ws.map .int))]) (zcw 6 (by walk_at"gc") (by walk_at"sc") (yf (wN (zbj (f:=mxL) (ns:=ws) (by walk_at"ev") fun z=>by rw [z] at wl; have:0=s:=wl; omega) (by walk_at"ev")))) (fun h=>?_) (fun h=>xB ⟨ws,Q1 s4 wl wb ⟨_,Tf (fun z=>by rw [z] at wl; have:0=s:=wl; omega),by have h:=of_decide_eq_false h; have:=(wb _ (Tf (fun z=>by rw [z] at wl; have:0=s:=wl; omega))).1; omega⟩,rfl⟩) ?_
  ·refine exi1 (j:=i) (d:=.int 1) (by walk_at"gc") (by walk_at"ev") (EvE.eq (yJ (xx (EvE.imm (κ:=false) (zY (ds:=xs.map .int) (by walk_at"ev") (EvE.eq (wc (by walk_at"ev") (by walk_at"ev") m2) (congrArg PyData.int e1)) (yM (zu (d:=0) (show s * j < xs.length by omega)))) rfl) (by walk_at"ev") ⟨by decide,by decide⟩) (by walk_at"ev") (by omega)) (congrArg PyData.int hi)) (X9 (by rw [ζa]; omega)) (by walk_at"sc") ?_
   refine ⟨ws.set i 1,Q1 s4 (by rw [ξr]; exact wl) (fun w hw=>?_) ⟨1,ζH.mpr ⟨i,by rw [ζt (by omega)]⟩,by decide⟩,by rw [List.map_set]⟩
   rcases List.mem_or_eq_of_mem_set hw with hw | hw
   ·exact wb w hw
   ·rw [hw]
    exact ⟨by decide,by decide⟩
  clear wb wl ws
  rintro Γ1 ⟨ws,wo,rfl⟩
  refine exfz 6 (by walk_at"gc") (by walk_at"sc") ?_
  refine exa1 (d:=il ws) (by walk_at"gc") (by walk_at"ev") (by walk_at"sc") (by rw [ζa]; omega) ⟨t ++ [ws],_,_,by rw [ζj,tl]; rfl,fun r hr=>?_,by rw [ζE]; rfl⟩
  rcases ζu.mp hr with hr | hr
  ·exact tb r hr
  ·rw [ζh.mp hr]
   exact wo
 ·rintro Γ' ⟨t,b5,b6,tl,tb,rfl⟩
  rw [yO] at tl
  exact exro (by walk_at"gc") ⟨t,tl,tb,rfl⟩ (.inl ⟨rfl,rfl⟩)
def vE (ds:List PyData) (G:PyData→Prop):Prop:=∃ ns:List Int,ds=[il ns]∧G=fun d=>∃ n ss cs ts hs,Dx n cs hs∧BkU ss cs ts∧ss.length=n∧d=.tuple [yr ss cs ts,nl hs]
theorem X3 (ds:List PyData) (G:PyData→Prop) (h:vE ds G):ds.length=1:=by obtain ⟨a,rfl,_⟩:=h; rfl
theorem WW:zB ["_law_script", "_law_causes", "_law_hidden", "_law_sizes", "_law_k", "_law_tables", "_law_many", "_law_cause"] ["_law_script"] (zm (top 69)):=⟨rfl,rfl,rfl,by decide +kernel,rfl,by decide +kernel,by decide +kernel⟩
theorem Vj (F:Fun K "_law_book" "_law_book" (top 69) f fd) (B:Bs mg) (Z:Cs K mg cA cB τa τb τc τd τe τf τg τh) (c_law_shape:zC P w K mg base CX0 "_law_shape" ["_law_script"] 2 (spW K true w6)) (c_law_cell_at:zC P w K mg base CX0 "_law_cell_at" ["_law_script", "_law_k"] 1 (spD K true zX)) (c_law_table:zC P w K mg base CX0 "_law_table" ["_law_cell", "_law_many", "_law_size"] 2 (spW K true w4)):FnOk P w K mg base CX0 3 f fd ["_law_script"] (spW K true vE):=by
 have sc:=WW
 refine F.ok sc (fun vs H Q E h=>wq X3 h) (fun cdv A outer s H vs Q E hr h=>?_)
 obtain ⟨Fh,ds,G,le,dp,p,q⟩:=h
 refine ⟨_,(ze (XF (zM c_law_shape (hr.mono (by decide)) rfl zN (zb (pv 0) zd)) (ww (K:=K) (n:=2) rfl rfl (yo (zk (i:=1) sc.nd rfl (Or.inl rfl)) (yo (zk (i:=2) sc.nd rfl (Or.inl rfl)) wv))))
   (ze (zF (i:=3) sc.nd rfl (Or.inl rfl) (zW zd))
   (ze (yi PassesOwn.never rfl (yt rfl B.range (zb (zq (zw (K:=K) rfl) rfl B.len (by decide +kernel) (zb (pv 1) zd)) zd)) (zk (i:=4) sc.nd rfl (Or.inl rfl)) (zg (yd (yb (K:=K) rfl ζo ζw ζv zV (pv 3) (zb (zv yp zh (zv xA (zv yw (zv xA (zM c_law_cell_at (hr.mono (by decide)) rfl zN (zb (pv 0) (zb (zv yp zh (pv 4)) zd))) zh) zh) zh)) zd)))))
   (ze (zF (i:=5) sc.nd rfl (Or.inl rfl) (zW zd))
   (ze (yi PassesOwn.never rfl (yt rfl B.range (zb (zq (zw (K:=K) rfl) rfl B.len (by decide +kernel) (zb (pv 1) zd)) zd)) (zk (i:=4) sc.nd rfl (Or.inl rfl)) (ze (zF (i:=6) sc.nd rfl (Or.inl rfl) zh)
   (ze (yi PassesOwn.never rfl (zI (K:=K) rfl (zL (zA (K:=K) rfl) (pv 1) (pv 4) (fun _ _=>rfl))) (zk (i:=7) sc.nd rfl (Or.inl rfl)) (zg (zF (i:=6) sc.nd rfl (Or.inl rfl) (zv xu (pv 6) (zL (zA (K:=K) rfl) (pv 3) (pv 7) (fun _ _=>rfl))))))
   (zg (yd (yb (K:=K) rfl ζo ζw ζv zV (pv 5) (zb (zM c_law_table (hr.mono (by decide)) rfl zN (zb (zM c_law_cell_at (hr.mono (by decide)) rfl zN (zb (pv 0) (zb (zv yp zh (pv 4)) zd))) (zb (pv 6) (zb (zL (zA (K:=K) rfl) (pv 3) (pv 4) (fun _ _=>rfl)) zd)))) zd)))))))
   (zg (zH (vG (zb (vG (zb (pv 3) (zb (pv 1) (zb (pv 5) zd)))) (zb (pv 2) zd)))))))))),?_⟩
 have hN:(["_law_script", "_law_causes", "_law_hidden", "_law_sizes", "_law_k", "_law_tables", "_law_many", "_law_cause"]:List Str).length=8:=rfl
 obtain ⟨ns,rfl,rfl⟩:=p
 have big:=zJ
 refine xK le dp q hN (by walk_at"st") ?_
 refine wa (fun Γ=>∃ n cs hs,Dx n cs hs∧Γ=[some (.fz false (il ns)),some (.fz true (nls cs)),some (.fz true (nl hs)),none,none,none,none,none]) (Tw (js:=[1,2]) (κ:=true) (y0 (by walk_at"ev") ⟨ns,rfl,rfl⟩) (fun d ⟨n,cs,hs,dw,e⟩=>by rw [e]; exact egt (by walk_at"sc") (by walk_at"sc") ⟨n,cs,hs,dw,rfl⟩)) ?_
 rintro Γ0 ⟨n,cs,hs,dw,rfl⟩
 have n7:=dw.n7
 have cl:=dw.o.l
 have el:PyData.int (((cs.map nl).length:Nat):Int)=.int (n:Int):=by rw [ζa,cl]
 have pc:∀ {k:Nat},k < n→zX [il ns,.int (3 + (k:Int))] (.int (xQ ns (3 + k))):=fun {k} hk=>⟨ns,3 + k,by rw [ζ2]; rfl,by omega,rfl⟩
 refine exo true (ds:=([]:List Int).map .int) (zZ (ds:=[]) zG (by decide)) (by walk_at"sc") ?_
 refine xc (ds:=(List.range n).map fun i:Nat=>.int (i:Int)) true (fun t Γ=>∃ (ss:List Int) (b4:Option DV),ss.length=t∧(∀ s∈ss,2≤s∧s≤4)∧Γ=[some (.fz false (il ns)),some (.fz true (nls cs)),some (.fz true (nl hs)),some (.ow true (ss.map .int)),b4,none,none,none]) (xg (n:=(n:Int)) (zi (EvE.eq (yu (ds:=cs.map nl) (by walk_at"ev")) el) zG) (by omega) (by omega)) ⟨[],none,rfl,fun _ z=>(nomatch z),rfl⟩ ?_ ?_
 ·rintro t d Γ' hd ⟨ss,b4,sl,sb,rfl⟩
  obtain ⟨ht,rfl⟩:=yx hd
  refine ⟨_,egn (by walk_at"sc") ?_⟩
  obtain ⟨s,hs',s2,s4⟩:∃ s:Int,2 + xQ ns (3 + t) / 4 % 5 / 2=s∧2≤s∧s≤4:=⟨_,rfl,by omega,by omega⟩
  refine exa1 (d:=.int s) (by walk_at"gc") (EvE.eq (yv (by walk_at"ev") (xx (yJ (xx (zr (zi (by walk_at"ev") (zi (yv (by walk_at"ev") (by walk_at"ev")) zG)) (pc ht)) (by walk_at"ev") ⟨by decide,by decide⟩) (by walk_at"ev") (by decide)) (by walk_at"ev") ⟨by decide,by decide⟩)) (congrArg PyData.int hs')) (by walk_at"sc") (by rw [ζa]; omega) ⟨ss ++ [s],_,by rw [ζj,sl]; rfl,fun x hx=>?_,by rw [ζE]; rfl⟩
  rcases ζu.mp hx with hx | hx
  ·exact sb x hx
  ·rw [ζh.mp hx]
   exact ⟨s2,s4⟩
 rintro Γ0 ⟨ss,b4,sl,sb,rfl⟩
 rw [yO] at sl
 refine exfz 3 (by walk_at"gc") (by walk_at"sc") ?_
 have sg:∀ k,k < n→2≤ss.getD k 0∧ss.getD k 0≤4:=fun k hk=>yE sb (by omega)
 refine exo true (ds:=([]:List (List (List Int))).map lls) (zZ (ds:=[]) zG (by decide)) (by walk_at"sc") ?_
 refine xc (ds:=(List.range n).map fun i:Nat=>.int (i:Int)) true (fun t Γ=>∃ (ts:List (List (List Int))) (b4 b6 b7:Option DV),ts.length=t∧TbP ss cs ts∧Γ=[some (.fz false (il ns)),some (.fz true (nls cs)),some (.fz true (nl hs)),some (.fz true (il ss)),b4,some (.ow true (ts.map lls)),b6,b7]) (xg (n:=(n:Int)) (zi (EvE.eq (yu (ds:=cs.map nl) (by walk_at"ev")) el) zG) (by omega) (by omega)) ⟨[],_,none,none,rfl,⟨fun _ _ z=>by simp at z⟩,rfl⟩ ?_ ?_
 ·rintro k d Γ' hd ⟨ts,b4,b6,b7,tl,tb,rfl⟩
  obtain ⟨hk,rfl⟩:=yx hd
  refine ⟨_,egn (by walk_at"sc") ?_⟩
  have cr:=dw.o.r _ (ζd (zu (d:=[]) (show k < cs.length by omega)))
  have sgk:=sg k hk
  refine exs true (d:=.int (prod (pk ss ((cs.getD k []).take 0)))) (show EvE K .fresh true _ _ (.int 1) by walk_at"ev") (by walk_at"sc") ?_
  refine xc (ds:=(cs.getD k []).map fun i:Nat=>.int (i:Int)) true (fun t Γ=>∃ (b7:Option DV),Γ=[some (.fz false (il ns)),some (.fz true (nls cs)),some (.fz true (nl hs)),some (.fz true (il ss)),some (.fz true (.int (k:Int))),some (.ow true (ts.map lls)),some (.fz true (.int (prod (pk ss ((cs.getD k []).take t))))),b7]) (zS (zY (ds:=cs.map nl) (by walk_at"ev") (by walk_at"ev") (Ww (by omega)))) ⟨_,rfl⟩ ?_ ?_
  ·rintro i d Γ' hd ⟨b7,rfl⟩
   obtain ⟨c,hc,rfl⟩:=xw hd
   have cn:=cr.1 c (ζd hc)
   have sc:=sg c cn
   have pb:=uE sb (L:=(cs.getD k []).take i) (fun c hc=>by rw [sl]; exact cr.1 c (ζZ hc)) (by rw [ζy]; omega)
   refine ⟨_,egn (by walk_at"sc") ?_⟩
   refine exs1 true (d:=.int (prod (pk ss ((cs.getD k []).take i)) * ss.getD c 0)) (wc (by walk_at"ev") (EvE.imm (κ:=false) (zY (ds:=ss.map .int) (by walk_at"ev") (by walk_at"ev") (wV (by omega))) rfl) (yN (by omega) (by omega))) (by walk_at"sc") ?_
   have e:prod (pk ss ((cs.getD k []).take (i + 1)))=prod (pk ss ((cs.getD k []).take i)) * ss.getD c 0:=by
    rw [take_succ hc]
    unfold Sx2.pk
    rw [ζE]
    exact u6 _ _
   rw [e]
   exact ⟨_,rfl⟩
  ·rintro Γ' ⟨b7,rfl⟩
   rw [show (cs.getD k []).take ((cs.getD k []).map fun i:Nat=>PyData.int (i:Int)).length=cs.getD k [] by rw [ζa,ζ4]]
   have pb:=uE sb (L:=cs.getD k []) (fun c hc=>by rw [sl]; exact cr.1 c hc) cr.2
   obtain ⟨mm,hmm⟩:∃ mm:Nat,prod (pk ss (cs.getD k []))=(mm:Int):=⟨(prod (pk ss (cs.getD k []))).toNat,by omega⟩
   obtain ⟨sk,hsk⟩:∃ sk:Nat,ss.getD k 0=(sk:Int):=⟨(ss.getD k 0).toNat,by omega⟩
   have ask:atI (ss.map PyData.int) (k:Int)=some (.int (sk:Int)):=by rw [← hsk]; exact wV (by omega)
   rw [hmm]
   refine zdb (by walk_at"gc") (y0 (zi (zr (zi (by walk_at"ev") (zi (yv (by walk_at"ev") (by walk_at"ev")) zG)) (pc hk)) (zi (by walk_at"ev") (zi (EvE.imm (κ:=false) (zY (ds:=ss.map .int) (by walk_at"ev") (by walk_at"ev") ask) rfl) zG))) ⟨xQ ns (3 + k),mm,sk,rfl,by omega,by omega,by omega,rfl⟩) (fun d=>by walk_at"sc") (by rw [ζa]; omega) ?_
   rintro d ⟨t,t1,t2,rfl⟩
   refine ⟨ts ++ [t],_,_,_,by rw [ζj,tl]; rfl,tb.add (by rw [tl,hmm,t1]) (by rw [tl,hsk]; exact t2),by rw [ζE]; rfl⟩
 ·rintro Γ' ⟨ts,b4,b6,b7,tl,tb,rfl⟩
  rw [yO] at tl
  refine exfz 5 (by walk_at"gc") (by walk_at"sc") ?_
  have bu:BkU ss cs ts:=⟨⟨sb,by omega,by omega,by omega,fun k own h=>⟨fun c hc=>by rw [sl]; exact (dw.o.r own (ζd h)).1 c hc,(dw.o.r own (ζd h)).2⟩,fun k own t h1 h2=>by
   have:=(tb.h k t h2).1
   rw [ζc,h1] at this
   exact this,fun k t h=>(tb.h k t h).2⟩,dw.u,by rw [sl]; exact dw.o⟩
  exact zP true (d:=.tuple [yr ss cs ts,nl hs]) (vg (ds:=[yr ss cs ts,nl hs]) (zi (vg (ds:=[il ss,nls cs,tbl ts]) (by walk_at"ev") (by show 3≤sizeLine; omega)) (by walk_at"ev")) (by show 2≤sizeLine; omega)) ⟨n,ss,cs,ts,hs,dw,bu,sl,rfl⟩ (.inl ⟨rfl,rfl⟩)
def allW:List Int→List (List Int)→List (List Int)
 | [],fd=>fd
 | s :: r,fd=>allW r (grow fd (rng s.toNat))
theorem tJ:∀ (xs:List Int) (s:Int) (fd:List (List Int)),allW (xs ++ [s]) fd=grow (allW xs fd) (rng s.toNat)
 | [],_,_=>rfl
 | x :: r,s,fd=>tJ r s _
theorem VT:∀ (ss:List Int) (fd:List (List Int)),(∀ s∈ss,1≤s∧s≤9)→((allW ss fd).length:Int)=fd.length * prod ss
 | [],fd,_=>by show (fd.length:Int)=fd.length * 1; omega
 | s :: r,fd,h=>by
  have hs:=h s ζi
  show ((allW r (grow fd (rng s.toNat))).length:Int)=fd.length * (s * prod r)
  rw [VT r _ fun x hx=>h x (ζk _ hx),uN,XB,ξL,← Int.mul_assoc]
  congr 2
  omega
theorem VS:∀ (ss:List Int) (fd:List (List Int)) (h:List Int),h∈allW ss fd→∃ g∈fd,h.length=g.length + ss.length
 | [],fd,h,hm=>⟨h,hm,rfl⟩
 | x :: r,fd,h,hm=>by
  obtain ⟨g,hg,e⟩:=VS r _ h hm
  unfold grow at hg
  obtain ⟨a,ha,hb⟩:=List.mem_flatMap.mp hg
  obtain ⟨c,_,rfl⟩:=ζq.mp hb
  refine ⟨a,ha,?_⟩
  rw [e,ζj]
  show a.length + 1 + r.length=a.length + (r.length + 1)
  omega
def wG (ds:List PyData) (d:PyData):Prop:=∃ ss:List Int,ds=[il ss]∧(∀ s∈ss,2≤s∧s≤4)∧ss.length≤6∧d=lls (allW ss [[]])
theorem ZL (ds:List PyData) (d:PyData) (h:wG ds d):ds.length=1:=by obtain ⟨a,rfl,_⟩:=h; rfl
theorem zcE {ss:List Int} (hs:∀ s∈ss,2≤s∧s≤4) (hl:ss.length≤6):(allW ss [[]]).length≤4096:=by
 have h1:=VT ss [[]] fun x hx=>by have:=hs x hx; omega
 have h2:=(uD ss 6 (fun x hx=>by have:=hs x hx; omega) hl).1
 have e:(4:Int) ^ 6=4096:=by decide
 rw [show (([[]]:List (List Int)).length:Int)=1 from rfl,Int.one_mul] at h1
 omega
theorem Yc:zB ["_law_sizes", "_law_found", "_law_size", "_law_longer", "_law_world", "_law_a"] ["_law_sizes"] (zm (top 68)):=⟨rfl,rfl,rfl,by decide +kernel,rfl,by decide +kernel,by decide +kernel⟩
theorem Ym (F:Fun K "_law_worlds" "_law_worlds" (top 68) f fd) (B:Bs mg) (Z:Cs K mg cA cB τa τb τc τd τe τf τg τh)  : FnOk P w K mg base CX0 1 f fd ["_law_sizes"] (spD K true wG):=by
 have sc:=Yc
 refine F.ok sc (fun vs H Q E h=>zR ZL h) (fun cdv A outer s H vs Q E hr h=>?_)
 obtain ⟨Fh,ds,d,le,dp,p,q⟩:=h
 refine ⟨_,(ze (zF (i:=1) sc.nd rfl (Or.inl rfl) (zW (zb (zW zd) zd)))
   (ze (yi PassesOwn.never rfl (zI (K:=K) rfl (pv 0)) (zk (i:=2) sc.nd rfl (Or.inl rfl)) (ze (zF (i:=3) sc.nd rfl (Or.inl rfl) (zW zd))
   (ze (yi PassesOwn.never rfl (zI (K:=K) rfl (pv 1)) (zk (i:=4) sc.nd rfl (Or.inl rfl)) (zg (yi PassesOwn.never rfl (yt rfl B.range (zb (pv 2) zd)) (zk (i:=5) sc.nd rfl (Or.inl rfl)) (zg (yd (yb (K:=K) rfl ζo ζw ζv zV (pv 3) (zb (zv (x5 (K:=K) rfl) (pv 4) (zW (zb (pv 5) zd))) zd)))))))
   (zg (zF (i:=1) sc.nd rfl (Or.inl rfl) (pv 3))))))
   (zg (zH (pv 1))))),?_⟩
 have hN:(["_law_sizes", "_law_found", "_law_size", "_law_longer", "_law_world", "_law_a"]:List Str).length=6:=rfl
 obtain ⟨ss,rfl,hs,hl,rfl⟩:=p
 have big:=zJ
 walk_at"run"
 refine exs true (d:=lls (allW [] [[]])) (EvE.eq (a:=.list [.list []]) (by walk_at"ev") rfl) (by walk_at"sc") ?_
 refine xc false (fun i Γ=>∃ x y z u,Γ=[some (.fz false (il ss)),some (.fz true (lls (allW (ss.take i) [[]]))),x,y,z,u]) (zS (by walk_at"ev")) ⟨none,none,none,none,by rw [ξg]⟩ ?_ ?_
 ·rintro i d Γ' hd ⟨x,y,z,u,rfl⟩
  obtain ⟨s,hs',rfl⟩:=xw hd
  have gs:=hs s (ζd hs')
  have wl:=zcE (ss:=ss.take i) (fun x hx=>hs x (ζZ hx)) (by rw [ζy]; omega)
  have hwl:∀ w∈allW (ss.take i) [[]],w.length≤63:=fun w hw=>by
   obtain ⟨g,hg,e⟩:=VS _ _ w hw
   have:g=[]:=by simpa using hg
   rw [e,this,ζy]
   show 0 + _≤63
   omega
  rw [take_succ hs',tJ]
  generalize allW (ss.take i) [[]]=ws at wl hwl
  refine ⟨_,egn (by walk_at"sc") ?_⟩
  refine exo true (zZ (ds:=[]) zG (by decide)) (by walk_at"sc") ?_
  refine xc (ds:=ws.map il) true (fun j Γ=>∃ z u,Γ=[some (.fz false (il ss)),some (.fz true (lls ws)),some (.fz false (.int s)),some (.ow true ((grow (ws.take j) (rng s.toNat)).map il)),z,u]) (zS (by walk_at"ev")) ⟨_,_,by rw [ξg]; rfl⟩ ?_ ?_
  ·rintro j d Γ' hd ⟨z,u,rfl⟩
   obtain ⟨h,hh',rfl⟩:=xw hd
   have hb:=hwl h (ζd hh')
   have hj:=(ζe.mp hh').1
   refine ⟨_,egn (by walk_at"sc") ?_⟩
   have rl:(rng s.toNat).length=s.toNat:=XB _
   refine tE (ds:=(List.range s.toNat).map fun i:Nat=>.int (i:Int)) true (fun n Γ=>∃ u,Γ=[some (.fz false (il ss)),some (.fz true (lls ws)),some (.fz false (.int s)),some (.ow true ((grow (ws.take j) (rng s.toNat) ++ ((rng s.toNat).take n).map fun c=>h ++ [c]).map il)),some (.fz true (il h)),u])
    (xg (n:=s) (by walk_at"ev") (by omega) (by omega)) ⟨_,by rw [ξg,List.map_nil,ζW]⟩ ?_ ?_
   ·rintro n d Γ' hd ⟨u,rfl⟩
    obtain ⟨hn,rfl⟩:=yx hd
    refine ⟨_,egn (by walk_at"sc") ?_⟩
    have e1:(h.map PyData.int).length + [PyData.int (n:Int)].length≤sizeLine:=by
     rw [ζa]
     show h.length + 1≤_
     omega
    have rn:(rng s.toNat)[n]?=some (n:Int):=U2 hn
    refine exa1 (by walk_at"gc") (by walk_at"ev") (by walk_at"sc") ?_ ?_
    ·rw [ζa,ζj,uN,ζa,ζy,ζy,rl]
     have h2:min j ws.length * s.toNat≤4096 * 4:=Nat.mul_le_mul (by omega) (by omega)
     omega
    ·have e:(grow (ws.take j) (rng s.toNat) ++ ((rng s.toNat).take (n + 1)).map fun c=>h ++ [c]).map il=(grow (ws.take j) (rng s.toNat) ++ ((rng s.toNat).take n).map fun c=>h ++ [c]).map il ++ [.list (h.map .int ++ [.int (n:Int)])]:=by
      rw [take_succ rn]
      simp [il]
     show ∃ y,_
     rw [e]
     exact ⟨_,rfl⟩
   ·rintro Γ' ⟨u,rfl⟩
    have e2:(rng s.toNat).take s.toNat=rng s.toNat:=ζA (by rw [rl]; exact ζm _)
    show ∃ z u,_=_
    rw [take_succ hh',YZ,yO,e2]
    exact ⟨_,_,rfl⟩
  ·rintro Γ' ⟨z,u,rfl⟩
   refine exfz 3 (by walk_at"gc") (by walk_at"sc") ?_
   refine exs1 true (by walk_at"ev") (by walk_at"sc") ?_
   show ∃ x y z u,_
   rw [ζa,ζ4]
   exact ⟨_,_,_,_,rfl⟩
 ·rintro Γ' ⟨x,y,z,u,rfl⟩
  refine zP true (by walk_at"ev") ?_ (.inl ⟨rfl,rfl⟩)
  rw [ζa,ζ4]
def w8 (ds:List PyData) (d:PyData):Prop:=∃ ss ws:List Int,ds=[il ss,il ws]∧(∀ s∈ss,1≤s∧s≤9)∧d=.int (rkF ss ws)
theorem YC (ds:List PyData) (d:PyData) (h:w8 ds d):ds.length=2:=by obtain ⟨ss,ws,rfl,_⟩:=h; rfl
theorem Xv:zB ["_law_sizes", "_law_world", "_law_found", "_law_size", "_law_a"] ["_law_sizes", "_law_world"] (zm (top 70)):=⟨rfl,rfl,rfl,by decide +kernel,rfl,by decide +kernel,by decide +kernel⟩
theorem XO (F:Fun K "_law_place" "_law_place" (top 70) f fd) (B:Bs mg) (Z:Cs K mg cA cB τa τb τc τd τe τf τg τh)  : FnOk P w K mg base CX0 1 f fd ["_law_sizes", "_law_world"] (spD K true w8):=by
 have sc:=Xv
 refine F.ok sc (fun vs H Q E h=>zR YC h) (fun cdv A outer s H vs Q E hr h=>?_)
 obtain ⟨Fh,ds,d,le,dp,p,q⟩:=h
 refine ⟨_,(ze (zF (i:=2) sc.nd rfl (Or.inl rfl) zh)
   (ze (yi PassesOwn.never rfl (uG (K:=K) rfl rfl B.zip (zb (pv 0) (zb (pv 1) zd))) (ww (K:=K) (n:=2) rfl rfl (yo (zk (i:=3) sc.nd rfl (Or.inl rfl)) (yo (zk (i:=4) sc.nd rfl (Or.inl rfl)) wv))) (zg (zF (i:=2) sc.nd rfl (Or.inl rfl) (zv yp (zv xu (pv 2) (pv 3)) (pv 4)))))
   (zg (zH (pv 2))))),?_⟩
 have hN:(["_law_sizes", "_law_world", "_law_found", "_law_size", "_law_a"]:List Str).length=5:=rfl
 obtain ⟨ss,ws,rfl,hs,rfl⟩:=p
 walk_at"run"
 walk_at"go"
 refine xc false (fun i Γ=>∃ x y,Γ=[some (.fz false (il ss)),some (.fz false (il ws)),some (.fz true (.int (((ss.zip ws).take i).foldl (fun a x=>a * x.1 + x.2) 0))),x,y]) (ZZ (by walk_at"ev")) ⟨none,none,by rw [ξg]; rfl⟩ ?_ ?_
 ·rintro i d Γ' hd ⟨x,y,rfl⟩
  obtain ⟨s,v,hs',hv',rfl⟩:=Wb hd
  have hb:=hs s (ζd hs')
  refine ⟨_,egt (by walk_at"sc") (by walk_at"sc") ?_⟩
  refine exs1 true (by walk_at"ev"; exact yN (by omega) (by omega)) (by walk_at"sc") ?_
  show ∃ x y,_
  rw [WB hs' hv',ξi]
  exact ⟨_,_,rfl⟩
 ·rintro Γ' ⟨x,y,rfl⟩
  refine zP true (by walk_at"ev") ?_ (.inl ⟨rfl,rfl⟩)
  unfold rkF
  rw [ζA]
  rw [ξj,ξy,ζa,ζa]
  exact ζm _
theorem VR:∀ (n:Nat) (ss:List Int),ss.length=n→(∀ s∈ss,0 < s)→allW ss [[]]=wds ss
 | 0,ss,h,_=>by rw [ζO.mp h]; rfl
 | n + 1,ss,h,hp=>by
  have ne:ss≠[]:=fun z=>by rw [z] at h; cases h
  have e:=(ξx ne).symm
  have l:ss.dropLast.length=n:=by rw [List.length_dropLast,h]; rfl
  rw [e] at hp ⊢
  rw [tJ,VR n _ l fun s hs=>hp s (ζu.mpr (.inl hs)),WE (fun s hs=>hp s (ζu.mpr (.inl hs))) (hp _ (ζu.mpr (.inr (ζh.mpr rfl))))]
def turn (r L:List Nat) (w:List Int):List Int:=r.map fun c=>w.getD (L.idxOf c) 0
def RL (ss:List Int) (r:List Nat) (t:List (List Int)) (L:List Nat):List (List Nat):=(wds (pk ss L)).map fun w=>(t.getD (rkF (pk ss r) (turn r L w)).toNat []).map Int.toNat
theorem Wa {L:List Nat} {c:Nat} (h:c∈L):L[L.idxOf c]?=some c:=by
 have l:=ξs.mpr h
 rw [ζf l,List.getElem_idxOf l]
theorem zaO {L:List Nat} (nd:L.Nodup) {m c:Nat} (h:L[m]?=some c):L.idxOf c=m:=by
 have ml:=(ζe.mp h).1
 have:=Wa (ζd h)
 have il:=(ζe.mp this).1
 rw [ζf il] at this
 rw [ζf ml] at h
 exact (List.getElem_inj nd).mp (ζD (this.trans h.symm))
theorem zbE {ss:List Int} {r L:List Nat} {w:List Int} (hs:∀ s∈ss,2≤s∧s≤4) (lc:∀ c∈L,c < ss.length) (sub:∀ c∈r,c∈L) (hw:w∈wds (pk ss L)):∀ (i:Nat) s v,(pk ss r)[i]?=some s→(turn r L w)[i]?=some v→0≤v∧v < s:=fun i s v h1 h2=>by
 unfold Sx2.pk at h1
 unfold turn at h2
 rw [ζl] at h1 h2
 obtain ⟨c,hc,rfl⟩:=ξk.mp h1
 rw [hc] at h2
 have h2:w.getD (L.idxOf c) 0=v:=ζD h2
 have cl:=sub c (ζd hc)
 have g:=Wa cl
 have il:=(ζe.mp g).1
 have wl:w.length=L.length:=by rw [t9 hw,vf]
 have gw:w[L.idxOf c]?=some v:=by rw [← h2]; exact zu (by omega)
 have gp:(pk ss L)[L.idxOf c]?=some (ss.getD c 0):=by unfold Sx2.pk; rw [List.getElem?_map,g]; rfl
 exact QL (fun s h=>by have:=v7 hs lc s h; omega) hw _ _ _ gp gw
theorem UR {ss:List Int} {r L:List Nat} {w:List Int} (hs:∀ s∈ss,2≤s∧s≤4) (lc:∀ c∈L,c < ss.length) (sub:∀ c∈r,c∈L) (hw:w∈wds (pk ss L)):0≤rkF (pk ss r) (turn r L w)∧rkF (pk ss r) (turn r L w) < prod (pk ss r):=YR (by unfold turn; rw [vf,List.length_map]) (zbE hs lc sub hw)
theorem QK {q:List Int} (h:∀ x∈q,0≤x):zl (q.map Int.toNat)=q:=by
 unfold zl
 rw [ζr]
 exact (ζK fun x hx=>ξu (h x hx)).trans (List.map_id _)
theorem QQ {ss:List Int} {r L:List Nat} {t:List (List Int)} (hs:∀ s∈ss,2≤s∧s≤4) (up:r.Pairwise (· < ·)) (rc:∀ c∈r,c < ss.length) (pm:L.Perm r) (tl:(t.length:Int)=prod (pk ss r)) (tn:∀ q∈t,∀ x∈q,0≤x):(tabF ss L (RL ss r t L)).map zl=t:=by
 have nr:r.Nodup:=up.imp fun h=>ζG h
 have nL:L.Nodup:=pm.nodup_iff.mpr nr
 have lc:∀ c∈L,c < ss.length:=fun c hc=>rc c (pm.mem_iff.mp hc)
 have sr:srtN L=r:=vS (v3 nL) up fun x=>by rw [(xq L).mem_iff,pm.mem_iff]
 have pos:∀ s∈pk ss L,0 < s:=fun s h=>by have:=v7 hs lc s h; omega
 have posr:∀ s∈pk ss r,0 < s:=fun s h=>by have:=v7 hs rc s h; omega
 unfold tabF
 rw [sr]
 refine ξa fun j=>?_
 rw [ζl,ζl]
 by_cases hj:j < t.length
 ·have jp:j < (prod (pk ss r)).toNat:=by omega
  have hw:=UO jp
  have wm:=ζd hw
  have wl:(wld (pk ss r) j).length=r.length:=by rw [UN,vf]
  have vb:=UP (L:=L) hs nr rc wm fun c hc=>pm.mem_iff.mp hc
  have vv:∀ c∈L,((fil (List.replicate ss.length none) r (wld (pk ss r) j)).getD c none).getD 0=(wld (pk ss r) j).getD (r.idxOf c) 0:=fun c hc=>by
   obtain ⟨m,x,h1,h2,h3,_⟩:=Zf hs nr rc wm (pm.mem_iff.mp hc)
   rw [h3,zaO nr h1,ζc,h2]
  have vin:∀ (i:Nat) s v,(pk ss L)[i]?=some s→(vals (fil (List.replicate ss.length none) r (wld (pk ss r) j)) L)[i]?=some v→0≤v∧v < s:=fun i s v h1 h2=>by
   unfold Sx2.pk at h1
   unfold vals at h2
   rw [ζl] at h1 h2
   obtain ⟨c,hc,rfl⟩:=ξk.mp h1
   rw [hc] at h2
   obtain ⟨m,x,_,_,e,x0,x1⟩:=Zf hs nr rc wm (pm.mem_iff.mp (ζd hc))
   have h2:((fil (List.replicate ss.length none) r (wld (pk ss r) j)).getD c none).getD 0=v:=ζD h2
   rw [e] at h2
   have h2:x=v:=h2
   subst h2
   exact ⟨x0,x1⟩
  have back:=El.UM L.length (pk ss L) (vals (fil (List.replicate ss.length none) r (wld (pk ss r) j)) L) (vf _ _) (by unfold vals; rw [List.length_map]) vin
  have tb:turn r L (vals (fil (List.replicate ss.length none) r (wld (pk ss r) j)) L)=wld (pk ss r) j:=by
   unfold turn
   refine ξa fun i=>?_
   rw [ζl]
   by_cases hi:i < r.length
   ·have gi:r[i]?=some r[i]:=ζf hi
    have cm:=pm.mem_iff.mpr (ζd gi)
    have g:=Wa cm
    rw [gi]
    show some ((vals _ L).getD (L.idxOf r[i]) 0)=_
    have:(vals (fil (List.replicate ss.length none) r (wld (pk ss r) j)) L).getD (L.idxOf r[i]) 0=((fil (List.replicate ss.length none) r (wld (pk ss r) j)).getD r[i] none).getD 0:=by
     unfold vals
     rw [ζc,ζl,g]
     rfl
    rw [this,vv _ cm,zaO nr gi]
    exact (zu (by omega)).symm
   ·rw [ζF (by omega),ζF (by omega)]
    rfl
  obtain ⟨v,hv⟩:∃ v,v=vals (fil (List.replicate ss.length none) r (wld (pk ss r) j)) L:=⟨_,rfl⟩
  rw [← hv] at vb back tb
  have vr:(RL ss r t L)[(rkF (pk ss L) v).toNat]?=some ((t.getD j []).map Int.toNat):=by
   unfold RL
   rw [ζl,UO (by omega),ξu vb.1,back]
   show some ((t.getD (rkF (pk ss r) (turn r L v)).toNat []).map Int.toNat)=_
   rw [tb,zbT posr (by omega) (by omega),ζI]
  rw [hw]
  show some (zl ((RL ss r t L).getD (rkF (pk ss L) (vals (fil (List.replicate ss.length none) r (wld (pk ss r) j)) L)).toNat []))=t[j]?
  rw [← hv,ζc,vr,zu (d:=[]) hj]
  show some (zl ((t.getD j []).map Int.toNat))=some (t.getD j [])
  rw [QK (tn _ (ζd (zu (d:=[]) hj)))]
 ·rw [ζF (show (wds (pk ss r)).length≤j by rw [Za]; omega),ζF (by omega)]
  rfl
def lnF (zs:List Str) (ss:List Int) (cs:List (List Nat)) (ts:List (List (List Int))) (hs:List Nat) (k:Nat) (L:List Nat):Ln:=⟨zs.getD k Str.empty,decide (k∈hs),(ss.getD k 0).toNat,L,RL ss (cs.getD k []) (ts.getD k []) L⟩
def slS (R:List (List Nat)):List Str:=R.flatMap fun r=>r.map numS ++ [("/" : Str)]
theorem QY (R:List (List Nat)) (r:List Nat):slS (R ++ [r])=slS R ++ r.map numS ++ [("/" : Str)]:=by
 unfold slS
 rw [List.flatMap_append,ζS]
 congr 1
 simp
theorem zcJ:∀ (R:List (List Nat)),R≠[]→(tkF R).map tkS ++ [("/" : Str)]=slS R
 | [],h=>absurd rfl h
 | [r],_=>by
  show (r.map some).map tkS ++ _=(r.map numS ++ _) ++ []
  rw [ζr,ζW]
  rfl
 | r :: q :: t,_=>by
  show (r.map some ++ none :: tkF (q :: t)).map tkS ++ _=(r.map numS ++ [("/" : Str)]) ++ slS (q :: t)
  rw [← zcJ (q :: t) (fun z=>(nomatch z)),ζE,ζr,ζT,ζS,ζS]
  rfl
theorem QX:∀ {R:List (List Nat)},(∀ r∈R,r.length≤4)→(slS R).length≤R.length * 5
 | [],_=>ζm _
 | r :: t,h=>by
  have h1:=h r ζi
  have h2:=QX (R:=t) fun q hq=>h q (ζk _ hq)
  show ((r.map numS ++ [("/" : Str)]) ++ slS t).length≤(t.length + 1) * 5
  rw [ζj,ζj,ζa]
  show r.length + 1 + _≤_
  omega
structure LnC (zs:List Str) (ss:List Int) (cs:List (List Nat)) (ts:List (List (List Int))):Prop where
 u:BkU ss cs ts
 l:zs.length=ss.length
 nm:∀ z∈zs,NmOk z
theorem XV {x:Int} (h0:0≤x) (h:x < 10 ^ 60):numS x.toNat=tS x∧(numS x.toNat).length≤60:=by
 have e:numS x.toNat=tS x:=by unfold numS; rw [Int.toNat_of_nonneg h0]
 exact ⟨e,by rw [e]; exact zdl h0 h⟩
section
variable {zs:List Str} {ss:List Int} {cs:List (List Nat)} {ts:List (List (List Int))} {hs L:List Nat} {k:Nat}
theorem LnC.row (c:LnC zs ss cs ts) (hk:k < ss.length):(∀ c∈cs.getD k [],c < ss.length)∧(cs.getD k []).length≤5∧(cs.getD k []).Pairwise (· < ·)∧((ts.getD k []).length:Int)=prod (pk ss (cs.getD k []))∧∀ r∈ts.getD k [],ua (ss.getD k 0) r:=by
 have cl:=c.u.b.cl
 have tl:=c.u.b.tl
 have gc:=zu (d:=([]:List Nat)) (l:=cs) (k:=k) (by omega)
 have gt:=zu (d:=([]:List (List Int))) (l:=ts) (k:=k) (by omega)
 have ck:=c.u.b.ck k _ gc
 exact ⟨ck.1,ck.2,c.u.u _ (ζd gc),c.u.b.tk k _ _ gc gt,c.u.b.rk k _ gt⟩
theorem Zw (c:LnC zs ss cs ts) (hk:k < ss.length) (pm:L.Perm (cs.getD k [])):((RL ss (cs.getD k []) (ts.getD k []) L).length:Int)=prod (pk ss L)∧∀ q∈RL ss (cs.getD k []) (ts.getD k []) L,(∃ r∈ts.getD k [],q=r.map Int.toNat):=by
 obtain ⟨r1,r2,r3,r4,r5⟩:=c.row hk
 have lc:∀ c∈L,c < ss.length:=fun c hc=>r1 c (pm.mem_iff.mp hc)
 have pp:=uE c.u.b.s lc (by rw [pm.length_eq]; exact r2)
 unfold RL
 refine ⟨by rw [ζa,Za]; omega,fun q hq=>?_⟩
 obtain ⟨w,hw,rfl⟩:=ζq.mp hq
 have b:=UR (r:=cs.getD k []) c.u.b.s lc (fun c hc=>pm.mem_iff.mpr hc) hw
 exact ⟨_,ζd (zu (d:=[]) (by omega)),rfl⟩
theorem Q2 (c:LnC zs ss cs ts) (hk:k < ss.length) (pm:L.Perm (cs.getD k [])):∀ q∈RL ss (cs.getD k []) (ts.getD k []) L,q.length≤4∧∀ m∈q,(numS m).length≤60:=fun q hq=>by
 obtain ⟨r,hr,rfl⟩:=(Zw c hk pm).2 q hq
 have ro:=(c.row hk).2.2.2.2 r hr
 have s4:=yE c.u.b.s hk
 have l:=ro.l
 refine ⟨by rw [ζa]; omega,fun m hm=>?_⟩
 obtain ⟨x,hx,rfl⟩:=ζq.mp hm
 exact (XV (ro.w x hx).1 (ro.w x hx).2).2
theorem zcU (c:LnC zs ss cs ts) (hk:k < ss.length) (pm:L.Perm (cs.getD k [])):RL ss (cs.getD k []) (ts.getD k []) L≠[]:=fun z=>by
 obtain ⟨r1,r2,_⟩:=c.row hk
 have:=(Zw c hk pm).1
 rw [z] at this
 have p:=(uE c.u.b.s (L:=L) (fun c hc=>r1 c (pm.mem_iff.mp hc)) (by rw [pm.length_eq]; exact r2)).2
 have:((0:Nat):Int)=prod (pk ss L):=this
 omega
theorem WO (c:LnC zs ss cs ts) (hk:k < ss.length):numS (ss.getD k 0).toNat=tS (ss.getD k 0)∧(numS (ss.getD k 0).toNat).length≤60:=by
 have:=yE c.u.b.s hk
 exact XV (by omega) (Int.lt_of_le_of_lt this.2 (by decide))
end
theorem ZJ {zs:List Str} {ss:List Int} {cs:List (List Nat)} {ts:List (List (List Int))} {hs L:List Nat} {k:Nat} (ok:LnC zs ss cs ts) (hk:k < ss.length) (pm:L.Perm (cs.getD k [])):(∀ y∈lnW zs (lnF zs ss cs ts hs k L),y.length≤60)∧(lnW zs (lnF zs ss cs ts hs k L)).length≤5200:=by
 obtain ⟨r1,r2,_⟩:=ok.row hk
 have lc:∀ c∈L,c < ss.length:=fun c hc=>r1 c (pm.mem_iff.mp hc)
 have ll:L.length≤5:=by rw [pm.length_eq]; exact r2
 have ro:=Q2 ok hk pm
 have rr:=(Zw ok hk pm).1
 have pp:=uE ok.u.b.s lc ll
 have zn:∀ {j:Nat},j < ss.length→NmOk (zs.getD j Str.empty):=fun {j} hj=>ok.nm _ (ζd (zu (by have:=ok.l; omega)))
 refine ⟨fun y hy=>?_,?_⟩
 ·rcases ζu.mp hy with hy | hy
  ·rcases ζs.mp hy with rfl | hy
   ·exact (Ts (zn hk) _).2
   rcases ζs.mp hy with rfl | hy
   ·exact (WO ok hk).2
   ·obtain ⟨c,hc,rfl⟩:=ζq.mp hy
    have:=(zn (lc c hc)).l
    omega
  ·rcases ζs.mp hy with rfl | hy
   ·decide
   ·obtain ⟨o,ho,rfl⟩:=ζq.mp hy
    cases o with
    | none=>decide
    | some m =>
     obtain ⟨q,hq,hm⟩:=Xh ho
     exact (ro q hq).2 m hm
 ·have tk5:=VY fun q hq=>(ro q hq).1
  unfold lnW hdW
  simp only [List.length_append,List.length_cons,List.length_map]
  have tk5:(tkF (lnF zs ss cs ts hs k L).R).length≤(RL ss (cs.getD k []) (ts.getD k []) L).length * 5:=tk5
  have:(lnF zs ss cs ts hs k L).L.length≤5:=ll
  omega
def vD (ds:List PyData) (G:PyData→Prop):Prop:=∃ (zs:List Str) (ss:List Int) (cs:List (List Nat)) (ts:List (List (List Int))) (hs:List Nat) (k:Nat) (c:Int),ds=[stL zs,yr ss cs ts,nl hs,.int (k:Int),.int c]∧LnC zs ss cs ts∧k < ss.length∧G=fun d=>∃ L,L.Perm (cs.getD k [])∧d=.str (lnS zs (lnF zs ss cs ts hs k L))
theorem X2 (ds:List PyData) (G:PyData→Prop) (h:vD ds G):ds.length=5:=by obtain ⟨a,b,c,d,e,f,g,rfl,_⟩:=h; rfl
theorem zaN:∀ (L:List Nat) (c:Nat),(zl L).idxOf (c:Int)=L.idxOf c
 | [],_=>rfl
 | x :: r,c=>by
  show ((x:Int) :: zl r).idxOf (c:Int)=(x :: r).idxOf c
  have e:((x:Int) == (c:Int))=(x == c):=by rw [ξA,beq_iff_eq,beq_iff_eq]; omega
  rw [List.idxOf_cons,List.idxOf_cons,zaN r c,e]
def pkD (r:List Nat) (d:PyData):PyData:=match d with | .int j=>.int ((r.getD j.toNat 0:Nat):Int) | _=>.none
theorem WV:zB ["_law_names_here", "_law_made", "_law_hidden", "_law_k", "_law_cell", "_law_rising", "_law_listed", "_law_words", "_law_world", "_law_turned", "_law_row"] ["_law_names_here", "_law_made", "_law_hidden", "_law_k", "_law_cell"] (zm (top 71)):=⟨rfl,rfl,rfl,by decide +kernel,rfl,by decide +kernel,by decide +kernel⟩
set_option maxHeartbeats 4000000 in
theorem Vi (F:Fun K "_law_line" "_law_line" (top 71) f fd) (B:Bs mg) (Z:Cs K mg cA cB τa τb τc τd τe τf τg τh) (c_law_numbers:zC P w K mg base CX0 "_law_numbers" ["_law_row"] 1 (spW K true xz)) (c_law_stream:zC P w K mg base CX0 "_law_stream" ["_law_cell", "_law_many"] 1 (spW K true yz)) (c_law_worlds:zC P w K mg base CX0 "_law_worlds" ["_law_sizes"] 1 (spD K true wG)) (c_law_place:zC P w K mg base CX0 "_law_place" ["_law_sizes", "_law_world"] 1 (spD K true w8)):FnOk P w K mg base CX0 2 f fd ["_law_names_here", "_law_made", "_law_hidden", "_law_k", "_law_cell"] (spW K true vD):=by
 have sc:=WV
 refine F.ok sc (fun vs H Q E h=>wq X2 h) (fun cdv A outer s H vs Q E hr h=>?_)
 obtain ⟨Fh,ds,G,le,dp,p,q⟩:=h
 refine ⟨_,(ze (zF (i:=5) sc.nd rfl (Or.inr rfl) (zL (zA (K:=K) rfl) (zL (yq (K:=K) rfl) (pv 1) zh (fun _ _=>rfl)) (pv 3) (fun _ _=>rfl)))
   (ze (zF (i:=6) sc.nd rfl (Or.inr rfl) (yk rfl (N:=["_law_j", "_law_rising"]) (js:=[none,some 5]) (by walk_at"comp_ok") (zI (K:=K) rfl (zM c_law_numbers (hr.mono (by decide)) rfl zN (zb (zM c_law_stream (hr.mono (by decide)) rfl zN (zb (zv xA (pv 4) zh) (zb (zq (zw (K:=K) rfl) rfl B.len (by decide +kernel) (zb (pv 5) zd)) zd))) zd))) (fun _ _ _ _=>(zk (i:=0) (show List.Nodup (["_law_j", "_law_rising"]:List PySem.Str) by decide +kernel) rfl (Or.inl rfl))) (fun _ _ _ _=>yh) (fun _ _ _ _=>(zL (zA (K:=K) rfl) (pv 1) (pv 0) (fun _ _=>rfl)))))
   (ze (zF (i:=7) sc.nd rfl (Or.inl rfl) (zv (x5 (K:=K) rfl) (zv (x5 (K:=K) rfl) (zW (zb (zv Zd (zL (zA (K:=K) rfl) (pv 0) (pv 3) (fun _ _=>rfl)) (zv zb2 yI (yD QI rfl B.int (by decide +kernel) (zb (yA (ZD (K:=K) rfl) (pv 3) (pv 2) (rfl)) zd)))) (zb (yD uU rfl B.str (by decide +kernel) (zb (zL (zA (K:=K) rfl) (zL (yq (K:=K) rfl) (pv 1) zh (fun _ _=>rfl)) (pv 3) (fun _ _=>rfl)) zd)) zd))) (yk rfl (N:=["_law_cause", "_law_names_here"]) (js:=[none,some 0]) (by walk_at"comp_ok") (zI (K:=K) rfl (pv 6)) (fun _ _ _ _=>(zk (i:=0) (show List.Nodup (["_law_cause", "_law_names_here"]:List PySem.Str) by decide +kernel) rfl (Or.inl rfl))) (fun _ _ _ _=>yh) (fun _ _ _ _=>(zL (zA (K:=K) rfl) (pv 1) (pv 0) (fun _ _=>rfl))))) (zW (zb yI zd))))
   (ze (yi PassesOwn.never rfl (zI (K:=K) rfl (zM c_law_worlds (hr.mono (by decide)) rfl zN (zb (yk rfl (N:=["_law_cause", "_law_made"]) (js:=[none,some 1]) (by walk_at"comp_ok") (zI (K:=K) rfl (pv 6)) (fun _ _ _ _=>(zk (i:=0) (show List.Nodup (["_law_cause", "_law_made"]:List PySem.Str) by decide +kernel) rfl (Or.inl rfl))) (fun _ _ _ _=>yh) (fun _ _ _ _=>(zL (zA (K:=K) rfl) (zL (yq (K:=K) rfl) (pv 1) zh (fun _ _=>rfl)) (pv 0) (fun _ _=>rfl)))) zd))) (zk (i:=8) sc.nd rfl (Or.inr rfl)) (ze (xC (i:=9) rfl sc.nd rfl rfl (N:=["_law_cause", "_law_world", "_law_listed"]) (js:=[none,some 8,some 6]) (by walk_at"comp_ok") (zI (K:=K) rfl (pv 5)) (fun _ _ _ _=>(zk (i:=0) (show List.Nodup (["_law_cause", "_law_world", "_law_listed"]:List PySem.Str) by decide +kernel) rfl (Or.inl rfl))) (fun _ _ _ _=>yh) (fun _ _ _ _=>(zL (zA (K:=K) rfl) (pv 1) (yb (K:=K) rfl ζo ξ5 ξ4 (Qi (K:=K) rfl) (pv 2) (zb (pv 0) zd)) (fun _ _=>rfl))))
   (ze (zF (i:=10) sc.nd rfl (Or.inl rfl) (zL (zA (K:=K) rfl) (zL (zA (K:=K) rfl) (zL (yq (K:=K) rfl) (pv 1) zh (fun _ _=>rfl)) (pv 3) (fun _ _=>rfl)) (zM c_law_place (hr.mono (by decide)) rfl zN (zb (yk rfl (N:=["_law_cause", "_law_made"]) (js:=[none,some 1]) (by walk_at"comp_ok") (zI (K:=K) rfl (pv 5)) (fun _ _ _ _=>(zk (i:=0) (show List.Nodup (["_law_cause", "_law_made"]:List PySem.Str) by decide +kernel) rfl (Or.inl rfl))) (fun _ _ _ _=>yh) (fun _ _ _ _=>(zL (zA (K:=K) rfl) (zL (yq (K:=K) rfl) (pv 1) zh (fun _ _=>rfl)) (pv 0) (fun _ _=>rfl)))) (zb (pv 9) zd))) (fun _ _=>rfl)))
   (zg (zF (i:=7) sc.nd rfl (Or.inl rfl) (zv (x5 (K:=K) rfl) (zv (x5 (K:=K) rfl) (pv 7) (yk rfl (N:=["_law_weight_here"]) (js:=[none]) (by walk_at"comp_ok") (zI (K:=K) rfl (pv 10)) (fun _ _ _ _=>(zk (i:=0) (show List.Nodup (["_law_weight_here"]:List PySem.Str) by decide +kernel) rfl (Or.inl rfl))) (fun _ _ _ _=>yh) (fun _ _ _ _=>(yD uU rfl B.str (by decide +kernel) (zb (pv 0) zd))))) (zW (zb yI zd))))))))
   (zg (zH (yb (K:=K) rfl ζ0 PySem.F.slot_str_join PySem.F.type_str_join (Vq (K:=K) rfl) yI (zb (yZ (xY (K:=K) rfl) (pv 7) xN (xt (zam VU zh))) zd)))))))),?_⟩
 have hN:(["_law_names_here", "_law_made", "_law_hidden", "_law_k", "_law_cell", "_law_rising", "_law_listed", "_law_words", "_law_world", "_law_turned", "_law_row"]:List Str).length=11:=rfl
 obtain ⟨zs,ss,cs,ts,hs,k,c,rfl,ok,hk,rfl⟩:=p
 have big:=zJ
 have big2:=uV
 obtain ⟨r1,r2,r3,r4,r5⟩:=ok.row hk
 have n12:=ok.u.b.n
 have cl:=ok.u.b.cl
 have tl:=ok.u.b.tl
 have zl':=ok.l
 have sk:=yE ok.u.b.s hk
 have sn:=WO ok hk
 refine xK le dp q hN (by walk_at"st") ?_
 refine exs false (d:=nl (cs.getD k [])) (zY (ds:=cs.map nl) (EvE.toL (yV (ds:=[il ss,nls cs,tbl ts]) (by walk_at"ev") (by walk_at"ev") atI1)) (by walk_at"ev") (Ww (by omega))) (by walk_at"sc") ?_
 have el:PyData.int ((((cs.getD k []).map fun k:Nat=>PyData.int (k:Int)).length:Nat):Int)=.int ((cs.getD k []).length:Int):=by rw [ζa]
 refine exg true (G:=fun d=>∃ L:List Nat,L.Perm (cs.getD k [])∧d=nl L) (fun H0 F0 H F σ e Q q=>EvOG.toG (za9 (κ:=true) (is:=[0]) (G:=fun ds=>∃ p:List Nat,p.Perm (List.range (cs.getD k []).length)∧PyData.list ds=nl p) false (pkD (cs.getD k [])) (VI (G:=fun d=>∃ p:List Nat,p.Perm (List.range (cs.getD k []).length)∧d=nl p) (Uv (y0 (G:=fun d=>∃ xs:List Int,xs.length=(cs.getD k []).length∧(∀ x∈xs,0≤x∧x < 2147483647)∧d=il xs) (zi (xx (by walk_at"ev") (by walk_at"ev") ⟨by decide,by decide⟩) (zi (EvE.eq (yu (ds:=(cs.getD k []).map fun k:Nat=>PyData.int (k:Int)) (by walk_at"ev")) el) zG)) ⟨c / 5,(cs.getD k []).length,rfl,by omega,rfl⟩) (fun d ⟨xs,xl,_,e⟩=>⟨_,⟨xs,by rw [e],by omega,rfl⟩,fun x ⟨p,pm,e⟩=>⟨p,by rw [← xl]; exact pm,e⟩⟩)) (fun d ⟨p,_,e⟩=>⟨_,e⟩)) (by walk_at"cc") rfl (by decide) (fun ds ⟨p,pm,e⟩=>?_) (fun ds ⟨p,pm,e⟩ d hd=>?_)) H0 F0 H F σ e Q fun d v H' F' ⟨es,⟨ds,⟨p,pm,e1⟩,e2⟩,e3⟩ g r=>q d v H' F' ?_ g r) (fun d=>by walk_at"sc") ?_
 ·cases e
  rw [ζa,pm.length_eq,ζz]
  omega
 ·cases e
  obtain ⟨j,hj,rfl⟩:=ζq.mp hd
  have jl:=ζQ.mp (pm.mem_iff.mp hj)
  have ep:pkD (cs.getD k []) (.int (j:Int))=.int (((cs.getD k []).getD j 0:Nat):Int):=by
   show PyData.int (((cs.getD k []).getD (j:Int).toNat 0:Nat):Int)=_
   rw [ζI]
  rw [ep]
  refine egn (by walk_at"sc") ?_
  exact EvE.imm (κ:=false) (zY (ds:=(cs.getD k []).map fun k:Nat=>PyData.int (k:Int)) (by walk_at"ev") (by walk_at"ev") (zdg jl)) rfl
 ·cases e1
  refine ⟨p.map fun j=>(cs.getD k []).getD j 0,?_,?_⟩
  ·have:=pm.map fun j=>(cs.getD k []).getD j 0
   refine this.trans (List.Perm.of_eq ?_)
   refine ξa fun i=>?_
   rw [ζl]
   by_cases hi:i < (cs.getD k []).length
   ·rw [ζV hi,zu (d:=0) hi]
    rfl
   ·rw [ζF (by rw [ζz]; omega),ζF (by omega)]
    rfl
  ·rw [e3,e2,ζr]
   show _=PyData.list (List.map _ (List.map _ p))
   rw [ζr]
   rfl
 rintro d ⟨L,pm,rfl⟩
 have lc:∀ c∈L,c < ss.length:=fun c hc=>r1 c (pm.mem_iff.mp hc)
 have ll:L.length≤5:=by rw [pm.length_eq]; exact r2
 have nr:(cs.getD k []).Nodup:=r3.imp fun h=>ζG h
 have nL:L.Nodup:=pm.nodup_iff.mpr nr
 have fw:fwS (zs.getD k Str.empty) (decide (k∈hs))=zs.getD k Str.empty ++ (if decide (k∈hs) then ("*" : Str) else Str.empty):=by
  cases decide (k∈hs) with
  | true=>rfl
  | false=>exact (Str.append_empty _).symm
 have zn:∀ {j:Nat},j < ss.length→NmOk (zs.getD j Str.empty):=fun {j} hj=>ok.nm _ (ζd (zu (by omega)))
 have fl:=(Ts (zn hk) (decide (k∈hs))).2
 have z8:=(zn hk).l
 have hw:hdW zs (lnF zs ss cs ts hs k L)=fwS (zs.getD k Str.empty) (decide (k∈hs)) :: numS (ss.getD k 0).toNat :: nmW zs L:=rfl
 have at_z:∀ {j:Nat},j < ss.length→atI (zs.map PyData.str) (j:Int)=some (.str (zs.getD j Str.empty)):=fun {j} hj=>yM (zu (by omega))
 refine exs true (d:=.list (((hdW zs (lnF zs ss cs ts hs k L) ++ [(":" : Str)]) ++ slS []).map .str)) (EvE.eq (EvO.toE (wT (xs:=[PyData.str (fwS (zs.getD k Str.empty) (decide (k∈hs))),.str (numS (ss.getD k 0).toNat)] ++ (nmW zs L).map .str) (ys:=[.str (":" : Str)]) (EvO.toL (wT (xs:=[PyData.str (fwS (zs.getD k Str.empty) (decide (k∈hs))),.str (numS (ss.getD k 0).toNat)]) (ys:=(nmW zs L).map .str) (EvO.toL (zZ (ds:=[PyData.str (fwS (zs.getD k Str.empty) (decide (k∈hs))),.str (numS (ss.getD k 0).toNat)]) (zi (EvE.eq (Zj (i:=zs.getD k Str.empty) (j:=if decide (k∈hs) then ("*" : Str) else Str.empty) (EvE.imm (κ:=false) (zY (ds:=zs.map .str) (by walk_at"ev") (by walk_at"ev") (at_z hk)) rfl) (zcu (z:=("*" : Str)) (b:=decide (k∈hs)) (by walk_at"ev") (zcv (EvE.eq (zbh (neg:=false) (i:=(k:Int)) (ns:=zl hs) (by walk_at"ev") (EvE.toL (EvE.eq (κ:=false) (by walk_at"ev") (vN hs)))) (congrArg PyData.bool (show decide _=decide _ from zaz))))) ?_) (congrArg PyData.str fw.symm)) (zi (EvE.eq (Ty (EvE.imm (κ:=false) (zY (ds:=ss.map .int) (EvE.toL (yV (ds:=[il ss,nls cs,tbl ts]) (by walk_at"ev") (by walk_at"ev") atI0)) (by walk_at"ev") (wV hk)) rfl) (Vs (by omega) (Int.lt_of_le_of_lt sk.2 (by decide)))) (congrArg PyData.str sn.1.symm)) zG)) (by show 2≤sizeLine; omega))) (EvO.toL (EvO.eq (yg (κ:=true) (is:=[0]) (xs:=L) true (fun k:Nat=>.int (k:Int)) (fun c=>.str (zs.getD c Str.empty)) (fun x _ y _ h=>by rw [tf h]) (zS (by walk_at"ev")) (by walk_at"cc") rfl (by decide) (by omega) fun c hc=>egn (by walk_at"sc") (EvE.imm (κ:=false) (zY (ds:=zs.map .str) (by walk_at"ev") (by walk_at"ev") (at_z (lc c hc))) rfl)) (by rw [ζr]; rfl))) (by rw [ζa,ζa]; show 2 + _≤sizeLine; omega))) (EvO.toL (zZ (ds:=[.str (":" : Str)]) (by walk_at"ev") (by show 1≤sizeLine; omega))) (by rw [ζj,ζa,ζa]; show 2 + _ + 1≤sizeLine; omega))) ?_) (by walk_at"sc") ?_
 ·have:(if decide (k∈hs) then ("*" : Str) else Str.empty).length≤1:=by split <;> decide
  omega
 ·rw [hw,show slS []=[] from rfl,ζW,ζE]
  rfl
 have rr:=Zw ok hk pm
 have ro:=Q2 ok hk pm
 have pp:=uE ok.u.b.s lc ll
 have pkl:(L.map fun c=>PyData.int (ss.getD c 0))=(pk ss L).map .int:=by unfold Sx2.pk; rw [List.map_map]; rfl
 have pkr:((cs.getD k []).map fun c=>PyData.int (ss.getD c 0))=(pk ss (cs.getD k [])).map .int:=by unfold Sx2.pk; rw [List.map_map]; rfl
 have aw:allW (pk ss L) [[]]=wds (pk ss L):=VR _ _ rfl fun s h=>by have:=v7 ok.u.b.s lc s h; omega
 have szs:∀ {Γ0:PD.Ctx} {κ:Bool} {c:Nat} {tc:TE},GetC Γ0 1 (.fz false (yr ss cs ts))→c < ss.length→EvE K .fresh false tc Γ0 (.int (c:Int))→EvE K .fresh κ (tOp (rIxL K) (tOp (rIxT K) (tVar 1) (tC (.int 0))) tc) Γ0 (.int (ss.getD c 0)):=fun {Γ0 κ c tc} h hc he=>EvE.imm (κ:=false) (zY (ds:=ss.map .int) (EvE.toL (yV (ds:=[il ss,nls cs,tbl ts]) (evv h (by decide)) (by walk_at"ev") atI0)) he (wV hc)) rfl
 refine xc (ds:=(wds (pk ss L)).map il) true (fun i Γ=>∃ b8 b9 b10,Γ=[some (.fz false (stL zs)),some (.fz false (yr ss cs ts)),some (.fz false (nl hs)),some (.fz false (.int (k:Int))),some (.fz false (.int c)),some (.fz false (nl (cs.getD k []))),some (.fz true (nl L)),some (.fz true (.list (((hdW zs (lnF zs ss cs ts hs k L) ++ [(":" : Str)]) ++ slS ((RL ss (cs.getD k []) (ts.getD k []) L).take i)).map .str))),b8,b9,b10]) (zS (EvE.eq (zr (ds:=[il (pk ss L)]) (zi (EvE.eq (EvO.toE (yg (κ:=false) (is:=[0]) (xs:=L) true (fun k:Nat=>.int (k:Int)) (fun c=>.int (ss.getD c 0)) (fun x _ y _ h=>by rw [tf h]) (zS (by walk_at"ev")) (by walk_at"cc") rfl (by decide) (by omega) fun c hc=>egn (by walk_at"sc") (EvE.imm (κ:=false) (zY (ds:=ss.map .int) (EvE.toL (yV (ds:=[il ss,nls cs,tbl ts]) (by walk_at"ev") (by walk_at"ev") atI0)) (by walk_at"ev") (wV (lc c hc))) rfl))) (congrArg PyData.list pkl)) zG) ⟨pk ss L,rfl,v7 ok.u.b.s lc,by rw [vf]; omega,rfl⟩) (congrArg lls aw))) ⟨none,none,none,rfl⟩ ?_ ?_
 ·rintro i d Γ' hd ⟨b8,b9,b10,rfl⟩
  obtain ⟨w,hwi,rfl⟩:=xw hd
  have wm:=ζd hwi
  have wl:w.length=L.length:=by rw [t9 wm,vf]
  have tb:=UR (r:=cs.getD k []) ok.u.b.s lc (fun c hc=>pm.mem_iff.mpr hc) wm
  have ge:(RL ss (cs.getD k []) (ts.getD k []) L)[i]?=some (((ts.getD k []).getD (rkF (pk ss (cs.getD k [])) (turn (cs.getD k []) L w)).toNat []).map Int.toNat):=by
   unfold RL
   rw [ζl,hwi]
   rfl
  have ilt:=(ζe.mp ge).1
  have sl5:=QX (R:=(RL ss (cs.getD k []) (ts.getD k []) L).take i) fun q hq=>(ro q (ζZ hq)).1
  rw [ζy] at sl5
  refine ⟨_,egn (by walk_at"sc") ?_⟩
  refine exs true (d:=il (turn (cs.getD k []) L w)) (EvE.eq (EvO.toE (yg (κ:=true) (is:=[0]) (xs:=cs.getD k []) false (fun k:Nat=>.int (k:Int)) (fun c=>.int (w.getD (L.idxOf c) 0)) (fun x _ y _ h=>by rw [tf h]) (zS (by walk_at"ev")) (by walk_at"cc") rfl (by decide) (by omega) fun c hc=>egn (by walk_at"sc") ?_)) (by unfold turn; show _=PyData.list (List.map _ (List.map _ _)); rw [List.map_map]; rfl)) (by walk_at"sc") ?_
  ·have cm:=pm.mem_iff.mpr hc
   have il2:=ξs.mpr cm
   have ie:(zl L).idxOf (c:Int)=L.idxOf c:=zaN L c
   exact EvE.imm (κ:=false) (zY (ds:=w.map .int) (by walk_at"ev") (EvE.eq (zbf (ns:=zl L) (k:=(c:Int)) (EvE.toL (EvE.eq (κ:=false) (by walk_at"ev") (vN L))) (by walk_at"ev") (ζq.mpr ⟨c,cm,rfl⟩)) (by rw [ie])) (wV (by omega))) rfl
  obtain ⟨m,hm⟩:∃ m:Nat,rkF (pk ss (cs.getD k [])) (turn (cs.getD k []) L w)=(m:Int):=⟨_,(ξu tb.1).symm⟩
  rw [hm,ζI] at ge
  have ml:m < (ts.getD k []).length:=by omega
  have rok:=r5 _ (ζd (zu (d:=[]) ml))
  have rl4:=rok.l
  refine exs false (d:=il ((ts.getD k []).getD m [])) (zY (κ:=false) (ds:=(ts.getD k []).map il) (EvE.toL (zY (κ:=false) (ds:=ts.map lls) (EvE.toL (yV (ds:=[il ss,nls cs,tbl ts]) (by walk_at"ev") (by walk_at"ev") atI2)) (by walk_at"ev") (yM (zu (by omega))))) (EvE.eq (zr (ds:=[.list ((pk ss (cs.getD k [])).map .int),.list ((turn (cs.getD k []) L w).map .int)]) (zi (EvE.eq (EvO.toE (yg (κ:=false) (is:=[0]) (xs:=cs.getD k []) false (fun k:Nat=>.int (k:Int)) (fun c=>.int (ss.getD c 0)) (fun x _ y _ h=>by rw [tf h]) (zS (by walk_at"ev")) (by walk_at"cc") rfl (by decide) (by omega) fun c hc=>egn (by walk_at"sc") (EvE.imm (κ:=false) (zY (ds:=ss.map .int) (EvE.toL (yV (ds:=[il ss,nls cs,tbl ts]) (by walk_at"ev") (by walk_at"ev") atI0)) (by walk_at"ev") (wV (r1 c hc))) rfl))) (congrArg PyData.list pkr)) (by walk_at"ev")) ⟨pk ss (cs.getD k []),turn (cs.getD k []) L w,rfl,fun s h=>by have:=v7 ok.u.b.s r1 s h; omega,rfl⟩) (congrArg PyData.int hm)) (yM (zu ml))) (by walk_at"sc") ?_
  have rn:(((ts.getD k []).getD m []).map Int.toNat).map numS=((ts.getD k []).getD m []).map tS:=by
   rw [ζr]
   exact ζK fun x hx=>(XV (rok.w x hx).1 (rok.w x hx).2).1
  have hl:(hdW zs (lnF zs ss cs ts hs k L) ++ [(":" : Str)]).length=L.length + 3:=by rw [ζj,hw,ζL,ζL,ζa]; rfl
  refine exs1 true (d:=.list (((hdW zs (lnF zs ss cs ts hs k L) ++ [(":" : Str)]) ++ slS ((RL ss (cs.getD k []) (ts.getD k []) L).take (i + 1))).map .str)) (EvE.eq (EvO.toE (wT (xs:=((hdW zs (lnF zs ss cs ts hs k L) ++ [(":" : Str)]) ++ slS ((RL ss (cs.getD k []) (ts.getD k []) L).take i)).map .str ++ (((ts.getD k []).getD m []).map tS).map .str) (ys:=[.str ("/" : Str)]) (EvO.toL (wT (xs:=((hdW zs (lnF zs ss cs ts hs k L) ++ [(":" : Str)]) ++ slS ((RL ss (cs.getD k []) (ts.getD k []) L).take i)).map .str) (ys:=(((ts.getD k []).getD m []).map tS).map .str) (EvE.toL (by walk_at"ev")) (EvO.toL (EvO.eq (yg (κ:=true) (is:=[0]) (xs:=(ts.getD k []).getD m []) false PyData.int (fun w=>.str (tS w)) (fun x _ y _ h=>by cases h; rfl) (zS (by walk_at"ev")) (by walk_at"cc") rfl (by decide) (by omega) fun x hx=>egn (by walk_at"sc") (Ty (by walk_at"ev") (Vs (rok.w x hx).1 (rok.w x hx).2))) (by rw [ζr]; rfl))) (by rw [ζa,ζa,ζa,ζj,hl]; omega))) (EvO.toL (zZ (ds:=[.str ("/" : Str)]) (by walk_at"ev") (by show 1≤sizeLine; omega))) (by rw [ζj,ζa,ζa,ζa,ζj,hl]; show _ + 1≤_; omega))) ?_) (by walk_at"sc") ⟨_,_,_,rfl⟩
  rw [take_succ ge,QY,rn,← ζS,← ζS]
  simp only [List.map_append]
  rfl
 ·rintro Γ' ⟨b8,b9,b10,rfl⟩
  rw [show (RL ss (cs.getD k []) (ts.getD k []) L).take ((wds (pk ss L)).map il).length=RL ss (cs.getD k []) (ts.getD k []) L by rw [List.length_map]; exact List.take_of_length_le (by unfold RL; rw [List.length_map]; exact Nat.le_refl _)]
  have we:(hdW zs (lnF zs ss cs ts hs k L) ++ [(":" : Str)]) ++ slS (RL ss (cs.getD k []) (ts.getD k []) L)=lnW zs (lnF zs ss cs ts hs k L) ++ [("/" : Str)]:=by
   rw [← zcJ _ (zcU ok hk pm)]
   unfold lnW
   rw [ζS,ζS]
   rfl
  obtain ⟨wlen,wn⟩:=ZJ (hs:=hs) ok hk pm
  refine zP true (d:=.str (lnS zs (lnF zs ss cs ts hs k L))) (TB (sep:=(" " : Str)) (zs:=lnW zs (lnF zs ss cs ts hs k L)) (EvO.toL (EvO.eq (y6 (κ:=false) (lo:=none) (hi:=some (-1)) (ds:=((hdW zs (lnF zs ss cs ts hs k L) ++ [(":" : Str)]) ++ slS (RL ss (cs.getD k []) (ts.getD k []) L)).map .str) (by walk_at"ev") (by walk_at"ev") (xf (Wi (i:=1) (by walk_at"ev")))) (by rw [cutL,we,List.dropLast_concat]))) (Tk 60 wlen (by show _ + _ * 1≤_; omega))) ⟨L,pm,rfl⟩ (.inl ⟨rfl,rfl⟩)
def xsF (zs:List Str) (ss:List Int) (cs:List (List Nat)) (ts:List (List (List Int))) (hs:List Nat) (Ls:List (List Nat)):List Ln:=(List.range ss.length).map fun k=>lnF zs ss cs ts hs k (Ls.getD k [])
theorem Te {zs:List Str} {ss:List Int} (h:zs.length=ss.length) (cs:List (List Nat)) (ts:List (List (List Int))) (hs:List Nat) (Ls:List (List Nat)):nmL (xsF zs ss cs ts hs Ls)=zs:=by
 unfold nmL xsF
 rw [ζr]
 refine ξa fun i=>?_
 rw [ζl]
 by_cases hi:i < ss.length
 ·rw [ζV hi,zu (d:=Str.empty) (show i < zs.length by omega)]
  rfl
 ·rw [ζF (by rw [ζz]; omega),ζF (by omega)]
  rfl
def vC (ds:List PyData) (G:PyData→Prop):Prop:=∃ (zs:List Str) (ss:List Int) (cs:List (List Nat)) (ts:List (List (List Int))) (hs:List Nat) (ns:List Int),ds=[stL zs,yr ss cs ts,nl hs,il ns]∧LnC zs ss cs ts∧G=fun d=>∃ Ls:List (List Nat),(∀ k,k < ss.length→(Ls.getD k []).Perm (cs.getD k []))∧d=.str (txS (xsF zs ss cs ts hs Ls))
theorem X1 (ds:List PyData) (G:PyData→Prop) (h:vC ds G):ds.length=4:=by obtain ⟨a,b,c,d,e,f,rfl,_⟩:=h; rfl
theorem tD {α:Type} {l:List α} {x d:α} {k:Nat}:(l ++ [x]).getD k d=if k < l.length then l.getD k d else if k=l.length then x else d:=by
 rw [ζc]
 split
 ·rename_i h
  rw [ζ1 h,ζc]
 ·rename_i h
  rw [ζN (by omega)]
  split
  ·rename_i e
   rw [e,ξF]
   rfl
  ·rename_i e
   rw [ζF (by show 1≤_; omega)]
   rfl
theorem zaC {zs:List Str} {ss:List Int} {cs:List (List Nat)} {ts:List (List (List Int))} {hs L:List Nat} {k:Nat} (ok:LnC zs ss cs ts) (hk:k < ss.length) (pm:L.Perm (cs.getD k [])):(lnS zs (lnF zs ss cs ts hs k L)).length≤320000:=by
 obtain ⟨wlen,wn⟩:=ZJ (hs:=hs) ok hk pm
 have h1:=uM (sep:=Tx.sg 32) (B:=60) _ wlen
 have e:(Tx.sg 32).length=1:=rfl
 rw [e] at h1
 unfold lnS
 omega
theorem WU:zB ["_law_names_here", "_law_made", "_law_hidden", "_law_script", "_law_lines", "_law_k"] ["_law_names_here", "_law_made", "_law_hidden", "_law_script"] (zm (top 72)):=⟨rfl,rfl,rfl,by decide +kernel,rfl,by decide +kernel,by decide +kernel⟩
theorem Vh (F:Fun K "_law_text" "_law_text" (top 72) f fd) (B:Bs mg) (Z:Cs K mg cA cB τa τb τc τd τe τf τg τh) (c_law_line:zC P w K mg base CX0 "_law_line" ["_law_names_here", "_law_made", "_law_hidden", "_law_k", "_law_cell"] 2 (spW K true vD)) (c_law_cell_at:zC P w K mg base CX0 "_law_cell_at" ["_law_script", "_law_k"] 1 (spD K true zX)):FnOk P w K mg base CX0 3 f fd ["_law_names_here", "_law_made", "_law_hidden", "_law_script"] (spW K true vC):=by
 have sc:=WU
 refine F.ok sc (fun vs H Q E h=>wq X1 h) (fun cdv A outer s H vs Q E hr h=>?_)
 obtain ⟨Fh,ds,G,le,dp,p,q⟩:=h
 refine ⟨_,(ze (zF (i:=4) sc.nd rfl (Or.inl rfl) (zW zd))
   (ze (yi PassesOwn.never rfl (yt rfl B.range (zb (zq (zw (K:=K) rfl) rfl B.len (by decide +kernel) (zb (pv 0) zd)) zd)) (zk (i:=5) sc.nd rfl (Or.inl rfl)) (zg (yd (yb (K:=K) rfl ζo ζw ζv zV (pv 4) (zb (zM c_law_line (hr.mono (by decide)) rfl zN (zb (pv 0) (zb (pv 1) (zb (pv 2) (zb (pv 5) (zb (zv yp (zM c_law_cell_at (hr.mono (by decide)) rfl zN (zb (pv 3) (zb (zv yp zh (pv 5)) zd))) (pv 5)) zd)))))) zd)))))
   (zg (zH (yb (K:=K) rfl ζ0 PySem.F.slot_str_join PySem.F.type_str_join (Vq (K:=K) rfl) yI (zb (pv 4) zd)))))),?_⟩
 have hN:(["_law_names_here", "_law_made", "_law_hidden", "_law_script", "_law_lines", "_law_k"]:List Str).length=6:=rfl
 obtain ⟨zs,ss,cs,ts,hs,ns,rfl,ok,rfl⟩:=p
 have big:=zJ
 have n12:=ok.u.b.n
 have zl':=ok.l
 have el:PyData.int (((zs.map PyData.str).length:Nat):Int)=.int (ss.length:Int):=by rw [ζa,zl']
 refine xK le dp q hN (by walk_at"st") ?_
 refine exo true (ds:=([]:List Str).map .str) (zZ (ds:=[]) zG (by decide)) (by walk_at"sc") ?_
 refine xc (ds:=(List.range ss.length).map fun i:Nat=>.int (i:Int)) true (fun t Γ=>∃ (Ls:List (List Nat)) (b:Option DV),Ls.length=t∧(∀ k,k < t→(Ls.getD k []).Perm (cs.getD k []))∧Γ=[some (.fz false (stL zs)),some (.fz false (yr ss cs ts)),some (.fz false (nl hs)),some (.fz false (il ns)),some (.ow true (((List.range t).map fun k=>lnS zs (lnF zs ss cs ts hs k (Ls.getD k []))).map .str)),b]) (xg (n:=(ss.length:Int)) (zi (EvE.eq (yu (ds:=zs.map .str) (by walk_at"ev")) el) zG) (by omega) (by omega)) ⟨[],none,rfl,fun k hk=>absurd hk (Nat.not_lt_zero k),rfl⟩ ?_ ?_
 ·rintro t d Γ' hd ⟨Ls,b,lt,lp,rfl⟩
  obtain ⟨ht,rfl⟩:=yx hd
  refine ⟨_,egn (by walk_at"sc") ?_⟩
  have pc:zX [il ns,.int (3 + (t:Int))] (.int (xQ ns (3 + t))):=⟨ns,3 + t,by rw [ζ2]; rfl,by omega,rfl⟩
  refine zdb (by walk_at"gc") (y0 (ds:=[stL zs,yr ss cs ts,nl hs,.int (t:Int),.int (xQ ns (3 + t) + (t:Int))]) (zi (by walk_at"ev") (zi (by walk_at"ev") (zi (by walk_at"ev") (zi (by walk_at"ev") (zi (yv (zr (zi (by walk_at"ev") (zi (yv (by walk_at"ev") (by walk_at"ev")) zG)) pc) (by walk_at"ev")) zG))))) ⟨zs,ss,cs,ts,hs,t,_,rfl,ok,ht,rfl⟩) (fun d=>by walk_at"sc") (by rw [ζa,ζa,ζz]; omega) ?_
  rintro d ⟨L,pm,rfl⟩
  refine ⟨Ls ++ [L],some (.fz true (.int (t:Int))),by rw [ζj,lt]; rfl,fun k hk=>?_,?_⟩
  ·rw [tD,lt]
   split
   ·rename_i h
    exact lp k h
   ·have e:k=t:=by omega
    rw [if_pos e,e]
    exact pm
  ·have e1:((List.range (t + 1)).map fun k=>lnS zs (lnF zs ss cs ts hs k ((Ls ++ [L]).getD k [])))=((List.range t).map fun k=>lnS zs (lnF zs ss cs ts hs k (Ls.getD k []))) ++ [lnS zs (lnF zs ss cs ts hs t L)]:=by
    rw [ξX,ζE]
    congr 1
    ·refine ζK fun k hk=>?_
     rw [tD,if_pos (by rw [lt]; exact ζQ.mp hk)]
    ·show [lnS zs (lnF zs ss cs ts hs t ((Ls ++ [L]).getD t []))]=[_]
     rw [tD,if_neg (by omega),if_pos lt.symm]
   rw [e1,ζE]
   rfl
 ·rintro Γ' ⟨Ls,b,lt,lp,rfl⟩
  rw [yO] at lt lp ⊢
  refine exfz 4 (by walk_at"gc") (by walk_at"sc") ?_
  have e:txS (xsF zs ss cs ts hs Ls)=Str.join ("\n" : Str) ((List.range ss.length).map fun k=>lnS zs (lnF zs ss cs ts hs k (Ls.getD k []))):=by
   unfold txS
   rw [Te ok.l]
   unfold xsF
   rw [ζr]
   rfl
  refine zP true (d:=.str (txS (xsF zs ss cs ts hs Ls))) (EvE.eq (TB (sep:=("\n" : Str)) (zs:=(List.range ss.length).map fun k=>lnS zs (lnF zs ss cs ts hs k (Ls.getD k []))) (EvE.toL (by walk_at"ev")) (Tk 320000 (fun y hy=>?_) (by rw [ζa,ζz]; show _ + _ * 1≤_; omega))) (congrArg PyData.str e.symm)) ⟨Ls,lp,rfl⟩ (.inl ⟨rfl,rfl⟩)
  obtain ⟨k,hk,rfl⟩:=ζq.mp hy
  have hk:=ζQ.mp hk
  exact zaC ok hk (lp k hk)
def wZ (ds:List PyData) (d:PyData):Prop:=∃ i:Int,ds=[.int i]∧d=.bool true
theorem Yz (ds:List PyData) (d:PyData) (h:wZ ds d):ds.length=1:=by obtain ⟨ss,rfl,_⟩:=h; rfl
theorem Xs:zB ["_law_found"] ["_law_found"] (zm (top 73)):=⟨rfl,rfl,rfl,by decide +kernel,rfl,by decide +kernel,by decide +kernel⟩
theorem XL (F:Fun K "_law_whole" "_law_whole" (top 73) f fd) (B:Bs mg) (Z:Cs K mg cA cB τa τb τc τd τe τf τg τh)  : FnOk P w K mg base CX0 1 f fd ["_law_found"] (spD K true wZ):=by
 have sc:=Xs
 refine F.ok sc (fun vs H Q E h=>zR Yz h) (fun cdv A outer s H vs Q E hr h=>?_)
 obtain ⟨Fh,ds,d,le,dp,p,q⟩:=h
 refine ⟨_,(zg (zH (xT (zq (yW (K:=K) rfl) rfl B.isinstance (by decide +kernel) (zb (pv 0) (zb (xW (v:=.ty "int") rfl B.int (by decide +kernel) rfl) zd))) (xO (zan (zq (yW (K:=K) rfl) rfl B.isinstance (by decide +kernel) (zb (pv 0) (zb (xW (v:=.ty "bool") rfl B.bool (by decide +kernel) rfl) zd)))))))),?_⟩
 have hN:(["_law_found"]:List Str).length=1:=rfl
 obtain ⟨i,rfl,rfl⟩:=p
 walk_at"run"
 exact zP (d:=.bool (true && !false)) true (by walk_at"ev") rfl (.inl ⟨rfl,rfl⟩)
def xL (ds:List PyData) (d:PyData):Prop:=∃ (zs:List Str) (ss:List Int) (cs:List (List Nat)) (ts:List (List (List Int))) (hs:List Nat),ds=[.tuple [stL zs,yr ss cs ts,nl hs]]∧BkU ss cs ts∧hs.length≤12∧d=.bool true
theorem uK (ds:List PyData) (d:PyData) (h:xL ds d):ds.length=1:=by obtain ⟨a,b,c,e,f,rfl,_⟩:=h; rfl
theorem uZ:zB ["_law_found", "_law_k", "_law_some", "_law_row", "_law_number"] ["_law_found"] (zm (top 74)):=⟨rfl,rfl,rfl,by decide +kernel,rfl,by decide +kernel,by decide +kernel⟩
theorem u8 (F:Fun K "_law_all_whole" "_law_all_whole" (top 74) f fd) (B:Bs mg) (Z:Cs K mg cA cB τa τb τc τd τe τf τg τh) (c_law_whole:zC P w K mg base CX0 "_law_whole" ["_law_found"] 1 (spD K true wZ)):FnOk P w K mg base CX0 2 f fd ["_law_found"] (spD K true xL):=by
 have sc:=uZ
 refine F.ok sc (fun vs H Q E h=>zR uK h) (fun cdv A outer s H vs Q E hr h=>?_)
 obtain ⟨Fh,ds,d,le,dp,p,q⟩:=h
 refine ⟨_,(ze (yi PassesOwn.never rfl (yt rfl B.range (zb (zq (zw (K:=K) rfl) rfl B.len (by decide +kernel) (zb (zL (yq (K:=K) rfl) (zL (yq (K:=K) rfl) (pv 0) zh (fun _ _=>rfl)) zh (fun _ _=>rfl)) zd)) zd)) (zk (i:=1) sc.nd rfl (Or.inl rfl)) (ze (zF (i:=2) sc.nd rfl (Or.inl rfl) (zv (x5 (K:=K) rfl) (zW (zb (zL (zA (K:=K) rfl) (zL (yq (K:=K) rfl) (zL (yq (K:=K) rfl) (pv 0) zh (fun _ _=>rfl)) zh (fun _ _=>rfl)) (pv 1) (fun _ _=>rfl)) zd)) (zL (zA (K:=K) rfl) (zL (yq (K:=K) rfl) (zL (yq (K:=K) rfl) (pv 0) zh (fun _ _=>rfl)) zh (fun _ _=>rfl)) (pv 1) (fun _ _=>rfl))))
   (ze (yi PassesOwn.never rfl (zI (K:=K) rfl (zL (zA (K:=K) rfl) (zL (yq (K:=K) rfl) (zL (yq (K:=K) rfl) (pv 0) zh (fun _ _=>rfl)) zh (fun _ _=>rfl)) (pv 1) (fun _ _=>rfl))) (zk (i:=3) sc.nd rfl (Or.inl rfl)) (zg (zF (i:=2) sc.nd rfl (Or.inl rfl) (zv (x5 (K:=K) rfl) (pv 2) (pv 3)))))
   (zg (yi PassesOwn.never rfl (zI (K:=K) rfl (pv 2)) (zk (i:=4) sc.nd rfl (Or.inl rfl)) (zg (yF (yU (yC (zM c_law_whole (hr.mono (by decide)) rfl zN (zb (pv 4) zd)))) (zg (zH tQ)) yc)))))))
   (zg (zH (yA (Zc (K:=K) rfl hr.units) (yk rfl (N:=["_law_number"]) (js:=[none]) (by walk_at"comp_ok") (zI (K:=K) rfl (zL (yq (K:=K) rfl) (pv 0) zh (fun _ _=>rfl))) (fun _ _ _ _=>(zk (i:=0) (show List.Nodup (["_law_number"]:List PySem.Str) by decide +kernel) rfl (Or.inl rfl))) (fun _ _ _ _=>(uF (yU (yC (zM c_law_whole (hr.mono (by decide)) rfl zN (zb (pv 0) zd)))))) (fun _ _ _ _=>(pv 0))) (zW zd) (ye _))))),?_⟩
 have hN:(["_law_found", "_law_k", "_law_some", "_law_row", "_law_number"]:List Str).length=5:=rfl
 obtain ⟨zs,ss,cs,ts,hs,rfl,ok,h12,rfl⟩:=p
 have big:=zJ
 have n12:=ok.b.n
 have cl:=ok.b.cl
 have tl:=ok.b.tl
 have el:PyData.int (((ss.map PyData.int).length:Nat):Int)=.int (ss.length:Int):=by rw [ζa]
 walk_at"run"
 have bk:∀ {Γ0:PD.Ctx},GetC Γ0 0 (.fz false (.tuple [stL zs,yr ss cs ts,nl hs]))→EvE K .fresh false (tOp (rIxT K) (tVar 0) (tC (.int 1))) Γ0 (yr ss cs ts):=fun h=>yV (ds:=[stL zs,yr ss cs ts,nl hs]) (evv h (by decide)) (by walk_at"ev") atI1
 refine xc (ds:=(List.range ss.length).map fun i:Nat=>.int (i:Int)) true (fun _ Γ=>∃ b1 b2 b3 b4,Γ=[some (.fz false (.tuple [stL zs,yr ss cs ts,nl hs])),b1,b2,b3,b4]) (xg (n:=(ss.length:Int)) (zi (EvE.eq (yu (ds:=ss.map .int) (EvE.toL (yV (κ:=false) (ds:=[il ss,nls cs,tbl ts]) (bk (by walk_at"gc")) (by walk_at"ev") atI0))) el) zG) (by omega) (by omega)) ⟨none,none,none,none,rfl⟩ ?_ ?_
 ·rintro k d Γ' hd ⟨b1,b2,b3,b4,rfl⟩
  obtain ⟨hk,rfl⟩:=yx hd
  have gt:=zu (d:=([]:List (List Int))) (l:=ts) (k:=k) (by omega)
  have gc:=zu (d:=([]:List Nat)) (l:=cs) (k:=k) (by omega)
  have t1:=ok.b.tk k _ _ gc gt
  have t2:=ok.b.pr gc
  have cr:=ok.b.ck k _ gc
  refine ⟨_,egn (by walk_at"sc") ?_⟩
  refine exs true (d:=il ([ss.getD k 0] ++ zl (cs.getD k []))) (EvE.eq (EvO.toE (wT (xs:=[.int (ss.getD k 0)]) (ys:=(zl (cs.getD k [])).map .int) (EvO.toL (zZ (ds:=[.int (ss.getD k 0)]) (zi (EvE.imm (κ:=false) (zY (ds:=ss.map .int) (EvE.toL (yV (κ:=false) (ds:=[il ss,nls cs,tbl ts]) (bk (by walk_at"gc")) (by walk_at"ev") atI0)) (by walk_at"ev") (wV hk)) rfl) zG) (by show 1≤sizeLine; omega))) (EvL.imm (κ:=false) (EvE.toL (EvE.eq (zY (κ:=false) (ds:=cs.map nl) (EvE.toL (yV (κ:=false) (ds:=[il ss,nls cs,tbl ts]) (bk (by walk_at"gc")) (by walk_at"ev") atI1)) (by walk_at"ev") (Ww (by omega))) (vN _))) (x8 _)) (by rw [ζa,ub]; show 1 + _≤_; omega))) (by show _=PyData.list (([ss.getD k 0] ++ zl (cs.getD k [])).map .int); rw [ζE]; rfl)) (by walk_at"sc") ?_
  refine xc (ds:=(ts.getD k []).map il) false (fun i Γ=>∃ (xs:List Int) (b3:Option DV),xs.length≤6 + 4 * i∧Γ=[some (.fz false (.tuple [stL zs,yr ss cs ts,nl hs])),some (.fz true (.int (k:Int))),some (.fz true (il xs)),b3,b4]) (zS (zY (κ:=false) (ds:=ts.map lls) (EvE.toL (yV (κ:=false) (ds:=[il ss,nls cs,tbl ts]) (bk (by walk_at"gc")) (by walk_at"ev") atI2)) (by walk_at"ev") (yM gt))) ⟨_,_,by rw [ζj,ub]; show 1 + _≤_; omega,rfl⟩ ?_ ?_
  ·rintro i d Γ' hd ⟨xs,b3,xl,rfl⟩
   obtain ⟨r,hr,rfl⟩:=xw hd
   have il':=(ζe.mp hr).1
   have rl:=(ok.b.rk k _ gt r (ζd hr)).l
   have s4:=yE ok.b.s hk
   refine ⟨_,egn (by walk_at"sc") ?_⟩
   refine exs1 true (d:=il (xs ++ r)) (EvE.eq (EvO.toE (wT (xs:=xs.map .int) (ys:=r.map .int) (by walk_at"ev") (EvL.imm (κ:=false) (EvE.toL (by walk_at"ev")) (x8 _)) (by rw [ζa,ζa]; omega))) (by show _=PyData.list ((xs ++ r).map .int); rw [ζE])) (by walk_at"sc") ⟨_,_,by rw [ζj]; omega,rfl⟩
  rintro Γ1 ⟨xs,b3,xl,rfl⟩
  refine tE (ds:=xs.map .int) true (fun _ Γ=>∃ b4,Γ=[some (.fz false (.tuple [stL zs,yr ss cs ts,nl hs])),some (.fz true (.int (k:Int))),some (.fz true (il xs)),b3,b4]) (zS (by walk_at"ev")) ⟨_,rfl⟩ ?_ ?_
  ·rintro i d Γ' hd ⟨b4,rfl⟩
   obtain ⟨x,hx,rfl⟩:=xw hd
   refine ⟨_,egn (by walk_at"sc") ?_⟩
   exact Y3 (b:=!true) (xk (et_B (zr (by walk_at"ev") ⟨x,rfl,rfl⟩))) (fun h=>nomatch h) fun _=>xB ⟨_,rfl⟩
  ·rintro Γ' ⟨b4,rfl⟩
   exact ⟨_,_,_,_,rfl⟩
 ·rintro Γ' ⟨b1,b2,b3,b4,rfl⟩
  have e0:((zl hs).filter fun _=>!true).map PyData.int=[]:=by
   have:(zl hs).filter (fun _=>!true)=[]:=List.filter_eq_nil_iff.mpr fun _ _ z=>nomatch z
   rw [this]
   rfl
  exact zP true (d:=.bool true) (Zi (d:=.list []) (EvE.toD (κ:=false) (EvE.eq (EvO.toE (vJ (κ:=false) (is:=[0]) (xs:=zl hs) false PyData.int PyData.int (fun _=>!true) (fun x _ y _ h=>by cases h; exact ⟨rfl,rfl⟩) (zS (EvE.eq (yV (κ:=false) (ds:=[stL zs,yr ss cs ts,nl hs]) (by walk_at"ev") (by walk_at"ev") atI2) (vN hs))) (by walk_at"cc") rfl (by decide) (by rw [ub]; omega) fun x hx=>egn (by walk_at"sc") ⟨xk (et_B (zr (by walk_at"ev") ⟨x,rfl,rfl⟩)),fun h=>nomatch h⟩)) (congrArg PyData.list e0))) (EvE.toD (κ:=false) (EvO.toE (zZ (ds:=[]) zG (by decide)))) (by decide)) rfl (.inl ⟨rfl,rfl⟩)
theorem rd_s {X:Cx} {j:Nat} {x:Str} {p p2:Pos}:PE X (.List [.Constant (.str x) j p] p2) (tLst (zE (tC (.str x)) tNil)):=zW (uH yI zd)
theorem rd_i {X:Cx} {j:Nat} {i:Int} {p p2:Pos}:PE X (.List [.Constant (.int i) j p] p2) (tLst (zE (tC (.int i)) tNil)):=zW (uH zh zd)
theorem zel {X:Cx} {j j2:Nat} {i k:Int} {p p2 p3:Pos}:PE X (.List [.Constant (.int i) j p,.Constant (.int k) j2 p3] p2) (tLst (zE (tC (.int i)) (zE (tC (.int k)) tNil))):=zW (uH zh (uH zh zd))
theorem rd_l {X:Cx} {xs:List Expr} {t:TE} {p p2:Pos} (h:PE X (.List xs p) t):PE X (.List [.List xs p] p2) (tLst (zE t tNil)):=zW (xZ h zd)
theorem rd_t {X:Cx} {j1 j2 j3 x1:Nat} {a b c:Int} {p1 p2 p3 p4 p5 p6 p7 p8 p9 p10:Pos}:PE X (.Tuple [.List [.Constant (.int a) j1 p1] p2,.List [.List [] p3] p4,.List [.List [.List [.Constant (.int b) j2 p5,.Constant (.int c) j3 p6] p7] p8] p9] x1 p10)
  (tTup (zE (tLst (zE (tC (.int a)) tNil)) (zE (tLst (zE (tLst tNil) tNil)) (zE (tLst (zE (tLst (zE (tLst (zE (tC (.int b)) (zE (tC (.int c)) tNil))) tNil)) tNil)) tNil)))) :=
 vG (xZ rd_i (xZ (rd_l (zW zd)) (xZ (rd_l (rd_l zel)) zd)))
theorem zdy {X:Cx} {j0 j1 j2 j3 x1 x2:Nat} {z:Str} {a b c:Int} {q1 q2 q3 q4 p1 p2 p3 p4 p5 p6 p7 p8 p9 p10:Pos}:PE X (.Tuple [.List [.Constant (.str z) j0 q1] q2,.Tuple [.List [.Constant (.int a) j1 p1] p2,.List [.List [] p3] p4,.List [.List [.List [.Constant (.int b) j2 p5,.Constant (.int c) j3 p6] p7] p8] p9] x1 p10,.List [] q3] x2 q4)
  (tTup (zE (tLst (zE (tC (.str z)) tNil)) (zE (tTup (zE (tLst (zE (tC (.int a)) tNil)) (zE (tLst (zE (tLst tNil) tNil)) (zE (tLst (zE (tLst (zE (tLst (zE (tC (.int b)) (zE (tC (.int c)) tNil))) tNil)) tNil)) tNil)))) (zE (tLst tNil) tNil)))) :=
 vG (xZ rd_s (zao rd_t (xZ (zW zd) zd)))
theorem V9 {α:Type} (f:Nat→α) {l:List α} {d:α} (h:∀ k,k < l.length→f k=l.getD k d):(List.range l.length).map f=l:=by
 refine ξa fun i=>?_
 rw [ζl]
 by_cases hi:i < l.length
 ·rw [ζV hi,zu (d:=d) hi,← h i hi]
  rfl
 ·rw [ζF (by rw [ζz]; omega),ζF (by omega)]
  rfl
theorem zee {n:Nat} {zs:List Str} {ss:List Int} {cs:List (List Nat)} {ts:List (List (List Int))} {hs:List Nat} {Ls:List (List Nat)} (dx:Dx n cs hs) (lc:LnC zs ss cs ts) (sl:ss.length=n) (nd:zs.Nodup) (lp:∀ k,k < ss.length→(Ls.getD k []).Perm (cs.getD k [])):XsOk (xsF zs ss cs ts hs Ls)∧W6 (xsF zs ss cs ts hs Ls)=.tuple [stL zs,yr ss cs ts,nl hs]:=by
 have n12:=lc.u.b.n
 have cl:=lc.u.b.cl
 have tl:=lc.u.b.tl
 have xl:(xsF zs ss cs ts hs Ls).length=ss.length:=by unfold xsF; rw [List.length_map,List.length_range]
 have mem:∀ x∈xsF zs ss cs ts hs Ls,∃ k,k < ss.length∧x=lnF zs ss cs ts hs k (Ls.getD k []):=fun x hx=>by
  obtain ⟨k,hk,rfl⟩:=ζq.mp hx
  exact ⟨k,ζQ.mp hk,rfl⟩
 have e1:=Te lc.l cs ts hs Ls
 have e2:szL (xsF zs ss cs ts hs Ls)=ss:=by
  unfold szL xsF
  rw [ζr]
  exact V9 (d:=0) _ fun k hk=>ξu (by have:=yE lc.u.b.s hk; omega)
 have e3:csL (xsF zs ss cs ts hs Ls)=cs:=by
  unfold csL xsF
  rw [ζr,← cl]
  refine V9 (d:=[]) _ fun k hk=>?_
  have hk:k < ss.length:=by omega
  have r3:=(lc.row hk).2.2.1
  have pm:=lp k hk
  exact vS (v3 (pm.nodup_iff.mpr (r3.imp fun h=>ζG h))) r3 fun x=>by show x∈srtN (Ls.getD k [])↔_; rw [(xq _).mem_iff]; exact pm.mem_iff
 have e4:tsL (xsF zs ss cs ts hs Ls)=ts:=by
  unfold tsL
  rw [e2]
  unfold xsF
  rw [ζr,← tl]
  refine V9 (d:=[]) _ fun k hk=>?_
  have hk:k < ss.length:=by omega
  obtain ⟨r1,r2,r3,r4,r5⟩:=lc.row hk
  exact QQ lc.u.b.s r3 r1 (lp k hk) r4 fun q hq x hx=>((r5 q hq).w x hx).1
 have e5:hsL (xsF zs ss cs ts hs Ls)=hs:=by
  refine vS (List.Pairwise.sublist ξY ξN) dx.r fun k=>?_
  have gb:∀ k,k < ss.length→((xsF zs ss cs ts hs Ls).map Ln.b).getD k false=decide (k∈hs):=fun k hk=>by
   unfold xsF
   rw [ζr,ζc,ζl,ζV hk]
   rfl
  unfold hsL
  rw [ζ6,ζQ,xl]
  constructor
  ·rintro ⟨h1,h2⟩
   rw [gb k h1] at h2
   exact of_decide_eq_true h2
  ·intro h
   have:=dx.b k h
   have hk:k < ss.length:=by omega
   exact ⟨hk,by rw [gb k hk]; exact decide_eq_true h⟩
 refine ⟨⟨by omega,fun x hx=>?_,by rw [e1]; exact nd,fun x hx=>?_,fun x hx=>?_,fun x hx=>?_,by rw [e2,e3,e4]; exact lc.u,by rw [e3,e5]; exact dx.h⟩,by unfold W6; rw [e1,e2,e3,e4,e5]⟩
 ·obtain ⟨k,hk,rfl⟩:=mem x hx
  exact lc.nm _ (ζd (zu (d:=Str.empty) (by have:=lc.l; omega)))
 ·obtain ⟨k,hk,rfl⟩:=mem x hx
  have:=yE lc.u.b.s hk
  show 2≤(ss.getD k 0).toNat∧(ss.getD k 0).toNat≤4
  omega
 ·obtain ⟨k,hk,rfl⟩:=mem x hx
  obtain ⟨r1,r2,r3,r4,r5⟩:=lc.row hk
  have pm:=lp k hk
  rw [e2]
  exact ⟨lc.u.b.s,n12,fun c hc=>r1 c (pm.mem_iff.mp hc),by show (Ls.getD k []).length≤5; rw [pm.length_eq]; exact r2,pm.nodup_iff.mpr (r3.imp fun h=>ζG h),(Zw lc hk pm).1⟩
 ·obtain ⟨k,hk,rfl⟩:=mem x hx
  exact ⟨zcU lc hk (lp k hk),Q2 lc hk (lp k hk)⟩
abbrev xs1:List Ln:=[⟨("a" : Str),false,2,[],[[1,1]]⟩]
theorem tx1:txS xs1=("a 2 : 1 1" : Str):=by decide +kernel
theorem bk1:BkU [2] [[]] [[[1,1]]]:=by
 have g:∀ {α:Type} {k:Nat} {x y:α},[x][k]?=some y→k=0∧y=x:=fun {α k x y} h=>by
  cases k with
  | zero=>exact ⟨rfl,(ζD h).symm⟩
  | succ k=>simp at h
 refine ⟨⟨fun s h=>by rw [ζh.mp h]; decide,by decide,rfl,rfl,fun k own h=>?_,fun k own t h1 h2=>?_,fun k t h r hr=>?_⟩,fun r hr=>by rw [ζh.mp hr]; exact .nil,rfl,by decide,fun r hr=>by rw [ζh.mp hr]; exact ⟨fun _ z=>(nomatch z),by decide⟩,[0],.refl _,fun i k h c hc=>?_⟩
 ·obtain ⟨rfl,rfl⟩:=g h
  exact ⟨fun _ z=>(nomatch z),by decide⟩
 ·obtain ⟨rfl,rfl⟩:=g h1
  obtain ⟨_,rfl⟩:=g h2
  rfl
 ·obtain ⟨rfl,rfl⟩:=g h
  rw [ζh.mp hr]
  refine ⟨rfl,fun x hx=>?_,by decide,by decide⟩
  have:x=1:=by simpa using hx
  rw [this]
  exact ⟨by decide,by decide⟩
 ·obtain ⟨rfl,rfl⟩:=g h
  cases hc
theorem srt0:srtN []=[]:=ζO.mp (by rw [vR]; rfl)
theorem cs1:csL xs1=[[]]:=by
 show [srtN []]=[[]]
 rw [srt0]
theorem ts1:tsL xs1=[[[1,1]]]:=by
 show [(tabF [2] [] [[1,1]]).map zl]=_
 unfold tabF
 rw [srt0]
 rfl
theorem rd1:W6 xs1=.tuple [stL ["a"],yr [2] [[]] [[[1,1]]],nl []]:=by
 unfold W6
 rw [cs1,ts1]
 rfl
theorem xo1:XsOk xs1:=by
 have m1:∀ x∈xs1,x=⟨("a" : Str),false,2,[],[[1,1]]⟩:=fun x hx=>ζh.mp hx
 refine ⟨by decide,fun x hx=>?_,by simp,fun x hx=>by rw [m1 x hx]; exact ⟨by decide,by decide⟩,fun x hx=>?_,fun x hx=>?_,by rw [cs1,ts1]; exact bk1,rfl⟩
 ·rw [m1 x hx]
  exact ⟨by decide,by decide,fun c hc=>by have:c∈[97]:=hc; rw [ζh.mp this]; decide⟩
 ·rw [m1 x hx]
  exact ⟨bk1.b.s,by decide,fun _ z=>(nomatch z),by decide,.nil,rfl⟩
 ·rw [m1 x hx]
  refine ⟨fun z=>(nomatch z),fun r hr=>?_⟩
  rw [ζh.mp hr]
  refine ⟨by decide,fun m hm=>?_⟩
  have:m=1:=by simpa using hm
  rw [this]
  decide
theorem Vw:∀ zs:List Str,(∀ z∈zs,NmOk z)→PyData.canLayAll0 (zs.map .str)=true
 | [],_=>rfl
 | z :: l,h=>by
  have h1:PyData.canLay0 (.str z)=true:=by
   show z.cps.all _=true
   rw [Array.all_eq_true_iff_forall_mem]
   intro c hc
   have:=(h z ζi).s c (Array.mem_toList_iff.mpr hc)
   exact decide_eq_true (by omega)
  show (PyData.canLay0 (.str z) && PyData.canLayAll0 (l.map .str))=true
  rw [h1,Vw l fun y hy=>h y (ζk _ hy)]
  rfl
theorem VJ (ks:List Nat):PyData.depth (nl ks)≤1:=by
 have:=xI (g:=fun k:Nat=>PyData.int (k:Int)) (n:=0) (fun _=>ζm _) ks
 show PyData.depthAll _ + 1≤1
 omega
theorem VL (ks:List Int):PyData.depth (il ks)≤1:=by
 have:=xI (g:=PyData.int) (n:=0) (fun _=>ζm _) ks
 show PyData.depthAll _ + 1≤1
 omega
theorem zbo (t:List (List Int)):PyData.depth (lls t)≤2:=by
 have:=xI (g:=il) (n:=1) VL t
 show PyData.depthAll _ + 1≤2
 omega
theorem Zs (zs:List Str) (lz:∀ z∈zs,NmOk z) (ss:List Int) (cs:List (List Nat)) (ts:List (List (List Int))) (hs:List Nat):SeqAt.shaped (.tuple [stL zs,yr ss cs ts,nl hs])=true:=by
 have h1:PyData.canLay0 (stL zs)=true:=Vw zs lz
 have h2:=wz (g:=PyData.int) (fun _=>rfl) ss
 have h3:=wz (g:=nl) (fun k=>wz (g:=fun k:Nat=>PyData.int (k:Int)) (fun _=>rfl) k) cs
 have h4:=wz (g:=lls) (fun t=>wz (g:=il) (fun r=>wz (g:=PyData.int) (fun _=>rfl) r) t) ts
 have h5:=wz (g:=fun k:Nat=>PyData.int (k:Int)) (fun _=>rfl) hs
 have d1:=xI (g:=PyData.str) (n:=0) (fun _=>ζm _) zs
 have d2:=VL ss
 have d3:=xI (g:=nl) (n:=1) VJ cs
 have d4:=xI (g:=lls) (n:=2) zbo ts
 have d5:=VJ hs
 refine YO ?_ ?_
 ·show (PyData.canLay0 (stL zs) && ((PyData.canLay0 (il ss) && (PyData.canLay0 (nls cs) && (PyData.canLay0 (tbl ts) && true))) && (PyData.canLay0 (nl hs) && true)))=true
  rw [h1,show PyData.canLay0 (il ss)=true from h2,show PyData.canLay0 (nls cs)=true from h3,show PyData.canLay0 (tbl ts)=true from h4,show PyData.canLay0 (nl hs)=true from h5]
  rfl
 ·show max (PyData.depthAll (zs.map .str) + 1) (max ((max (PyData.depth (il ss)) (max (PyData.depthAll (cs.map nl) + 1) (max (PyData.depthAll (ts.map lls) + 1) 0))) + 1) (max (PyData.depth (nl hs)) 0)) + 1≤50
  omega
theorem zdq:zB ["_law_script", "_law_made", "_law_hidden", "_law_names_here", "_law_text_here", "_law_due", "_law_found", "_law_kept", "_law_part"] ["_law_script"] (zm (top 75)):=⟨rfl,rfl,rfl,by decide +kernel,rfl,by decide +kernel,by decide +kernel⟩
set_option maxHeartbeats 4000000 in
theorem zdL (F:Fun K "law" "law" (top 75) f fd) (B:Bs mg) (Z:Cs K mg cA cB τa τb τc τd τe τf τg τh) (c_law_book:zC P w K mg base CX0 "_law_book" ["_law_script"] 3 (spW K true vE)) (c_law_names:zC P w K mg base CX0 "_law_names" ["_law_cell", "_law_many"] 2 (spW K true w9)) (c_law_cell_at:zC P w K mg base CX0 "_law_cell_at" ["_law_script", "_law_k"] 1 (spD K true zX)) (c_law_text:zC P w K mg base CX0 "_law_text" ["_law_names_here", "_law_made", "_law_hidden", "_law_script"] 3 (spW K true vC)) (c_read:zC P w K mg base CX0 "read" ["text"] 8 (spD K true vj)) (c_law_all_whole:zC P w K mg base CX0 "_law_all_whole" ["_law_found"] 2 (spD K true xL)):FnOk P w K mg base CX0 9 f fd ["_law_script"] (UY K):=by
 have sc:=zdq
 refine F.ok sc (fun vs H Q E h=>?_) (fun cdv A outer s H vs Q E hr h=>?_)
 ·obtain ⟨a,ns,rfl,_⟩:=h
  rfl
 obtain ⟨a,ns,rfl,hS,h63,k⟩:=h
 have le:Same H H:=Same.refl H
 have dp:zT K H [V.ref a] [PyData.list (ns.map .int)]:=.cons (.lst hS (uo ns)) .nil
 have q:∀ v H' F',Gr H H H' F'→Rp K false .fresh H F' v (.bool true)→Q v H':=fun v H' F' _ z=>by cases z; exact k H'
 refine ⟨_,(ze (XF (zM c_law_book (hr.mono (by decide)) rfl zN (zb (pv 0) zd)) (ww (K:=K) (n:=2) rfl rfl (yo (zk (i:=1) sc.nd rfl (Or.inl rfl)) (yo (zk (i:=2) sc.nd rfl (Or.inl rfl)) wv))))
   (ze (zF (i:=3) sc.nd rfl (Or.inl rfl) (zM c_law_names (hr.mono (by decide)) rfl zN (zb (zM c_law_cell_at (hr.mono (by decide)) rfl zN (zb (pv 0) (zb zh zd))) (zb (zq (zw (K:=K) rfl) rfl B.len (by decide +kernel) (zb (zL (yq (K:=K) rfl) (pv 1) zh (fun _ _=>rfl)) zd)) zd))))
   (ze (zF (i:=4) sc.nd rfl (Or.inl rfl) (zM c_law_text (hr.mono (by decide)) rfl zN (zb (pv 3) (zb (pv 1) (zb (pv 2) (zb (pv 0) zd))))))
   (ze (zF (i:=5) sc.nd rfl (Or.inl rfl) (vG (zb (pv 3) (zb (pv 1) (zb (pv 2) zd)))))
   (ze (zF (i:=6) sc.nd rfl (Or.inl rfl) (zM c_read (hr.mono (by decide)) rfl zN (zb (pv 4) zd)))
   (ze (yF (PW.pt (Zy (yU (yC (zq (yW (K:=K) rfl) rfl B.isinstance (by decide +kernel) (zb (pv 6) (zb (xW (v:=.ty "tuple") rfl B.tuple (by decide +kernel) rfl) zd))))) (Zy (yn (zb1 (K:=K) rfl hr.units) (pv 6) (pv 5) (ye _)) (Zx (yU (yC (zM c_law_all_whole (hr.mono (by decide)) rfl zN (zb (pv 6) zd)))))))) (zg (zH tQ)) yc)
   (ze (yd (yb (K:=K) rfl ζo ζw ζv zV (zL (yq (K:=K) rfl) (pv 6) zh (fun _ _=>rfl)) (zb yI zd)))
   (ze (yd (yb (K:=K) rfl ζo ζw ζv zV (zL (yq (K:=K) rfl) (pv 6) zh (fun _ _=>rfl)) (zb zh zd)))
   (ze (yi PassesOwn.never rfl (zbY (K:=K) rfl (zL (yq (K:=K) rfl) (pv 6) zh (fun _ _=>rfl))) (zk (i:=7) sc.nd rfl (Or.inl rfl)) (ze (yi PassesOwn.never rfl (zI (K:=K) rfl (pv 7)) (zk (i:=8) sc.nd rfl (Or.inl rfl)) (zg (yF (yC (zq (QG (K:=K) rfl) rfl B.isinstance (by decide +kernel) (zb (pv 8) (zb (xW (v:=.ty "list") rfl B.list (by decide +kernel) rfl) zd)))) (zg (yd (yb (K:=K) rfl ζo ζw ζv zV (pv 8) (xZ (zW (zb zh zd)) zd)))) yc)))
   (zg (yd (yb (K:=K) rfl ζo ζw ζv zV (pv 7) (xZ (zW zd) zd))))))
   (zg (zH (xT (yA (Zc (K:=K) rfl hr.units) (zM c_read (hr.mono (by decide)) rfl zN (zb yI zd)) zdy (ye _)) (xO (yA (Zc (K:=K) rfl hr.units) (zM c_read (hr.mono (by decide)) rfl zN (zb (pv 4) zd)) (pv 5) (ye _))))))))))))))),?_⟩
 have hN:(["_law_script", "_law_made", "_law_hidden", "_law_names_here", "_law_text_here", "_law_due", "_law_found", "_law_kept", "_law_part"]:List Str).length=9:=rfl
 have big:=zJ
 have big2:=uV
 walk_at"run"
 refine wa (fun Γ=>∃ n ss cs ts hs,Dx n cs hs∧BkU ss cs ts∧ss.length=n∧Γ=[some (.fz false (il ns)),some (.fz true (yr ss cs ts)),some (.fz true (nl hs)),none,none,none,none,none,none]) (Tw (js:=[1,2]) (κ:=true) (y0 (by walk_at"ev") ⟨ns,rfl,rfl⟩) (fun d ⟨n,ss,cs,ts,hs,dx,bu,sl,e⟩=>by rw [e]; exact egt (by walk_at"sc") (by walk_at"sc") ⟨n,ss,cs,ts,hs,dx,bu,sl,rfl⟩)) ?_
 rintro Γ0 ⟨n,ss,cs,ts,hs,dx,bu,sl,rfl⟩
 have n7:=dx.n7
 have n12:=bu.b.n
 have cl:=bu.b.cl
 have tl:=bu.b.tl
 have pc2:zX [il ns,.int 2] (.int (xQ ns 2)):=⟨ns,2,rfl,by decide,rfl⟩
 refine exg true (y0 (ds:=[.int (xQ ns 2),.int (n:Int)]) (zi (zr (by walk_at"ev") pc2) (zi (EvE.eq (yu (ds:=ss.map .int) (EvE.toL (yV (κ:=false) (ds:=[il ss,nls cs,tbl ts]) (by walk_at"ev") (by walk_at"ev") atI0))) (show _=PyData.int (n:Int) by rw [ζa,sl])) zG)) ⟨xQ ns 2,n,rfl,by omega,rfl⟩) (fun d=>by walk_at"sc") ?_
 rintro d ⟨zs,zl',nd,nm,rfl⟩
 have lc:LnC zs ss cs ts:=⟨bu,by omega,nm⟩
 refine exg true (y0 (ds:=[stL zs,yr ss cs ts,nl hs,il ns]) (by walk_at"ev") ⟨zs,ss,cs,ts,hs,ns,rfl,lc,rfl⟩) (fun d=>by walk_at"sc") ?_
 rintro d ⟨Ls,lp,rfl⟩
 obtain ⟨xo,rd⟩:=zee dx lc sl nd lp
 generalize xsF zs ss cs ts hs Ls=X at xo rd
 have hl:hs.length≤12:=by
  have h1:hs=(List.range n).filter fun k=>decide (k∈hs):=vS dx.r (List.Pairwise.sublist ξY ξN) fun k=>by
   rw [ζ6,ζQ,decide_eq_true_eq]
   exact ⟨fun h=>⟨dx.b k h,h⟩,fun h=>h.2⟩
  have h2:=ξl (fun k=>decide (k∈hs)) (List.range n)
  rw [← h1,ζz] at h2
  omega
 have sh:=Zs zs nm ss cs ts hs
 refine exs true (d:=.tuple [stL zs,yr ss cs ts,nl hs]) (vg (ds:=[stL zs,yr ss cs ts,nl hs]) (by walk_at"ev") (by show 3≤sizeLine; omega)) (by walk_at"sc") ?_
 refine exmk (d:=.tuple [stL zs,yr ss cs ts,nl hs]) (by walk_at"ev") (show vj [.str (txS X)] _ from ⟨X,rfl,xo,rd.symm⟩) (by walk_at"mk") (by walk_at"sc") fun T=>?_
 refine xP (b:=!true || (false || !true)) (tT (xk (et_B (by walk_at"ev"))) fun _=>tT (yf (zct (d:=.tuple [stL zs,yr ss cs ts,nl hs]) (EvE.toD (κ:=false) (by walk_at"ev")) (EvE.toD (κ:=false) (by walk_at"ev")) sh)) fun _=>xk (et_B (zr (by walk_at"ev") ⟨zs,ss,cs,ts,hs,rfl,bu,hl,rfl⟩))) rfl ?_
 refine Qs big (by walk_at"gc") (X7 (by with_unfolding_all rfl)) (X7 (by with_unfolding_all rfl)) (X7 (by with_unfolding_all rfl)) (fun F v h=>?_) (fun F v h=>?_) (fun F v h=>?_) (fun F v h=>?_) (fun F v h=>?_) (by decide) (by decide) (by decide) (by show 7 < 9; decide) (by show 8 < 9; decide) (by walk_at"sc") (by walk_at"sc") (by walk_at"sc") ?_ (by walk_at"sp") ?_
 ·obtain ⟨b,e,r⟩:=W3 h (by rw [ζa]; omega) fun d hd=>by obtain ⟨z,_,rfl⟩:=ζq.mp hd; exact .inr ⟨z,rfl⟩
  exact ⟨b,e,_,r⟩
 ·obtain ⟨b,e,r⟩:=W3 h (by rw [ζa]; omega) fun d hd=>by obtain ⟨z,_,rfl⟩:=ζq.mp hd; exact .inl ⟨z,rfl⟩
  exact ⟨b,e,_,r⟩
 ·obtain ⟨b,e,r⟩:=Q5 (n:=1) h (by rw [ζa]; omega) fun d hd w hw=>by
   obtain ⟨q,hq,rfl⟩:=ζq.mp hd
   have:=(dx.o.r q hq).2
   exact W3 hw (by rw [ζa]; omega) fun d hd=>by obtain ⟨z,_,rfl⟩:=ζq.mp hd; exact .inl ⟨_,rfl⟩
  exact ⟨b,e,_,r⟩
 ·obtain ⟨b,e,r⟩:=Q5 (n:=2) h (by rw [ζa]; omega) fun d hd w hw=>by
   obtain ⟨t,ht,rfl⟩:=ζq.mp hd
   obtain ⟨k,hk⟩:=ζH.mp ht
   have kl:=(ζe.mp hk).1
   have gc:=zu (d:=([]:List Nat)) (l:=cs) (k:=k) (by omega)
   have t1:=bu.b.tk k _ _ gc hk
   have t2:=bu.b.pr gc
   exact Q5 (n:=1) hw (by rw [ζa]; omega) fun d hd w hw=>by
    obtain ⟨q,hq,rfl⟩:=ζq.mp hd
    have l:=(bu.b.rk k t hk q hq).l
    have s4:=yE bu.b.s (k:=k) (by omega)
    exact W3 hw (by rw [ζa]; omega) fun d hd=>by obtain ⟨z,_,rfl⟩:=ζq.mp hd; exact .inl ⟨_,rfl⟩
  exact ⟨b,e,_,r⟩
 ·obtain ⟨b,e,r⟩:=W3 h (by rw [ζa]; omega) fun d hd=>by obtain ⟨z,_,rfl⟩:=ζq.mp hd; exact .inl ⟨_,rfl⟩
  exact ⟨b,e,_,r⟩
 ·repeat (first | exact NoT.nil | apply NoT.no | apply NoT.fz)
 have p1:vj [.str ("a 2 : 1 1" : Str)] (.tuple [stL ["a"],yr [2] [[]] [[[1,1]]],nl []]):=⟨xs1,by rw [tx1],xo1,rd1.symm⟩
 have sh1:=Zs ["a"] (fun z hz=>xo1.nm ⟨z,false,2,[],[[1,1]]⟩ (by rw [ζh.mp hz]; exact ζh.mpr rfl)) [2] [[]] [[[1,1]]] []
 exact zP false (d:=.bool true) (EvE.eq (wf (a:=true) (b:=true) (Zi (d:=.tuple [stL ["a"],yr [2] [[]] [[[1,1]]],nl []]) (EvE.toD (κ:=false) (zr (by walk_at"ev") p1)) (EvE.toD (κ:=false) (vg (ds:=[stL ["a"],yr [2] [[]] [[[1,1]]],nl []]) (zi (EvO.toE (zZ (ds:=[.str "a"]) (by walk_at"ev") (by show 1≤sizeLine; omega))) (zi (vg (ds:=[il [2],nls [[]],tbl [[[1,1]]]]) (zi (EvO.toE (zZ (ds:=[.int 2]) (by walk_at"ev") (by show 1≤sizeLine; omega))) (zi (EvO.toE (zZ (ds:=[nl []]) (zi (EvO.toE (zZ (ds:=[]) zG (by decide))) zG) (by show 1≤sizeLine; omega))) (zi (EvO.toE (zZ (ds:=[lls [[1,1]]]) (zi (EvO.toE (zZ (ds:=[il [1,1]]) (zi (EvO.toE (zZ (ds:=[.int 1,.int 1]) (by walk_at"ev") (by show 2≤sizeLine; omega))) zG) (by show 1≤sizeLine; omega))) zG) (by show 1≤sizeLine; omega))) zG))) (by show 3≤sizeLine; omega)) (zi (EvO.toE (zZ (ds:=[]) zG (by decide))) zG))) (by show 3≤sizeLine; omega))) sh1) fun _=>Zi (d:=.tuple [stL zs,yr ss cs ts,nl hs]) (EvE.toD (κ:=false) (zr (by walk_at"ev") (show vj [.str (txS X)] _ from ⟨X,rfl,xo,rd.symm⟩))) (EvE.toD (κ:=false) (by walk_at"ev")) sh) rfl) rfl (.inr rfl)
end
theorem zec {l:PySem.W.OpenLaw} {w:World} {K:ζb} {h:Heap} {mg:Str→Option Value} {fa:Addr} (X:K.In h) (G:h.Ns mainGlobals mg) (hfa:mg "law" = some (.ref fa))
  (d7:∃ f fd,At K "meet" (top 7) f fd) (d8:∃ f fd,At K "order_of" (top 8) f fd) (d11:∃ f fd,At K "effects" (top 11) f fd) (d13:∃ f fd,At K "is_whole" (top 13) f fd) (d15:∃ f fd,At K "count_of" (top 15) f fd) (d20:∃ f fd,At K "grown" (top 20) f fd) (d18:∃ f fd,At K "fits" (top 18) f fd) (d19:∃ f fd,At K "worlds_by" (top 19) f fd) (d16:∃ f fd,At K "worlds" (top 16) f fd) (d17:∃ f fd,At K "rank" (top 17) f fd) (d28:∃ f fd,At K "is_from_to" (top 28) f fd) (d29:∃ f fd,At K "are_sizes" (top 29) f fd) (d27:∃ f fd,At K "is_list_of" (top 27) f fd) (d31:∃ f fd,At K "are_own_causes" (top 31) f fd) (d30:∃ f fd,At K "are_causes" (top 30) f fd) (d35:∃ f fd,At K "is_weight" (top 35) f fd) (d34:∃ f fd,At K "is_row" (top 34) f fd) (d33:∃ f fd,At K "is_table" (top 33) f fd) (d36:∃ f fd,At K "picked" (top 36) f fd) (d32:∃ f fd,At K "are_tables" (top 32) f fd) (d26:∃ f fd,At K "check_book" (top 26) f fd) (d38:∃ f fd,At K "is_hidden" (top 38) f fd) (d40:∃ f fd,At K "filled" (top 40) f fd) (d41:∃ f fd,At K "views_of" (top 41) f fd) (d49:∃ f fd,At K "lines_of" (top 49) f fd) (d52:∃ f fd,At K "is_name" (top 52) f fd) (d51:∃ f fd,At K "is_first_word" (top 51) f fd) (d50:∃ f fd,At K "checked_head" (top 50) f fd) (d55:∃ f fd,At K "is_weight_word" (top 55) f fd) (d54:∃ f fd,At K "weight_of" (top 54) f fd) (d53:∃ f fd,At K "rows_of" (top 53) f fd) (d56:∃ f fd,At K "numbers_of" (top 56) f fd) (d58:∃ f fd,At K "table_of" (top 58) f fd) (d57:∃ f fd,At K "tables_of" (top 57) f fd) (d59:∃ f fd,At K "check_text" (top 59) f fd) (d48:∃ f fd,At K "read" (top 48) f fd) (d61:∃ f fd,At K "_law_cell_at" (top 61) f fd) (d62:∃ f fd,At K "_law_stream" (top 62) f fd) (d63:∃ f fd,At K "_law_numbers" (top 63) f fd) (d64:∃ f fd,At K "_law_shape" (top 64) f fd) (d65:∃ f fd,At K "_law_names" (top 65) f fd) (d66:∃ f fd,At K "_law_weight" (top 66) f fd) (d67:∃ f fd,At K "_law_table" (top 67) f fd) (d68:∃ f fd,At K "_law_worlds" (top 68) f fd) (d69:∃ f fd,At K "_law_book" (top 69) f fd) (d70:∃ f fd,At K "_law_place" (top 70) f fd) (d71:∃ f fd,At K "_law_line" (top 71) f fd) (d72:∃ f fd,At K "_law_text" (top 72) f fd) (d73:∃ f fd,At K "_law_whole" (top 73) f fd) (d74:∃ f fd,At K "_law_all_whole" (top 74) f fd)
  {f0:Addr} {oc:Value} {od an:Option Addr} {osl:Array (Option Value)} {kV doc pm cdv ct:Value} (a0:PySem.W.nsIn K mainGlobals "law" = some (some (.ref f0)))
  (l0:K.lookup f0=some ⟨oc,od,.func (PySem.W.fnOf "law" "law" (vL (top 75)) (wU (top 75)) (zm (top 75)) .none kV doc pm an cdv ct),osl⟩) (c0:PySem.W.codeIn K cdv "law" = true) (k0:PySem.W.keepIn K (.ref f0)=true)
  (z1:PySem.W.nsIn K mainGlobals "len" = some none) (z2:PySem.W.nsIn K mainGlobals "set" = some none) (z3:PySem.W.nsIn K mainGlobals "list" = some none) (z4:PySem.W.nsIn K mainGlobals "range" = some none) (z5:PySem.W.nsIn K mainGlobals "reversed" = some none) (z6:PySem.W.nsIn K mainGlobals "min" = some none) (z7:PySem.W.nsIn K mainGlobals "isinstance" = some none) (z8:PySem.W.nsIn K mainGlobals "int" = some none) (z9:PySem.W.nsIn K mainGlobals "bool" = some none) (z10:PySem.W.nsIn K mainGlobals "zip" = some none) (z11:PySem.W.nsIn K mainGlobals "all" = some none) (z12:PySem.W.nsIn K mainGlobals "sorted" = some none) (z13:PySem.W.nsIn K mainGlobals "sum" = some none) (z14:PySem.W.nsIn K mainGlobals "enumerate" = some none) (z15:PySem.W.nsIn K mainGlobals "str" = some none) (z16:PySem.W.nsIn K mainGlobals "max" = some none) (z17:PySem.W.nsIn K mainGlobals "tuple" = some none)
  {cA cB:Addr} {τa τb τc τd τe τf τg τh:Tok} {xd_SIZE_WORDS:Option Addr} {xt_SIZE_WORDS xt1_SIZE_WORDS xt2_SIZE_WORDS:Tok} {xn_SIZE_WORDS:Nat} {xs_SIZE_WORDS:Array (Option Value)} (y_MOST_THINGS:PySem.W.nsIn K mainGlobals "MOST_THINGS" = some (some (.int 12 τa))) (y_MOST_CAUSES:PySem.W.nsIn K mainGlobals "MOST_CAUSES" = some (some (.int 5 τb))) (y_LEAST_SIZE:PySem.W.nsIn K mainGlobals "LEAST_SIZE" = some (some (.int 2 τc))) (y_GREATEST_SIZE:PySem.W.nsIn K mainGlobals "GREATEST_SIZE" = some (some (.int 4 τd))) (y_LONGEST_NAME:PySem.W.nsIn K mainGlobals "LONGEST_NAME" = some (some (.int 8 τe))) (y_LONGEST_WEIGHT:PySem.W.nsIn K mainGlobals "LONGEST_WEIGHT" = some (some (.int 60 τf))) (y_LETTERS:PySem.W.nsIn K mainGlobals "LETTERS" = some (some (.str "abcdefghijklmnopqrstuvwxyz" τg))) (y_FIGURES:PySem.W.nsIn K mainGlobals "FIGURES" = some (some (.str "0123456789" τh))) (y_NoBook:PySem.W.nsIn K mainGlobals "NoBook" = some (some (.ref cA))) (y_SIZE_WORDS:PySem.W.nsIn K mainGlobals "SIZE_WORDS" = some (some (.ref cB))) (o_SIZE_WORDS:K.lookup cB=some ⟨.type "tuple", xd_SIZE_WORDS,.seq #[.str "2" xt_SIZE_WORDS,.str "3" xt1_SIZE_WORDS,.str "4" xt2_SIZE_WORDS] xn_SIZE_WORDS,xs_SIZE_WORDS⟩) :
  ∃ fd:FuncData,(∀ (s:Shared) (v:Value),BindsTo s fd ⟨[v],[]⟩ [("_law_script", v)])∧∀ base:Heap,K.In base→base.Ns mainGlobals mg→FnOk l.prog w K mg base CX0 9 fa fd ["_law_script"] (UY K):=by
 have e:=hfa.symm.trans (PySem.W.mg_of X G a0)
 cases e
 have nn:∀ {x:Str},PySem.W.nsIn K mainGlobals x=some none→mg x=none:=fun z=>PySem.W.mg_none_of X G z
 have B:Bs mg:=⟨nn z1,nn z2,nn z3,nn z4,nn z5,nn z6,nn z7,nn z8,nn z9,nn z10,nn z11,nn z12,nn z13,nn z14,nn z15,nn z16,nn z17⟩
 refine ⟨PySem.W.fnOf "law" "law" (vL (top 75)) (wU (top 75)) (zm (top 75)) .none kV doc pm an cdv ct,fun s v=>.of_eq rfl,fun base _ _=>?_⟩
 have mm:∀ {x:Str} {f:Addr},PySem.W.nsIn K mainGlobals x=some (some (.ref f))→mg x=some (.ref f):=fun z=>PySem.W.mg_of X G z
 have Z:Cs K mg cA cB τa τb τc τd τe τf τg τh:=⟨PySem.W.mg_of X G y_MOST_THINGS,PySem.W.mg_of X G y_MOST_CAUSES,PySem.W.mg_of X G y_LEAST_SIZE,PySem.W.mg_of X G y_GREATEST_SIZE,PySem.W.mg_of X G y_LONGEST_NAME,PySem.W.mg_of X G y_LONGEST_WEIGHT,PySem.W.mg_of X G y_LETTERS,PySem.W.mg_of X G y_FIGURES,mm y_NoBook,mm y_SIZE_WORDS,VZ o_SIZE_WORDS⟩
 obtain ⟨f7,g7,a7,F7⟩:=d7
 have b7:=F7.binds (ps:=["some", "others"]) fun _ _ _ _ _ _ us hl=>match us,hl with | [_,_],_=>rfl
 have C_meet:=zQ (P:=l.prog) (w:=w) (base:=base) F7 (mm a7) b7 (zb8 F7 B Z)
 obtain ⟨f8,g8,a8,F8⟩:=d8
 have b8:=F8.binds (ps:=["causes"]) fun _ _ _ _ _ _ us hl=>match us,hl with | [_],_=>rfl
 have C_order_of:=zQ (P:=l.prog) (w:=w) (base:=base) F8 (mm a8) b8 (Vf F8 B Z C_meet)
 obtain ⟨f11,g11,a11,F11⟩:=d11
 have b11:=F11.binds (ps:=["causes", "k"]) fun _ _ _ _ _ _ us hl=>match us,hl with | [_,_],_=>rfl
 have C_effects:=zQ (P:=l.prog) (w:=w) (base:=base) F11 (mm a11) b11 (Ui F11 B Z)
 obtain ⟨f13,g13,a13,F13⟩:=d13
 have b13:=F13.binds (ps:=["thing"]) fun _ _ _ _ _ _ us hl=>match us,hl with | [_],_=>rfl
 have C_is_whole:=zQ (P:=l.prog) (w:=w) (base:=base) F13 (mm a13) b13 (Vk F13 B Z)
 obtain ⟨f15,g15,a15,F15⟩:=d15
 have b15:=F15.binds (ps:=["sizes"]) fun _ _ _ _ _ _ us hl=>match us,hl with | [_],_=>rfl
 have C_count_of:=zQ (P:=l.prog) (w:=w) (base:=base) F15 (mm a15) b15 (Vm F15 B Z)
 obtain ⟨f20,g20,a20,F20⟩:=d20
 have b20:=F20.binds (ps:=["heads", "choices"]) fun _ _ _ _ _ _ us hl=>match us,hl with | [_,_],_=>rfl
 have C_grown:=zQ (P:=l.prog) (w:=w) (base:=base) F20 (mm a20) b20 (zau F20 B Z)
 obtain ⟨f18,g18,a18,F18⟩:=d18
 have b18:=F18.binds (ps:=["value", "known"]) fun _ _ _ _ _ _ us hl=>match us,hl with | [_,_],_=>rfl
 have C_fits:=zQ (P:=l.prog) (w:=w) (base:=base) F18 (mm a18) b18 (zb9 F18 B Z)
 obtain ⟨f19,g19,a19,F19⟩:=d19
 have b19:=F19.binds (ps:=["sizes", "view"]) fun _ _ _ _ _ _ us hl=>match us,hl with | [_,_],_=>rfl
 have C_worlds_by:=zQ (P:=l.prog) (w:=w) (base:=base) F19 (mm a19) b19 (XH F19 B Z C_grown C_fits)
 obtain ⟨f16,g16,a16,F16⟩:=d16
 have b16:=F16.binds (ps:=["sizes"]) fun _ _ _ _ _ _ us hl=>match us,hl with | [_],_=>rfl
 have C_worlds:=zQ (P:=l.prog) (w:=w) (base:=base) F16 (mm a16) b16 (Qa F16 B Z C_worlds_by)
 obtain ⟨f17,g17,a17,F17⟩:=d17
 have b17:=F17.binds (ps:=["sizes", "world"]) fun _ _ _ _ _ _ us hl=>match us,hl with | [_,_],_=>rfl
 have C_rank:=zQ (P:=l.prog) (w:=w) (base:=base) F17 (mm a17) b17 (zb7 F17 B Z)
 obtain ⟨f28,g28,a28,F28⟩:=d28
 have b28:=F28.binds (ps:=["thing", "least", "greatest"]) fun _ _ _ _ _ _ us hl=>match us,hl with | [_,_,_],_=>rfl
 have C_is_from_to:=zQ (P:=l.prog) (w:=w) (base:=base) F28 (mm a28) b28 (Yq F28 B Z C_is_whole)
 obtain ⟨f29,g29,a29,F29⟩:=d29
 have b29:=F29.binds (ps:=["sizes"]) fun _ _ _ _ _ _ us hl=>match us,hl with | [_],_=>rfl
 have C_are_sizes:=zQ (P:=l.prog) (w:=w) (base:=base) F29 (mm a29) b29 (XT F29 B Z C_is_from_to)
 obtain ⟨f27,g27,a27,F27⟩:=d27
 have b27:=F27.binds (ps:=["thing", "length"]) fun _ _ _ _ _ _ us hl=>match us,hl with | [_,_],_=>rfl
 have C_is_list_of:=zQ (P:=l.prog) (w:=w) (base:=base) F27 (mm a27) b27 (Yp F27 B Z)
 obtain ⟨f31,g31,a31,F31⟩:=d31
 have b31:=F31.binds (ps:=["own", "number"]) fun _ _ _ _ _ _ us hl=>match us,hl with | [_,_],_=>rfl
 have C_are_own_causes:=zQ (P:=l.prog) (w:=w) (base:=base) F31 (mm a31) b31 (uJ F31 B Z C_is_from_to)
 obtain ⟨f30,g30,a30,F30⟩:=d30
 have b30:=F30.binds (ps:=["causes", "number"]) fun _ _ _ _ _ _ us hl=>match us,hl with | [_,_],_=>rfl
 have C_are_causes:=zQ (P:=l.prog) (w:=w) (base:=base) F30 (mm a30) b30 (Yu F30 B Z C_is_list_of C_are_own_causes)
 obtain ⟨f35,g35,a35,F35⟩:=d35
 have b35:=F35.binds (ps:=["weight"]) fun _ _ _ _ _ _ us hl=>match us,hl with | [_],_=>rfl
 have C_is_weight:=zQ (P:=l.prog) (w:=w) (base:=base) F35 (mm a35) b35 (XR F35 B Z C_is_whole)
 obtain ⟨f34,g34,a34,F34⟩:=d34
 have b34:=F34.binds (ps:=["row", "size"]) fun _ _ _ _ _ _ us hl=>match us,hl with | [_,_],_=>rfl
 have C_is_row:=zQ (P:=l.prog) (w:=w) (base:=base) F34 (mm a34) b34 (Qc F34 B Z C_is_list_of C_is_weight)
 obtain ⟨f33,g33,a33,F33⟩:=d33
 have b33:=F33.binds (ps:=["table", "rows", "size"]) fun _ _ _ _ _ _ us hl=>match us,hl with | [_,_,_],_=>rfl
 have C_is_table:=zQ (P:=l.prog) (w:=w) (base:=base) F33 (mm a33) b33 (Vl F33 B Z C_is_list_of C_is_row)
 obtain ⟨f36,g36,a36,F36⟩:=d36
 have b36:=F36.binds (ps:=["values", "things"]) fun _ _ _ _ _ _ us hl=>match us,hl with | [_,_],_=>rfl
 have C_picked:=zQ (P:=l.prog) (w:=w) (base:=base) F36 (mm a36) b36 (Qb F36 B Z)
 obtain ⟨f32,g32,a32,F32⟩:=d32
 have b32:=F32.binds (ps:=["sizes", "causes", "tables"]) fun _ _ _ _ _ _ us hl=>match us,hl with | [_,_,_],_=>rfl
 have C_are_tables:=zQ (P:=l.prog) (w:=w) (base:=base) F32 (mm a32) b32 (Yt F32 B Z C_is_list_of C_is_table C_count_of C_picked)
 obtain ⟨f26,g26,a26,F26⟩:=d26
 have b26:=F26.binds (ps:=["sizes", "causes", "tables"]) fun _ _ _ _ _ _ us hl=>match us,hl with | [_,_,_],_=>rfl
 have C_check_book:=zQ (P:=l.prog) (w:=w) (base:=base) F26 (mm a26) b26 (Ys F26 B Z C_are_sizes C_are_causes C_are_tables C_order_of)
 obtain ⟨f38,g38,a38,F38⟩:=d38
 have b38:=F38.binds (ps:=["causes", "hidden"]) fun _ _ _ _ _ _ us hl=>match us,hl with | [_,_],_=>rfl
 have C_is_hidden:=zQ (P:=l.prog) (w:=w) (base:=base) F38 (mm a38) b38 (XS F38 B Z C_effects)
 obtain ⟨f40,g40,a40,F40⟩:=d40
 have b40:=F40.binds (ps:=["view", "things", "values"]) fun _ _ _ _ _ _ us hl=>match us,hl with | [_,_,_],_=>rfl
 have C_filled:=zQ (P:=l.prog) (w:=w) (base:=base) F40 (mm a40) b40 (Qd F40 B Z)
 obtain ⟨f41,g41,a41,F41⟩:=d41
 have b41:=F41.binds (ps:=["sizes", "view", "things"]) fun _ _ _ _ _ _ us hl=>match us,hl with | [_,_,_],_=>rfl
 have C_views_of:=zQ (P:=l.prog) (w:=w) (base:=base) F41 (mm a41) b41 (Vd F41 B Z C_worlds C_picked C_filled)
 obtain ⟨f49,g49,a49,F49⟩:=d49
 have b49:=F49.binds (ps:=["text"]) fun _ _ _ _ _ _ us hl=>match us,hl with | [_],_=>rfl
 have C_lines_of:=zQ (P:=l.prog) (w:=w) (base:=base) F49 (mm a49) b49 (Vg F49 B Z)
 obtain ⟨f52,g52,a52,F52⟩:=d52
 have b52:=F52.binds (ps:=["word"]) fun _ _ _ _ _ _ us hl=>match us,hl with | [_],_=>rfl
 have C_is_name:=zQ (P:=l.prog) (w:=w) (base:=base) F52 (mm a52) b52 (Uh F52 B Z)
 obtain ⟨f51,g51,a51,F51⟩:=d51
 have b51:=F51.binds (ps:=["word"]) fun _ _ _ _ _ _ us hl=>match us,hl with | [_],_=>rfl
 have C_is_first_word:=zQ (P:=l.prog) (w:=w) (base:=base) F51 (mm a51) b51 (u9 F51 B Z C_is_name)
 obtain ⟨f50,g50,a50,F50⟩:=d50
 have b50:=F50.binds (ps:=["words"]) fun _ _ _ _ _ _ us hl=>match us,hl with | [_],_=>rfl
 have C_checked_head:=zQ (P:=l.prog) (w:=w) (base:=base) F50 (mm a50) b50 (tX F50 B Z C_is_first_word)
 obtain ⟨f55,g55,a55,F55⟩:=d55
 have b55:=F55.binds (ps:=["word"]) fun _ _ _ _ _ _ us hl=>match us,hl with | [_],_=>rfl
 have C_is_weight_word:=zQ (P:=l.prog) (w:=w) (base:=base) F55 (mm a55) b55 (uI F55 B Z)
 obtain ⟨f54,g54,a54,F54⟩:=d54
 have b54:=F54.binds (ps:=["word"]) fun _ _ _ _ _ _ us hl=>match us,hl with | [_],_=>rfl
 have C_weight_of:=zQ (P:=l.prog) (w:=w) (base:=base) F54 (mm a54) b54 (XI F54 B Z C_is_weight_word)
 obtain ⟨f53,g53,a53,F53⟩:=d53
 have b53:=F53.binds (ps:=["words"]) fun _ _ _ _ _ _ us hl=>match us,hl with | [_],_=>rfl
 have C_rows_of:=zQ (P:=l.prog) (w:=w) (base:=base) F53 (mm a53) b53 (Ug F53 B Z C_weight_of)
 obtain ⟨f56,g56,a56,F56⟩:=d56
 have b56:=F56.binds (ps:=["names", "words"]) fun _ _ _ _ _ _ us hl=>match us,hl with | [_,_],_=>rfl
 have C_numbers_of:=zQ (P:=l.prog) (w:=w) (base:=base) F56 (mm a56) b56 (Yl F56 B Z)
 obtain ⟨f58,g58,a58,F58⟩:=d58
 have b58:=F58.binds (ps:=["sizes", "own", "rows"]) fun _ _ _ _ _ _ us hl=>match us,hl with | [_,_,_],_=>rfl
 have C_table_of:=zQ (P:=l.prog) (w:=w) (base:=base) F58 (mm a58) b58 (Ve F58 B Z C_picked C_count_of C_views_of C_rank)
 obtain ⟨f57,g57,a57,F57⟩:=d57
 have b57:=F57.binds (ps:=["sizes", "listed", "listed_rows"]) fun _ _ _ _ _ _ us hl=>match us,hl with | [_,_,_],_=>rfl
 have C_tables_of:=zQ (P:=l.prog) (w:=w) (base:=base) F57 (mm a57) b57 (XJ F57 B Z C_table_of)
 obtain ⟨f59,g59,a59,F59⟩:=d59
 have b59:=F59.binds (ps:=["names", "made"]) fun _ _ _ _ _ _ us hl=>match us,hl with | [_,_],_=>rfl
 have C_check_text:=zQ (P:=l.prog) (w:=w) (base:=base) F59 (mm a59) b59 (Yr F59 B Z C_check_book)
 obtain ⟨f48,g48,a48,F48⟩:=d48
 have b48:=F48.binds (ps:=["text"]) fun _ _ _ _ _ _ us hl=>match us,hl with | [_],_=>rfl
 have C_read:=zQ (P:=l.prog) (w:=w) (base:=base) F48 (mm a48) b48 (zb6 F48 B Z C_lines_of C_checked_head C_rows_of C_numbers_of C_tables_of C_check_text C_is_hidden)
 obtain ⟨f61,g61,a61,F61⟩:=d61
 have b61:=F61.binds (ps:=["_law_script", "_law_k"]) fun _ _ _ _ _ _ us hl=>match us,hl with | [_,_],_=>rfl
 have C__law_cell_at:=zQ (P:=l.prog) (w:=w) (base:=base) F61 (mm a61) b61 (ZF F61 B Z)
 obtain ⟨f62,g62,a62,F62⟩:=d62
 have b62:=F62.binds (ps:=["_law_cell", "_law_many"]) fun _ _ _ _ _ _ us hl=>match us,hl with | [_,_],_=>rfl
 have C__law_stream:=zQ (P:=l.prog) (w:=w) (base:=base) F62 (mm a62) b62 (Yo F62 B Z)
 obtain ⟨f63,g63,a63,F63⟩:=d63
 have b63:=F63.binds (ps:=["_law_row"]) fun _ _ _ _ _ _ us hl=>match us,hl with | [_],_=>rfl
 have C__law_numbers:=zQ (P:=l.prog) (w:=w) (base:=base) F63 (mm a63) b63 (ZE F63 B Z)
 obtain ⟨f64,g64,a64,F64⟩:=d64
 have b64:=F64.binds (ps:=["_law_script"]) fun _ _ _ _ _ _ us hl=>match us,hl with | [_],_=>rfl
 have C__law_shape:=zQ (P:=l.prog) (w:=w) (base:=base) F64 (mm a64) b64 (XN F64 B Z C__law_cell_at C__law_stream C__law_numbers)
 obtain ⟨f65,g65,a65,F65⟩:=d65
 have b65:=F65.binds (ps:=["_law_cell", "_law_many"]) fun _ _ _ _ _ _ us hl=>match us,hl with | [_,_],_=>rfl
 have C__law_names:=zQ (P:=l.prog) (w:=w) (base:=base) F65 (mm a65) b65 (XQ F65 B Z C__law_stream)
 obtain ⟨f66,g66,a66,F66⟩:=d66
 have b66:=F66.binds (ps:=["_law_cell", "_law_number"]) fun _ _ _ _ _ _ us hl=>match us,hl with | [_,_],_=>rfl
 have C__law_weight:=zQ (P:=l.prog) (w:=w) (base:=base) F66 (mm a66) b66 (Yn F66 B Z)
 obtain ⟨f67,g67,a67,F67⟩:=d67
 have b67:=F67.binds (ps:=["_law_cell", "_law_many", "_law_size"]) fun _ _ _ _ _ _ us hl=>match us,hl with | [_,_,_],_=>rfl
 have C__law_table:=zQ (P:=l.prog) (w:=w) (base:=base) F67 (mm a67) b67 (XM F67 B Z C__law_stream C__law_weight)
 obtain ⟨f68,g68,a68,F68⟩:=d68
 have b68:=F68.binds (ps:=["_law_sizes"]) fun _ _ _ _ _ _ us hl=>match us,hl with | [_],_=>rfl
 have C__law_worlds:=zQ (P:=l.prog) (w:=w) (base:=base) F68 (mm a68) b68 (Ym F68 B Z)
 obtain ⟨f69,g69,a69,F69⟩:=d69
 have b69:=F69.binds (ps:=["_law_script"]) fun _ _ _ _ _ _ us hl=>match us,hl with | [_],_=>rfl
 have C__law_book:=zQ (P:=l.prog) (w:=w) (base:=base) F69 (mm a69) b69 (Vj F69 B Z C__law_shape C__law_cell_at C__law_table)
 obtain ⟨f70,g70,a70,F70⟩:=d70
 have b70:=F70.binds (ps:=["_law_sizes", "_law_world"]) fun _ _ _ _ _ _ us hl=>match us,hl with | [_,_],_=>rfl
 have C__law_place:=zQ (P:=l.prog) (w:=w) (base:=base) F70 (mm a70) b70 (XO F70 B Z)
 obtain ⟨f71,g71,a71,F71⟩:=d71
 have b71:=F71.binds (ps:=["_law_names_here", "_law_made", "_law_hidden", "_law_k", "_law_cell"]) fun _ _ _ _ _ _ us hl=>match us,hl with | [_,_,_,_,_],_=>rfl
 have C__law_line:=zQ (P:=l.prog) (w:=w) (base:=base) F71 (mm a71) b71 (Vi F71 B Z C__law_numbers C__law_stream C__law_worlds C__law_place)
 obtain ⟨f72,g72,a72,F72⟩:=d72
 have b72:=F72.binds (ps:=["_law_names_here", "_law_made", "_law_hidden", "_law_script"]) fun _ _ _ _ _ _ us hl=>match us,hl with | [_,_,_,_],_=>rfl
 have C__law_text:=zQ (P:=l.prog) (w:=w) (base:=base) F72 (mm a72) b72 (Vh F72 B Z C__law_line C__law_cell_at)
 obtain ⟨f73,g73,a73,F73⟩:=d73
 have b73:=F73.binds (ps:=["_law_found"]) fun _ _ _ _ _ _ us hl=>match us,hl with | [_],_=>rfl
 have C__law_whole:=zQ (P:=l.prog) (w:=w) (base:=base) F73 (mm a73) b73 (XL F73 B Z)
 obtain ⟨f74,g74,a74,F74⟩:=d74
 have b74:=F74.binds (ps:=["_law_found"]) fun _ _ _ _ _ _ us hl=>match us,hl with | [_],_=>rfl
 have C__law_all_whole:=zQ (P:=l.prog) (w:=w) (base:=base) F74 (mm a74) b74 (u8 F74 B Z C__law_whole)
 exact zdL (zaS l0 c0 k0) B Z C__law_book C__law_names C__law_cell_at C__law_text C_read C__law_all_whole
theorem walk {l:PySem.W.OpenLaw} {q:Program} {loose:List Str} {XP:(Str→Option Value)→Heap→Prop} {YP:World→Heap→Prop} {d:DefRec} {K:Params→ζb} (hn:l.most=some 63) (hdf:d.params.defaults=[])
  (hY:∀ (w:World) (h:Heap),YP w h→(K w.params).In h) (hT:∀ (w:World) (h:Heap),YP w h→(∀ p∈yS (K w.params),h.get? p.1=some (PySem.W.tabObj #[]))∧Xi (K w.params)=true)
  (F:∀ (w:World) (mg:Str→Option Value) (fa:Addr) (h:Heap),(K w.params).In h→h.Ns mainGlobals mg→mg d.name=some (.ref fa) →
   ∃ fd:FuncData,(∀ (s:Shared) (u:Value),BindsTo s fd ⟨[u],[]⟩ [("_law_script", u)])∧∀ base:Heap,(K w.params).In base→base.Ns mainGlobals mg→FnOk l.prog w (K w.params) mg base CX0 9 fa fd ["_law_script"] (UY (K w.params))) :
  PySem.W.WalkO q loose XP YP l.row.toRowW d [] (fun f vs=>PySem.call f vs) :=
 L2.zbB (n:=63) (k:=9) (x := "_law_script") (CX:=fun _=>CX0) (sp:=fun w=>UY (K w.params)) hn (by decide) hdf ⟨rfl,by decide,by decide⟩ hY hT F (fun _ _ a ns hl hS=>⟨a,ns,rfl,hS,hl,fun _=>rfl⟩) fun _ _ _ _ _ z=>z
end K87
def PySem.W.Fast.tw7778408872166376022 : PySem.Program := PySem.Challenge.pw_causebook_k87_read
theorem PySem.W.Fast.te7778408872166376022 : PySem.Challenge.pw_causebook_k87_read = PySem.W.Fast.tw7778408872166376022 := rfl
def PySem.W.Fast.tw3940196939351114914 : Nat := 0
def PySem.W.Fast.tw16133449402636813702 : Nat := 0
def PySem.W.Fast.tw3044618194253175149 : Nat := 0
def PySem.W.Fast.tw16319299163597823691 : Nat := 0
def PySem.W.Fast.tw3194842711146646485 : Nat := 0
def PySem.W.Fast.tw5937794325277658362 : Nat := 0
open PySem PySem.W PyProof.Rows
set_option maxRecDepth 100000 in
set_option maxHeartbeats 0 in
theorem PySem.Challenge.cw_causebook_k87_read_holds : PySem.Challenge.rw_causebook_k87_read.Holds := by
 w_on; o_law; k_head; (case hw=>w_witness2)
 k_fill
 refine K87.walk (l:=PySem.Challenge.rw_causebook_k87_read) rfl rfl (fun w h Y=>PySem.W.kIn_of Y) (fun w h Y=>⟨zbF (by kernel_rfl),by kernel_rfl⟩) ?F
 case F =>
  intro w mg fa h KX G hmg
  refine' K87.zec KX G hmg ?d7 ?d8 ?d11 ?d13 ?d15 ?d20 ?d18 ?d19 ?d16 ?d17 ?d28 ?d29 ?d27 ?d31 ?d30 ?d35 ?d34 ?d33 ?d36 ?d32 ?d26 ?d38 ?d40 ?d41 ?d49 ?d52 ?d51 ?d50 ?d55 ?d54 ?d53 ?d56 ?d58 ?d57 ?d59 ?d48 ?d61 ?d62 ?d63 ?d64 ?d65 ?d66 ?d67 ?d68 ?d69 ?d70 ?d71 ?d72 ?d73 ?d74 ?a0 ?l0 ?c0 ?k0 ?z1 ?z2 ?z3 ?z4 ?z5 ?z6 ?z7 ?z8 ?z9 ?z10 ?z11 ?z12 ?z13 ?z14 ?z15 ?z16 ?z17 ?y_MOST_THINGS ?y_MOST_CAUSES ?y_LEAST_SIZE ?y_GREATEST_SIZE ?y_LONGEST_NAME ?y_LONGEST_WEIGHT ?y_LETTERS ?y_FIGURES ?y_NoBook ?y_SIZE_WORDS ?o_SIZE_WORDS
  (case d7=>(refine' Cm.zO ?a ?l ?c ?k; (case a=>k_is); (case l=>k_is); (case c=>k_is); (case k=>k_is)))
  (case d8=>(refine' Cm.zO ?a ?l ?c ?k; (case a=>k_is); (case l=>k_is); (case c=>k_is); (case k=>k_is)))
  (case d11=>(refine' Cm.zO ?a ?l ?c ?k; (case a=>k_is); (case l=>k_is); (case c=>k_is); (case k=>k_is)))
  (case d13=>(refine' Cm.zO ?a ?l ?c ?k; (case a=>k_is); (case l=>k_is); (case c=>k_is); (case k=>k_is)))
  (case d15=>(refine' Cm.zO ?a ?l ?c ?k; (case a=>k_is); (case l=>k_is); (case c=>k_is); (case k=>k_is)))
  (case d20=>(refine' Cm.zO ?a ?l ?c ?k; (case a=>k_is); (case l=>k_is); (case c=>k_is); (case k=>k_is)))
  (case d18=>(refine' Cm.zO ?a ?l ?c ?k; (case a=>k_is); (case l=>k_is); (case c=>k_is); (case k=>k_is)))
  (case d19=>(refine' Cm.zO ?a ?l ?c ?k; (case a=>k_is); (case l=>k_is); (case c=>k_is); (case k=>k_is)))
  (case d16=>(refine' Cm.zO ?a ?l ?c ?k; (case a=>k_is); (case l=>k_is); (case c=>k_is); (case k=>k_is)))
  (case d17=>(refine' Cm.zO ?a ?l ?c ?k; (case a=>k_is); (case l=>k_is); (case c=>k_is); (case k=>k_is)))
  (case d28=>(refine' Cm.zO ?a ?l ?c ?k; (case a=>k_is); (case l=>k_is); (case c=>k_is); (case k=>k_is)))
  (case d29=>(refine' Cm.zO ?a ?l ?c ?k; (case a=>k_is); (case l=>k_is); (case c=>k_is); (case k=>k_is)))
  (case d27=>(refine' Cm.zO ?a ?l ?c ?k; (case a=>k_is); (case l=>k_is); (case c=>k_is); (case k=>k_is)))
  (case d31=>(refine' Cm.zO ?a ?l ?c ?k; (case a=>k_is); (case l=>k_is); (case c=>k_is); (case k=>k_is)))
  (case d30=>(refine' Cm.zO ?a ?l ?c ?k; (case a=>k_is); (case l=>k_is); (case c=>k_is); (case k=>k_is)))
  (case d35=>(refine' Cm.zO ?a ?l ?c ?k; (case a=>k_is); (case l=>k_is); (case c=>k_is); (case k=>k_is)))
  (case d34=>(refine' Cm.zO ?a ?l ?c ?k; (case a=>k_is); (case l=>k_is); (case c=>k_is); (case k=>k_is)))
  (case d33=>(refine' Cm.zO ?a ?l ?c ?k; (case a=>k_is); (case l=>k_is); (case c=>k_is); (case k=>k_is)))
  (case d36=>(refine' Cm.zO ?a ?l ?c ?k; (case a=>k_is); (case l=>k_is); (case c=>k_is); (case k=>k_is)))
  (case d32=>(refine' Cm.zO ?a ?l ?c ?k; (case a=>k_is); (case l=>k_is); (case c=>k_is); (case k=>k_is)))
  (case d26=>(refine' Cm.zO ?a ?l ?c ?k; (case a=>k_is); (case l=>k_is); (case c=>k_is); (case k=>k_is)))
  (case d38=>(refine' Cm.zO ?a ?l ?c ?k; (case a=>k_is); (case l=>k_is); (case c=>k_is); (case k=>k_is)))
  (case d40=>(refine' Cm.zO ?a ?l ?c ?k; (case a=>k_is); (case l=>k_is); (case c=>k_is); (case k=>k_is)))
  (case d41=>(refine' Cm.zO ?a ?l ?c ?k; (case a=>k_is); (case l=>k_is); (case c=>k_is); (case k=>k_is)))
  (case d49=>(refine' Cm.zO ?a ?l ?c ?k; (case a=>k_is); (case l=>k_is); (case c=>k_is); (case k=>k_is)))
  (case d52=>(refine' Cm.zO ?a ?l ?c ?k; (case a=>k_is); (case l=>k_is); (case c=>k_is); (case k=>k_is)))
  (case d51=>(refine' Cm.zO ?a ?l ?c ?k; (case a=>k_is); (case l=>k_is); (case c=>k_is); (case k=>k_is)))
  (case d50=>(refine' Cm.zO ?a ?l ?c ?k; (case a=>k_is); (case l=>k_is); (case c=>k_is); (case k=>k_is)))
  (case d55=>(refine' Cm.zO ?a ?l ?c ?k; (case a=>k_is); (case l=>k_is); (case c=>k_is); (case k=>k_is)))
  (case d54=>(refine' Cm.zO ?a ?l ?c ?k; (case a=>k_is); (case l=>k_is); (case c=>k_is); (case k=>k_is)))
  (case d53=>(refine' Cm.zO ?a ?l ?c ?k; (case a=>k_is); (case l=>k_is); (case c=>k_is); (case k=>k_is)))
  (case d56=>(refine' Cm.zO ?a ?l ?c ?k; (case a=>k_is); (case l=>k_is); (case c=>k_is); (case k=>k_is)))
  (case d58=>(refine' Cm.zO ?a ?l ?c ?k; (case a=>k_is); (case l=>k_is); (case c=>k_is); (case k=>k_is)))
  (case d57=>(refine' Cm.zO ?a ?l ?c ?k; (case a=>k_is); (case l=>k_is); (case c=>k_is); (case k=>k_is)))
  (case d59=>(refine' Cm.zO ?a ?l ?c ?k; (case a=>k_is); (case l=>k_is); (case c=>k_is); (case k=>k_is)))
  (case d48=>(refine' Cm.zO ?a ?l ?c ?k; (case a=>k_is); (case l=>k_is); (case c=>k_is); (case k=>k_is)))
  (case d61=>(refine' Cm.zO ?a ?l ?c ?k; (case a=>k_is); (case l=>k_is); (case c=>k_is); (case k=>k_is)))
  (case d62=>(refine' Cm.zO ?a ?l ?c ?k; (case a=>k_is); (case l=>k_is); (case c=>k_is); (case k=>k_is)))
  (case d63=>(refine' Cm.zO ?a ?l ?c ?k; (case a=>k_is); (case l=>k_is); (case c=>k_is); (case k=>k_is)))
  (case d64=>(refine' Cm.zO ?a ?l ?c ?k; (case a=>k_is); (case l=>k_is); (case c=>k_is); (case k=>k_is)))
  (case d65=>(refine' Cm.zO ?a ?l ?c ?k; (case a=>k_is); (case l=>k_is); (case c=>k_is); (case k=>k_is)))
  (case d66=>(refine' Cm.zO ?a ?l ?c ?k; (case a=>k_is); (case l=>k_is); (case c=>k_is); (case k=>k_is)))
  (case d67=>(refine' Cm.zO ?a ?l ?c ?k; (case a=>k_is); (case l=>k_is); (case c=>k_is); (case k=>k_is)))
  (case d68=>(refine' Cm.zO ?a ?l ?c ?k; (case a=>k_is); (case l=>k_is); (case c=>k_is); (case k=>k_is)))
  (case d69=>(refine' Cm.zO ?a ?l ?c ?k; (case a=>k_is); (case l=>k_is); (case c=>k_is); (case k=>k_is)))
  (case d70=>(refine' Cm.zO ?a ?l ?c ?k; (case a=>k_is); (case l=>k_is); (case c=>k_is); (case k=>k_is)))
  (case d71=>(refine' Cm.zO ?a ?l ?c ?k; (case a=>k_is); (case l=>k_is); (case c=>k_is); (case k=>k_is)))
  (case d72=>(refine' Cm.zO ?a ?l ?c ?k; (case a=>k_is); (case l=>k_is); (case c=>k_is); (case k=>k_is)))
  (case d73=>(refine' Cm.zO ?a ?l ?c ?k; (case a=>k_is); (case l=>k_is); (case c=>k_is); (case k=>k_is)))
  (case d74=>(refine' Cm.zO ?a ?l ?c ?k; (case a=>k_is); (case l=>k_is); (case c=>k_is); (case k=>k_is)))
  (case a0=>k_is); (case l0=>k_is); (case c0=>k_is); (case k0=>k_is)
  (case z1=>k_is); (case z2=>k_is); (case z3=>k_is); (case z4=>k_is); (case z5=>k_is); (case z6=>k_is); (case z7=>k_is); (case z8=>k_is); (case z9=>k_is); (case z10=>k_is); (case z11=>k_is); (case z12=>k_is); (case z13=>k_is); (case z14=>k_is); (case z15=>k_is); (case z16=>k_is); (case z17=>k_is); (case y_MOST_THINGS=>k_is); (case y_MOST_CAUSES=>k_is); (case y_LEAST_SIZE=>k_is); (case y_GREATEST_SIZE=>k_is); (case y_LONGEST_NAME=>k_is); (case y_LONGEST_WEIGHT=>k_is); (case y_LETTERS=>k_is); (case y_FIGURES=>k_is); (case y_NoBook=>k_is); (case y_SIZE_WORDS=>k_is); (case o_SIZE_WORDS=>k_is)
#print axioms PySem.Challenge.cw_causebook_k87_read_holds
