import PyProof.Rows.All
import Wide.All
import OpenK.AllK
import Wide.FinOn
import Lean
import PyProof.EqAt
import PyProof.EqKinds
import PyProof.TupleCall
import PySem.Challenge.RW_causebook_k55_why_not
set_option Elab.async false
set_option linter.all false
set_option maxRecDepth 100000
set_option genSizeOf false
local macro_rules | `(tactic| omega) => `(tactic| first | lia | omega (config := {}))
abbrev ζa:=PySem.W.Frag
abbrev ζb:=@List.length_map
abbrev ζc:=@List.mem_singleton
abbrev ζd:=@List.getD_eq_getElem?_getD
abbrev ζe:=@List.getElem?_eq_some_iff
abbrev ζf:=@List.length_append
abbrev ζg:=@List.mem_append_right
abbrev ζh:=@Nat.le_refl
abbrev ζi:=@PySem.Heap.get?_push_of_some
abbrev ζj:=@List.mem_cons_self
abbrev ζk:=@List.mem_of_getElem?
abbrev ζl:=@List.mem_filter
abbrev ζm:=@PySem.Heap.lt_size
abbrev ζn:=@List.mem_map
abbrev ζo:=@List.map_append
abbrev ζp:=@List.getElem?_eq_getElem
abbrev ζq:=@List.mem_append
abbrev ζr:=@List.mem_cons_of_mem
abbrev ζs:=@List.getElem?_map
abbrev ζt:=@Bool.false_ne_true
abbrev ζu:=@List.length_range
abbrev ζv:=@List.getElem?_set_self
abbrev ζw:=@Nat.ne_of_lt
abbrev ζx:=@PySem.F.plainAttrs_list
abbrev ζy:=@PySem.Heap.get?_push_size
abbrev ζz:=@List.mem_cons
abbrev ζA:=@Nat.lt_of_lt_of_le
abbrev ζB:=@List.forall_mem_cons
abbrev ζC:=@List.getElem?_set_ne
abbrev ζD:=@List.mem_range
abbrev ζE:=@List.length_filter_le
abbrev ζF:=@List.mem_append_left
abbrev ζG:=@List.append_nil
abbrev ζH:=@List.map_cons
abbrev ζI:=@Option.some.inj
abbrev ζJ:=@PySem.F.type_list_append
abbrev ζK:=@PySem.F.slot_list_append
abbrev ζL:=@Nat.zero_le
abbrev ζM:=@List.map_map
abbrev ζN:=@List.any_eq_true
abbrev ζO:=@List.length_cons
abbrev ζP:=@Bool.and_eq_true_iff
abbrev ζQ:=@List.size_toArray
abbrev ζR:=@List.nodup_append
abbrev ζS:=@Nat.lt_irrefl
abbrev ζT:=@List.getElem?_eq_none
abbrev ζU:=@List.nodup_cons
abbrev ζV:=@Nat.le_trans
abbrev ζW:=@List.take_of_length_le
abbrev ζX:=@Option.isSome_iff_exists
abbrev ζY:=@Nat.not_lt_zero
abbrev ζZ:=@List.length_pos_iff
abbrev ζ0:=@List.length_drop
abbrev ζ1:=@List.all_eq_true
abbrev ζ2:=@List.getElem?_range
abbrev ζ3:=@Array.length_toList
abbrev ζ4:=@List.filter_append
abbrev ζ5:=@Nat.lt_succ_self
abbrev ζ6:=@List.mem_reverse
abbrev ζ7:=@List.length_take
abbrev ζ8:=@PySem.F.plain_min_loop
abbrev ζ9:=@List.length_pos_of_mem
abbrev ξa:=@List.append_assoc
abbrev ξb:=@Bool.eq_false_iff
abbrev ξc:=@List.nodup_nil
abbrev ξd:=@List.eq_nil_or_concat
abbrev ξe:=@List.concat_eq_append
abbrev ξf:=@List.take_length
abbrev ξg:=@List.lookup_cons
abbrev ξh:=@List.length_eq_zero_iff
abbrev ξi:=@List.any_cons
abbrev ξj:=@Nat.lt_succ_of_lt
abbrev ξk:=@PySem.F.slot_dict_get
abbrev ξl:=@List.pairwise_cons
abbrev ξm:=@Array.getElem?_toList
abbrev ξn:=@List.getLastD_eq_getLast?
abbrev ξo:=@List.mem_iff_getElem
abbrev ξp:=@List.dropLast_concat
abbrev ξq:=@List.filter_nil
abbrev ξr:=@List.filter_sublist
abbrev ξs:=@List.filter_cons_of_pos
abbrev ξt:=@List.filter_cons_of_neg
abbrev ξu:=@List.mem_filterMap
abbrev ξv:=@Nat.ne_of_gt
abbrev ξw:=@Nat.le_succ
abbrev ξx:=@List.range_succ
abbrev ξy:=@List.mem_iff_getElem?
abbrev ξz:=@PySem.Heap.get?_update_other
abbrev ξA:=@List.drop_eq_getElem_cons
abbrev ξB:=@List.map_congr_left
abbrev ξC:=@List.any_map
abbrev ξD:=@List.getElem?_replicate
abbrev ξE:=@PySem.Heap.size_push
abbrev ξF:=@Bool.eq_iff_iff
abbrev ξG:=@PySem.F.entry_dict_get
abbrev ξH:=@Nat.lt_of_succ_lt_succ
abbrev ξI:=@List.pairwise_map
abbrev ξJ:=@List.take_zero
abbrev ξK:=@List.nodup_range
abbrev ξL:=@List.mem_flatMap
abbrev ξM:=@List.getElem_mem
abbrev ξN:=@List.getElem_inj
abbrev ξO:=@List.filter_cons
abbrev ξP:=@Bool.and_eq_true
abbrev ξQ:=@List.length_dropLast
abbrev ξR:=@List.getElem?_mapIdx
abbrev ξS:=@List.map_eq_nil_iff
abbrev ξT:=@Array.getD_eq_getD_getElem?
abbrev ξU:=@List.length_mapIdx
abbrev ξV:=@List.length_erase_of_mem
abbrev ξW:=@List.getElem?_take_of_lt
abbrev ξX:=@List.flatMap_cons
abbrev ξY:=@PySem.F.plainAttrs_dict
abbrev ξZ:=@Option.bind_eq_some_iff
abbrev ξ0:=@List.sum_cons
abbrev ξ1:=@List.all_cons
abbrev ξ2:=@PySem.F.entry_min_loop
abbrev ξ3:=@Option.map_eq_some_iff
abbrev ξ4:=@List.pairwise_lt_range
abbrev ξ5:=@PySem.F.type_list_pop
abbrev ξ6:=@PySem.F.slot_list_pop
abbrev ξ7:=@Option.map_some
abbrev ξ8:=@Nat.le_of_lt
abbrev ξ9:=@List.take_append_drop
abbrev υN (l:List PySem.Str):Prop:=l.Nodup
namespace L2
open PySem PySem.Spec PyProof.Rows
abbrev Key:=Sum Int Str
def YL:Key→Value→Bool
 | .inl k,v=>Value.isInt k v
 | .inr x,v=>Value.isStrOf x v
def keyH (w:World):Key→Int
 | .inl k=>hashInt k
 | .inr x=>hashStr w x
theorem yz:∀ {k:Key} {v:Value},YL k v=true→(∃ i t,k=Sum.inl i∧v=Value.int i t)∨(∃ x t,k=Sum.inr x∧v=Value.str x t)
 | .inl i,v,h=>by
  obtain ⟨t,e⟩:=Value.isInt_shape (k:=i) (v:=v) h
  exact .inl ⟨i,t,rfl,e⟩
 | .inr x,v,h=>by
  obtain ⟨t,e⟩:=Value.isStrOf_shape (x:=x) (v:=v) h
  exact .inr ⟨x,t,rfl,e⟩
theorem TY (i:Int) (t:Tok):YL (.inl i) (.int i t)=true:=by simp [YL,Value.isInt]
theorem TX (x:Str) (t:Tok):YL (.inr x) (.str x t)=true:=by simp [YL,Value.isStrOf]
theorem zdU (a b:Int):decide ((Sum.inl a:Key)=Sum.inl b)=(a == b):=by
 by_cases e:a=b
 ·subst e; simp
 ·have h:¬ (Sum.inl a:Key)=Sum.inl b:=fun q=>e (Sum.inl.inj q)
  rw [decide_eq_false h]
  exact (beq_eq_false_iff_ne.mpr e).symm
theorem zdR (a b:Str):decide ((Sum.inr a:Key)=Sum.inr b)=decide (a=b):=by
 by_cases e:a=b
 ·subst e; simp
 ·have h:¬ (Sum.inr a:Key)=Sum.inr b:=fun q=>e (Sum.inr.inj q)
  rw [decide_eq_false h,decide_eq_false e]
theorem zdT (a:Int) (b:Str):decide ((Sum.inl a:Key)=Sum.inr b)=false:=decide_eq_false (fun q=>nomatch q)
theorem zdS (a:Str) (b:Int):decide ((Sum.inr a:Key)=Sum.inl b)=false:=decide_eq_false (fun q=>nomatch q)
def yi (prog:Program) (w:World):PySem.KeyKind prog w Key where
 is:=YL
 hash:=keyH w
 inj:=fun v a b ha hb=>by
  rcases yz ha with ⟨i,t,rfl,rfl⟩ | ⟨x,t,rfl,rfl⟩
  ·rcases yz hb with ⟨j,u,rfl,e⟩ | ⟨y,u,rfl,e⟩
   ·injection e with e1 _; rw [e1]
   ·exact nomatch e
  ·rcases yz hb with ⟨j,u,rfl,e⟩ | ⟨y,u,rfl,e⟩
   ·exact nomatch e
   ·injection e with e1 _; rw [e1]
 byValue:=fun k v h=>by
  rcases yz h with ⟨i,t,rfl,rfl⟩ | ⟨x,t,rfl,rfl⟩ <;> rfl
 pyHash:=fun hv h=>by
  rcases yz hv with ⟨i,t,rfl,rfl⟩ | ⟨x,t,rfl,rfl⟩
  ·exact wpAny_pyHash_int h
  ·exact wpAny_pyHash_str h
 eqBool:=fun hu hv h=>by
  rcases yz hu with ⟨i,t,rfl,rfl⟩ | ⟨x,t,rfl,rfl⟩
  ·rcases yz hv with ⟨j,u,rfl,rfl⟩ | ⟨y,u,rfl,rfl⟩
   ·rw [zdU] at h; exact wpAny_eqBool_int h
   ·rw [zdT] at h; exact SeqAt.EqAt.int_str i t y u _ _ _ _ h
  ·rcases yz hv with ⟨j,u,rfl,rfl⟩ | ⟨y,u,rfl,rfl⟩
   ·rw [zdS] at h; exact SeqAt.EqAt.str_int x t j u _ _ _ _ h
   ·rw [zdR] at h; exact wpAny_eqBool_str h
 «strs»:=fun k x t v h=>by
  rcases yz h with ⟨i,u,rfl,e⟩ | ⟨y,u,rfl,e⟩
  ·exact nomatch e
  ·injection e with e1 _
   subst e1
   cases v <;> rfl
theorem WZ (prog:Program) (w:World) (i:Int) (t:Tok):(yi prog w).is (.inl i) (.int i t)=true:=TY i t
theorem WY (prog:Program) (w:World) (x:Str) (t:Tok):(yi prog w).is (.inr x) (.str x t)=true:=TX x t
inductive V where
 | non | bl (b:Bool) | int (i:Int) | str (x:Str) | byt (b:Array UInt8) | flt (b:UInt64) | ref (a:Addr) | ty (n:String)
 deriving DecidableEq
def RelV:V→Value→Prop
 | .non,u=>u=Value.none
 | .bl b,u=>u=Value.bool b
 | .int i,u=>∃ t,u=Value.int i t
 | .str x,u=>∃ t,u=Value.str x t
 | .byt b,u=>∃ t,u=Value.bytes b t
 | .flt b,u=>∃ t,u=Value.float b t
 | .ref a,u=>u=Value.ref a
 | .ty n,u=>u=Value.type n
abbrev Vals:List V→List Value→Prop:=Paired RelV
theorem Vals.length (r:Vals xs us):xs.length=us.length:=Paired.length r
theorem Vals.get:∀ {xs:List V} {us:List Value} {i:Nat} {x:V},Vals xs us→xs[i]?=some x→∃ u,us[i]?=some u∧RelV x u
 | _,_,_,_,.nil,e=>by simp at e
 | _,_,0,_,.cons r _,e=>by simp at e; subst e; exact ⟨_,rfl,r⟩
 | _,_,i + 1,x,.cons _ t,e=>by
  obtain ⟨u,h1,h2⟩:=Vals.get (i:=i) (x:=x) t (by simpa using e)
  exact ⟨u,by simpa using h1,h2⟩
theorem Vals.append:∀ {xs ys:List V} {us ws:List Value},Vals xs us→Vals ys ws→Vals (xs ++ ys) (us ++ ws)
 | _,_,_,_,.nil,s=>s
 | _,_,_,_,.cons r t,s=>.cons r (Vals.append t s)
theorem Vals.take:∀ {xs:List V} {us:List Value} (n:Nat),Vals xs us→Vals (xs.take n) (us.take n)
 | _,_,0,_=>.nil
 | _,_,_ + 1,.nil=>.nil
 | _,_,n + 1,.cons r t=>.cons r (Vals.take n t)
theorem Vals.drop:∀ {xs:List V} {us:List Value} (n:Nat),Vals xs us→Vals (xs.drop n) (us.drop n)
 | _,_,0,r=>r
 | _,_,_ + 1,.nil=>.nil
 | _,_,n + 1,.cons _ t=>Vals.drop n t
def RelO:Option V→Option Value→Prop
 | some v,some u=>RelV v u
 | none,none=>True
 | _,_=>False
def KV {κ:Type}:List (κ×V)→List (κ×Value)→Prop:=Paired fun (p:κ×V) (q:κ×Value)=>p.1=q.1∧RelV p.2 q.2
def kV:Key→V
 | .inl i=>.int i
 | .inr x=>.str x
inductive HO where
 | lst (xs:List V)
 | tup (xs:List V)
 | dK (kvs:List (Key×V)) | dT (kvs:List (List Key×V))
 | set (S:Int→Bool) (n:Nat)
 | ins (C dx:Addr) (fs:List (Str×V))
 | own (x:Addr)
 | xd (fs:List (Str×V))
 | met (f x:Addr)
 | rng (lo hi:Int)
 | frz (o:Obj) (u:HO)
 | tbl (ps:Array Value)
 | ext (φ:Heap→Prop)
abbrev Hp:=Addr→Option HO
def upd (H:Hp) (a:Addr) (o:HO):Hp:=fun b=>if b=a then some o else H b
theorem zi:upd H a o a=some o:=by unfold upd; rw [if_pos rfl]
theorem zp (h:b≠a):upd H a o b=H b:=by unfold upd; rw [if_neg h]
theorem YI {H:Hp} {a b:Addr} {o u:HO} (h:H a=some o) (h':H b=some u) (d:o≠u):a≠b:=by
 intro e; subst e; rw [h] at h'; exact d (ζI h')
theorem zB {H:Hp} {a b:Addr} {o:HO} (h:H a=some o) (h':H b=none):a≠b:=by
 intro e; subst e; rw [h] at h'; cases h'
def Zb (H:Hp) (b:Addr) (ys:List V):Prop:=H b=some (.tup ys)∨∃ o:Obj,(∀ v,o.data≠.cell v)∧H b=some (.frz o (.tup ys))
def tagQ (ps:Array Value):Str:=match (ps[0]?:Option Value) with | some (.str q _)=>q | _ => ""
section
variable (P:Program) (w:World)
def yj (H:Hp) (h:Heap) (a:Addr):HO→Prop
 | .lst xs=>xs.length≤sizeLine∧∃ (its:List Value) (n:Nat),Vals xs its∧h.get? a=some { cls:=.type "list", data:=.seq its.toArray n }
 | .tup xs=>xs.length≤sizeLine∧∃ its:List Value,Vals xs its∧IsTup h a its.toArray
 | .dK kvs=>kvs.length≤sizeLine∧(a == sysModules)=false∧∃ vs,KV kvs vs∧h.DictOf (yi P w) a vs
 | .dT kvs=>kvs.length≤sizeLine∧(a == sysModules)=false∧∃ xs:List (List Key×Addr×Value),
   Paired (fun (p:List Key×V) (q:List Key×Addr×Value)=>p.1=q.1∧Zb H q.2.1 (p.1.map kV)∧RelV p.2 q.2.2) kvs xs ∧
   ∃ o es ep,h.get? a=some o∧o.ExactDict∧o.data=.dict es ep∧es.toList=xs.map (entryOfKey (tupleKind (yi P w)))∧(xs.map (·.1)).Nodup
 | .set S n=>h.SetOf (intKind P w) a S n
 | .ins C dx fs=>H dx=some (.own a)∧fs.length≤1000∧dx≠a∧h.get? a=some (PySem.W.instObj C dx) ∧
   ∃ mA,h.Ns1 dx mA∧(∀ f,RelO (fs.lookup f) (mA f))∧PySem.Within mA (fs.map (·.1))
 | .own _=>∃ o,h.get? a=some o
 | .xd fs=>∃ mA,h.Ns1 a mA∧∀ f,RelO (fs.lookup f) (mA f)
 | .rng lo hi=>∃ t u v,h.get? a=some { cls:=.type "range", data:=.fields #[.int lo t,.int hi u,.int 1 v] }
 | .frz o u=>h.get? a=some o∧yj H h a u
 | .tbl ps=>∃ vs:Array Value,h.get? a=some (PySem.W.tabObj vs)∧TriplesOk vs.toList∧∀ p v,codeAmong p vs.toList=some v→∃ b o fs t,v=.ref b∧H b=some (.frz o (.ext fun _=>True))∧o.data=.fields fs∧fs[1]?=some (.str (tagQ ps) t)
 | .met f x=>h.get? a=some (PySem.W.methodObj (.ref f) (.ref x))
 | .ext φ=>φ h∧(∃ o,h.get? a=some o)∧∀ h1 h2:Heap,φ h1→(∀ o,h1.get? a=some o→h2.get? a=some o)→φ h2
def HOk (H:Hp) (h:Heap):Prop:=∀ a o,H a=some o→yj P w H h a o
end
section
variable {P:Program} {w:World} {H H':Hp} {h h':Heap} {a:Addr} {o:HO}
theorem yj.lt (x:yj P w H h a o):a < h.objs.size:=by
 cases o with
 | lst xs=>obtain ⟨_,_,_,_,e⟩:=x; exact ζm e
 | tup xs=>obtain ⟨_,_,_,p⟩:=x; exact p.lt
 | dK kvs=>obtain ⟨_,_,_,_,o,_,_,e,_⟩:=x; exact ζm e
 | dT kvs=>obtain ⟨_,_,_,_,o,_,_,e,_⟩:=x; exact ζm e
 | set S n=>obtain ⟨o,_,_,_,e,_⟩:=x; exact ζm e
 | ins C dx fs=>obtain ⟨_,_,_,e,_⟩:=x; exact ζm e
 | own y=>obtain ⟨_,e⟩:=x; exact ζm e
 | xd fs=>obtain ⟨_,⟨_,_,_,e,_⟩,_⟩:=x; exact ζm e
 | rng lo hi=>obtain ⟨_,_,_,e⟩:=x; exact ζm e
 | frz ob u=>obtain ⟨e,_⟩:=x; exact ζm e
 | tbl ps=>obtain ⟨_,e,_⟩:=x; exact ζm e
 | met f y=>exact ζm (show h.get? a=some _ from x)
 | ext φ=>obtain ⟨_,⟨_,e⟩,_⟩:=x; exact ζm e
theorem Paired.mapP:∀ {l₁:List α} {l₂:List β},Paired F l₁ l₂→(∀ a b,F a b→G a b)→Paired G l₁ l₂
 | _,_,.nil,_=>.nil
 | _,_,.cons r t,f=>.cons (f _ _ r) (Paired.mapP t f)
theorem yj.stay (x:yj P w H h a o) (k:∀ b u,(b=a∨H b=some (.own a))→h.get? b=some u→h'.get? b=some u)
  (ho:∀ b,H b=some (.own a)→H' b=some (.own a)) (ht:∀ b xs,H b=some (.tup xs)→H' b=some (.tup xs))
  (hc:∀ b o u,H b=some (.frz o u)→(∀ v,o.data≠.cell v)→H' b=some (.frz o u):=by first | exact fun _ _ _ q _=>q | (intro b o u z _; rw [zp (zB z (by assumption))]; exact z) | (intro b o u z _; rw [zp (fun e=>by subst e; simp_all [Mut])]; exact z)):yj P w H' h' a o:=by
 induction o with
 | lst xs=>obtain ⟨z,its,n,r,e⟩:=x; exact ⟨z,its,n,r,k _ _ (.inl rfl) e⟩
 | tup xs=>obtain ⟨z,its,r,ob,e,c⟩:=x; exact ⟨z,its,r,ob,k _ _ (.inl rfl) e,c⟩
 | dK kvs=>obtain ⟨z,y,vs,r,ob,es,ep,e,c⟩:=x; exact ⟨z,y,vs,r,ob,es,ep,k _ _ (.inl rfl) e,c⟩
 | dT kvs =>
  obtain ⟨z,y,xs,r,ob,es,ep,e,c⟩:=x
  exact ⟨z,y,xs,Paired.mapP r fun p q z=>⟨z.1,z.2.1.imp (ht _ _) fun ⟨o,n,y⟩=>⟨o,n,hc _ _ _ y n⟩,z.2.2⟩,ob,es,ep,k _ _ (.inl rfl) e,c⟩
 | set S n=>obtain ⟨ob,es,ep,t,e,c⟩:=x; exact ⟨ob,es,ep,t,k _ _ (.inl rfl) e,c⟩
 | ins C dx fs =>
  obtain ⟨d,z,ne,e,mA,⟨od,es,ep,e2,c⟩,r⟩:=x
  exact ⟨ho _ d,z,ne,k _ _ (.inl rfl) e,mA,⟨od,es,ep,k _ _ (.inr d) e2,c⟩,r⟩
 | own y=>obtain ⟨ob,e⟩:=x; exact ⟨ob,k _ _ (.inl rfl) e⟩
 | xd fs=>obtain ⟨mA,⟨od,es,ep,e,c⟩,r⟩:=x; exact ⟨mA,⟨od,es,ep,k _ _ (.inl rfl) e,c⟩,r⟩
 | rng lo hi=>obtain ⟨t,u,v,e⟩:=x; exact ⟨t,u,v,k _ _ (.inl rfl) e⟩
 | frz ob u ih=>obtain ⟨e,q⟩:=x; exact ⟨k _ _ (.inl rfl) e,ih q⟩
 | tbl ps=>obtain ⟨vs,e,t,z⟩:=x; exact ⟨vs,k _ _ (.inl rfl) e,t,fun p v y=>let ⟨b,o,fs,t,e1,e2,e3⟩:=z p v y; ⟨b,o,fs,t,e1,hc _ _ _ e2 (fun v y=>by rw [e3.1] at y; cases y),e3⟩⟩
 | met f y =>
  have e:h.get? a=some (PySem.W.methodObj (.ref f) (.ref y)):=x
  show h'.get? a=some (PySem.W.methodObj (.ref f) (.ref y))
  exact k a _ (.inl rfl) e
 | ext φ=>obtain ⟨p,⟨o,e⟩,st⟩:=x; exact ⟨st _ _ p fun o q=>k _ _ (.inl rfl) q,⟨o,k _ _ (.inl rfl) e⟩,st⟩
theorem HOk.lt (x:HOk P w H h) (e:H a=some o):a < h.objs.size:=(x a o e).lt
theorem HOk.fresh (x:HOk P w H h) (e:h.objs.size≤a):H a=none:=by
 cases q:H a with
 | none=>rfl
 | some u=>exact absurd (ζA (x.lt q) e) (ζS _)
theorem HOk.kept (x:HOk P w H h) (k:∀ b u,h.get? b=some u→h'.get? b=some u):HOk P w H h':=fun a o e =>
 (x a o e).stay (fun b u _ q=>k b u q) (fun _ q=>q) fun _ _ q=>q
theorem HOk.laid (x:HOk P w H h) (k:∀ b u,h.get? b=some u→h'.get? b=some u) (hp:h.objs.size≤a) (new:yj P w (upd H a o) h' a o):HOk P w (upd H a o) h':=fun b u e=>by
 have hn:=x.fresh hp
 by_cases hb:b=a
 ·subst hb; rw [zi] at e; cases e; exact new
 ·rw [zp hb] at e
  exact (x b u e).stay (fun c v _ q=>k c v q) (fun c q=>by rw [zp (zB q hn)]; exact q) fun c xs q=>by rw [zp (zB q hn)]; exact q
end
def Rd (H:Hp) (a:Addr) (u:HO):Prop:=H a=some u∨∃ o,H a=some (.frz o u)
theorem Rd.ok (r:Rd H a u) (x:HOk P w H h):yj P w H h a u:=by
 rcases r with r | ⟨o,r⟩
 ·exact x a u r
 ·obtain ⟨_,q⟩:=x a _ r
  exact q
def Mut:Option HO→Prop
 | some (.lst _)=>True
 | some (.dK _)=>True
 | some (.dT _)=>True
 | some (.set _ _)=>True
 | some (.ins _ _ _)=>True
 | some (.ext _)=>True
 | _=>False
section
variable {P:Program} {w:World} {H:Hp} {h h':Heap} {x e:Addr} {o':HO}
theorem HOk.write (ok:HOk P w H h) (mu:Mut (H x)) (he:e=x∨H e=some (.own x)) (k:∀ b u,b≠e→h.get? b=some u→h'.get? b=some u) (heo:∃ u,h'.get? e=some u)
  (new:yj P w (upd H x o') h' x o'):HOk P w (upd H x o') h':=fun b u q=>by
 have nown:∀ c y,H c=some (.own y)→c≠x:=fun c y r z=>by subst z; rw [r] at mu; exact mu
 have ntup:∀ c xs,H c=some (.tup xs)→c≠x:=fun c xs r z=>by subst z; rw [r] at mu; exact mu
 by_cases hb:b=x
 ·subst hb; rw [zi] at q; cases q; exact new
 ·rw [zp hb] at q
  by_cases hbe:b=e
  ·have q':H b=some (.own x):=by
    rcases he with z | z
    ·exact absurd (hbe.trans z) hb
    ·rw [hbe]; exact z
   rw [q] at q'; cases q'
   obtain ⟨v,hv⟩:=heo
   exact ⟨v,by rw [hbe]; exact hv⟩
  ·refine (ok b u q).stay (fun c v hc r=>k c v ?_ r) (fun c r=>by rw [zp (nown c b r)]; exact r) fun c xs r=>by rw [zp (ntup c xs r)]; exact r
   rcases hc with rfl | hc
   ·exact hbe
   ·rintro rfl
    rcases he with z | z
    ·exact nown c b hc z
    ·rw [hc] at z; cases z; exact hb rfl
end
structure Un (fs ex:List Addr) (H H':Hp) (h h':Heap):Prop where
 keep:∀ b o,h.get? b=some o→H b=none→b∉fs→b∉ex→h'.get? b=some o
 slot:∀ b o,h.get? b=some o→H b=none→b∈fs→b∉ex→∃ sl,h'.get? b=some { o with slots:=sl }
 free:∀ b o,h.get? b=some o→H b=none→b∉ex→H' b=none
 there:∀ b o,h.get? b=some o→b∉ex→∃ o',h'.get? b=some o'
 tups:∀ b xs,H b=some (.tup xs)→H' b=some (.tup xs)
 frzs:∀ b o u,H b=some (.frz o u)→H' b=some (.frz o u)
 tbls:∀ b ps,H b=some (.tbl ps)→∃ more,H' b=some (.tbl (ps ++ more))
section
variable {fs fs' ex ex':List Addr} {H H1 H2:Hp} {h h1 h2 h':Heap} {a x e:Addr} {o:HO}
theorem Un.any (u:Un fs ex H H1 h h1) (q:h.get? b=some ob) (n:H b=none) (hx:b∉ex):∃ sl,h1.get? b=some { ob with slots:=sl }:=by
 by_cases hb:b∈fs
 ·exact u.slot b ob q n hb hx
 ·exact ⟨ob.slots,u.keep b ob q n hb hx⟩
theorem Un.kept (k:∀ b u,h.get? b=some u→h'.get? b=some u):Un fs ex H H h h' :=
 ⟨fun b ob q _ _ _=>k b ob q,fun b ob q _ _ _=>⟨ob.slots,k b ob q⟩,fun _ _ _ n _=>n,fun b ob q _=>⟨ob,k b ob q⟩,fun _ _ q=>q,fun _ _ _ q=>q,fun _ ps q=>⟨#[],by rw [q]; simp⟩⟩
theorem Un.refl:Un fs ex H H h h:=Un.kept fun _ _ q=>q
theorem Un.laid (k:∀ b u,h.get? b=some u→h'.get? b=some u) (hp:h.objs.size≤a) (hn:H a=none):Un fs ex H (upd H a o) h h' where
 keep:=fun b u q _ _ _=>k b u q
 slot:=fun b u q _ _ _=>⟨u.slots,k b u q⟩
 free:=fun b u q n _=>by rw [zp (ζw (ζA (ζm q) hp))]; exact n
 there:=fun b u q _=>⟨u,k b u q⟩
 tups:=fun b xs q=>by rw [zp (zB q hn)]; exact q
 frzs:=fun b u xs q=>by rw [zp (zB q hn)]; exact q
 tbls:=fun b ps q=>⟨#[],by rw [zp (zB q hn),q]; simp⟩
theorem Un.write (mu:Mut (H x)) (he:e=x∨H e=some (.own x)) (k:∀ b u,b≠e→h.get? b=some u→h'.get? b=some u) (heo:∃ u,h'.get? e=some u):Un fs ex H (upd H x o) h h':=by
 have hx:∀ b,H b=none→b≠x:=fun b n z=>by subst z; rw [n] at mu; exact mu
 have hb:∀ b,H b=none→b≠e:=fun b n z=>by
  subst z
  rcases he with r | r
  ·exact hx b n r
  ·rw [n] at r; cases r
 have hm:∀ b u,H b=some u→¬ Mut (some u)→b≠x:=fun b u q nm z=>by subst z; rw [q] at mu; exact nm mu
 refine ⟨fun b u q n _ _=>k b u (hb b n) q,fun b u q n _ _=>⟨u.slots,k b u (hb b n) q⟩,fun b u q n _=>by rw [zp (hx b n)]; exact n,fun b u q _=>?_,
  fun b xs q=>by rw [zp (hm b _ q fun z=>z)]; exact q,fun b u xs q=>by rw [zp (hm b _ q fun z=>z)]; exact q,fun b ps q=>⟨#[],by rw [zp (hm b _ q fun z=>z),q]; simp⟩⟩
 by_cases hbe:b=e
 ·subst hbe; exact heo
 ·exact ⟨u,k b u hbe q⟩
end
def trk (h:Heap) (H:Hp):List Addr:=(List.range h.objs.size).filter fun a=>(H a).isSome
def hidT (h:Heap) (H:Hp):Heap:=PySem.W.hideAll h (trk h H)
theorem T0 (h:Heap) (H:Hp):(hidT h H).objs.size=h.objs.size:=PySem.W.hideAll_size _ _
theorem zax (e:h.get? b=some o) (n:H b=none):(hidT h H).get? b=some o :=
 PySem.W.hideAll_get _ e fun hm=>by
  have q:(H b).isSome=true:=(ζl.mp hm).2
  rw [n] at q; simp at q
theorem zbW (e:(hidT h H).get? b=some o):h.get? b=some o∧H b=none:=by
 have e':h.get? b=some o:=PySem.W.of_hideAll (trk h H) e
 refine ⟨e',?_⟩
 cases q:H b with
 | none=>rfl
 | some x =>
  have hm:b∈trk h H:=List.mem_filter.mpr ⟨List.mem_range.mpr (Heap.lt_size e'),by simp [q]⟩
  have z:(hidT h H).get? b=none:=PySem.W.hideAll_none (trk h H) hm
  rw [z] at e; cases e
def zav:List Str:=["above", "beneath", "above_in", "clumps", "reach", "least_parting", "least_set", "why_not"]
def Qn (o:Obj):Option (Addr×Str):=match o.cls,o.data with
 | .type "code", .fields vs=>(match (vs[1]?:Option Value),(vs[11]?:Option Value) with
  | some (.str q _),some (.ref P)=>if zav.contains q then some (P,q ++ ".<locals>.<lambda>") else none
  | _,_=>none)
 | _,_=>none
def yg (K:ζa):List (Addr×Str):=K.filterMap fun p=>(K.lookup p.1).bind Qn
def Xg (K:ζa):Bool:=(yg K).all fun p=>(K.lookup p.1).isNone && (yg K).all fun q=>decide (p.1=q.1→p.2=q.2)
def TbOk (K:ζa) (H:Hp):Prop:=∀ p∈yg K,∃ t more,H p.1=some (.tbl (#[.str p.2 t] ++ more))
theorem TbOk.un {K:ζa} {fs ex:List Addr} {H H':Hp} {h h':Heap} (t:TbOk K H) (u:Un fs ex H H' h h'):TbOk K H':=fun p hp=>by
 obtain ⟨k,m,e⟩:=t p hp
 obtain ⟨m',e'⟩:=u.tbls _ _ e
 exact ⟨k,m ++ m',by rw [e',Array.append_assoc]⟩
structure Mod (K:ζa) (mg:Str→Option Value) (base:Heap):Prop where
 kin:K.In base
 glob:base.Ns mainGlobals mg
 blt:∃ mb,base.Ns builtinsNs mb∧∀ x:Str,x ≠ "__name__" → mb x=bootBuiltins x
 nolimit:base.NoLimit
 bm:∃ bm ob,mg "__builtins__" = some (.ref bm)∧bm≠builtinsNs∧base.get? bm=some ob∧ob.cls=.type "module" ∧ ob.dict=some builtinsNs∧ob.data=.plain
structure Cx where
 prog:Program
 w:World
 K:ζa
 mg:Str→Option Value
 base:Heap
 A:Around
 N:List Str
 s₀:Shared
 H₀:Hp
 env:Env
 outer:List Env
 stack:List Env
 ex:List Addr
 fn:Str→Bool
 calm:Bool
 pn:List (Addr×Obj)
 xe:Value→Shared→Prop
def frs (l:List Env):List Addr:=l.filterMap (·.frame)
abbrev Cx.fs (X:Cx):List Addr:=frs X.outer
def Vis (sc:Scope) (x:Str):Prop:=sc.names.lookup x=some .local∨sc.names.lookup x=some .cell∨sc.names.lookup x=some .free
def Loc (sc:Scope) (x:Str):Prop:=sc.names.lookup x=some .local∨sc.names.lookup x=some .cell
def Look (env:Env) (h:Heap) (m:Str→Option Value) (x:Str) (u:Value):Prop :=
 (env.kindOf x=some .local∧m x=some u)∨((env.kindOf x=some .cell∨env.kindOf x=some .free)∧∃ c,env.cells.lookup x=some c∧h.IsCell c (some u))
structure Cx.Ok (X:Cx):Prop where
 mod:Mod X.K X.mg X.base
 kind:X.env.scope.kind=.function
 glob:X.env.globals=mainGlobals
 blt:X.env.builtins=builtinsNs
 above:X.s₀.heap.objs.size≤X.env.locals
 inj:∀ x y c,X.env.cells.lookup x=some c→X.env.cells.lookup y=some c→x=y
 has:∀ x,(X.env.kindOf x=some .cell∨X.env.kindOf x=some .free)→∃ c,X.env.cells.lookup x=some c
 cab:∀ x c,X.fn x=true→X.env.cells.lookup x=some c→X.s₀.heap.objs.size≤c
 hd:X.calm=true→X.A.handled=none
 frames:X.A.frames=some X.stack
 stk:X.stack=X.outer∨(X.stack=X.env :: X.outer∧X.env.frame=some X.env.locals)
 exf:∀ b∈X.ex,b≠X.env.locals∧∀ x c,X.env.cells.lookup x=some c→c≠b
 bs:∀ b o,X.base.get? b=some o→X.s₀.heap.get? b=some o∧X.H₀ b=none
 bsz:X.base.objs.size≤X.s₀.heap.objs.size
 noex:∀ b o,X.base.get? b=some o→b∉X.ex
 exfs:∀ b∈X.ex,b∉X.fs
 funs:X.s₀.heap.FunFrames X.base X.outer
 frf:∀ b∈X.fs,X.H₀ b=none
 tb:TbOk X.K X.H₀
structure Inv (X:Cx) (pins:List (Addr×Obj)) (σ:List (Option V)) (H:Hp) (s:Shared):Prop where
 ok:X.Ok
 os:s.os=X.s₀.os
 bare:AllBare s.gens
 base:Un X.fs X.ex X.H₀ H X.s₀.heap s.heap
 loc:∃ m,s.heap.Ns X.env.locals m∧∀ (i:Nat) (x:Str) (v:V),X.N[i]?=some x→σ[i]?=some (some v)→Vis X.env.scope x→∃ u,RelV v u∧Look X.env s.heap m x u
 cell:∀ x c,X.env.cells.lookup x=some c→∃ v,s.heap.IsCell c v
 free:H X.env.locals=none
 freeC:∀ x c,X.env.cells.lookup x=some c→H c=none∨X.fn x=false∧∃ o u,H c=some (.frz o u)
 pin:∀ p∈X.pn ++ pins,s.heap.get? p.1=some p.2∧H p.1=none∧p.1≠X.env.locals∧p.1∉X.fs∧∀ v,p.2.data≠.cell v
 hok:HOk X.prog X.w H s.heap
 len:σ.length=X.N.length
section
variable {X:Cx} {pins:List (Addr×Obj)} {σ:List (Option V)} {H H':Hp} {s:Shared} {h':Heap}
theorem Cx.Ok.nofr (ok:X.Ok) (e:X.base.get? b=some o):b∉X.fs:=fun hb=>by
 have:=(ok.funs.mem hb).1
 rw [e] at this; cases this
theorem Inv.bs (I:Inv X pins σ H s):∀ b o,X.base.get? b=some o→s.heap.get? b=some o∧H b=none:=fun b o e =>
 ⟨I.base.keep b o (I.ok.bs b o e).1 (I.ok.bs b o e).2 (I.ok.nofr e) (I.ok.noex b o e),I.base.free b o (I.ok.bs b o e).1 (I.ok.bs b o e).2 (I.ok.noex b o e)⟩
theorem Inv.bk (I:Inv X pins σ H s):∀ b o,X.base.get? b=some o→s.heap.get? b=some o:=fun b o e=>(I.bs b o e).1
theorem Inv.mod (I:Inv X pins σ H s):Mod X.K X.mg X.base:=I.ok.mod
theorem Inv.kIn (I:Inv X pins σ H s):X.K.In s.heap:=I.ok.mod.kin.keeps I.bk
theorem Inv.lt (I:Inv X pins σ H s):X.env.locals < s.heap.objs.size:=let ⟨_,hn,_⟩:=I.loc; hn.lt
theorem Inv.sz (I:Inv X pins σ H s):X.s₀.heap.objs.size≤s.heap.objs.size:=ζV I.ok.above (ξ8 I.lt)
theorem Inv.nofs (I:Inv X pins σ H s) (h:s.heap.objs.size≤a):a∉X.fs:=fun hb=>by
 obtain ⟨_,o,ho,_⟩:=I.ok.funs.mem hb
 exact absurd (ζA (ζm ho) (ζV I.sz h)) (ζS _)
theorem Inv.cne (I:Inv X pins σ H s):∀ x c,X.env.cells.lookup x=some c→c≠X.env.locals:=fun x c e z=>by
 obtain ⟨v,o,ho,hd⟩:=I.cell x c e
 obtain ⟨m,⟨o',es,ep,ho',hd',_⟩,_⟩:=I.loc
 rw [z,ho'] at ho; cases ho; rw [hd'] at hd; cases hd
theorem Inv.funs (I:Inv X pins σ H s):s.heap.FunFrames X.base X.outer:=by
 have all:∀ (l:List Env),(∀ b∈frs l,b∈X.fs)→X.s₀.heap.FunFrames X.base l→s.heap.FunFrames X.base l:=by
  intro l
  induction l with
  | nil=>intro _ _; trivial
  | cons env r ih =>
   intro hs hl
   obtain ⟨hk,⟨L,o,hf,hn,ho,hd⟩,hr⟩:=hl
   have hL:L∈X.fs:=hs L (by unfold frs; rw [List.filterMap_cons,hf]; exact List.mem_cons_self)
   obtain ⟨sl,e⟩:=I.base.slot L o ho (I.ok.frf L hL) hL fun z=>I.ok.exfs L z hL
   exact ⟨hk,⟨L,_,hf,hn,e,hd⟩,ih (fun b hb=>hs b (by unfold frs; rw [List.filterMap_cons,hf]; exact List.mem_cons_of_mem _ hb)) hr⟩
 exact all X.outer (fun _ hb=>hb) I.ok.funs
theorem Inv.stack (I:Inv X pins σ H s):s.heap.FunFrames X.base X.stack:=by
 rcases I.ok.stk with e | ⟨e,hf⟩
 ·rw [e]; exact I.funs
 ·rw [e]
  obtain ⟨m,hn,_⟩:=I.loc
  refine .cons (by rw [I.ok.kind]; decide) hf hn ?_ I.funs
  exact Heap.get?_none_of_le (ζV I.ok.bsz I.ok.above)
theorem Inv.stkSub (I:Inv X pins σ H s):∀ b∈frs X.stack,b∈X.env.locals :: X.fs:=fun b hb=>by
 rcases I.ok.stk with e | ⟨e,hf⟩
 ·rw [e] at hb; exact ζr _ hb
 ·rw [e] at hb
  unfold frs at hb
  rw [List.filterMap_cons,hf] at hb
  exact hb
theorem Inv.stkFree (I:Inv X pins σ H s):∀ b∈frs X.stack,H b=none:=fun b hb=>by
 rcases ζz.mp (I.stkSub b hb) with e | hb
 ·rw [e]; exact I.free
 ·obtain ⟨_,o,ho,_⟩:=I.ok.funs.mem hb
  exact I.base.free b o ho (I.ok.frf b hb) fun z=>I.ok.exfs b z hb
theorem Inv.step {g':Array GenState} {t':Nat} {d':Drawn} {ch:List Addr} (I:Inv X pins σ H s)
  (hch:∀ b∈ch,(b∈X.ex∨X.s₀.heap.objs.size≤b)∧b≠X.env.locals∧(∀ x c,X.env.cells.lookup x=some c→c≠b)∧∀ p∈X.pn ++ pins,p.1≠b)
  (keep:∀ b o,b≠X.env.locals→b∉X.fs→b∉ch→s.heap.get? b=some o→H b=none→h'.get? b=some o)
  (slot:∀ b o,b≠X.env.locals→b∈X.fs→b∉ch→s.heap.get? b=some o→H b=none→∃ sl,h'.get? b=some { o with slots:=sl }) (free:∀ b o,b∉ch→s.heap.get? b=some o→H b=none→H' b=none)
  (there:∀ b o,b∉ch→s.heap.get? b=some o→∃ o',h'.get? b=some o')
  (tups:∀ b xs,H b=some (.tup xs)→H' b=some (.tup xs)) (frzs:∀ b o u,H b=some (.frz o u)→H' b=some (.frz o u)) (tbls:∀ b ps,H b=some (.tbl ps)→∃ more,H' b=some (.tbl (ps ++ more)))
  (ns:∀ m,s.heap.Ns X.env.locals m→h'.Ns X.env.locals m) (hok:HOk X.prog X.w H' h') (hg:AllBare g') :
  Inv X pins σ H' { s with heap:=h',gens:=g',drawn:=d',toks:=t' }:=by
 have neL:∀ b o,X.s₀.heap.get? b=some o→b≠X.env.locals:=fun b o e=>ζw (ζA (ζm e) I.ok.above)
 have neC:∀ b o,X.s₀.heap.get? b=some o→b∉X.ex→b∉ch:=fun b o e hx hb=>by
  rcases (hch b hb).1 with z | z
  ·exact hx z
  ·exact absurd (ζA (ζm e) z) (ζS _)
 have cellK:∀ x c,X.env.cells.lookup x=some c→∀ v,s.heap.IsCell c v→h'.IsCell c v:=fun x c e v ⟨o,ho,hd⟩=>by
  have nch:c∉ch:=fun z=>(hch c z).2.2.1 x c e rfl
  rcases I.freeC x c e with hn | ⟨_,o1,u1,hn⟩
  ·by_cases hc:c∈X.fs
   ·obtain ⟨sl,q⟩:=slot c o (I.cne x c e) hc nch ho hn
    exact ⟨_,q,hd⟩
   ·exact ⟨o,keep c o (I.cne x c e) hc nch ho hn,hd⟩
  ·have q1:=(I.hok c _ hn).1
   rw [ho] at q1
   cases q1
   exact ⟨o,(hok c _ (frzs c _ _ hn)).1,hd⟩
 refine ⟨I.ok,I.os,hg,⟨fun b o e n hb hx=>?_,fun b o e n hb hx=>?_,fun b o e n hx=>?_,fun b o e hx=>?_,fun b xs e=>tups b xs (I.base.tups b xs e),fun b o xs e=>frzs b o xs (I.base.frzs b o xs e),fun b ps e=>?_⟩,?_,fun x c e=>?_,?_,fun x c e=>?_,fun p hp=>?_,hok,I.len⟩
 ·exact keep b o (neL b o e) hb (neC b o e hx) (I.base.keep b o e n hb hx) (I.base.free b o e n hx)
 ·obtain ⟨sl,e1⟩:=I.base.slot b o e n hb hx
  obtain ⟨sl',e2⟩:=slot b _ (neL b o e) hb (neC b o e hx) e1 (I.base.free b o e n hx)
  exact ⟨sl',e2⟩
 ·obtain ⟨o',e1⟩:=I.base.there b o e hx
  exact free b o' (neC b o e hx) e1 (I.base.free b o e n hx)
 ·obtain ⟨o',e1⟩:=I.base.there b o e hx
  exact there b o' (neC b o e hx) e1
 ·obtain ⟨m1,e1⟩:=I.base.tbls b ps e
  obtain ⟨m2,e2⟩:=tbls b _ e1
  exact ⟨m1 ++ m2,by rw [e2,Array.append_assoc]⟩
 ·obtain ⟨m,hn,hl⟩:=I.loc
  refine ⟨m,ns m hn,fun i x v e1 e2 e3=>?_⟩
  obtain ⟨u,r,l⟩:=hl i x v e1 e2 e3
  refine ⟨u,r,?_⟩
  rcases l with l | ⟨k,c,e,z⟩
  ·exact .inl l
  ·exact .inr ⟨k,c,e,cellK x c e _ z⟩
 ·obtain ⟨v,z⟩:=I.cell x c e
  exact ⟨v,cellK x c e v z⟩
 ·obtain ⟨m,⟨o,_,_,ho,_⟩,_⟩:=I.loc
  exact free _ o (fun z=>(hch _ z).2.1 rfl) ho I.free
 ·obtain ⟨v,o,ho,hd⟩:=I.cell x c e
  exact (I.freeC x c e).elim (fun n=>.inl (free c o (fun z=>(hch c z).2.2.1 x c e rfl) ho n)) fun ⟨y1,o1,u1,y2⟩=>.inr ⟨y1,o1,u1,frzs c o1 u1 y2⟩
 ·obtain ⟨e,n,ne,nf,d⟩:=I.pin p hp
  have nch:p.1∉ch:=fun z=>(hch p.1 z).2.2.2 p hp rfl
  exact ⟨keep p.1 p.2 ne nf nch e n,free p.1 p.2 nch e n,ne,nf,d⟩
theorem Inv.un {t':Nat} (I:Inv X pins σ H s) (u:Un X.fs [] H H' s.heap h') (hok:HOk X.prog X.w H' h'):Inv X pins σ H' { s with heap:=h',toks:=t' }:=by
 obtain ⟨m,⟨o,es,ep,ho,r⟩,_⟩:=id I.loc
 obtain ⟨sl,hL⟩:=u.any ho I.free (by simp)
 exact I.step (g':=s.gens) (d':=s.drawn) (ch:=[]) (fun _ z=>nomatch z) (fun b o _ hb _ e n=>u.keep b o e n hb (by simp)) (fun b o _ hb _ e n=>u.slot b o e n hb (by simp)) (fun b o _ e n=>u.free b o e n (by simp)) (fun b o _ e=>u.there b o e (by simp)) u.tups u.frzs u.tbls (fun m' hm=>by
  obtain ⟨o',es',ep',ho',r'⟩:=hm
  rw [ho] at ho'; cases ho'
  exact ⟨_,es',ep',hL,r'⟩) hok I.bare
theorem Inv.call {g':Array GenState} {t':Nat} {d':Drawn} {ch:List Addr} (I:Inv X pins σ H s) (u:Un (frs X.stack) ch H H' s.heap h') (hok:HOk X.prog X.w H' h') (hg:AllBare g')
  (hch:∀ b∈ch,(b∈X.ex∨X.s₀.heap.objs.size≤b)∧b≠X.env.locals∧(∀ x c,X.env.cells.lookup x=some c→c≠b)∧∀ p∈X.pn ++ pins,p.1≠b) :
  Inv X pins σ H' { s with heap:=h',gens:=g',drawn:=d',toks:=t' }:=by
 obtain ⟨m,⟨o,es,ep,ho,r⟩,_⟩:=id I.loc
 obtain ⟨sl,hL⟩:=u.any ho I.free fun z=>(hch _ z).2.1 rfl
 exact I.step (ch:=ch) hch (fun b o hL hb hc e n=>u.keep b o e n (fun z=>(ζz.mp (I.stkSub b z)).elim hL hb) hc) (fun b o _ _ hc e n=>u.any e n hc) (fun b o hc e n=>u.free b o e n hc) (fun b o hc e=>u.there b o e hc) u.tups u.frzs u.tbls (fun m' hm=>by
  obtain ⟨o',es',ep',ho',r'⟩:=hm
  rw [ho] at ho'; cases ho'
  exact ⟨_,es',ep',hL,r'⟩) hok hg
theorem Inv.turned {t':Nat} {it:Addr} (I:Inv X pins σ H s) (k:∀ b o,b≠it→s.heap.get? b=some o→h'.get? b=some o) (hn:H it=none) (hL:it≠X.env.locals)
  (h1:it∈X.ex∨X.s₀.heap.objs.size≤it) (h2:∀ x c,X.env.cells.lookup x=some c→c≠it) (h3:∀ p∈X.pn ++ pins,p.1≠it):Inv X pins σ H { s with heap:=h',toks:=t' }:=by
 have nit:∀ b u,H b=some u→b≠it:=fun b u e z=>by rw [z,hn] at e; cases e
 refine I.step (g':=s.gens) (d':=s.drawn) (ch:=[it]) (fun b hb=>?_) (fun b o _ _ hc e _=>k b o (fun z=>hc (by simp [z])) e) (fun b o _ _ hc e _=>⟨o.slots,k b o (fun z=>hc (by simp [z])) e⟩) (fun _ _ _ _ n=>n)
  (fun b o hc e=>⟨o,k b o (fun z=>hc (by simp [z])) e⟩) (fun _ _ e=>e) (fun _ _ _ e=>e) (fun b ps e=>⟨#[],by rw [e]; simp⟩) (fun m hm=>?_) (fun b u e=>?_) I.bare
 ·have e:b=it:=by simpa using hb
  subst e
  exact ⟨h1,hL,h2,h3⟩
 ·obtain ⟨o,es,ep,ho,r⟩:=hm
  exact ⟨o,es,ep,k _ o (Ne.symm hL) ho,r⟩
 ·refine (I.hok b u e).stay (fun c v hc q=>k c v ?_ q) (fun _ q=>q) fun _ _ q=>q
  rcases hc with z | z
  ·rw [z]; exact nit b u e
  ·exact nit c _ z
theorem Inv.tok (I:Inv X pins σ H s) (t:Nat):Inv X pins σ H { s with toks:=t }:=I.un (h':=s.heap) (t':=t) Un.refl I.hok
theorem Inv.kept {t':Nat} (I:Inv X pins σ H s) (k:∀ b u,s.heap.get? b=some u→h'.get? b=some u):Inv X pins σ H { s with heap:=h',toks:=t' }:=I.un (Un.kept k) (I.hok.kept k)
theorem Inv.laid {t':Nat} (I:Inv X pins σ H s) (k:∀ b u,s.heap.get? b=some u→h'.get? b=some u) (hp:s.heap.objs.size≤a) (new:yj X.prog X.w (upd H a o) h' a o) :
  Inv X pins σ (upd H a o) { s with heap:=h',toks:=t' }:=I.un (Un.laid k hp (I.hok.fresh hp)) (I.hok.laid k hp new)
theorem Inv.write {t':Nat} (I:Inv X pins σ H s) (mu:Mut (H x)) (he:e=x∨H e=some (.own x)) (k:∀ b u,b≠e→s.heap.get? b=some u→h'.get? b=some u) (heo:∃ u,h'.get? e=some u)
  (new:yj X.prog X.w (upd H x o) h' x o):Inv X pins σ (upd H x o) { s with heap:=h',toks:=t' }:=I.un (Un.write mu he k heo) (I.hok.write mu he k heo new)
theorem Inv.weak (I:Inv X pins σ H s) (hl:σ'.length=σ.length) (w:∀ (i:Nat) v,σ'[i]?=some (some v)→σ[i]?=some (some v)):Inv X pins σ' H s :=
 ⟨I.ok,I.os,I.bare,I.base,let ⟨m,hn,hl'⟩:=I.loc; ⟨m,hn,fun i x v e1 e2 e3=>hl' i x v e1 (w i v e2) e3⟩,I.cell,I.free,I.freeC,I.pin,I.hok,hl.trans I.len⟩
theorem Inv.pins_of (I:Inv X pins σ H s) (h:∀ p∈pins',s.heap.get? p.1=some p.2∧H p.1=none∧p.1≠X.env.locals∧p.1∉X.fs∧∀ v,p.2.data≠.cell v):Inv X pins' σ H s :=
 ⟨I.ok,I.os,I.bare,I.base,I.loc,I.cell,I.free,I.freeC,fun p hp=>(ζq.mp hp).elim (fun z=>I.pin p (ζF _ z)) (h p),I.hok,I.len⟩
theorem WX {N:List Str} (hN:N.Nodup) {i j:Nat} {x:Str} (a:N[i]?=some x) (b:N[j]?=some x):i=j:=by
 obtain ⟨h1,e1⟩:=ζe.mp a
 obtain ⟨h2,e2⟩:=ζe.mp b
 exact (ξN hN).mp (e1.trans e2.symm)
theorem Yy {M:Model} {A:Around} {E:Value→Shared→Prop} {i:Nat} {x:Str} {v:V} {u:Value} {Q:Unit→Shared→Prop} (I:Inv X pins σ H s) (hN:X.N.Nodup) (hi:X.N[i]?=some x) (hx:Loc X.env.scope x) (r:RelV v u)
  (h:∀ s',Inv X pins (σ.set i (some v)) H s'→(∃ a,Heap.SameBut a s.heap s'.heap∧(a=X.env.locals∨X.env.cells.lookup x=some a))→Q () s') (hf:X.fn x=true∨X.env.scope.names.lookup x=some .local:=by first | exact .inl rfl | exact .inr rfl | assumption):wpAny M A (storeName X.env x u) Q E s:=by
 obtain ⟨m,hn,hl⟩:=id I.loc
 have hcls:(X.env.scope.kind == .class || (X.env.scope.kind == .module && X.env.locals != X.env.globals))=false:=by rw [I.ok.kind]; rfl
 have hiσ:i < σ.length:=by rw [I.len]; exact (ζe.mp hi).1
 have cne:=I.cne
 have tracked:∀ {a:Addr} {h':Heap},(∃ o,s.heap.get? a=some o∧H a=none)→Heap.SameBut a s.heap h'→HOk X.prog X.w H h':=fun {a h'} ha hs b ob e=>by
  obtain ⟨_,_,hfree⟩:=ha
  refine (I.hok b ob e).stay (fun c w' hc q=>(hs.2 c ?_).trans q) (fun _ q=>q) fun _ _ q=>q
  rintro rfl
  rcases hc with rfl | hc
  ·rw [hfree] at e; cases e
  ·rw [hfree] at hc; cases hc
 rcases hx with hk | hk
 ·refine wpAny_storeName_local hk hn (fun h' hn' hs=>?_) hcls
  obtain ⟨oL,_,_,hoL,_⟩:=id hn
  refine h _ ⟨I.ok,I.os,I.bare,⟨fun b o e n hb hx=>?_,fun b o e n hb hx=>?_,I.base.free,fun b o e hx=>?_,I.base.tups,I.base.frzs,I.base.tbls⟩,⟨_,hn',fun j y v' e1 e2 e3=>?_⟩,fun y c e=>?_,I.free,I.freeC,fun p hp=>?_,tracked ⟨oL,hoL,I.free⟩ hs,by simpa using I.len⟩ ⟨_,hs,.inl rfl⟩
  ·exact (hs.2 b (ζw (ζA (ζm e) I.ok.above))).trans (I.base.keep b o e n hb hx)
  ·obtain ⟨sl,e1⟩:=I.base.slot b o e n hb hx
   exact ⟨sl,(hs.2 b (ζw (ζA (ζm e) I.ok.above))).trans e1⟩
  ·obtain ⟨o',e1⟩:=I.base.there b o e hx
   exact ⟨o',(hs.2 b (ζw (ζA (ζm e) I.ok.above))).trans e1⟩
  ·by_cases hj:j=i
   ·subst hj
    rw [hi] at e1; cases e1
    rw [ζv hiσ] at e2
    cases e2
    exact ⟨u,r,.inl ⟨hk,by simp⟩⟩
   ·rw [ζC (Ne.symm hj)] at e2
    obtain ⟨u',r',q⟩:=hl j y v' e1 e2 e3
    refine ⟨u',r',?_⟩
    rcases q with ⟨k,e⟩ | ⟨k,c,e,z⟩
    ·refine .inl ⟨k,?_⟩
     have:y≠x:=fun e=>hj (WX hN e1 (e ▸ hi))
     simp [this,e]
    ·exact .inr ⟨k,c,e,z.sameBut hs (cne y c e)⟩
  ·obtain ⟨w',z⟩:=I.cell y c e
   exact ⟨w',z.sameBut hs (cne y c e)⟩
  ·obtain ⟨e,n,ne,nf,d⟩:=I.pin p hp
   exact ⟨(hs.2 p.1 ne).trans e,n,ne,nf,d⟩
 ·have hfn:X.fn x=true:=by
   rcases hf with z | z
   ·exact z
   ·rw [z] at hk; cases hk
  obtain ⟨c,hc⟩:=I.ok.has x (.inl hk)
  obtain ⟨w',z⟩:=I.cell x c hc
  refine wpAny_storeName_cell I.ok.kind hk hc z (fun h' hc' hs=>?_)
  obtain ⟨oc,hoc,hocd⟩:=id z
  refine h { s with heap:=h' } ⟨I.ok,I.os,I.bare,⟨fun b o e n hb hx=>?_,fun b o e n hb hx=>?_,I.base.free,fun b o e hx=>?_,I.base.tups,I.base.frzs,I.base.tbls⟩,⟨m,hn.sameBut hs (Ne.symm (cne x c hc)),fun j y v' e1 e2 e3=>?_⟩,fun y c' e=>?_,I.free,I.freeC,fun p hp=>?_,tracked ⟨oc,hoc,(I.freeC x c hc).elim (fun n=>n) fun z=>by rw [hfn] at z; cases z.1⟩ hs,by simpa using I.len⟩ ⟨c,hs,.inr hc⟩
  ·exact (hs.2 b (ζw (ζA (ζm e) (I.ok.cab x c hfn hc)))).trans (I.base.keep b o e n hb hx)
  ·obtain ⟨sl,e1⟩:=I.base.slot b o e n hb hx
   exact ⟨sl,(hs.2 b (ζw (ζA (ζm e) (I.ok.cab x c hfn hc)))).trans e1⟩
  ·obtain ⟨o',e1⟩:=I.base.there b o e hx
   exact ⟨o',(hs.2 b (ζw (ζA (ζm e) (I.ok.cab x c hfn hc)))).trans e1⟩
  ·by_cases hj:j=i
   ·subst hj
    rw [hi] at e1; cases e1
    rw [ζv hiσ] at e2
    cases e2
    exact ⟨u,r,.inr ⟨.inl hk,c,hc,hc'⟩⟩
   ·rw [ζC (Ne.symm hj)] at e2
    obtain ⟨u',r',q⟩:=hl j y v' e1 e2 e3
    refine ⟨u',r',?_⟩
    rcases q with q | ⟨k,c',e,z'⟩
    ·exact .inl q
    ·refine .inr ⟨k,c',e,z'.sameBut hs ?_⟩
     rintro rfl
     exact hj (WX hN e1 (I.ok.inj _ _ _ e hc ▸ hi))
  ·by_cases hcc:c'=c
   ·subst hcc; exact ⟨_,hc'⟩
   ·obtain ⟨w2,z2⟩:=I.cell y c' e
    exact ⟨w2,z2.sameBut hs hcc⟩
  ·obtain ⟨e,n,ne,nf,d⟩:=I.pin p hp
   refine ⟨(hs.2 p.1 ?_).trans e,n,ne,nf,d⟩
   intro q
   rw [q,hoc] at e
   have q':oc=p.2:=ζI e
   exact d w' (by rw [← q']; exact hocd)
theorem Wr (I:Inv X pins σ H s) (hN:X.N.Nodup) (hi:X.N[i]?=some x) (hx:Loc X.env.scope x) (r:RelV v u)
  (h:∀ s',Inv X pins (σ.set i (some v)) H s'→Q () s') (hf:X.fn x=true∨X.env.scope.names.lookup x=some .local:=by first | exact .inl rfl | exact .inr rfl | assumption):wpAny M A (storeName X.env x u) Q E s :=
 Yy I hN hi hx r (fun s' I' _=>h s' I') hf
theorem Inv.call' (I:Inv X pins σ H s) (ho:s'.os=s.os) (u:Un (frs X.stack) ch H H' s.heap s'.heap) (hok:HOk X.prog X.w H' s'.heap) (hg:AllBare s'.gens)
  (hch:∀ b∈ch,(b∈X.ex∨X.s₀.heap.objs.size≤b)∧b≠X.env.locals∧(∀ x c,X.env.cells.lookup x=some c→c≠b)∧∀ p∈X.pn ++ pins,p.1≠b):Inv X pins σ H' s':=by
 obtain ⟨h',g',d',t',o'⟩:=s'
 have e:o'=s.os:=ho
 subst e
 exact I.call (g':=g') (t':=t') (d':=d') u hok hg hch
end
abbrev XK:=Value→Option Addr→Hp→Prop
abbrev St:=List (Option V)
abbrev VK:=V→Hp→Prop
abbrev TE:=St→Hp→VK→Prop
abbrev TT:=St→Hp→(Bool→Hp→Prop)→Prop
abbrev TA:=St→Hp→(List V→Hp→Prop)→Prop
structure Ends where
 nx:St→Hp→Prop
 rt:VK
 bk:St→Hp→Prop:=fun _ _=>False
 ct:St→Hp→Prop:=fun _ _=>False
abbrev TS:=Ends→St→Hp→Prop
def EP (X:Cx) (pins:List (Addr×Obj)) (σ:St) (Q:VK) (u:Value) (s':Shared):Prop:=∃ v H',Inv X pins σ H' s'∧RelV v u∧Q v H'
def TP (X:Cx) (pins:List (Addr×Obj)) (σ:St) (Q:Bool→Hp→Prop) (b:Bool) (s':Shared):Prop:=∃ H',Inv X pins σ H' s'∧Q b H'
def AP (X:Cx) (pins:List (Addr×Obj)) (σ:St) (Q:List V→Hp→Prop) (us:List Value) (s':Shared):Prop:=∃ vs H',Inv X pins σ H' s'∧Vals vs us∧Q vs H'
def SP (X:Cx) (pins:List (Addr×Obj)) (D:Ends) (f:Flow) (s':Shared):Prop :=
 match f with
 | .next=>∃ σ' H',Inv X pins σ' H' s'∧D.nx σ' H'
 | .brk=>∃ σ' H',Inv X pins σ' H' s'∧D.bk σ' H'
 | .cont=>∃ σ' H',Inv X pins σ' H' s'∧D.ct σ' H'
 | .ret u=>∃ v σ' H',Inv X pins σ' H' s'∧RelV v u∧D.rt v H'
def PE (X:Cx) (e:Expr) (t:TE):Prop :=
 ∀ (pins:List (Addr×Obj)) (s:Shared) (σ:St) (H:Hp) (Q:VK),Inv X pins σ H s→t σ H Q→wpAny (model X.prog X.w) X.A (eval e X.env) (EP X pins σ Q) X.xe s
def PT (X:Cx) (e:Expr) (t:TT):Prop :=
 ∀ (pins:List (Addr×Obj)) (s:Shared) (σ:St) (H:Hp) (Q:Bool→Hp→Prop),Inv X pins σ H s→t σ H Q→wpAny (model X.prog X.w) X.A (isTrue e X.env (eval e X.env)) (TP X pins σ Q) X.xe s
def PW (X:Cx) (e:Expr) (t:TT):Prop :=
 ∀ (whole:Sem Value) (pins:List (Addr×Obj)) (s:Shared) (σ:St) (H:Hp) (Q:Bool→Hp→Prop),Inv X pins σ H s→t σ H Q→wpAny (model X.prog X.w) X.A (isTrue e X.env whole) (TP X pins σ Q) X.xe s
theorem PW.pt (h:PW X e t):PT X e t:=h _
def PA (X:Cx) (es:List Expr) (t:TA):Prop :=
 ∀ (pos:Pos) (pins:List (Addr×Obj)) (s:Shared) (σ:St) (H:Hp) (Q:List V→Hp→Prop),Inv X pins σ H s→t σ H Q→wpAny (model X.prog X.w) X.A (spliced (backTo pos (starEach es X.env))) (AP X pins σ Q) X.xe s
def PS (X:Cx) (st:Stmt) (t:TS):Prop :=
 ∀ (pins:List (Addr×Obj)) (s:Shared) (σ:St) (H:Hp) (D:Ends),Inv X pins σ H s→t D σ H→wpAny (model X.prog X.w) X.A (exec st X.env) (SP X pins D) X.xe s
def PSs (X:Cx) (st:List Stmt) (t:TS):Prop :=
 ∀ (pins:List (Addr×Obj)) (s:Shared) (σ:St) (H:Hp) (D:Ends),Inv X pins σ H s→t D σ H→wpAny (model X.prog X.w) X.A (execs st X.env) (SP X pins D) X.xe s
theorem thn (h:wpAny M A t Q E s) (hQ:∀ a s,Q a s→Q' a s):wpAny M A t Q' E s:=wpAny_mono h hQ fun _ _ x=>x
section
variable {X:Cx}
def tVar (i:Nat):TE:=fun σ H Q=>∃ v,σ[i]?=some (some v)∧Q v H
def tC (v:V):TE:=fun _ H Q=>Q v H
theorem QZ (hN:X.N[i]?=some x) (hv:Vis X.env.scope x) (hd:(x == ("__debug__" : Str))=false:=by decide) (hcd:(x == ("__classdict__" : Str))=false:=by decide):PE X (.Name x pos) (tVar i):=by
 intro pins s σ H Q I h
 obtain ⟨v,e,h⟩:=h
 obtain ⟨m,hn,hl⟩:=I.loc
 obtain ⟨u,r,l⟩:=hl i x v hN e hv
 have fin:EP X pins σ Q u s:=⟨v,H,I,r,h⟩
 rcases l with ⟨hk,hm⟩ | ⟨hk,c,hc,hcell⟩
 ·exact wpAny_Name (wpAny_loadName_local I.ok.kind hk hn hm fin) hd
 ·rcases hk with hk | hk
  ·exact wpAny_Name (wpAny_loadName_cell I.ok.kind hk hc hcell fin) hd
  ·exact wpAny_Name (wpAny_loadName_free I.ok.kind hk hc hcell fin hcd) hd
theorem zh {i j pos}:PE X (.Constant (.int i) j pos) (tC (.int i)):=fun _ _ _ H _ I h=>wpAny_Constant_int ⟨.int i,H,I.tok _,⟨_,rfl⟩,h⟩
theorem vf {b j pos}:PE X (.Constant (.bool b) j pos) (tC (.bl b)):=fun _ _ _ H _ I h=>Constant_bool ⟨.bl b,H,I,rfl,h⟩
theorem wV {j pos}:PE X (.Constant .none j pos) (tC .non):=fun _ _ _ H _ I h=>Constant_none ⟨.non,H,I,rfl,h⟩
theorem XD {x j pos}:PE X (.Constant (.str x) j pos) (tC (.str x)):=fun _ _ _ H _ I h=>Calls.Constant_str ⟨.str x,H,I.tok _,⟨_,rfl⟩,h⟩
def Gl (X:Cx) (x:Str):Prop:=X.env.kindOf x=some .globalImplicit
theorem XZ (I:Inv X pins σ H s) (hg:Gl X x) (hm:X.mg x=some u) (h:Q u s)
  (hd:(x == ("__debug__" : Str))=false:=by decide):wpAny (model X.prog X.w) X.A (eval (.Name x pos) X.env) Q E s :=
 Calls.Name_function_global I.ok.kind hg (Calls.loadGlobal_global (by rw [I.ok.glob]; exact I.mod.glob.keeps I.bk) hm h) hd
theorem uk (I:Inv X pins σ H s) (hg:Gl X x) (hm:X.mg x=none) (hv:bootBuiltins x=some u) (h:Q u s)
  (hn:x ≠ "__name__" := by decide) (hd:(x == ("__debug__" : Str))=false:=by decide):wpAny (model X.prog X.w) X.A (eval (.Name x pos) X.env) Q E s:=by
 obtain ⟨mb,h1,h2⟩:=I.mod.blt
 exact Calls.Name_function_global I.ok.kind hg (Calls.loadGlobal_builtin (by rw [I.ok.glob]; exact I.mod.glob.keeps I.bk) hm (by rw [I.ok.blt]; exact h1.keeps I.bk) ((h2 x hn).trans hv) h) hd
theorem uL (hg:Gl X x) (hm:X.mg x=some u) (r:RelV v u) (hd:(x == ("__debug__" : Str))=false:=by decide):PE X (.Name x pos) (tC v) :=
 fun _ _ _ H _ I h=>XZ I hg hm ⟨v,H,I,r,h⟩ hd
theorem uM (hg:Gl X x) (hm:X.mg x=none) (hv:bootBuiltins x=some u) (r:RelV v u) (hn:x ≠ "__name__" := by decide) (hd:(x == ("__debug__" : Str))=false:=by decide):PE X (.Name x pos) (tC v) :=
 fun _ _ _ H _ I h=>uk I hg hm hv ⟨v,H,I,r,h⟩ hn hd
variable {a b:Expr} {ta tb:TE} {pos:Pos}
def PC (X:Cx) (op:CmpOp) (a b:Expr) (t:TE):Prop :=
 ∀ (pins:List (Addr×Obj)) (s:Shared) (σ:St) (H:Hp) (Q:VK),Inv X pins σ H s→t σ H Q →
  wpAny (model X.prog X.w) X.A (eval a X.env) (fun v s₁=>wpAny (model X.prog X.w) X.A (eval b X.env) (fun u s₂=>wpAny (model X.prog X.w) X.A (compareOp op v u) (EP X pins σ Q) X.xe s₂) X.xe s₁) X.xe s
def tB (t:TE):TT:=fun σ H Q=>t σ H fun x H1=>∃ c,x=.bl c∧Q c H1
theorem VL (h:PC X op a b t) (h1:behindInMarks op b=false:=by first | exact nobehind _ (by decide) (by decide) | rfl):PT X (.Compare a [op] [b] pos) (tB t):=by
 intro pins s σ H Q I hw
 refine wpAny_isTrue_Compare1 (thn (h pins s σ H _ I hw) fun v s1 h1=>thn h1 fun u s2 h2=>thn h2 fun c s3 ⟨x,H1,I1,r1,q1⟩=>?_) h1
 obtain ⟨d,rfl,q⟩:=q1
 cases r1
 exact wpAny_truthy_bool ⟨H1,I1,q⟩
theorem yC (h:PE X e t) (he:∀ whole,isTrue e X.env whole=(do let v ← whole; standAt e.pos; holding [v] (truthy v)):=by intro _; rfl):PT X e (tB t):=by
 intro pins s σ H Q I hw
 refine isTrue_plain (thn (h pins s σ H _ I hw) fun v s1 ⟨x,H1,I1,r1,q1⟩=>?_) (he _)
 obtain ⟨d,rfl,q⟩:=q1
 cases r1
 exact wpAny_truthy_bool ⟨H1,I1,q⟩
variable {tA tB':TT} {rest:List Expr}
def tAnd (t u:TT):TT:=fun σ H Q=>t σ H fun c H1=>if c=true then u σ H1 Q else Q false H1
def tOr (t u:TT):TT:=fun σ H Q=>t σ H fun c H1=>if c=true then Q true H1 else u σ H1 Q
def tNot (t:TT):TT:=fun σ H Q=>t σ H fun c H1=>Q (!c) H1
theorem xy (ha:PT X a tA):PW X (.BoolOp .And [a] pos) tA:=by
 intro wh pins s σ H Q I h
 refine isTrue_and (thn (ha pins s σ H Q I h) fun c s1 e=>?_)
 cases c with
 | true=>exact isTrue_and_nil e
 | false=>exact e
theorem wP (ha:PT X a tA):PW X (.BoolOp .Or [a] pos) tA:=by
 intro wh pins s σ H Q I h
 refine isTrue_or (thn (ha pins s σ H Q I h) fun c s1 e=>?_)
 cases c with
 | false=>exact isTrue_or_nil e
 | true=>exact e
theorem xE (ha:PT X a tA) (hb:PW X (.BoolOp .And (b :: rest) pos) tB'):PW X (.BoolOp .And (a :: b :: rest) pos) (tAnd tA tB'):=by
 intro wh pins s σ H Q I h
 refine isTrue_and (thn (ha pins s σ H _ I h) fun c s1 ⟨H1,I1,q1⟩=>?_)
 cases c with
 | true=>exact hb wh pins s1 σ H1 Q I1 q1
 | false=>exact ⟨H1,I1,q1⟩
theorem xi (ha:PT X a tA) (hb:PW X (.BoolOp .Or (b :: rest) pos) tB'):PW X (.BoolOp .Or (a :: b :: rest) pos) (tOr tA tB'):=by
 intro wh pins s σ H Q I h
 refine isTrue_or (thn (ha pins s σ H _ I h) fun c s1 ⟨H1,I1,q1⟩=>?_)
 cases c with
 | true=>exact ⟨H1,I1,q1⟩
 | false=>exact hb wh pins s1 σ H1 Q I1 q1
theorem wQ (ha:PT X a tA):PT X (.UnaryOp .Not a pos) (tNot tA):=by
 intro pins s σ H Q I h
 exact isTrue_not (ha pins s σ H (fun c H1=>Q (!c) H1) I h)
def zcR (ta tb:TE):TE:=fun σ H Q=>ta σ H fun x H1=>∃ c,x=.bl c∧if c=true then tb σ H1 Q else Q (.bl false) H1
def tOrV (ta tb:TE):TE:=fun σ H Q=>ta σ H fun x H1=>∃ c,x=.bl c∧if c=true then Q (.bl true) H1 else tb σ H1 Q
def zcQ (ta:TE):TE:=fun σ H Q=>ta σ H fun x H1=>∃ c,x=.bl c∧Q (.bl (!c)) H1
theorem XE {op} (h:PE X a t):PE X (.BoolOp op [a] pos) t:=fun pins s σ H Q I hw=>BoolOp_one (h pins s σ H Q I hw)
theorem VM (ha:PE X a ta) (hb:PE X (.BoolOp .And (b :: rest) pos) tb):PE X (.BoolOp .And (a :: b :: rest) pos) (zcR ta tb):=by
 intro pins s σ H Q I h
 refine BoolOp_and (thn (ha pins s σ H _ I h) fun v s1 ⟨x,H1,I1,r1,q1⟩=>?_)
 obtain ⟨c,rfl,q1⟩:=q1
 cases r1
 refine wpAny_truthy_bool ?_
 cases c with
 | true=>exact hb pins s1 σ H1 Q I1 q1
 | false=>exact ⟨.bl false,H1,I1,rfl,q1⟩
theorem zex (ha:PE X a ta) (hb:PE X (.BoolOp .Or (b :: rest) pos) tb):PE X (.BoolOp .Or (a :: b :: rest) pos) (tOrV ta tb):=by
 intro pins s σ H Q I h
 refine BoolOp_or (thn (ha pins s σ H _ I h) fun v s1 ⟨x,H1,I1,r1,q1⟩=>?_)
 obtain ⟨c,rfl,q1⟩:=q1
 cases r1
 refine wpAny_truthy_bool ?_
 cases c with
 | false=>exact hb pins s1 σ H1 Q I1 q1
 | true=>exact ⟨.bl true,H1,I1,rfl,q1⟩
theorem ZG (ha:PE X a ta):PE X (.UnaryOp .Not a pos) (zcQ ta):=by
 intro pins s σ H Q I h
 refine UnaryOp_ (thn (ha pins s σ H _ I h) fun v s1 ⟨x,H1,I1,r1,q1⟩=>?_)
 obtain ⟨c,rfl,q1⟩:=q1
 cases r1
 exact not_of (wpAny_truthy_bool ⟨.bl (!c),H1,I1,rfl,q1⟩)
def tIf (t:TT) (ta tb:TE):TE:=fun σ H Q=>t σ H fun c H1=>if c=true then ta σ H1 Q else tb σ H1 Q
theorem ZH (hc:PT X c tA) (ha:PE X a ta) (hb:PE X b tb):PE X (.IfExp c a b pos) (tIf tA ta tb):=by
 intro pins s σ H Q I h
 refine wpAny_IfExp (thn (hc pins s σ H _ I h) fun d s1 ⟨H1,I1,q1⟩=>?_)
 cases d with
 | true=>exact ha pins s1 σ H1 Q I1 q1
 | false=>exact hb pins s1 σ H1 Q I1 q1
end
def SqL (K:ζa) (H:Hp) (a:Addr) (xs:List V):Prop :=
 Rd H a (.lst xs) ∨
  ∃ (o:Obj) (its:Array Value) (n:Nat),K.lookup a=some o∧o.cls=.type "list" ∧ o.dict=none∧o.data=.seq its n∧its.size≤sizeLine∧Vals xs its.toList
def SqT (K:ζa) (H:Hp) (a:Addr) (xs:List V):Prop :=
 Rd H a (.tup xs) ∨
  ∃ (o:Obj) (its:Array Value) (n:Nat),K.lookup a=some o∧o.cls=.type "tuple" ∧ o.data=.seq its n∧its.size≤sizeLine∧Vals xs its.toList
def absV:Value→Option V
 | .none=>some .non
 | .bool b=>some (.bl b)
 | .int i _=>some (.int i)
 | .str x _=>some (.str x)
 | .bytes b _=>some (.byt b)
 | .float b _=>some (.flt b)
 | .ref a=>some (.ref a)
 | .type n=>some (.ty n)
 | _=>none
theorem RelV.abs (r:RelV x u):absV u=some x:=by
 cases x with
 | non=>cases r; rfl
 | bl _=>cases r; rfl
 | int _=>obtain ⟨t,rfl⟩:=r; rfl
 | str _=>obtain ⟨t,rfl⟩:=r; rfl
 | byt _=>obtain ⟨t,rfl⟩:=r; rfl
 | flt _=>obtain ⟨t,rfl⟩:=r; rfl
 | ref _=>cases r; rfl
 | ty _=>cases r; rfl
theorem RelV.inj (r:RelV x u) (q:RelV y u):x=y:=ζI (r.abs.symm.trans q.abs)
theorem Vals.inj:∀ {xs ys:List V} {us:List Value},Vals xs us→Vals ys us→xs=ys
 | _,_,_,.nil,.nil=>rfl
 | _,_,_,.cons r t,.cons r' t'=>by rw [r.inj r',Vals.inj t t']
section
variable {X:Cx} {pins:List (Addr×Obj)} {σ:St} {H:Hp} {s:Shared} {a:Addr} {xs ys:List V}
theorem SqL.of {K:ζa} (h:H a=some (.lst xs)):SqL K H a xs:=.inl (.inl h)
theorem SqT.of {K:ζa} (h:H a=some (.tup xs)):SqT K H a xs:=.inl (.inl h)
theorem Inv.list (I:Inv X pins σ H s) (h:SqL X.K H a xs):∃ its:List Value,Vals xs its∧PlainL s.heap a its.toArray∧xs.length≤sizeLine:=by
 rcases h with h | ⟨o,its,n,hk,hc,hd,hs,hz,r⟩
 ·obtain ⟨z,its,n,r,e⟩:=h.ok I.hok
  exact ⟨its,r,⟨_,n,e,rfl,rfl,rfl⟩,z⟩
 ·refine ⟨its.toList,r,⟨o,n,I.kIn a o hk,hc,hd,by simpa using hs⟩,?_⟩
  have e:=r.length
  simp only [Array.length_toList] at e
  omega
theorem Inv.tuple (I:Inv X pins σ H s) (h:SqT X.K H a xs):∃ its:List Value,Vals xs its∧IsTup s.heap a its.toArray∧xs.length≤sizeLine:=by
 rcases h with h | ⟨o,its,n,hk,hc,hs,hz,r⟩
 ·obtain ⟨z,its,r,p⟩:=h.ok I.hok
  exact ⟨its,r,p,z⟩
 ·refine ⟨its.toList,r,⟨o,I.kIn a o hk,hc,n,by simpa using hs⟩,?_⟩
  have e:=r.length
  simp only [Array.length_toList] at e
  omega
theorem Inv.list_inj (I:Inv X pins σ H s) (h:SqL X.K H a xs) (h':SqL X.K H a ys):xs=ys:=by
 obtain ⟨its,r,⟨o,n,e,_,_,d⟩,_⟩:=I.list h
 obtain ⟨its',r',⟨o',n',e',_,_,d'⟩,_⟩:=I.list h'
 rw [e] at e'; cases e'
 rw [d] at d'
 injection d' with d1 _
 have:its=its':=by simpa using congrArg Array.toList d1
 subst this
 exact r.inj r'
end
abbrev Cx.wish (X:Cx) (E:Value→Shared→Prop):Cx:={ X with xe:=E }
abbrev Cx.nox (X:Cx):Cx:=X.wish fun _ _=>False
theorem Cx.Ok.wish {X:Cx} (ok:X.Ok) (E:Value→Shared→Prop):(X.wish E).Ok :=
 ⟨ok.mod,ok.kind,ok.glob,ok.blt,ok.above,ok.inj,ok.has,ok.cab,ok.hd,ok.frames,ok.stk,ok.exf,ok.bs,ok.bsz,ok.noex,ok.exfs,ok.funs,ok.frf,ok.tb⟩
theorem Cx.Ok.unwish {X:Cx} {E:Value→Shared→Prop} (ok:(X.wish E).Ok):X.Ok :=
 ⟨ok.mod,ok.kind,ok.glob,ok.blt,ok.above,ok.inj,ok.has,ok.cab,ok.hd,ok.frames,ok.stk,ok.exf,ok.bs,ok.bsz,ok.noex,ok.exfs,ok.funs,ok.frf,ok.tb⟩
section
variable {X:Cx} {pins:List (Addr×Obj)} {σ:St} {H:Hp} {s:Shared} {E:Value→Shared→Prop}
theorem Inv.wish (I:Inv X pins σ H s) (E:Value→Shared→Prop):Inv (X.wish E) pins σ H s:=⟨I.ok.wish E,I.os,I.bare,I.base,I.loc,I.cell,I.free,I.freeC,I.pin,I.hok,I.len⟩
theorem Inv.unwish (I:Inv (X.wish E) pins σ H s):Inv X pins σ H s:=⟨I.ok.unwish,I.os,I.bare,I.base,I.loc,I.cell,I.free,I.freeC,I.pin,I.hok,I.len⟩
theorem SP.unwish (h:SP (X.wish E) pins D f s'):SP X pins D f s':=by
 cases f with
 | next=>obtain ⟨σ',H',I,q⟩:=h; exact ⟨σ',H',I.unwish,q⟩
 | brk=>obtain ⟨σ',H',I,q⟩:=h; exact ⟨σ',H',I.unwish,q⟩
 | cont=>obtain ⟨σ',H',I,q⟩:=h; exact ⟨σ',H',I.unwish,q⟩
 | ret u=>obtain ⟨v,σ',H',I,r,q⟩:=h; exact ⟨v,σ',H',I.unwish,r,q⟩
theorem PSs.nox {st:List Stmt} {t:TS} (h:PSs X.nox st t):PSs X st t:=fun pins s σ H D I hw =>
 wpAny_mono (h pins s σ H D (I.wish _) hw) (fun _ _ q=>q.unwish) fun _ _ z=>False.elim z
end
section
variable {X:Cx} {st:Stmt} {rest:List Stmt} {t u:TS} {e:Expr} {te:TE} {pos:Pos}
def Wo:TS:=fun D σ H=>D.nx σ H
def tSeq (t u:TS):TS:=fun D σ H=>t { D with nx:=u D } σ H
theorem zL:PSs X [] Wo:=fun _ _ σ H _ I h=>wpAny_execs_nil ⟨σ,H,I,h⟩
theorem ze (h1:PS X st t) (h2:PSs X rest u):PSs X (st :: rest) (tSeq t u):=by
 intro pins s σ H D I h
 refine wpAny_execs_cons (thn (h1 pins s σ H { D with nx:=u D } I h) fun f s1 q=>?_)
 cases f with
 | next =>
  obtain ⟨σ',H',I',q⟩:=q
  exact h2 pins s1 σ' H' D I' q
 | ret v=>exact q
 | brk=>exact q
 | cont=>exact q
theorem zf (h1:PS X st t):PSs X [st] t:=by
 intro pins s σ H D I h
 refine wpAny_execs_cons (thn (h1 pins s σ H D I h) fun f s1 q=>?_)
 cases f with
 | next=>exact wpAny_execs_nil q
 | ret v=>exact q
 | brk=>exact q
 | cont=>exact q
theorem Inv.quiet (I:Inv X pins σ H s):interactive X.env=false:=by simp [interactive,I.ok.kind]
def v5 (te:TE):TS:=fun D σ H=>te σ H fun _ H1=>D.nx σ H1
theorem yB (he:PE X e te) (hs:swapsWith e none pos.line X.env=pure false:=by rfl):PS X (.Expr e pos) (v5 te):=by
 intro pins s σ H D I h
 exact wpAny_Expr_any (thn (he pins s σ H _ I h) fun v s1 ⟨x,H1,I1,r1,q1⟩=>⟨σ,H1,I1,q1⟩) I.quiet hs
def tRet (te:TE):TS:=fun D σ H=>te σ H D.rt
theorem zy (he:PE X e te):PS X (.Return (some e) pos) (tRet te):=by
 intro pins s σ H D I h
 exact wpAny_Return_some (thn (he pins s σ H _ I h) fun v s1 ⟨x,H1,I1,r1,q1⟩=>⟨x,σ,H1,I1,r1,q1⟩)
def tIfS (c:TT) (t u:TS):TS:=fun D σ H=>c σ H fun b H1=>if b=true then t D σ H1 else u D σ H1
theorem ye (hc:PT X c tc) (ha:PSs X a t) (hb:PSs X b u):PS X (.If c a b pos) (tIfS tc t u):=by
 intro pins s σ H D I h
 refine wpAny_If (thn (hc pins s σ H _ I h) fun d s1 ⟨H1,I1,q1⟩=>?_)
 cases d with
 | true=>exact ha pins s1 σ H1 D I1 q1
 | false=>exact hb pins s1 σ H1 D I1 q1
end
abbrev TG:=V→St→Hp→(St→Hp→Prop)→Prop
abbrev TGs:=List V→St→Hp→(St→Hp→Prop)→Prop
def PG (X:Cx) (target:Expr) (t:TG):Prop :=
 ∀ (pins:List (Addr×Obj)) (s:Shared) (σ:St) (H:Hp) (v:V) (u:Value) (Q:St→Hp→Prop),Inv X pins σ H s→RelV v u→t v σ H Q →
  wpAny (model X.prog X.w) X.A (assign target X.env u) (fun _ s'=>∃ σ' H',Inv X pins σ' H' s'∧Q σ' H') X.xe s
def PGs (X:Cx) (ts:List Expr) (t:TGs):Prop :=
 ∀ (pins:List (Addr×Obj)) (s:Shared) (σ:St) (H:Hp) (vs:List V) (us:List Value) (Q:St→Hp→Prop),Inv X pins σ H s→Vals vs us→t vs σ H Q →
  wpAny (model X.prog X.w) X.A (assignInOrder ((assignEach ts X.env).map (·.2)) us) (fun _ s'=>∃ σ' H',Inv X pins σ' H' s'∧Q σ' H') X.xe s
section
variable {X:Cx} {pos:Pos}
def yn (i:Nat):TG:=fun v σ H Q=>Q (σ.set i (some v)) H
theorem zbL (hN:X.N.Nodup) (hi:X.N[i]?=some x) (hx:Loc X.env.scope x) (hf:X.fn x=true∨X.env.scope.names.lookup x=some .local:=by first | exact .inl rfl | exact .inr rfl | assumption):PG X (.Name x pos) (yn i):=by
 intro pins s σ H v u Q I r h
 exact wpAny_assign_Name (Wr I hN hi hx r (fun s' I'=>⟨_,H,I',h⟩) hf)
def gNil:TGs:=fun vs σ H Q=>vs=[]∧Q σ H
def uT (t:TG) (u:TGs):TGs:=fun vs σ H Q=>∃ v r,vs=v :: r∧t v σ H fun σ' H'=>u r σ' H' Q
theorem XB:PGs X [] gNil:=by
 intro pins s σ H vs us Q I r h
 obtain ⟨e,h⟩:=h
 subst e
 cases r
 exact assignInOrder_nil ⟨σ,H,I,h⟩
theorem yQ (h1:PG X e t) (h2:PGs X es u)
  (hs:(assignEach (e :: es) X.env).map (·.2)=assign e X.env :: (assignEach es X.env).map (·.2):=by rfl):PGs X (e :: es) (uT t u):=by
 intro pins s σ H vs us Q I r h
 obtain ⟨v,vr,e1,h⟩:=h
 subst e1
 cases r with
 | cons r rr =>
  rw [hs]
  refine assignInOrder_cons (thn (h1 pins s σ H _ _ _ I r h) fun _ s1 ⟨σ1,H1,I1,q1⟩=>?_)
  exact h2 pins s1 σ1 H1 _ _ Q I1 rr q1
def gTup (K:ζa) (n:Nat) (t:TGs):TG:=fun v σ H Q=>∃ a xs,v=.ref a∧SqT K H a xs∧xs.length=n∧t xs σ H Q
theorem zdx (hc:X.calm=true) (h:PGs X es t)
  (hn:(assignEach es X.env).length=n:=by rfl) (hst:(assignEach es X.env).findIdx? (·.1)=none:=by rfl):PG X (.Tuple es k pos) (gTup X.K n t):=by
 intro pins s σ H v u Q I r hw
 obtain ⟨a,xs,e1,hq,hl,hw⟩:=hw
 subst e1
 cases r
 obtain ⟨its,rv,ht,hz⟩:=I.tuple hq
 refine assign_Tuple_tuple (I.ok.hd hc) ht (by simp [hn,← hl,rv.length]) hst fun h' hx=>?_
 have I1:Inv X pins σ H { s with heap:=h' }:=I.kept (t':=s.toks) fun b o e=>hx b o (ζw (ζm e)) e
 exact h pins _ σ H xs _ Q I1 (by simpa using rv) hw
def tAsg (te:TE) (g:TG):TS:=fun D σ H=>te σ H fun x H1=>g x σ H1 D.nx
theorem QT (he:PE X e te) (hg:PG X tg g) (hs:swapsWithSole [tg] e pos.line X.env=pure false:=by rfl) (hw:swappedStores [tg] e X.env=pure none:=by rfl)
  (h1:(assignEach [tg] X.env).map (·.2)=[assign tg X.env]:=by rfl):PS X (.Assign [tg] e pos) (tAsg te g):=by
 intro pins s σ H D I h
 refine wpAny_Assign_stores (thn (he pins s σ H _ I h) fun v s1 ⟨x,H1,I1,r1,q1⟩=>?_) hs hw
 rw [h1]
 exact thn (hg pins s1 σ H1 x v _ I1 r1 q1) fun _ s2 q=>q
theorem zdu (hN:X.N.Nodup) (hi:X.N[i]?=some x) (hx:Loc X.env.scope x) (he:PE X e te) (hs:swapsWith e (some (.Name x pos')) pos.line X.env=pure false:=by rfl) (hf:X.fn x=true∨X.env.scope.names.lookup x=some .local:=by first | exact .inl rfl | exact .inr rfl | assumption) :
  PS X (.Assign [.Name x pos'] e pos) (tAsg te (yn i)):=by
 intro pins s σ H D I h
 refine wpAny_Assign_Name (thn (he pins s σ H _ I h) fun v s1 ⟨y,H1,I1,r1,q1⟩=>?_) hs
 exact Wr I1 hN hi hx r1 (fun s2 I2=>⟨_,H1,I2,q1⟩) hf
def Qo (c:TT) (tb:TS):TS:=fun D σ H=>∃ W:Nat→St→Hp→Prop,(∃ m,W m σ H)∧∀ m σ H,W m σ H →
 c σ H fun b H1=>if b=true then ∃ N:St→Hp→Prop,(∀ σ' H',N σ' H'→∃ m',m' < m∧W m' σ' H')∧tb { D with nx:=N,ct:=N,bk:=D.nx } σ H1 else D.nx σ H1
theorem vt (hp:PassesOwn (model X.prog X.w) X.A X.env X.xe) (hc:PT X c tc) (hb:PSs X body tb):PS X (.While c body [] pos) (Qo tc tb):=by
 intro pins s σ H D I h
 obtain ⟨W,⟨m0,w0⟩,turn⟩:=h
 refine wpAny_While (codeAny_whileLoop (fun n s'=>∃ σ' H',Inv X pins σ' H' s'∧W n σ' H') ?_ m0 ⟨σ,H,I,w0⟩)
 rintro n s1 ⟨σ1,H1,I1,w1⟩
 refine wpAny_passesOwn hp (thn (hc pins s1 σ1 H1 _ I1 (turn n σ1 H1 w1)) fun b s2 ⟨H2,I2,q2⟩=>?_)
 cases b with
 | true =>
  obtain ⟨N,hN,q2⟩:=q2
  rw [if_pos rfl]
  refine wpAny_passesOwn hp (thn (hb pins s2 σ1 H2 _ I2 q2) fun f s3 q3=>?_)
  cases f with
  | next =>
   obtain ⟨σ3,H3,I3,n3⟩:=q3
   obtain ⟨m',hm,w3⟩:=hN σ3 H3 n3
   exact ⟨m',hm,σ3,H3,I3,w3⟩
  | cont =>
   obtain ⟨σ3,H3,I3,n3⟩:=q3
   obtain ⟨m',hm,w3⟩:=hN σ3 H3 n3
   exact ⟨m',hm,σ3,H3,I3,w3⟩
  | brk=>exact q3
  | ret v=>exact q3
 | false =>
  rw [if_neg ζt]
  exact wpAny_execs_nil ⟨σ1,H2,I2,q2⟩
end
structure It where
 go:Nat→Hp→Prop
 yld:Nat→Hp→V→Hp→Prop
 stop:Nat→Hp→Prop
def FpOk (X:Cx) (pins:List (Addr×Obj)) (H:Hp) (b:Addr):Prop :=
 H b=none∧b≠X.env.locals∧b∉X.fs∧(b∈X.ex∨X.s₀.heap.objs.size≤b)∧(∀ x c,X.env.cells.lookup x=some c→c≠b)∧∀ p∈X.pn ++ pins,p.1≠b
theorem Inv.fpOk (I:Inv X pins σ H s) (hb:s.heap.objs.size≤b) (hn:H' b=none):FpOk X pins H' b:=by
 refine ⟨hn,ξv (ζA I.lt hb),I.nofs hb,.inr (ζV I.sz hb),fun x c e z=>?_,fun p hp z=>?_⟩
 ·obtain ⟨v,q⟩:=I.cell x c e
  exact absurd (ζA q.lt (by rw [z]; exact hb)) (ζS _)
 ·exact absurd (ζA (ζm (I.pin p hp).1) (by rw [z]; exact hb)) (ζS _)
structure Turn (P:Program) (w:World) (K:ζa) (tg:Expr) (J:It) (fp:List Addr) (it:Addr) (tn:Nat→Heap→Prop):Prop where
 mem:it∈fp
 obj:∀ i h,tn i h→∀ b∈fp,∃ o,h.get? b=some o∧∀ v,o.data≠.cell v
 keep:∀ i h h',tn i h→(∀ b∈fp,∀ o,h.get? b=some o→h'.get? b=some o)→tn i h'
 item:∀ (X:Cx),X.prog=P→X.w=w→X.K=K→X.calm=true→∀ (i:Nat) (pins:List (Addr×Obj)) (s:Shared) (σ:St) (H:Hp) (E:Value→Shared→Prop),Inv X pins σ H s→(∀ b∈fp,FpOk X pins H b)→tn i s.heap→J.go i H →
  wpAny (model P w) X.A (pyNext (.ref it)) (fun r s1=>∃ u,r=some u ∧
   wpAny (model P w) X.A (letOwnedTupleGo tg (.ref it) u) (fun _ s2=>∃ x H',Inv X pins σ H' s2∧RelV x u∧J.yld i H x H'∧tn (i + 1) s2.heap∧∀ b∈fp,H' b=none) E s1) E s
 done:∀ (X:Cx),X.prog=P→X.w=w→X.K=K→X.calm=true→∀ (i:Nat) (pins:List (Addr×Obj)) (s:Shared) (σ:St) (H:Hp) (E:Value→Shared→Prop),Inv X pins σ H s→(∀ b∈fp,FpOk X pins H b)→tn i s.heap→J.stop i H →
  wpAny (model P w) X.A (pyNext (.ref it)) (fun r s1=>r=none∧Inv X pins σ H s1) E s
 self:∀ (A:Around) (i:Nat) (s:Shared) (Q:Value→Shared→Prop) (E:Value→Shared→Prop),tn i s.heap→Q (.ref it) s→wpAny (model P w) A (pyIter (.ref it)) Q E s
abbrev TI:=St→Hp→(It→Hp→Prop)→Prop
def PIE (X:Cx) (pins:List (Addr×Obj)) (σ:St) (tg:Expr) (R:It→Hp→Prop) (itv:Value) (s2:Shared):Prop :=
 ∃ (it:Addr) (fp:List Addr) (tn:Nat→Heap→Prop) (J:It) (H':Hp),itv=.ref it∧Inv X pins σ H' s2∧Turn X.prog X.w X.K tg J fp it tn∧tn 0 s2.heap∧(∀ b∈fp,FpOk X pins H' b)∧R J H'
def PI (X:Cx) (tg iter:Expr) (wi:TI):Prop :=
 ∀ (pins:List (Addr×Obj)) (s:Shared) (σ:St) (H:Hp) (R:It→Hp→Prop),Inv X pins σ H s→wi σ H R →
  wpAny (model X.prog X.w) X.A (eval iter X.env) (fun v s1=>wpAny (model X.prog X.w) X.A (pyIter v) (PIE X pins σ tg R) X.xe s1) X.xe s
theorem zc3 (ho:s.heap.get? it=some o) (hc:o.cls=.type n) (hd:o.data=.fields vs)
  (hn:["enumerate", "zip", "dict_itemiterator", "dict_reverseitemiterator", "odict_iterator", "itertools.zip_longest", "itertools.pairwise"].contains n=false) (hQ:Q () s):wpAny M A (letOwnedTupleGo tg (.ref it) u) Q E s:=by
 unfold letOwnedTupleGo
 cases tg <;> first
  | exact wpAny_pure hQ
  | (cases u <;> first
    | exact wpAny_pure hQ
    | (refine wpAny_bind (wpAny_load ho ?_)
       rw [hc,hd]
       show wpAny M A (if (["enumerate", "zip", "dict_itemiterator", "dict_reverseitemiterator", "odict_iterator", "itertools.zip_longest", "itertools.pairwise"].contains n && vs[0]? == some (rawInt _))=true then _ else _) Q E s
       rw [if_neg (by intro h; rw [hn,Bool.false_and] at h; cases h)]
       exact wpAny_pure hQ))
def Itl (K:ζa) (a:Addr):It :=
 ⟨fun i H=>∃ xs x,SqL K H a xs∧xs[i]?=some x,fun i H x H'=>H'=H∧∀ xs,SqL K H a xs→xs[i]?=some x,fun i H=>∃ xs,SqL K H a xs∧xs.length≤i⟩
def Itr (lo:Int) (n:Nat):It:=⟨fun i _=>i < n,fun i H x H'=>H'=H∧x=.int (lo + i),fun i _=>n≤i⟩
theorem Tj {P:Program} {w:World} {K:ζa} {tg:Expr} (a it:Addr):Turn P w K tg (Itl K a) [it] it (fun i h=>h.IsListIter it a i) where
 mem:=by simp
 obj:=fun i h st b hb=>by
  have e:b=it:=by simpa using hb
  subst e
  obtain ⟨o,e,c,d⟩:=st
  exact ⟨o,e,fun v z=>by rw [d] at z; cases z⟩
 keep:=fun i h h' st k=>st.at fun o e=>k it (by simp) o e
 item:=by
  intro X hP hw hK hc i pins s σ H E I hf st hg
  subst hP hw hK
  obtain ⟨xs,x,hq,hx⟩:=hg
  obtain ⟨its,rv,p,hz⟩:=I.list hq
  obtain ⟨u,hu,ru⟩:=rv.get hx
  obtain ⟨f0,f1,f2,f3,f4,f5⟩:=hf it (by simp)
  refine wpAny_pyNext_list_item st p.isList (x:=u) (by simpa using hu) fun h' st' sb=>?_
  have I1:Inv X pins σ H { s with heap:=h' }:=I.turned (t':=s.toks) (fun b o hb e=>(sb.2 b hb).trans e) f0 f1 f3 f4 f5
  obtain ⟨o,e,c,d⟩:=id st'
  exact ⟨u,rfl,zc3 (s:={ s with heap:=h' }) e c d (by decide) ⟨x,H,I1,ru,⟨rfl,fun ys hy=>by rw [I.list_inj hy hq]; exact hx⟩,st',fun b hb=>(hf b hb).1⟩⟩
 done:=by
  intro X hP hw hK hc i pins s σ H E I hf st hg
  subst hP hw hK
  obtain ⟨xs,hq,hx⟩:=hg
  obtain ⟨its,rv,p,hz⟩:=I.list hq
  obtain ⟨f0,f1,f2,f3,f4,f5⟩:=hf it (by simp)
  have hl:=rv.length
  exact wpAny_pyNext_list_end (I.ok.hd hc) st p.isList (by simp; omega) fun h' eb=>⟨rfl,I.turned (t':=s.toks) (fun b o hb e=>eb b o hb e) f0 f1 f3 f4 f5⟩
 self:=fun _ _ _ _ _ st h=>wpAny_pyIter_listiter st h
theorem Vr {P:Program} {w:World} {K:ζa} {tg:Expr} (it:Addr) (lo:Int) (n:Nat):Turn P w K tg (Itr lo n) [it] it (fun i h=>IsRangeIter h it (lo + (i:Nat) * 1) ((n:Int) - (i:Nat)) 1) where
 mem:=by simp
 obj:=fun i h st b hb=>by
  have e:b=it:=by simpa using hb
  subst e
  exact ⟨_,st,fun v z=>by
   have z':Data.fields _=Data.cell v:=z
   cases z'⟩
 keep:=fun i h h' st k=>k it (by simp) _ st
 item:=by
  intro X hP hw hK hc i pins s σ H E I hf st hg
  subst hP hw hK
  obtain ⟨f0,f1,f2,f3,f4,f5⟩:=hf it (by simp)
  have W:=Walks.range (prog:=X.prog) (w:=X.w) (I.ok.hd hc) it lo 1 n
  refine W.item i s _ _ hg st fun v h' tk hv st' kk=>?_
  obtain ⟨t,rfl⟩:=hv
  have I1:Inv X pins σ H { s with heap:=h',toks:=tk }:=I.turned (fun b o hb e=>kk b o (by simpa using hb) e) f0 f1 f3 f4 f5
  refine ⟨_,rfl,zc3 (s:={ s with heap:=h',toks:=tk }) (n := "range_iterator") st' rfl rfl (by decide) ⟨.int (lo + i),H,I1,⟨t,?_⟩,⟨rfl,rfl⟩,st',fun b hb=>(hf b hb).1⟩⟩
  rw [Int.mul_one]
 done:=by
  intro X hP hw hK hc i pins s σ H E I hf st hg
  subst hP hw hK
  obtain ⟨f0,f1,f2,f3,f4,f5⟩:=hf it (by simp)
  exact wpAny_pyNext_range_end (I.ok.hd hc) st (by have:n≤i:=hg; omega) fun h' eb=>⟨rfl,I.turned (t':=s.toks) (fun b o hb e=>eb b o hb e) f0 f1 f3 f4 f5⟩
 self:=fun _ _ _ _ _ st h=>wpAny_pyIter_rangeiter st h
section
variable {X:Cx} {tg:Expr}
def UX (K:ζa) (tl:TE):TI:=fun σ H R=>tl σ H fun x H1=>∃ a,x=.ref a∧(∃ xs,SqL K H1 a xs)∧R (Itl K a) H1
theorem zbK {l:Expr} {tl:TE} (hl:PE X l tl):PI X tg l (UX X.K tl):=by
 intro pins s σ H R I h
 refine thn (hl pins s σ H _ I h) fun v s1 ⟨x,H1,I1,r1,q1⟩=>?_
 obtain ⟨a,e,⟨xs,hq⟩,q⟩:=q1
 subst e
 cases r1
 obtain ⟨its,rv,p,hz⟩:=I1.list hq
 refine wpAny_pyIter_list p.isList ?_
 refine ⟨s1.heap.objs.size,[s1.heap.objs.size],_,_,H1,rfl,I1.kept (t':=s1.toks) fun b o e=>ζi _ e,Tj a _,⟨_,ζy _ rfl,rfl,rfl⟩,fun b hb=>?_,q⟩
 have e:b=s1.heap.objs.size:=by simpa using hb
 subst e
 exact I1.fpOk (ζh _) (I1.hok.fresh (ζh _))
theorem WJ {lo hi:Int} {t u v:Tok} {tk:Nat} (I:Inv X pins σ H s) (h1:-(2 ^ 62)≤lo) (h2:lo < 2 ^ 62) (h3:-(2 ^ 62)≤hi) (h4:hi < 2 ^ 62)
  (q:R (Itr lo (hi - lo).toNat) H):wpAny (model X.prog X.w) X.A (pyIter (.ref s.heap.objs.size)) (PIE X pins σ tg R) E { s with heap:=s.heap.push { cls:=.type "range", data:=.fields #[.int lo t,.int hi u,.int 1 v] },toks:=tk }:=by
 refine wpAny_pyIter_range (IsRange.new ..) (small_one h1 h2 h3 h4) ?_
 have I1:Inv X pins σ H { s with heap:=s.heap.push { cls:=.type "range", data:=.fields #[.int lo t,.int hi u,.int 1 v] },toks:=tk }:=I.kept fun b o e=>ζi _ e
 refine ⟨(s.heap.push { cls:=.type "range", data:=.fields #[.int lo t,.int hi u,.int 1 v] }).objs.size,[(s.heap.push { cls:=.type "range", data:=.fields #[.int lo t,.int hi u,.int 1 v] }).objs.size],_,_,H,rfl,
  I1.kept (t':=tk) fun b o e=>ζi _ e,Vr _ lo (hi - lo).toNat,?_,fun b hb=>?_,q⟩
 ·have e1:lo + ((0:Nat):Int) * 1=lo:=by simp
  have e2:(((hi - lo).toNat:Nat):Int) - ((0:Nat):Int)=Builtin.Range.rangeSize lo hi 1:=by rw [rangeSize_one]; split <;> omega
  show IsRangeIter _ _ (lo + ((0:Nat):Int) * 1) ((((hi - lo).toNat:Nat):Int) - ((0:Nat):Int)) 1
  rw [e1,e2]
  exact ζy _ rfl
 ·have e:b=(s.heap.push { cls:=.type "range", data:=.fields #[.int lo t,.int hi u,.int 1 v] }).objs.size:=by simpa using hb
  subst e
  exact I1.fpOk (ζh _) (I1.hok.fresh (ζh _))
def UW (ta:TA):TI:=fun σ H R=>ta σ H fun vs H1=>∃ j:Int,vs=[.int j]∧-(2 ^ 62)≤j∧j < 2 ^ 62∧R (Itr 0 j.toNat) H1
def zc1 (ta:TA):TI:=fun σ H R=>ta σ H fun vs H1=>∃ i j:Int,vs=[.int i,.int j]∧(-(2 ^ 62)≤i∧i < 2 ^ 62∧-(2 ^ 62)≤j∧j < 2 ^ 62)∧R (Itr i (j - i).toNat) H1
theorem yw {a:Expr} {ta:TA} {p pos:Pos} (hg:Gl X "range") (hm:X.mg "range" = none) (ha:PA X [a] ta) (hs:starEach [a] X.env=[(false,eval a X.env)]:=by rfl):PI X tg (.Call (.Name "range" p) [a] [] pos) (UW ta):=by
 intro pins s σ H R I h
 refine Call_ (uk I hg hm boot_range (PyProof.Rows.callWith_type1 (thn (ha pos pins s σ H _ I h) fun us s1 ⟨vs,H1,I1,r1,q1⟩=>?_) hs rfl))
 obtain ⟨j,e,q1,q2,q⟩:=q1
 subst e
 cases r1 with
 | cons r rr =>
  cases rr
  obtain ⟨t,rfl⟩:=r
  exact call_range_1 (WJ I1 (by omega) (by omega) q1 q2 (by simpa using q))
theorem tI (hg:Gl X "range") (hm:X.mg "range" = none) (ha:PA X [a,b] ta) (hs:starEach [a,b] X.env=[(false,eval a X.env),(false,eval b X.env)]:=by rfl) (hs2:starEach [b] X.env=[(false,eval b X.env)]:=by rfl) :
  PI X tg (.Call (.Name "range" p) [a,b] [] pos) (zc1 ta):=by
 intro pins s σ H R I h
 refine Call_ (uk I hg hm boot_range (PyProof.Rows.callWith_type1 (thn (ha pos pins s σ H _ I h) fun us s1 ⟨vs,H1,I1,r1,q1⟩=>?_) (by rw [hs,hs2]) (by rw [hs2]; rfl)))
 obtain ⟨i,j,e,⟨q1,q2,q3,q4⟩,q⟩:=q1
 subst e
 cases r1 with
 | cons r rr =>
  cases rr with
  | cons r' rr =>
   cases rr
   obtain ⟨t,rfl⟩:=r
   obtain ⟨t',rfl⟩:=r'
   exact call_range_2 (WJ I1 q1 q2 q3 q4 q)
def tFor (wi:TI) (g:TG) (tb:TS):TS:=fun D σ H=>wi σ H fun J H1=>∃ W:Nat→Nat→St→Hp→Prop,(∃ m,W 0 m σ H1)∧∀ i m σ H,W i m σ H →
 (J.stop i H∧D.nx σ H)∨(J.go i H∧∃ N:St→Hp→Prop,(∀ σ' H',N σ' H'→∃ m',m' < m∧W (i + 1) m' σ' H')∧∀ x H',J.yld i H x H'→g x σ H' fun σ2 H2=>tb { D with nx:=N,ct:=N,bk:=D.nx } σ2 H2)
def tH (fp:List Addr) (h:Heap):List (Addr×Obj):=fp.filterMap fun b=>(h.get? b).map fun o=>(b,o)
theorem xr (hb:b∈fp) (e:h.get? b=some o):(b,o)∈tH fp h:=ξu.mpr ⟨b,hb,by rw [e]; rfl⟩
theorem TF (hp:p∈tH fp h):p.1∈fp∧h.get? p.1=some p.2:=by
 obtain ⟨b,hb,e⟩:=ξu.mp hp
 cases q:h.get? b with
 | none=>rw [q] at e; cases e
 | some o =>
  rw [q] at e
  have e':(b,o)=p:=ζI e
  subst e'
  exact ⟨hb,q⟩
theorem Inv.pinned (I:Inv X pins σ H s) (hf:∀ b∈fp,FpOk X pins H b) (ho:∀ b∈fp,∃ o,s.heap.get? b=some o∧∀ v,o.data≠.cell v):Inv X (pins ++ tH fp s.heap) σ H s :=
 I.pins_of fun p hp=>(ζq.mp hp).elim (fun z=>I.pin p (ζg _ z)) fun z=>by
  obtain ⟨hb,e⟩:=TF z
  obtain ⟨f0,f1,f2,_⟩:=hf p.1 hb
  obtain ⟨o,e',d⟩:=ho p.1 hb
  rw [e] at e'; cases e'
  exact ⟨e,f0,f1,f2,d⟩
theorem Inv.unpinned (I:Inv X (pins ++ pl) σ H s):Inv X pins σ H s:=I.pins_of fun p hp=>I.pin p (ζg _ (ζF _ hp))
theorem yF (hp:PassesOwn (model X.prog X.w) X.A X.env X.xe) (hc:X.calm=true) (hi:PI X tg iter wi) (hg:PG X tg g) (hb:PSs X body tb)
  (hs:∀ x,foldedSetIterable iter X.env x=pure x:=by intro _; rfl):PS X (.For tg iter body [] pos) (tFor wi g tb):=by
 intro pins s σ H D I h
 refine wpAny_For (thn (hi pins s σ H _ I h) fun v s1 h1=>thn h1 fun itv s2 h2=>?_) hs
 obtain ⟨it,fp,tn,J,H2,e,I2,T,st2,f2,W,⟨m0,w0⟩,turn⟩:=h2
 subst e
 have stat:∀ {H':Hp},(∀ b∈fp,H' b=none)→∀ b∈fp,FpOk X pins H' b:=fun hn b hb=>⟨hn b hb,(f2 b hb).2⟩
 refine codeAny_forLoop_any (fun n s'=>∃ i σ' H',Inv X pins σ' H' s'∧tn i s'.heap∧(∀ b∈fp,H' b=none)∧W i n σ' H') ?_ m0 ⟨0,σ,H2,I2,st2,fun b hb=>(f2 b hb).1,w0⟩
 rintro n s3 ⟨i,σ3,H3,I3,st3,fr3,w3⟩
 rcases turn i n σ3 H3 w3 with ⟨stop,qn⟩ | ⟨go,N,hN,step⟩
 ·refine wpAny_passesOwn hp (thn (T.done X rfl rfl rfl hc i pins s3 σ3 H3 X.xe I3 (stat fr3) st3 stop) fun r s4 ⟨hr,I4⟩=>?_)
  subst hr
  exact wpAny_execs_nil ⟨σ3,H3,I4,qn⟩
 ·refine wpAny_passesOwn hp (thn (T.item X rfl rfl rfl hc i pins s3 σ3 H3 X.xe I3 (stat fr3) st3 go) fun r s4 ⟨u,hr,h4⟩=>?_)
  subst hr
  refine wpAny_passesOwn hp (thn h4 fun _ s5 ⟨x,H5,I5,r5,y5,st5,fr5⟩=>?_)
  have I5':=I5.pinned (stat fr5) (T.obj _ _ st5)
  refine wpAny_passesOwn hp (thn (hg _ s5 σ3 H5 x u _ I5' r5 (step x H5 y5)) fun _ s6 ⟨σ6,H6,I6,q6⟩=>?_)
  refine wpAny_passesOwn hp (thn (hb _ s6 σ6 H6 _ I6 q6) fun f s7 q7=>?_)
  have again:∀ {σ7:St} {H7:Hp},Inv X (pins ++ tH fp s5.heap) σ7 H7 s7→N σ7 H7→∃ m,m < n∧∃ i σ' H',Inv X pins σ' H' s7∧tn i s7.heap∧(∀ b∈fp,H' b=none)∧W i m σ' H':=fun {σ7 H7} I7 n7=>by
   obtain ⟨m',hm,w7⟩:=hN σ7 H7 n7
   refine ⟨m',hm,i + 1,σ7,H7,I7.unpinned,T.keep _ _ _ st5 fun b hb o e=>(I7.pin (b,o) (ζg _ (ζg _ (xr hb e)))).1,fun b hb=>?_,w7⟩
   obtain ⟨o,e,d⟩:=T.obj _ _ st5 b hb
   exact (I7.pin (b,o) (ζg _ (ζg _ (xr hb e)))).2.1
  cases f with
  | next=>obtain ⟨σ7,H7,I7,n7⟩:=q7; exact again I7 n7
  | cont=>obtain ⟨σ7,H7,I7,n7⟩:=q7; exact again I7 n7
  | brk=>obtain ⟨σ7,H7,I7,q7⟩:=q7; exact ⟨σ7,H7,I7.unpinned,q7⟩
  | ret v=>obtain ⟨x7,σ7,H7,I7,r7,q7⟩:=q7; exact ⟨x7,σ7,H7,I7.unpinned,r7,q7⟩
end
abbrev R2:=V→V→Hp→VK→Prop
def OpR (X:Cx) (f:Value→Value→Sem Value) (r:R2):Prop :=
 ∀ (pins:List (Addr×Obj)) (s:Shared) (σ:St) (H:Hp) (x y:V) (v u:Value) (Q:VK),Inv X pins σ H s→RelV x v→RelV y u→r x y H Q →
  wpAny (model X.prog X.w) X.A (f v u) (EP X pins σ Q) X.xe s
def UnR (X:Cx) (f:Value→Sem Value) (r:V→Hp→VK→Prop):Prop :=
 ∀ (pins:List (Addr×Obj)) (s:Shared) (σ:St) (H:Hp) (x:V) (v:Value) (Q:VK),Inv X pins σ H s→RelV x v→r x H Q →
  wpAny (model X.prog X.w) X.A (f v) (EP X pins σ Q) X.xe s
def yq (X:Cx) (f:Value) (r:List V→Hp→VK→Prop):Prop :=
 ∀ (pins:List (Addr×Obj)) (s:Shared) (σ:St) (H:Hp) (xs:List V) (us:List Value) (Q:VK),Inv X pins σ H s→Vals xs us→r xs H Q →
  wpAny (model X.prog X.w) X.A (call f us) (EP X pins σ Q) X.xe s
def tOp (r:R2) (ta tb:TE):TE:=fun σ H Q=>ta σ H fun x H1=>tb σ H1 fun y H2=>r x y H2 Q
def tUn (r:V→Hp→VK→Prop) (ta:TE):TE:=fun σ H Q=>ta σ H fun x H1=>r x H1 Q
def rI (C:Int→Int→Prop) (g:Int→Int→V):R2:=fun x y H Q=>∃ i j,x=.int i∧y=.int j∧C i j∧Q (g i j) H
def rI0 (g:Int→Int→V):R2:=fun x y H Q=>∃ i j,x=.int i∧y=.int j∧Q (g i j) H
def rU (g:Int→V):V→Hp→VK→Prop:=fun x H Q=>∃ i,x=.int i∧Q (g i) H
section
variable {X:Cx} {a b c:Expr} {ta tb tc:TE} {pos:Pos}
theorem binT (ha:PE X a ta) (hb:PE X b tb) {pins:List (Addr×Obj)} {s:Shared} {σ:St} {H:Hp} {R:V→V→Hp→Prop} (I:Inv X pins σ H s)
  (h:ta σ H fun x H1=>tb σ H1 fun y H2=>R x y H2) {Q:Value→Shared→Prop} {f:Value→Value→Sem Value}
  (hf:∀ v u s2 x y H2,Inv X pins σ H2 s2→RelV x v→RelV y u→R x y H2→wpAny (model X.prog X.w) X.A (f v u) Q X.xe s2) :
  wpAny (model X.prog X.w) X.A (eval a X.env) (fun v s₁=>wpAny (model X.prog X.w) X.A (eval b X.env) (fun u s₂=>wpAny (model X.prog X.w) X.A (f v u) Q X.xe s₂) X.xe s₁) X.xe s:=by
 refine thn (ha pins s σ H _ I h) fun v s1 ⟨x,H1,I1,r1,q1⟩=>?_
 refine thn (hb pins s1 σ H1 _ I1 q1) fun u s2 ⟨y,H2,I2,r2,q2⟩=>?_
 exact hf v u s2 x y H2 I2 r1 r2 q2
theorem zJ {op:Operator} {r:R2} (ho:OpR X (binaryOp op) r) (ha:PE X a ta) (hb:PE X b tb):PE X (.BinOp a op b pos) (tOp r ta tb):=by
 intro pins s σ H Q I h
 exact wpAny_BinOp (binT ha hb I h fun v u s2 x y H2 I2 rx ry q=>ho pins s2 σ H2 x y v u Q I2 rx ry q)
theorem ub (ho:UnR X (unaryOp op) r) (ha:PE X a ta):PE X (.UnaryOp op a pos) (tUn r ta):=by
 intro pins s σ H Q I h
 exact UnaryOp_ (thn (ha pins s σ H _ I h) fun v s1 ⟨x,H1,I1,r1,q1⟩=>ho pins s1 σ H1 x v Q I1 r1 q1)
theorem opI {f:Value→Value→Sem Value} {C:Int→Int→Prop} {g:Int→Int→Int}
  (rule:∀ (i j:Int) (t u:Tok) (s:Shared) (Q:Value→Shared→Prop) (E:Value→Shared→Prop),C i j→Q (.int (g i j) s.toks) { s with toks:=s.toks + 1 }→wpAny (model X.prog X.w) X.A (f (.int i t) (.int j u)) Q E s) :
  OpR X f (rI C fun i j=>.int (g i j)):=by
 intro pins s σ H x y v u Q I rx ry h
 obtain ⟨i,j,rfl,rfl,hc,q⟩:=h
 obtain ⟨t,rfl⟩:=rx
 obtain ⟨t',rfl⟩:=ry
 exact rule i j t t' s _ _ hc ⟨.int (g i j),H,I.tok _,⟨_,rfl⟩,q⟩
theorem opI0 {f:Value→Value→Sem Value} {g:Int→Int→Int}
  (rule:∀ (i j:Int) (t u:Tok) (s:Shared) (Q:Value→Shared→Prop) (E:Value→Shared→Prop),Q (.int (g i j) s.toks) { s with toks:=s.toks + 1 }→wpAny (model X.prog X.w) X.A (f (.int i t) (.int j u)) Q E s) :
  OpR X f (rI0 fun i j=>.int (g i j)):=by
 intro pins s σ H x y v u Q I rx ry h
 obtain ⟨i,j,rfl,rfl,q⟩:=h
 obtain ⟨t,rfl⟩:=rx
 obtain ⟨t',rfl⟩:=ry
 exact rule i j t t' s _ _ ⟨.int (g i j),H,I.tok _,⟨_,rfl⟩,q⟩
theorem opB0 {f:Value→Value→Sem Value} {g:Int→Int→Bool}
  (rule:∀ (i j:Int) (t u:Tok) (s:Shared) (Q:Value→Shared→Prop) (E:Value→Shared→Prop),Q (.bool (g i j)) s→wpAny (model X.prog X.w) X.A (f (.int i t) (.int j u)) Q E s) :
  OpR X f (rI0 fun i j=>.bl (g i j)):=by
 intro pins s σ H x y v u Q I rx ry h
 obtain ⟨i,j,rfl,rfl,q⟩:=h
 obtain ⟨t,rfl⟩:=rx
 obtain ⟨t',rfl⟩:=ry
 exact rule i j t t' s _ _ ⟨.bl (g i j),H,I,rfl,q⟩
def CDiv (i j:Int):Prop:=0 < j∧j < 1073741824
theorem yD:OpR X (binaryOp .Add) (rI0 fun i j=>.int (i + j)):=opI0 fun _ _ _ _ _ _ _ q=>add_int q
theorem vC:OpR X (binaryOp .Sub) (rI0 fun i j=>.int (i - j)):=opI0 fun _ _ _ _ _ _ _ q=>sub_int q
theorem uO:OpR X (binaryOp .FloorDiv) (rI CDiv fun i j=>.int (i / j)):=opI fun i j _ _ _ _ _ hc q=>by
 have h1:(0:Int) < j:=hc.1
 have h2:j < 1073741824:=hc.2
 exact floordiv_int (by omega) (by rw [Int.fdiv_eq_ediv_of_nonneg i (by omega)]; exact q) (.inl (PyProof.noPylong_small (by omega)))
theorem y8:OpR X (binaryOp .Mod) (rI (fun _ j=>0 < j) fun i j=>.int (i % j)):=opI fun i j _ _ _ _ _ hc q=>by
 have h1:(0:Int) < j:=hc
 exact mod_int' (by omega) (by rw [Int.fmod_eq_emod_of_nonneg i (by omega)]; exact q)
theorem unI {f:Value→Sem Value} {g:Int→Int}
  (rule:∀ (i:Int) (t:Tok) (s:Shared) (Q:Value→Shared→Prop) (E:Value→Shared→Prop),Q (.int (g i) s.toks) { s with toks:=s.toks + 1 }→wpAny (model X.prog X.w) X.A (f (.int i t)) Q E s) :
  UnR X f (rU fun i=>.int (g i)):=by
 intro pins s σ H x v Q I rx h
 obtain ⟨i,rfl,q⟩:=h
 obtain ⟨t,rfl⟩:=rx
 exact rule i t s _ _ ⟨.int (g i),H,I.tok _,⟨_,rfl⟩,q⟩
theorem wq:UnR X (unaryOp .USub) (rU fun i=>.int (-i)):=unI fun _ _ _ _ _ q=>neg_int q
end
def scal:V→V→Bool
 | .non,.non=>true | .non,.int _=>true | .int _,.non=>true | .non,.bl _=>true | .bl _,.non=>true | .non,.str _=>true | .str _,.non=>true
 | .int _,.int _=>true | .bl _,.bl _=>true | .str _,.str _=>true | .byt _,.byt _=>true
 | .int _,.str _=>true | .str _,.int _=>true | .bl _,.str _=>true | .str _,.bl _=>true
 | _,_=>false
def rEq:R2:=fun x y H Q=>scal x y=true∧Q (.bl (decide (x=y))) H
def rNe:R2:=fun x y H Q=>scal x y=true∧Q (.bl (!decide (x=y))) H
theorem u7:decide (V.int i=V.int j)=(i == j):=by
 rw [ξF]
 simp
theorem zaX:decide (V.bl i=V.bl j)=(i == j):=by
 rw [ξF]
 simp
theorem u6:decide (V.str i=V.str j)=(i == j):=by
 rw [ξF]
 simp
theorem U4:decide (V.byt i=V.byt j)=(i.toList == j.toList):=by
 rw [ξF]
 cases i
 cases j
 simp
section
variable {X:Cx} {a b c:Expr} {ta tb tc:TE} {pos:Pos}
theorem zS (I:Inv X pins σ H s) (q:Q (.bl k) H) (e:k=k'):EP X pins σ Q (.bool k') s:=by
 subst e
 exact ⟨.bl k,H,I,rfl,q⟩
theorem uP:OpR X (compareOp .Eq) rEq:=by
 intro pins s σ H x y v u Q I rx ry h
 obtain ⟨hs,q⟩:=h
 cases x with
 | non =>
  cases rx
  cases y with
  | non=>cases ry; exact PySem.EqNone.eq_none_none (zS I q (by simp))
  | bl j=>cases ry; exact PySem.EqNone.eq_none_bool (zS I q (by simp))
  | int j=>obtain ⟨t',rfl⟩:=ry; exact PySem.EqNone.eq_none_int (zS I q (by simp))
  | str j=>obtain ⟨t',rfl⟩:=ry; exact PySem.EqNone.eq_none_str (zS I q (by simp))
  | _=>exact absurd (show false=true from hs) ζt
 | bl i =>
  cases rx
  cases y with
  | non=>cases ry; exact PySem.EqNone.eq_bool_none (zS I q (by simp))
  | bl j=>cases ry; exact eq_bool (zS I q zaX)
  | str j=>obtain ⟨t',rfl⟩:=ry; exact PySem.EqMixed.eq_bool_str (zS I q (by simp))
  | _=>exact absurd (show false=true from hs) ζt
 | int i =>
  obtain ⟨t,rfl⟩:=rx
  cases y with
  | non=>cases ry; exact PySem.EqNone.eq_int_none (zS I q (by simp))
  | int j=>obtain ⟨t',rfl⟩:=ry; exact eq_int (zS I q u7)
  | str j=>obtain ⟨t',rfl⟩:=ry; exact PySem.EqMixed.eq_int_str (zS I q (by simp))
  | _=>exact absurd (show false=true from hs) ζt
 | str i =>
  obtain ⟨t,rfl⟩:=rx
  cases y with
  | non=>cases ry; exact PySem.EqNone.eq_str_none (zS I q (by simp))
  | bl j=>cases ry; exact PySem.EqMixed.eq_str_bool (zS I q (by simp))
  | int j=>obtain ⟨t',rfl⟩:=ry; exact PySem.EqMixed.eq_str_int (zS I q (by simp))
  | str j=>obtain ⟨t',rfl⟩:=ry; exact eq_str (zS I q u6)
  | _=>exact absurd (show false=true from hs) ζt
 | byt i =>
  obtain ⟨t,rfl⟩:=rx
  cases y with
  | byt j=>obtain ⟨t',rfl⟩:=ry; exact PySem.W.eq_bytes (zS I q U4)
  | _=>exact absurd (show false=true from hs) ζt
 | _=>cases y <;> exact absurd (show false=true from hs) ζt
theorem vg:OpR X (compareOp .NotEq) rNe:=by
 intro pins s σ H x y v u Q I rx ry h
 obtain ⟨hs,q⟩:=h
 cases x with
 | non =>
  cases rx
  cases y with
  | non=>cases ry; exact PySem.EqNone.ne_none_none (zS I q (by simp))
  | bl j=>cases ry; exact PySem.EqNone.ne_none_bool (zS I q (by simp))
  | int j=>obtain ⟨t',rfl⟩:=ry; exact PySem.EqNone.ne_none_int (zS I q (by simp))
  | str j=>obtain ⟨t',rfl⟩:=ry; exact PySem.EqNone.ne_none_str (zS I q (by simp))
  | _=>exact absurd (show false=true from hs) ζt
 | bl i =>
  cases rx
  cases y with
  | non=>cases ry; exact PySem.EqNone.ne_bool_none (zS I q (by simp))
  | bl j=>cases ry; exact ne_bool (zS I q (congrArg not zaX))
  | str j=>obtain ⟨t',rfl⟩:=ry; exact PySem.EqMixed.ne_bool_str (zS I q (by simp))
  | _=>exact absurd (show false=true from hs) ζt
 | int i =>
  obtain ⟨t,rfl⟩:=rx
  cases y with
  | non=>cases ry; exact PySem.EqNone.ne_int_none (zS I q (by simp))
  | int j=>obtain ⟨t',rfl⟩:=ry; exact ne_int (zS I q (congrArg not u7))
  | str j=>obtain ⟨t',rfl⟩:=ry; exact PySem.EqMixed.ne_int_str (zS I q (by simp))
  | _=>exact absurd (show false=true from hs) ζt
 | str i =>
  obtain ⟨t,rfl⟩:=rx
  cases y with
  | non=>cases ry; exact PySem.EqNone.ne_str_none (zS I q (by simp))
  | bl j=>cases ry; exact PySem.EqMixed.ne_str_bool (zS I q (by simp))
  | int j=>obtain ⟨t',rfl⟩:=ry; exact PySem.EqMixed.ne_str_int (zS I q (by simp))
  | str j=>obtain ⟨t',rfl⟩:=ry; exact ne_str (zS I q (congrArg not u6))
  | _=>exact absurd (show false=true from hs) ζt
 | byt i =>
  obtain ⟨t,rfl⟩:=rx
  cases y with
  | byt j=>obtain ⟨t',rfl⟩:=ry; exact PySem.W.ne_bytes (zS I q (congrArg not U4))
  | _=>exact absurd (show false=true from hs) ζt
 | _=>cases y <;> exact absurd (show false=true from hs) ζt
theorem YH:OpR X (compareOp .Lt) (rI0 fun i j=>.bl (decide (i < j))):=opB0 fun _ _ _ _ _ _ _ q=>lt_int q
theorem ZK:OpR X (compareOp .Gt) (rI0 fun i j=>.bl (decide (j < i))):=opB0 fun _ _ _ _ _ _ _ q=>gt_int q
theorem zeB:OpR X (compareOp .GtE) (rI0 fun i j=>.bl (decide (j≤i))):=opB0 fun _ _ _ _ _ _ _ q=>ge_int q
theorem VN:OpR X (compareOp .Is) (fun x y H Q=>y=.non∧Q (.bl (decide (x=.non))) H):=by
 intro pins s σ H x y v u Q I rx ry h
 obtain ⟨rfl,q⟩:=h
 cases ry
 refine is_none_gen (zS I q ?_)
 cases x <;> first
  | (cases rx; rfl)
  | (obtain ⟨t,rfl⟩:=rx; rfl)
theorem zbN:OpR X (compareOp .IsNot) (fun x y H Q=>y=.non∧Q (.bl (!decide (x=.non))) H):=by
 intro pins s σ H x y v u Q I rx ry h
 obtain ⟨rfl,q⟩:=h
 cases ry
 refine isnot_none_gen (zS I q ?_)
 cases x <;> first
  | (cases rx; rfl)
  | (obtain ⟨t,rfl⟩:=rx; rfl)
theorem zF (b:Expr) (h:op≠.In:=by decide) (h2:op≠.NotIn:=by decide):behindInMarks op b=false:=by
 have e1:(op == CmpOp.In)=false:=by cases op <;> first | rfl | exact absurd rfl h
 have e2:(op == CmpOp.NotIn)=false:=by cases op <;> first | rfl | exact absurd rfl h2
 cases b <;> simp [behindInMarks,e1,e2]
theorem yy (ho:OpR X (compareOp op) r) (ha:PE X a ta) (hb:PE X b tb) (hm:behindInMarks op b=false):PE X (.Compare a [op] [b] pos) (tOp r ta tb):=by
 intro pins s σ H Q I h
 exact wpAny_Compare1 (binT ha hb I h fun v u s2 x y H2 I2 rx ry q=>ho pins s2 σ H2 x y v u Q I2 rx ry q) hm
def Qp (t:TE):TT:=fun σ H Q=>t σ H fun x H'=>∃ k,x=.bl k∧Q k H'
theorem zr (ho:OpR X (compareOp op) r) (ha:PE X a ta) (hb:PE X b tb) (hm:behindInMarks op b=false):PT X (.Compare a [op] [b] pos) (Qp (tOp r ta tb)):=by
 intro pins s σ H Q I h
 refine wpAny_isTrue_Compare1 (thn (ha pins s σ H _ I h) fun v s1 ⟨x,H1,I1,r1,q1⟩=>thn (hb pins s1 σ H1 _ I1 q1) fun u s2 ⟨y,H2,I2,r2,q2⟩ =>
  thn (ho pins s2 σ H2 x y v u _ I2 r1 r2 q2) fun c s3 ⟨z,H3,I3,r3,k,e,q3⟩=>?_) hm
 subst e
 cases r3
 exact wpAny_truthy_bool ⟨H3,I3,q3⟩
theorem V7:(sizeLine:Nat) < 2 ^ 63:=by rw [sizeLine_eq]; decide
theorem xh (r:Vals [x] us):∃ u,us=[u]∧RelV x u:=by
 cases r with
 | cons r1 r2=>cases r2; exact ⟨_,rfl,r1⟩
theorem zes (r:Vals [x,y] us):∃ u w',us=[u,w']∧RelV x u∧RelV y w':=by
 cases r with
 | cons r1 r2 =>
  cases r2 with
  | cons r3 r4=>cases r4; exact ⟨_,_,rfl,r1,r3⟩
theorem Y1:yq X (.type "int") (fun xs H Q=>(∃ i,xs=[.int i]∧Q (.int i) H)∨∃ k,xs=[.bl k]∧Q (.int (if k then 1 else 0)) H):=by
 intro pins s σ H xs us Q I r h
 rcases h with ⟨i,rfl,q⟩ | ⟨k,rfl,q⟩
 ·obtain ⟨u,rfl,t,rfl⟩:=xh r
  exact call_int_int ⟨.int i,H,I,⟨_,rfl⟩,q⟩
 ·obtain ⟨u,rfl,r1⟩:=xh r
  cases r1
  exact call_int_bool ⟨.int (if k then 1 else 0),H,I.tok _,⟨_,rfl⟩,q⟩
end
section
variable {prog:Program} {w:World} {A:Around} {E:Value→Shared→Prop} {s:Shared} {K:ζa} {x dx C f:Addr} {mA:Str→Option Value} {name:Str} {v:Value}
end
theorem RelO.some_of (r:RelO (some v) o):∃ u,o=some u∧RelV v u:=by
 cases o with
 | none=>exact (show False from r).elim
 | some u=>exact ⟨u,rfl,r⟩
section
variable {P:Program} {w:World} {H H':Hp} {h h':Heap} {a C dx:Addr} {fs fs':List (Str×V)}
end
section
variable {X:Cx} {pins:List (Addr×Obj)} {σ:St} {H:Hp} {s:Shared} {a C dx:Addr} {fs:List (Str×V)} {f:Str} {v:V} {A:Around} {E:Value→Shared→Prop}
end
section
variable {X:Cx} {o e value:Expr} {f:Str} {pos pos' tpos:Pos} {ta tv:TE}
end
section
variable {X:Cx} {pins:List (Addr×Obj)} {σ:St} {H:Hp} {s:Shared} {A:Around} {E:Value→Shared→Prop} {Q:Value→Shared→Prop} {c:Value} {b:Bool}
end
structure Room (k:Nat) (A:Around):Prop where
 hd:A.handled=none
 dp:A.depth + 3 * k + 5 < recursionLimit
 un:A.units + 16 * k + 200 < cLine
theorem Room.mono (r:Room k A) (h:j≤k):Room j A:=⟨r.hd,by have:=r.dp; omega,by have:=r.un; omega⟩
theorem Room.deeper (r:Room (k + 1) A) (env:Env):Room k (A.deeper env) :=
 ⟨r.hd,by have:=r.dp; show A.depth + 1 + 3 * k + 5 < _; omega,by have:=r.un; show A.units + 3 + 16 * k + 200 < _; omega⟩
theorem Room.in1 (r:Room (k + 1) A):Room k A.in1 :=
 ⟨r.hd,by have:=r.dp; show A.depth + 3 * k + 5 < _; omega,by have:=r.un; show A.units + 1 + 16 * k + 200 < _; omega⟩
theorem Room.depth (r:Room k A):A.depth < recursionLimit:=by have:=r.dp; omega
theorem Room.units (r:Room k A):A.units + 64 < cLine:=by have:=r.un; omega
def tNil:TA:=fun _ H Q=>Q [] H
def zR (ta:TE) (tr:TA):TA:=fun σ H Q=>ta σ H fun x H1=>tr σ H1 fun xs H2=>Q (x :: xs) H2
section
variable {X:Cx} {e:Expr} {es:List Expr} {te:TE} {t:TA} {pos:Pos}
theorem zd:PA X [] tNil:=fun _ _ _ _ H Q I h=>Calls.spliced_nil ⟨[],H,I,.nil,h⟩
theorem zb (ha:PE X e te) (hr:PA X es t) (hs:starEach (e :: es) X.env=(false,eval e X.env) :: starEach es X.env:=by rfl):PA X (e :: es) (zR te t):=by
 intro pos pins s σ H Q I h
 rw [hs]
 show wpAny _ _ (spliced ((false,eval e X.env) :: backTo pos (starEach es X.env))) _ _ s
 refine Calls.spliced_cons (thn (ha pins s σ H _ I h) fun u s1 ⟨x,H1,I1,r1,q1⟩=>?_)
 exact thn (hr pos pins s1 σ H1 _ I1 q1) fun us s2 ⟨xs,H2,I2,r2,q2⟩=>⟨x :: xs,H2,I2,.cons r1 r2,q2⟩
def tTup (t:TA):TE:=fun σ H Q=>t σ H fun xs H1=>xs.length≤sizeLine∧∀ p,H1 p=none→Q (.ref p) (upd H1 p (.tup xs))
def tLst (t:TA):TE:=fun σ H Q=>t σ H fun xs H1=>xs.length≤sizeLine∧∀ p,H1 p=none→Q (.ref p) (upd H1 p (.lst xs))
theorem xG {x1} (h:PA X es t):PE X (.Tuple es x1 pos) (tTup t):=by
 intro pins s σ H Q I hq
 refine wpAny_Tuple_spliced (thn (h pos pins s σ H _ I hq) fun us s1 ⟨xs,H1,I1,r,z,q⟩=>⟨by rw [← r.length]; exact z,?_⟩)
 have hf:H1 s1.heap.objs.size=none:=I1.hok.fresh (ζh _)
 refine ⟨.ref s1.heap.objs.size,upd H1 s1.heap.objs.size (.tup xs),I1.laid (t':=s1.toks) (fun b u e=>ζi _ e) (ζh _) ?_,rfl,q _ hf⟩
 exact ⟨z,us,r,⟨_,ζy _ rfl,rfl,_,rfl⟩⟩
theorem zU (h:PA X es t):PE X (.List es pos) (tLst t):=by
 intro pins s σ H Q I hq
 refine wpAny_List_spliced (thn (h pos pins s σ H _ I hq) fun us s1 ⟨xs,H1,I1,r,z,q⟩=>⟨by rw [← r.length]; exact z,?_⟩)
 have hf:H1 s1.heap.objs.size=none:=I1.hok.fresh (ζh _)
 refine ⟨.ref s1.heap.objs.size,upd H1 s1.heap.objs.size (.lst xs),I1.laid (t':=s1.toks) (fun b u e=>ζi _ e) (ζh _) ?_,rfl,q _ hf⟩
 exact ⟨z,us,0,r,ζy _ rfl⟩
end
abbrev Sp:=List V→Hp→VK→XK→Prop
abbrev CXT:=List Env→Hp→Shared→XK→Value→Shared→Prop
structure Env0 (P:Program) (w:World) (K:ζa) (mg:Str→Option Value) (base:Heap) (A:Around) (outer:List Env) (s:Shared) (H:Hp):Prop where
 frames:A.frames=some outer
 mod:Mod K mg base
 bs:∀ b o,base.get? b=some o→s.heap.get? b=some o∧H b=none
 bsz:base.objs.size≤s.heap.objs.size
 funs:s.heap.FunFrames base outer
 frf:∀ b∈frs outer,H b=none
 hok:HOk P w H s.heap
 bare:AllBare s.gens
 tb:TbOk K H
def CE (outer:List Env) (P:Program) (w:World) (H:Hp) (s:Shared) (Q:VK) (u:Value) (s':Shared):Prop :=
 ∃ v H',s'.os=s.os∧AllBare s'.gens∧Un (frs outer) [] H H' s.heap s'.heap∧HOk P w H' s'.heap∧RelV v u∧Q v H'
def CR (CX:CXT) (outer:List Env) (P:Program) (w:World) (H:Hp) (s:Shared) (Q:VK) (E:XK) (r:Result) (s':Shared):Prop :=
 match r with
 | .ok (.ret u)=>CE outer P w H s Q u s'
 | .ok _=>False
 | .error e=>CX outer H s E e s'
structure FnOk (P:Program) (w:World) (K:ζa) (mg:Str→Option Value) (base:Heap) (CX:CXT) (k:Nat) (f:Addr) (fd:FuncData) (ps:List Str) (sp:Sp):Prop where
 len:∀ vs H Q E,sp vs H Q E→vs.length=ps.length
 run:∀ (A:Around) (outer:List Env) (s:Shared) (H:Hp) (args:Args) (us:List Value) (vs:List V) (Q:VK) (E:XK),Room k A→Env0 P w K mg base A outer s H→BindsTo s fd args (ps.zip us)→Vals vs us→sp vs H Q E →
  codeAny (model P w) A (.call (.ref f) args) (CR CX outer P w H s Q E) s
theorem Env0.in1 {P:Program} {w:World} {K:ζa} {mg:Str→Option Value} {base:Heap} {A:Around} {outer:List Env} {s:Shared} {H:Hp} (e:Env0 P w K mg base A outer s H) :
  Env0 P w K mg base A.in1 outer s H:=⟨e.frames,e.mod,e.bs,e.bsz,e.funs,e.frf,e.hok,e.bare,e.tb⟩
section
variable {X:Cx} {pins:List (Addr×Obj)} {σ:St} {H:Hp} {s s':Shared}
theorem Inv.env0 (I:Inv X pins σ H s):Env0 X.prog X.w X.K X.mg X.base X.A X.stack s H :=
 ⟨I.ok.frames,I.ok.mod,I.bs,ζV I.ok.bsz I.sz,I.stack,I.stkFree,I.hok,I.bare,I.ok.tb.un I.base⟩
theorem Inv.after (I:Inv X pins σ H s) (h:CE X.stack X.prog X.w H s Q u s'):EP X pins σ Q u s':=by
 obtain ⟨v,H',os,bare,un,hok,r,q⟩:=h
 obtain ⟨hh,g,d,t,os'⟩:=s'
 obtain rfl:os'=s.os:=os
 exact ⟨v,H',I.call (h':=hh) (g':=g) (d':=d) (t':=t) (ch:=[]) un hok bare (fun b z=>absurd z (by simp)),r,q⟩
end
def v6 (sp:Sp) (dvs:List V) (E:XK) (t:TA):TE:=fun σ H Q=>t σ H fun vs H1=>sp (vs ++ dvs) H1 Q E
def xg (K:ζa) (fd:FuncData) (ps:List Str) (ds:List Value):Prop :=
 ∀ (s:Shared) (us:List Value),K.In s.heap→(us ++ ds).length=ps.length→BindsTo s fd ⟨us,[]⟩ (ps.zip (us ++ ds))
theorem xg.all {K:ζa} {fd:FuncData} {ps:List Str} (h:∀ us:List Value,us.length=ps.length→bindArgs fd ⟨us,[]⟩=pure (ps.zip us)):xg K fd ps []:=fun s us _ hl=>by
 rw [ζG] at hl ⊢
 exact .of_eq (h us hl)
def Wi (CX:CXT) (X:Cx) (E:XK):Prop:=∀ (pins:List (Addr×Obj)) (σ:St) (H:Hp) (s:Shared) (e:Value) (s':Shared),Inv X pins σ H s→CX X.stack H s E e s'→X.xe e s'
section
variable {X:Cx} {CX:CXT} {k:Nat} {f C:Addr} {fd:FuncData} {ps:List Str} {sp:Sp} {dvs:List V} {ds:List Value} {E:XK} {x m:Str} {p pos apos:Pos} {e o:Expr} {es:List Expr} {ta:TE} {t:TA}
theorem QC (F:FnOk X.prog X.w X.K X.mg X.base CX k f fd ps sp) (hr:Room k X.A) (hb:xg X.K fd ps ds) (hd:Vals dvs ds) (hx:Wi CX X E)
  (I:Inv X pins σ H s) (r:Vals vs us) (h:sp (vs ++ dvs) H Q E):wpAny (model X.prog X.w) X.A (call (.ref f) us) (EP X pins σ Q) X.xe s:=by
 have r2:Vals (vs ++ dvs) (us ++ ds):=r.append hd
 have hl:(us ++ ds).length=ps.length:=by rw [← r2.length]; exact F.len _ _ _ _ h
 refine wpAny_call (codeAny_mono (F.run X.A X.stack s H ⟨us,[]⟩ (us ++ ds) (vs ++ dvs) Q E hr I.env0 (hb s us I.kIn hl) r2 h) fun r s' hq=>?_)
 cases r with
 | error e=>exact hx pins σ H s e s' I hq
 | ok fl =>
  cases fl with
  | ret u=>exact I.after hq
  | next=>exact False.elim hq
  | brk=>exact False.elim hq
  | cont=>exact False.elim hq
theorem zbM (F:FnOk X.prog X.w X.K X.mg X.base CX k f fd ps sp) (hr:Room k X.A) (hg:Gl X x) (hm:X.mg x=some (.ref f)) (hk:PySem.W.keepIn X.K (.ref f)=true) (hb:xg X.K fd ps ds) (hd:Vals dvs ds) (hx:Wi CX X E)
  (ha:PA X (e :: es) t) (hdb:(x == ("__debug__" : Str))=false:=by decide) (he:starEach (e :: es) X.env=(false,eval e X.env) :: starEach es X.env:=by rfl) (hpl:(backTo pos (starEach es X.env)).any (·.1)=false:=by rfl) :
  PE X (.Call (.Name x p) (e :: es) [] pos) (v6 sp dvs E t):=by
 intro pins s σ H Q I h
 refine wpAny_Call_Name_kw (XZ I hg hm ?_ hdb)
 refine PySem.W.callWith_K (h₀:=X.base) I.ok.mod.kin hk (thn (ha pos pins s σ H _ I h) fun us s1 ⟨vs,H1,I1,r,q⟩=>⟨I1.kIn,?_⟩) he hpl
 exact QC F hr hb hd hx I1 r q
end
section
variable {X:Cx} {CX:CXT} {k:Nat} {f C:Addr} {fd:FuncData} {ps ks:List Str} {sp:Sp} {E:XK} {x m:Str} {p pos apos kpos:Pos} {e o:Expr} {es:List Expr} {kws:List Keyword} {te ta:TE} {t tk:TA} {nm:Option Str}
variable {g:List Value→List Value→List Value} {gV:List V→List V→List V}
end
structure zA (N P:List Str) (sc:Scope):Prop where
 kind:sc.kind=.function:=by rfl
 co:sc.isCoroutine=false:=by rfl
 gen:sc.isGenerator=false:=by rfl
 nd:N.Nodup:=by decide +kernel
 pre:N.take P.length=P:=by rfl
 par:∀ x∈P,sc.names.lookup x=some .local∨sc.names.lookup x=some .cell:=by decide +kernel
 nofree:∀ y∈sc.names,y.2≠.free:=by decide +kernel
theorem zA.n (_:zA N P sc) (k:Nat) (h:N.length=k:=by rfl):N.length=k:=h
theorem Y3 {kindOf:Str→Option NameKind} {x:Str}:∀ {binds:List (Str×Value)} {m:Str→Option Value},(∀ v,(x,v)∉binds)→bindL kindOf binds m x=m x
 | [],_,_=>rfl
 | (n,v) :: r,m,h=>by
  unfold bindL
  rw [Y3 fun w hw=>h w (ζr _ hw)]
  split
  ·have:x≠n:=by rintro rfl; exact h v ζj
   simp [this]
  ·rfl
theorem Y5 {kindOf:Str→Option NameKind} {x:Str}:∀ {binds:List (Str×Value)} {m:Str→Option Value},(∀ v,(x,v)∉binds)→bindC kindOf binds m x=m x
 | [],_,_=>rfl
 | (n,v) :: r,m,h=>by
  unfold bindC
  rw [Y5 fun w hw=>h w (ζr _ hw)]
  split
  ·rfl
  ·have:x≠n:=by rintro rfl; exact h v ζj
   simp [this]
theorem Y4 {kindOf:Str→Option NameKind} {x:Str} {v:Value}:∀ {P:List Str} {vs:List Value} {i:Nat} {m:Str→Option Value},P.Nodup→P[i]?=some x→vs[i]?=some v→kindOf x=some .local →
  bindL kindOf (P.zip vs) m x=some v
 | [],_,_,_,_,h,_,_=>by simp at h
 | _ :: _,[],_,_,_,_,h,_=>by simp at h
 | p :: P,w :: vs,0,m,nd,h1,h2,hk=>by
  simp at h1 h2; subst h1; subst h2
  show bindL kindOf ((p,w) :: P.zip vs) m p=_
  unfold bindL
  rw [Y3 fun v hv=>(ζU.mp nd).1 (List.of_mem_zip hv).1,if_pos hk]
  simp
 | p :: P,w :: vs,i + 1,m,nd,h1,h2,hk=>by
  show bindL kindOf ((p,w) :: P.zip vs) m x=_
  unfold bindL
  exact Y4 (i:=i) (List.nodup_cons.mp nd).2 (by simpa using h1) (by simpa using h2) hk
theorem Y6 {kindOf:Str→Option NameKind} {x:Str} {v:Value}:∀ {P:List Str} {vs:List Value} {i:Nat} {m:Str→Option Value},P.Nodup→P[i]?=some x→vs[i]?=some v→kindOf x≠some .local →
  bindC kindOf (P.zip vs) m x=some v
 | [],_,_,_,_,h,_,_=>by simp at h
 | _ :: _,[],_,_,_,_,h,_=>by simp at h
 | p :: P,w :: vs,0,m,nd,h1,h2,hk=>by
  simp at h1 h2; subst h1; subst h2
  show bindC kindOf ((p,w) :: P.zip vs) m p=_
  unfold bindC
  rw [Y5 fun v hv=>(ζU.mp nd).1 (List.of_mem_zip hv).1,if_neg hk]
  simp
 | p :: P,w :: vs,i + 1,m,nd,h1,h2,hk=>by
  show bindC kindOf ((p,w) :: P.zip vs) m x=_
  unfold bindC
  exact Y6 (i:=i) (List.nodup_cons.mp nd).2 (by simpa using h1) (by simpa using h2) hk
def start (N:List Str) (vs:List V):St:=vs.map some ++ List.replicate (N.length - vs.length) none
def cxOf (CX:CXT) (P:Program) (w:World) (K:ζa) (mg:Str→Option Value) (base:Heap) (N:List Str) (qual:Str) (scope:Scope) (f:Addr) (cd:Value) (A:Around) (outer:List Env) (s:Shared) (H:Hp) (E:XK):Cx where
 prog:=P
 w:=w
 K:=K
 mg:=mg
 base:=base
 A:=A.deeper (envOfC qual scope s.heap.objs.size f cd)
 N:=N
 s₀:=s
 H₀:=H
 env:=envOfC qual scope s.heap.objs.size f cd
 outer:=outer
 stack:=envOfC qual scope s.heap.objs.size f cd :: outer
 ex:=[]
 calm:=true
 fn:=fun _=>true
 pn:=[]
 xe:=fun e s'=>wpAny (model P w) (A.deeper (envOfC qual scope s.heap.objs.size f cd)) (leaving (envOfC qual scope s.heap.objs.size f cd) e) (fun _ s''=>CX outer H s E e s'') (fun e' s''=>CX outer H s E e' s'') s'
theorem Vi {sc:Scope} {n:Nat} {x:Str} (h:sc.names.lookup x=some .cell):∃ c,(cellsFrom n sc.names []).lookup x=some c:=by
 have q:=PySem.W.cellsFrom_some sc.names n [] (.inl h)
 exact ζX.mp q
theorem TZ {CX:CXT} {P:Program} {w:World} {K:ζa} {mg:Str→Option Value} {base:Heap} {N ps:List Str} {qual:Str} {scope:Scope} {f:Addr} {cd:Value} {A:Around} {outer:List Env} {s s1:Shared} {H:Hp} {E:XK} {us:List Value} {vs:List V}
  (S:zA N ps scope) (hd:A.handled=none) (e0:Env0 P w K mg base A outer s H) (hl:vs.length=ps.length) (r:Vals vs us)
  (x:InCallC s s.heap.objs.size (bindL (envOfC qual scope s.heap.objs.size f cd).kindOf (ps.zip us) fun _=>none) (cellsFrom (s.heap.objs.size + 1) scope.names []) (bindC (envOfC qual scope s.heap.objs.size f cd).kindOf (ps.zip us) fun _=>none) s1) :
  Inv (cxOf CX P w K mg base N qual scope f cd A outer s H E) [] (start N vs) H s1:=by
 have hpl:ps.length≤N.length:=by have:=congrArg List.length S.pre; rw [ζ7] at this; omega
 obtain ⟨h1,tk,rfl,hk⟩:=x.done
 have noA:∀ b:Addr,b∉(cxOf CX P w K mg base N qual scope f cd A outer s H E).ex:=fun b z=>absurd (show b∈([]:List Addr) from z) (by simp)
 refine ⟨⟨e0.mod,S.kind,rfl,rfl,ζh _,fun y z c h1 h2=>?_,fun y hy=>?_,fun y c _ h=>?_,fun _=>hd,Around.frames_deeper e0.frames,.inr ⟨rfl,rfl⟩,fun b z=>absurd z (noA b),e0.bs,e0.bsz,fun b _ _=>noA b,fun b z=>absurd z (noA b),e0.funs,e0.frf,e0.tb⟩,
  rfl,e0.bare,Un.kept hk,⟨_,x.toInCall.ns,fun i y v h1 h2 h3=>?_⟩,fun y c h=>⟨_,x.cell y c h⟩,e0.hok.fresh (Nat.le_refl _),fun y c h=>?_,fun p hp=>absurd (show p∈([]:List (Addr×Obj)) from hp) (by simp),e0.hok.kept hk,?_⟩
 ·exact name_of_addr x.apart (PySem.mem_of_lookup h1) (PySem.mem_of_lookup h2)
 ·have hy:scope.names.lookup y=some .cell∨scope.names.lookup y=some .free:=hy
  rcases hy with hy | hy
  ·exact Vi hy
  ·exact absurd rfl (S.nofree _ (PySem.mem_of_lookup hy))
 ·exact ξ8 (x.above y c (PySem.mem_of_lookup h))
 ·have hi:i < vs.length:=by
   unfold start at h2
   by_cases hi:i < vs.length
   ·exact hi
   ·rw [List.getElem?_append_right (by simpa using hi)] at h2
    rw [ξD] at h2
    split at h2 <;> cases h2
  have ha:vs[i]?=some v:=by
   unfold start at h2
   rw [List.getElem?_append_left (by simpa using hi),List.getElem?_map] at h2
   cases e:vs[i]? with
   | none=>rw [e] at h2; cases h2
   | some a=>rw [e] at h2; cases h2; rfl
  obtain ⟨u,hu,rv⟩:=r.get ha
  have hp:ps[i]?=some y:=by
   rw [← S.pre,ξW (by omega)]; exact h1
  have ndP:ps.Nodup:=by rw [← S.pre]; exact S.nd.sublist (List.take_sublist _ _)
  refine ⟨u,rv,?_⟩
  rcases S.par y (ζk hp) with k | k
  ·exact .inl ⟨k,Y4 ndP hp hu k⟩
  ·obtain ⟨c,e⟩:=Vi (n:=s.heap.objs.size + 1) k
   refine .inr ⟨.inl k,c,e,?_⟩
   have q:=x.cell y c e
   rw [Y6 ndP hp hu (by show scope.names.lookup y≠_; rw [k]; decide)] at q
   exact q
 ·exact .inl (e0.hok.fresh (ξ8 (x.above y c (PySem.mem_of_lookup h))))
 ·unfold start
  show _=N.length
  rw [ζf,ζb,List.length_replicate]
  omega
theorem zc5 {CX:CXT} {P:Program} {w:World} {K:ζa} {mg:Str→Option Value} {base:Heap} {k:Nat} {f:Addr} {name qual:Str} {params:Arguments} {body:List Stmt} {scope:Scope} {dV kV doc pm cdv ct oc:Value} {an od:Option Addr}
  {osl:Array (Option Value)} {N ps:List Str} {sp:Sp} (lk:K.lookup f=some ⟨oc,od,.func (PySem.W.fnOf name qual params body scope dV kV doc pm an cdv ct),osl⟩) (hcd:PySem.W.codeIn K cdv qual=true) (S:zA N ps scope)
  (len:∀ vs H Q E,sp vs H Q E→vs.length=ps.length)
  (hbody:∀ (A:Around) (outer:List Env) (s:Shared) (H:Hp) (vs:List V) (Q:VK) (E:XK),Room k (A.deeper (envOfC qual scope s.heap.objs.size f cdv))→sp vs H Q E →
   ∃ t,PSs (cxOf CX P w K mg base N qual scope f cdv A outer s H E) body t∧t { nx:=fun _ H'=>Q .non H',rt:=Q } (start N vs) H) :
  FnOk P w K mg base CX (k + 1) f (PySem.W.fnOf name qual params body scope dV kV doc pm an cdv ct) ps sp:=by
 refine ⟨len,fun A outer s H args us vs Q E hr e0 hb r hsp=>?_⟩
 have hl:=len _ _ _ _ hsp
 have KX:K.In s.heap:=e0.mod.kin.keeps fun b o e=>(e0.bs b o e).1
 have lim:s.heap.NoLimit:=e0.mod.nolimit.keeps fun b o e=>(e0.bs b o e).1
 have hkind:∀ y∈ps.zip us,scope.names.lookup y.1=some .local∨(scope.names.lookup y.1=some .cell∧((cellsFrom (s.heap.objs.size + 1) scope.names []).lookup y.1).isSome=true):=fun ⟨n,v⟩ hy=>by
  rcases S.par n (List.of_mem_zip hy).1 with q | q
  ·exact .inl q
  ·exact .inr ⟨q,PySem.W.cellsFrom_some _ _ _ (.inl q)⟩
 refine codeAny_call_function hr.depth (KX _ _ lk) rfl S.co S.gen rfl (PySem.W.codeRec_of KX hcd) (hb _ _ _ _ ?_)
 refine wpAny_newFunctionEnv_cells S.kind hkind fun env he s1 x=>?_
 subst he
 refine ⟨lim.keeps x.toInCall.keep,codeAny_func ?_⟩
 obtain ⟨t,ht,hq⟩:=hbody A outer s H vs Q E (hr.deeper _) hsp
 have I:Inv (cxOf CX P w K mg base N qual scope f cdv A outer s H E) [] (start N vs) H s1:=TZ S hr.hd e0 hl r x
 refine wpAny_mono (ht [] s1 (start N vs) H _ I hq) (fun fl s' hs=>?_) fun e s' hs=>hs
 have fin:∀ {σ':St} {H':Hp} {v:V} {u:Value},Inv (cxOf CX P w K mg base N qual scope f cdv A outer s H E) [] σ' H' s'→RelV v u→Q v H'→CE outer P w H s Q u s' :=
  fun {σ' H' v u} J rv q=>⟨v,H',J.os,J.bare,J.base,J.hok,rv,q⟩
 cases fl with
 | ret u =>
  obtain ⟨v,σ',H',J,rv,q⟩:=hs
  exact fin J rv q
 | next =>
  obtain ⟨σ',H',J,q⟩:=hs
  exact fin (v:=V.non) (u:=Value.none) J rfl q
 | brk =>
  obtain ⟨_,_,_,q⟩:=hs
  exact False.elim q
 | cont =>
  obtain ⟨_,_,_,q⟩:=hs
  exact False.elim q
section
variable {X:Cx} {x:Str} {p pos:Pos} {e:Expr} {es:List Expr} {t:TA} {id T:String} {r:List V→Hp→VK→Prop}
def tCB (r:List V→Hp→VK→Prop) (t:TA):TE:=fun σ H Q=>t σ H fun vs H1=>r vs H1 Q
theorem Q8 (hc:yq X (.builtin id) r) (hg:Gl X x) (hm:X.mg x=none) (hv:bootBuiltins x=some (.builtin id)) (ha:PA X (e :: es) t) (hn:x ≠ "__name__" := by decide) (hdb:(x == ("__debug__" : Str))=false:=by decide)
  (he:starEach (e :: es) X.env=(false,eval e X.env) :: starEach es X.env:=by rfl) (hpl:(backTo pos (starEach es X.env)).any (·.1)=false:=by rfl):PE X (.Call (.Name x p) (e :: es) [] pos) (tCB r t):=by
 intro pins s σ H Q I h
 refine wpAny_Call_Name_kw (uk I hg hm hv ?_ hn hdb)
 exact PyProof.Rows.callWith_builtin1 (thn (ha pos pins s σ H _ I h) fun us s1 ⟨vs,H1,I1,r1,q1⟩=>hc pins s1 σ H1 vs us Q I1 r1 q1) he hpl
theorem Tx (hc:yq X (.type T) r) (hg:Gl X x) (hm:X.mg x=none) (hv:bootBuiltins x=some (.type T)) (ha:PA X (e :: es) t) (hn:x ≠ "__name__" := by decide) (hdb:(x == ("__debug__" : Str))=false:=by decide)
  (he:starEach (e :: es) X.env=(false,eval e X.env) :: starEach es X.env:=by rfl) (hpl:(backTo pos (starEach es X.env)).any (·.1)=false:=by rfl):PE X (.Call (.Name x p) (e :: es) [] pos) (tCB r t):=by
 intro pins s σ H Q I h
 refine wpAny_Call_Name_kw (uk I hg hm hv ?_ hn hdb)
 exact PyProof.Rows.callWith_type1 (thn (ha pos pins s σ H _ I h) fun us s1 ⟨vs,H1,I1,r1,q1⟩=>hc pins s1 σ H1 vs us Q I1 r1 q1) he hpl
end
end L2
namespace HT
open PySem PyProof.Rows
section
open PySem.SeqAt
open PySem.AutoSeq1 (wpAny_loadPart')
open PySem.MeetsSeq PySem.MeetsSeq2 PySem.MeetsSeq3
end
section
variable {prog:Program} {w:World} {A:Around} {E:Value→Shared→Prop} {s:Shared}
def sIx (n d:Nat):Option Int→Nat
 | none=>d
 | some v=>if v < 0 then (v + (n:Int)).toNat else min v.toNat n
theorem Xr (n d k:Nat):sIx n d (some (k:Int))=min k n:=by
 show (if (k:Int) < 0 then ((k:Int) + (n:Int)).toNat else min (k:Int).toNat n)=min k n
 rw [if_neg (by omega),Int.toNat_natCast]
end
end HT
namespace L2
open PySem PySem.Spec PyProof.Rows
abbrev TO:=St→Hp→(Option Int→Hp→Prop)→Prop
def PO (X:Cx) (e:Option Expr) (t:TO):Prop :=
 ∀ (pins:List (Addr×Obj)) (s:Shared) (σ:St) (H:Hp) (Q:Option Int→Hp→Prop),Inv X pins σ H s→t σ H Q →
  wpAny (model X.prog X.w) X.A (evalPart e X.env) (fun u s'=>∃ o H',Inv X pins σ H' s'∧IsPart u o∧Q o H') X.xe s
def Uw:TO:=fun _ H Q=>Q none H
def zcP (t:TE):TO:=fun σ H Q=>t σ H fun x H1=>∃ i,x=.int i∧Q (some i) H1
theorem x0:∀ {us:List Value},Vals (ns.map V.int) us→IntsAre us ns:=by
 induction ns with
 | nil=>intro us r; rw [List.map_nil] at r; cases r; exact .nil
 | cons n ns ih =>
  intro us r
  rw [ζH] at r
  cases r with
  | cons r1 r2 =>
   obtain ⟨t,e⟩:=r1
   subst e
   exact .cons n t (ih r2)
section
variable {X:Cx} {e:Expr} {te:TE} {lo hi:Option Expr} {tl th:TO} {pos p2:Pos}
theorem XA:PO X none Uw:=by
 intro pins s σ H Q I h
 rw [evalPart_none]
 exact wpAny_pure ⟨none,H,I,.none,h⟩
theorem uJ (h:PE X e te):PO X (some e) (zcP te):=by
 intro pins s σ H Q I hw
 rw [evalPart_some]
 refine thn (h pins s σ H _ I hw) fun u s1 ⟨x,H1,I1,r1,q1⟩=>?_
 obtain ⟨i,rfl,q⟩:=q1
 obtain ⟨t,rfl⟩:=r1
 exact ⟨some i,H1,I1,.int i t,q⟩
def SlR (X:Cx) (r:V→Option Int→Option Int→Hp→VK→Prop):Prop :=
 ∀ (pins:List (Addr×Obj)) (s:Shared) (σ:St) (H:Hp) (x:V) (v vl vu:Value) (lo hi:Option Int) (sl:Addr) (Q:VK),Inv X pins σ H s→RelV x v→s.heap.IsSliceOf sl vl vu .none→IsPart vl lo→IsPart vu hi→r x lo hi H Q →
  ∃ T id,typeLookup (.type T) "__getitem__" = pure (some (.builtin id))∧s.TypeIs v T∧wpAny (model X.prog X.w) X.A (getItem v (.ref sl)) (EP X pins σ Q) X.xe s
def tSl (r:V→Option Int→Option Int→Hp→VK→Prop) (te:TE) (tl th:TO):TE:=fun σ H Q=>te σ H fun x H1=>tl σ H1 fun l H2=>th σ H2 fun u H3=>r x l u H3 Q
theorem uK (hr:SlR X r) (he:PE X e te) (hl:PO X lo tl) (hu:PO X hi th):PE X (.Subscript e (.Slice lo hi none p2) pos) (tSl r te tl th):=by
 intro pins s σ H Q I h
 refine Subscript_ (thn (he pins s σ H _ I h) fun v s1 ⟨x,H1,I1,r1,q1⟩=>?_)
 refine wpAny_Slice (thn (hl pins s1 σ H1 _ I1 q1) fun vl s2 ⟨l,H2,I2,pl,q2⟩=>thn (hu pins s2 σ H2 _ I2 q2) fun vu s3 ⟨u,H3,I3,pu,q3⟩=>?_)
 rw [evalPart_none]
 refine wpAny_pure ?_
 have I4:Inv X pins σ H3 { s3 with heap:=s3.heap.push { cls:=.type "slice", data:=.fields #[vl,vu,.none] } }:=I3.kept (t':=s3.toks) fun b ob q=>ζi _ q
 obtain ⟨T,id,hT,ht,hg⟩:=hr pins { s3 with heap:=s3.heap.push { cls:=.type "slice", data:=.fields #[vl,vu,.none] } } σ H3 x v vl vu l u s3.heap.objs.size Q I4 r1 (Heap.IsSliceOf.new ..) pl pu q3
 show wpAny (model X.prog X.w) X.A (subscriptTail e (.Slice lo hi none p2) v (.ref s3.heap.objs.size)) (EP X pins σ Q) X.xe { s3 with heap:=s3.heap.push { cls:=.type "slice", data:=.fields #[vl,vu,.none] } }
 exact tail_any (ops:=[.ref s3.heap.objs.size,v]) ht hT hg (by with_unfolding_all rfl)
def cutV (xs:List V) (lo hi:Option Int):List V:=(xs.drop (HT.sIx xs.length 0 lo)).take (HT.sIx xs.length xs.length hi - HT.sIx xs.length 0 lo)
theorem Vh (xs:List V) (lo hi:Option Int):(cutV xs lo hi).length≤xs.length:=by
 unfold cutV
 rw [ζ7,ζ0]
 omega
end
def ixN (n:Nat) (i:Int):Option Nat:=if 0≤i then (if i < n then some i.toNat else none) else if -(n:Int)≤i then some (i + n).toNat else none
def atI {α:Type} (xs:List α) (i:Int):Option α:=(ixN xs.length i).bind fun j=>xs[j]?
theorem zb7 {n:Nat} (h:ixN n i=some j):seqIndex? i n=some j∧j < n∧-(n:Int)≤i∧i < n:=by
 unfold ixN at h
 by_cases h0:0≤i
 ·rw [if_pos h0] at h
  by_cases h1:i < n
  ·rw [if_pos h1] at h
   have e:i.toNat=j:=ζI h
   exact ⟨by rw [seqIndex_of h0 h1,e],by omega,by omega,h1⟩
  ·rw [if_neg h1] at h; cases h
 ·rw [if_neg h0] at h
  by_cases h1:-(n:Int)≤i
  ·rw [if_pos h1] at h
   have e:(i + n).toNat=j:=ζI h
   exact ⟨by rw [seqIndex_neg (by omega) h1,e],by omega,h1,by omega⟩
  ·rw [if_neg h1] at h; cases h
theorem Tc (h:atI xs i=some v):∃ j,seqIndex? i xs.length=some j∧xs[j]?=some v∧j < xs.length∧-(xs.length:Int)≤i∧i < xs.length:=by
 unfold atI at h
 cases e:ixN xs.length i with
 | none=>rw [e] at h; cases h
 | some j =>
  rw [e] at h
  obtain ⟨h1,h2,h3,h4⟩:=zb7 e
  exact ⟨j,h1,h,h2,h3,h4⟩
theorem zcH {j:Nat} (h:xs[j]?=some v):atI xs (j:Int)=some v:=by
 have hj:j < xs.length:=(ζe.mp h).1
 have e:ixN xs.length (j:Int)=some j:=by
  unfold ixN
  rw [if_pos (by omega),if_pos (by omega)]; simp
 unfold atI; rw [e]; exact h
theorem vI (xs:List α) (v:α):atI (xs ++ [v]) (-1)=some v:=by
 have hl:(xs ++ [v]).length=xs.length + 1:=by simp
 have e:ixN (xs ++ [v]).length (-1)=some xs.length:=by
  unfold ixN
  rw [hl,if_neg (by decide),if_pos (by omega)]
  congr 1
  omega
 unfold atI
 rw [e]
 show (xs ++ [v])[xs.length]?=some v
 simp
def Te (b:Expr):Prop:=∀ o i,subscripted b false o i=operate [o,i] (getItem o i)
def IxR (X:Cx) (r:R2):Prop :=
 ∀ (value slice:Expr) (pins:List (Addr×Obj)) (s:Shared) (σ:St) (H:Hp) (x y:V) (v u:Value) (Q:VK),Inv X pins σ H s→RelV x v→RelV y u→r x y H Q →
  subscripted slice false v u=operate [v,u] (getItem v u)→wpAny (model X.prog X.w) X.A (subscriptTail value slice v u) (EP X pins σ Q) X.xe s
def MtR (X:Cx) (id:String) (r:V→List V→Hp→VK→Prop):Prop :=
 ∀ (pins:List (Addr×Obj)) (s:Shared) (σ:St) (H:Hp) (x:V) (xs:List V) (v:Value) (us:List Value) (Q:VK),Inv X pins σ H s→RelV x v→Vals xs us→r x xs H Q →
  wpAny (model X.prog X.w) X.A (call (.builtin id) (v :: us)) (EP X pins σ Q) X.xe s
section
variable {X:Cx} {a b:Expr} {ta tb:TE} {pos:Pos}
theorem zey (hr:IxR X r) (ha:PE X a ta) (hb:PE X b tb) (hs:Te b):PE X (.Subscript a b pos) (tOp r ta tb):=by
 intro pins s σ H Q I h
 exact Subscript_ (binT ha hb I h fun v u s2 x y H2 I2 rx ry q=>hr a b pins s2 σ H2 x y v u Q I2 rx ry q (hs _ _))
def rIxL (K:ζa):R2:=fun x y H Q=>∃ p xs i v,x=.ref p∧y=.int i∧SqL K H p xs∧atI xs i=some v∧Q v H
def rIxT (K:ζa):R2:=fun x y H Q=>∃ p xs i v,x=.ref p∧y=.int i∧SqT K H p xs∧atI xs i=some v∧Q v H
theorem zb6:IxR X (rIxL X.K):=by
 intro value slice pins s σ H x y v u Q I rx ry h hs
 obtain ⟨p,xs,i,z,rfl,rfl,hq,he,q⟩:=h
 cases rx
 obtain ⟨t,rfl⟩:=ry
 obtain ⟨its,r,pl,hz⟩:=I.list hq
 obtain ⟨j,h1,h2,h3,h4,h5⟩:=Tc he
 obtain ⟨w,ew,rw'⟩:=r.get h2
 have hl:=r.length
 have hn:=V7
 have fin:EP X pins σ Q w s:=⟨z,H,I,rw',q⟩
 by_cases h0:0≤i
 ·have hj:i.toNat=j:=by
   rw [seqIndex_of h0 h5] at h1
   exact ζI h1
  exact item_listR pl.isList h0 (by omega) (by rw [hj]; simpa using ew) fin hs
 ·have hj:(i + (its.toArray.size:Int)).toNat=j:=by
   rw [seqIndex_neg (by omega) h4] at h1
   rw [ζQ,← hl]
   exact ζI h1
  exact subscriptTail_builtinR (x:=w) pl.isList.typeIs slot_list_getitem.lookup
   (wpAny_getItem_list_neg (Q:=fun r s'=>r=w∧EP X pins σ Q r s') pl.isList (by omega) (by rw [List.size_toArray] <;> omega) (by omega) (by rw [hj]; simpa using ew) ⟨rfl,fin⟩) hs
theorem zdV:IxR X (rIxT X.K):=by
 intro value slice pins s σ H x y v u Q I rx ry h hs
 obtain ⟨p,xs,i,z,rfl,rfl,hq,he,q⟩:=h
 cases rx
 obtain ⟨t,rfl⟩:=ry
 obtain ⟨its,r,pl,hz⟩:=I.tuple hq
 obtain ⟨j,h1,h2,h3,h4,h5⟩:=Tc he
 obtain ⟨w,ew,rw'⟩:=r.get h2
 have hl:=r.length
 have hn:=V7
 have fin:EP X pins σ Q w s:=⟨z,H,I,rw',q⟩
 exact subscriptTail_builtinR (x:=w) pl.typeIs slot_tuple_getitem.lookup
  (getItem_tuple (j:=j) (Q:=fun r s'=>r=w∧EP X pins σ Q r s') pl (by omega) (by omega) (by rw [List.size_toArray,← hl]; exact h1) (by simpa using ew) ⟨rfl,fin⟩) hs
theorem Xi (lo hi:Option Int) (n:Nat):(sliceBounds lo hi none n).1=((HT.sIx n 0 lo:Nat):Int)∧(sliceBounds lo hi none n).2.1=((HT.sIx n n hi:Nat):Int)∧(sliceBounds lo hi none n).2.2=1:=by
 refine ⟨?_,?_,rfl⟩
 ·cases lo with
  | none=>simp [sliceBounds,HT.sIx]
  | some i =>
   simp only [sliceBounds,HT.sIx,Option.getD_none,show (1:Int) > 0 by decide,if_true]
   by_cases h:i < 0
   ·simp only [h,if_true] <;> omega
   ·simp only [h,if_false] <;> omega
 ·cases hi with
  | none=>simp [sliceBounds,HT.sIx]
  | some i =>
   simp only [sliceBounds,HT.sIx,Option.getD_none,show (1:Int) > 0 by decide,if_true]
   by_cases h:i < 0
   ·simp only [h,if_true] <;> omega
   ·simp only [h,if_false] <;> omega
theorem Ye (its:List Value) (lo hi:Option Int):slicePick its.toArray lo hi none=((its.drop (HT.sIx its.length 0 lo)).take (HT.sIx its.length its.length hi - HT.sIx its.length 0 lo)).toArray:=by
 obtain ⟨h1,h2,h3⟩:=Xi lo hi its.toArray.size
 unfold slicePick
 rw [h1,h2,h3]
 simp only [sliceRange_one,pick_run,List.size_toArray] <;> rfl
def rSlL (K:ζa):V→Option Int→Option Int→Hp→VK→Prop:=fun x lo hi H Q=>∃ a xs,x=.ref a∧SqL K H a xs∧∀ p,H p=none→Q (.ref p) (upd H p (.lst (cutV xs lo hi)))
theorem zbv:SlR X (rSlL X.K):=by
 intro pins s σ H x v vl vu lo hi sl Q I rx hs pl pu h
 obtain ⟨a,xs,rfl,hx,q⟩:=h
 cases rx
 obtain ⟨its,r,ht,hz⟩:=I.list hx
 have hlen:=r.length
 refine ⟨"list", _,slot_list_getitem.lookup,ht.isList.typeIs,?_⟩
 refine wpAny_getItem_list_slice ht.isList hs pl pu .none (by simp) ?_ (by rw [List.size_toArray] <;> omega)
 rw [Ye,← hlen]
 refine ⟨.ref s.heap.objs.size,_,I.laid (t':=s.toks) (o:=.lst (cutV xs lo hi)) (fun b ob q=>ζi _ q) (ζh _) ?_,rfl,q _ (I.hok.fresh (ζh _))⟩
 exact ⟨ζV (Vh xs lo hi) hz,_,0,(r.drop (HT.sIx xs.length 0 lo)).take (HT.sIx xs.length xs.length hi - HT.sIx xs.length 0 lo),ζy _ rfl⟩
def uU:V→Bool
 | .non=>true
 | .bl _=>true
 | .int _=>true
 | .str _=>true
 | _=>false
def eqV:V→V→Bool
 | .non,.non=>true
 | .bl a,.bl b=>a == b
 | .bl a,.int b=>(if a then 1 else 0) == b
 | .int a,.bl b=>a == (if b then 1 else 0)
 | .int a,.int b=>a == b
 | .str a,.str b=>a == b
 | _,_=>false
theorem zd2 (ry:RelV y u) (rx:RelV x v) (fy:uU y=true) (fx:uU x=true):SeqAt.EqAt A s u v (eqV y x):=by
 cases y with
 | non =>
  cases ry
  cases x with
  | non=>cases rx; exact SeqAt.EqAt.same _
  | bl b=>cases rx; exact SeqAt.EqAt.none_bool b
  | int b=>obtain ⟨t,rfl⟩:=rx; exact SeqAt.EqAt.none_int b t
  | str b=>obtain ⟨t,rfl⟩:=rx; exact SeqAt.EqAt.none_str b t
  | _=>exact absurd (show false=true from fx) ζt
 | bl a =>
  cases ry
  cases x with
  | non=>cases rx; exact SeqAt.EqAt.bool_none a
  | bl b=>cases rx; exact SeqAt.EqAt.bool_bool a b
  | int b=>obtain ⟨t,rfl⟩:=rx; exact SeqAt.EqAt.bool_int a b t
  | str b=>obtain ⟨t,rfl⟩:=rx; exact SeqAt.EqAt.bool_str a b t
  | _=>exact absurd (show false=true from fx) ζt
 | int a =>
  obtain ⟨t',rfl⟩:=ry
  cases x with
  | non=>cases rx; exact SeqAt.EqAt.int_none a t'
  | bl b=>cases rx; exact SeqAt.EqAt.int_bool a t' b
  | int b=>obtain ⟨t,rfl⟩:=rx; exact SeqAt.EqAt.int_int a t' b t
  | str b=>obtain ⟨t,rfl⟩:=rx; exact SeqAt.EqAt.int_str a t' b t
  | _=>exact absurd (show false=true from fx) ζt
 | str a =>
  obtain ⟨t',rfl⟩:=ry
  cases x with
  | non=>cases rx; exact SeqAt.EqAt.str_none a t'
  | bl b=>cases rx; exact SeqAt.EqAt.str_bool a t' b
  | int b=>obtain ⟨t,rfl⟩:=rx; exact SeqAt.EqAt.str_int a t' b t
  | str b=>obtain ⟨t,rfl⟩:=rx; exact SeqAt.EqAt.str_str a t' b t
  | _=>exact absurd (show false=true from fx) ζt
 | _=>exact absurd (show false=true from fy) ζt
def eqU (x:V) (u:Value):Bool:=match u with
 | .none=>eqV .non x
 | .bool b=>eqV (.bl b) x
 | .int i _=>eqV (.int i) x
 | .str z _=>eqV (.str z) x
 | _=>false
theorem zaS (r:RelV y u) (f:uU y=true):eqU x u=eqV y x:=by
 cases y with
 | non=>cases r; rfl
 | bl b=>cases r; rfl
 | int i=>obtain ⟨t,rfl⟩:=r; rfl
 | str z=>obtain ⟨t,rfl⟩:=r; rfl
 | _=>exact absurd (show false=true from f) ζt
theorem tf:∀ {xs:List V} {us:List Value},Vals xs us→xs.all uU=true→us.any (eqU x)=xs.any fun y=>eqV y x
 | _,_,.nil,_=>rfl
 | y :: xs,u :: us,.cons r t,f=>by
  rw [ξ1,ξP] at f
  rw [ξi,ξi,zaS r f.1,tf t f.2]
theorem vD (rx:RelV x v) (fx:uU x=true):∀ {xs:List V} {us:List Value},Vals xs us→xs.all uU=true→∀ u∈us,SeqAt.EqAt A s u v (eqU x u)
 | _,_,.nil,_=>fun u hu=>by cases hu
 | y :: xs,u :: us,.cons r t,f=>fun u' hu=>by
  rw [ξ1,ξP] at f
  rcases ζz.mp hu with rfl | hu
  ·rw [zaS r f.1]; exact zd2 r rx f.1 fx
  ·exact vD rx fx t f.2 u' hu
def inV (x:V) (xs:List V):Bool:=xs.any fun y=>eqV y x
def rIn (K:ζa) (neg:Bool):R2:=fun x y H Q=>∃ p xs,y=.ref p∧(SqL K H p xs∨SqT K H p xs)∧uU x=true∧xs.all uU=true∧Q (.bl (if neg then !inV x xs else inV x xs)) H
theorem Tz:OpR X (compareOp .In) (rIn X.K false):=by
 intro pins s σ H x y v u Q I rx ry h
 obtain ⟨p,xs,rfl,hq,fx,fs,q⟩:=h
 cases ry
 rcases hq with hq | hq
 ·obtain ⟨its,r,pl,hz⟩:=I.list hq
  refine SeqAt.in_listAt (eqU x) pl.isList (fun w hw=>vD rx fx r fs w (by simpa using hw)) ⟨.bl _,H,I,rfl,?_⟩
  rw [show its.toArray.any (eqU x)=its.any (eqU x) by simp,tf r fs]
  exact q
 ·obtain ⟨its,r,pl,hz⟩:=I.tuple hq
  refine SeqAt.in_tupleAt (eqU x) pl (fun w hw=>vD rx fx r fs w (by simpa using hw)) ⟨.bl _,H,I,rfl,?_⟩
  rw [show its.toArray.any (eqU x)=its.any (eqU x) by simp,tf r fs]
  exact q
theorem XH:OpR X (compareOp .NotIn) (rIn X.K true):=by
 intro pins s σ H x y v u Q I rx ry h
 obtain ⟨p,xs,rfl,hq,fx,fs,q⟩:=h
 cases ry
 rcases hq with hq | hq
 ·obtain ⟨its,r,pl,hz⟩:=I.list hq
  refine SeqAt.notIn_listAt (eqU x) pl.isList (fun w hw=>vD rx fx r fs w (by simpa using hw)) ⟨.bl _,H,I,rfl,?_⟩
  rw [show its.toArray.any (eqU x)=its.any (eqU x) by simp,tf r fs]
  exact q
 ·obtain ⟨its,r,pl,hz⟩:=I.tuple hq
  refine SeqAt.notIn_tupleAt (eqU x) pl (fun w hw=>vD rx fx r fs w (by simpa using hw)) ⟨.bl _,H,I,rfl,?_⟩
  rw [show its.toArray.any (eqU x)=its.any (eqU x) by simp,tf r fs]
  exact q
theorem We:yq X (.builtin "len") (fun xs H Q=>∃ p ys,xs=[.ref p]∧(SqL X.K H p ys∨SqT X.K H p ys)∧Q (.int ys.length) H):=by
 intro pins s σ H xs us Q I r h
 obtain ⟨p,ys,rfl,hq,q⟩:=h
 obtain ⟨u,rfl,rx⟩:=xh r
 cases rx
 have hn:=V7
 rcases hq with hq | hq
 ·obtain ⟨its,r',pl,hz⟩:=I.list hq
  have hlen:=r'.length
  exact Calls.call_len_list pl.isList (by simp only [List.size_toArray] <;> omega) ⟨.int ys.length,H,I.tok _,⟨s.toks + 1,by rw [List.size_toArray,hlen]⟩,q⟩
 ·obtain ⟨its,r',pl,hz⟩:=I.tuple hq
  have hlen:=r'.length
  exact len_tuple pl (by simp only [List.size_toArray] <;> omega) ⟨.int ys.length,H,I.tok _,⟨s.toks + 1,by rw [List.size_toArray,hlen]⟩,q⟩
theorem Wd:yq X (.type "list") (fun xs H Q=>∃ p ys,xs=[.ref p]∧(SqL X.K H p ys∨SqT X.K H p ys)∧∀ l,H l=none→Q (.ref l) (upd H l (.lst ys))):=by
 intro pins s σ H xs us Q I r h
 obtain ⟨p,ys,rfl,hq,q⟩:=h
 obtain ⟨u,rfl,rx⟩:=xh r
 cases rx
 have fin:∀ (its:List Value),Vals ys its→ys.length≤sizeLine→∀ (h':Heap) (c':Nat),(∀ b o',s.heap.get? b=some o'→h'.get? b=some o') →
   h'.get? s.heap.objs.size=some { cls:=.type "list", dict:=none,data:=.seq its.toArray c',slots:=#[] }→EP X pins σ Q (.ref s.heap.objs.size) { s with heap:=h' }:=fun its r' hz h' c' kp e =>
  ⟨.ref s.heap.objs.size,_,I.laid (t':=s.toks) kp (ζh _) (show yj X.prog X.w _ h' _ (.lst ys) from ⟨hz,its,c',r',e⟩),rfl,q _ (I.hok.fresh (ζh _))⟩
 rcases hq with hq | hq
 ·obtain ⟨its,r',pl,hz⟩:=I.list hq
  have hlen:=r'.length
  obtain ⟨o,ho,hc,n,hd⟩:=pl.isList
  exact call_list_seq p (.inl rfl) ho hc hd (fun h' c' kp e=>fin its r' hz h' c' kp e) (by simp only [List.size_toArray] <;> omega)
 ·obtain ⟨its,r',pl,hz⟩:=I.tuple hq
  have hlen:=r'.length
  obtain ⟨o,ho,hc,n,hd⟩:=pl
  exact call_list_seq p (.inr rfl) ho hc hd (fun h' c' kp e=>fin its r' hz h' c' kp e) (by simp only [List.size_toArray] <;> omega)
def tyV (K:ζa) (T:String) (x:V) (H:Hp):Prop:=match x with
 | .str _=>T = "str"
 | .int _=>T = "int"
 | .ref p=>(T = "list" ∧ ∃ xs,SqL K H p xs)∨(T = "tuple" ∧ ∃ o,K.lookup p=some o∧o.cls=.type "tuple" ∧ o.dict=none) ∨
   (T = "dict" ∧ ((∃ kvs,H p=some (.dK kvs))∨∃ kvs,H p=some (.dT kvs)))∨(T = "set" ∧ ∃ S n,H p=some (.set S n))
 | _=>False
theorem Qk (I:Inv X pins σ H s) (r:RelV x v) (ty:tyV X.K T x H) :
  s.TypeIs v T∧∀ a,v=.ref a→∃ ob,s.heap.get? a=some ob∧ob.dict=none:=by
 cases x with
 | str z =>
  obtain ⟨t,rfl⟩:=r
  cases (show T = "str" from ty)
  exact ⟨typeIs_str s z t,fun _ e=>nomatch e⟩
 | int i =>
  obtain ⟨t,rfl⟩:=r
  cases (show T = "int" from ty)
  exact ⟨typeIs_int s i t,fun _ e=>nomatch e⟩
 | ref p =>
  cases r
  rcases ty with ⟨rfl,xs,hq⟩ | ⟨rfl,o,hk,hc,hd⟩ | ⟨rfl,hk⟩ | ⟨rfl,S,n,hk⟩
  ·obtain ⟨its,_,pl,_⟩:=I.list hq
   refine ⟨pl.isList.typeIs,fun a e=>?_⟩
   cases e
   obtain ⟨o,n,e,c,hd,_⟩:=pl
   exact ⟨o,e,hd⟩
  ·refine ⟨⟨o,I.kIn p o hk,hc⟩,fun a e=>?_⟩
   cases e
   exact ⟨o,I.kIn _ o hk,hd⟩
  ·have z:∃ o,s.heap.get? p=some o∧o.ExactDict:=by
    rcases hk with ⟨kvs,hk⟩ | ⟨kvs,hk⟩
    ·obtain ⟨_,_,_,_,o,_,_,e,ex,_⟩:=I.hok p _ hk
     exact ⟨o,e,ex⟩
    ·obtain ⟨_,_,_,_,o,_,_,e,ex,_⟩:=I.hok p _ hk
     exact ⟨o,e,ex⟩
   obtain ⟨o,e,ex⟩:=z
   refine ⟨⟨o,e,ex.1⟩,fun a e2=>?_⟩
   cases e2
   exact ⟨o,e,ex.2.1⟩
  ·obtain ⟨o,_,_,_,e,ex,_⟩:=I.hok p _ hk
   refine ⟨⟨o,e,ex.1⟩,fun a e2=>?_⟩
   cases e2
   exact ⟨o,e,ex.2.1⟩
 | _=>exact False.elim ty
def tBM0 (K:ζa) (T:String) (r:V→List V→Hp→VK→Prop) (to:TE):TE:=fun σ H Q=>to σ H fun x H1=>tyV K T x H1∧r x [] H1 Q
def tBM (K:ζa) (T:String) (r:V→List V→Hp→VK→Prop) (to:TE) (t:TA):TE:=fun σ H Q=>to σ H fun x H1=>tyV K T x H1∧t σ H1 fun xs H2=>r x xs H2 Q
variable {o e:Expr} {es:List Expr} {to:TE} {t:TA} {name:Str} {apos cpos:Pos} {T id:String} {r:V→List V→Hp→VK→Prop}
theorem zdz (pa:PlainAttrs T) (slot:Slot T name id) (hty:typeOf (.builtin id)=pure (.type "method_descriptor")) (hm:MtR X id r) (ho:PE X o to)
  (hbase:attributeBase o name X.env (eval o X.env)=eval o X.env:=by rfl) (hline:(apos.endLine == cpos.line)=true:=by rfl):PE X (.Call (.Attribute o name apos) [] [] cpos) (tBM0 X.K T r to):=by
 intro pins s σ H Q I h
 refine wpAny_Call_method0_late hbase hline (thn (ho pins s σ H _ I h) fun v s1 ⟨x,H1,I1,r1,ty,q1⟩=>?_)
 obtain ⟨h1,h2⟩:=Qk I1 r1 ty
 exact ⟨T,id,pa,slot,hty,h1,h2,Calls.callWith_builtin rfl (PySem.evalArgs_none (hm pins s1 σ H1 x [] v [] Q I1 r1 .nil q1))⟩
theorem zeA (pa:PlainAttrs T) (slot:Slot T name id) (hty:typeOf (.builtin id)=pure (.type "method_descriptor")) (hm:MtR X id r) (ho:PE X o to) (ha:PA X (e :: es) t)
  (hbase:attributeBase o name X.env (eval o X.env)=eval o X.env:=by rfl)
  (hfew:((backTo cpos (starEach (e :: es) X.env)).all (fun x=>!x.1) && (backToKw cpos (keywordEach [] X.env)).all (fun x=>x.1.isSome)
   && decide ((e :: es).length + ([]:List Keyword).length + (if ([]:List Keyword).isEmpty then 0 else 1) < 30))=true:=by rfl)
  (hline:(apos.endLine == cpos.line)=true:=by rfl) (hs:starEach (e :: es) X.env=(false,eval e X.env) :: starEach es X.env:=by rfl) (hplain:(backTo cpos (starEach es X.env)).any (·.1)=false:=by rfl) :
  PE X (.Call (.Attribute o name apos) (e :: es) [] cpos) (tBM X.K T r to t):=by
 intro pins s σ H Q I h
 refine wpAny_Call_method_late hbase hfew hline rfl (thn (ho pins s σ H _ I h) fun v s1 ⟨x,H1,I1,r1,ty,q1⟩=>?_)
 obtain ⟨h1,h2⟩:=Qk I1 r1 ty
 refine ⟨T,id,pa,slot,hty,h1,h2,?_⟩
 have hA:=ha cpos pins s1 σ H1 _ I1 q1
 rw [hs] at hA ⊢
 refine Calls.callWith_builtin (by show (false || (backTo cpos (starEach es X.env)).any (·.1))=false; rw [hplain] <;> rfl) (Calls.evalArgs_plain ?_)
 exact thn hA fun us s2 ⟨vs,H2,I2,r2,q2⟩=>hm pins s2 σ H2 x vs v us Q I2 r1 r2 q2
end
def MtM (X:Cx) (id:String) (r:V→List V→Hp→VK→Prop):Prop :=
 ∀ (pins:List (Addr×Obj)) (s:Shared) (σ:St) (H:Hp) (x:V) (xs:List V) (v:Value) (us:List Value) (Q:VK),Inv X pins σ H s→RelV x v→Vals xs us→r x xs H Q →
  wpAny (model X.prog X.w) X.A (call (.builtin id) (v :: us)) (EP X pins σ Q) X.xe s
theorem Vals.one:∀ {x:V} {us:List Value},Vals [x] us→∃ u,us=[u]∧RelV x u
 | _,_,.cons r .nil=>⟨_,rfl,r⟩
theorem Vals.two:∀ {x y:V} {us:List Value},Vals [x,y] us→∃ u v,us=[u,v]∧RelV x u∧RelV y v
 | _,_,_,.cons r (.cons q .nil)=>⟨_,_,rfl,r,q⟩
theorem Vals.zero:∀ {us:List Value},Vals [] us→us=[]
 | _,.nil=>rfl
theorem Vals.dropLast (h:Vals xs us):Vals xs.dropLast us.dropLast:=by
 induction h with
 | nil=>exact .nil
 | cons r t ih =>
  cases t with
  | nil=>exact .nil
  | cons q t'=>exact .cons r ih
theorem Uc (l:List α):l.eraseIdx (l.length - 1)=l.dropLast:=by
 induction l with
 | nil=>rfl
 | cons a r ih =>
  cases r with
  | nil=>rfl
  | cons b r =>
   have e:(a :: b :: r).length - 1=((b :: r).length - 1) + 1:=by
    have h1:(a :: b :: r).length=r.length + 2:=rfl
    have h2:(b :: r).length=r.length + 1:=rfl
    omega
   rw [e,List.eraseIdx_cons_succ,ih]
   all_goals rfl
section
variable {X:Cx} {pins:List (Addr×Obj)} {σ:St} {H:Hp} {s:Shared} {l b:Addr} {xs ys zs:List V}
theorem Inv.lset {its its':List Value} {n:Nat} {f:Array Value→Array Value} {t':Nat} (I:Inv X pins σ H s) (hH:H l=some (.lst xs))
  (e:s.heap.get? l=some { cls:=.type "list", data:=.seq its.toArray n }) (hf:f its.toArray=its'.toArray) (hv:Vals ys its') (hz:ys.length≤sizeLine) :
  Inv X pins σ (upd H l (.lst ys)) { s with heap:=s.heap.update l (Obj.mapSeq f),toks:=t' }:=by
 have q:=PySem.IsL.update e f
 rw [hf] at q
 refine I.write (x:=l) (e:=l) (by rw [hH]; exact trivial) (.inl rfl) (fun b' u hb hu=>(ξz s.heap (Obj.mapSeq f) (Ne.symm hb)).trans hu) ⟨_,q⟩ ?_
 exact ⟨hz,its',_,hv,q⟩
theorem Inv.lnew {t':Nat} (I:Inv X pins σ H s) (hv:Vals ys its) (hz:ys.length≤sizeLine) :
  Inv X pins σ (upd H s.heap.objs.size (.lst ys)) { s with heap:=s.heap.push { cls:=.type "list", data:=.seq its.toArray },toks:=t' } :=
 I.laid (fun _ _ q=>ζi _ q) (ζh _) ⟨hz,its,0,hv,ζy _ rfl⟩
theorem Inv.fresh (I:Inv X pins σ H s):H s.heap.objs.size=none:=I.hok.fresh (ζh _)
theorem Inv.lstM (I:Inv X pins σ H s) (hH:H l=some (.lst xs)):xs.length≤sizeLine∧∃ (its:List Value) (n:Nat),Vals xs its∧xs.length=its.length∧s.heap.get? l=some { cls:=.type "list", data:=.seq its.toArray n }:=by
 obtain ⟨z,its,n,r,e⟩:=I.hok l _ hH
 exact ⟨z,its,n,r,r.length,e⟩
theorem zaf (h:n≤sizeLine):Builtin.List.listTooLong n=false:=by
 unfold Builtin.List.listTooLong
 exact decide_eq_false (by omega)
end
section
variable {X:Cx}
def we:V→List V→Hp→VK→Prop:=fun x vs H Q=>∃ l xs y,x=.ref l∧vs=[y]∧H l=some (.lst xs)∧xs.length < sizeLine∧Q .non (upd H l (.lst (xs ++ [y])))
theorem yf:MtM X "list.append" we:=by
 intro pins s σ H x vs v us Q I rx rv h
 obtain ⟨l,xs,y,rfl,rfl,hH,hz,q⟩:=h
 cases rx
 obtain ⟨u,rfl,ru⟩:=rv.one
 obtain ⟨z,its,n,r,hl,e⟩:=I.lstM hH
 refine call_meets F.slot_list_append ⟨_,e,rfl⟩ F.entry_list_append (F.args_list_append_2 _ _) (PySem.list_append l its.toArray n u (by rw [ζQ]; omega)) ⟨e,?_⟩
 refine ⟨.non,_,I.lset (its':=its ++ [u]) hH e (by simp) (r.append (.cons ru .nil)) ?_,rfl,q⟩
 rw [ζf,List.length_singleton]
 omega
def rPop:V→List V→Hp→VK→Prop:=fun x vs H Q=>∃ l xs y,x=.ref l∧vs=[]∧H l=some (.lst xs)∧xs[xs.length - 1]?=some y∧Q y (upd H l (.lst xs.dropLast))
theorem V1:MtM X "list.pop" rPop:=by
 intro pins s σ H x vs v us Q I rx rv h
 obtain ⟨l,xs,y,rfl,rfl,hH,hy,q⟩:=h
 cases rx
 have hus:=rv.zero
 subst hus
 obtain ⟨z,its,n,r,hl,e⟩:=I.lstM hH
 obtain ⟨u,hu,ru⟩:=r.get hy
 have hy':its.toArray[its.toArray.size - 1]?=some u:=by
  show its.toArray[its.length - 1]?=some u
  rw [← ξm,← hl]
  exact hu
 refine call_meets F.slot_list_pop ⟨_,e,rfl⟩ F.entry_list_pop (F.args_list_pop_1 _) (MeetsSeq.list_pop_last l its.toArray n u hy' (by rw [ζQ]; omega)) ⟨e,?_⟩
 refine ⟨y,_,I.lset (its':=its.dropLast) hH e ?_ r.dropLast ?_,ru,q⟩
 ·show its.toArray.eraseIdxIfInBounds (its.toArray.size - 1)=its.dropLast.toArray
  rw [ζQ,List.eraseIdxIfInBounds_toArray,Uc]
 ·rw [ξQ]
  omega
end
section
variable {prog:Program} {w:World} {A:Around} {E:Value→Shared→Prop} {s:Shared}
end
section
variable {X:Cx}
end
end L2
namespace Att
open PySem PySem.W PySem.Calls PyProof.Rows
theorem Zg:∀ (ns:List Int) (vs:List Value),WellAll P h vs (ns.map WData.int)→IntsAre vs ns:=by
 intro ns
 induction ns with
 | nil =>
  intro vs w
  rw [List.map_nil] at w
  cases w
  exact .nil
 | cons n ns ih =>
  intro vs w
  rw [ζH] at w
  cases w with
  | cons a b =>
   cases a
   exact .cons _ _ (ih _ b)
theorem To {l:OpenLaw} {n:Nat} (hn:l.most=some n) {P:Params} {h:Heap} {args:List WData} {vals:List Value}
  (hpre:l.row.toRowW.claim.pre args=true) (hwl:WellAll P h vals args) :
  ∃ a vs ns,vals=[Value.ref a]∧args=[WData.list (ns.map WData.int)]∧h.get? a=some { cls:=.type "list", data:=.seq vs.toArray }∧IntsAre vs ns∧ns.length≤n:=by
 have hsh:WShape.hasAll [] args [.list .int]=true:=(pre_splitW hpre).1
 have hc:l.pre.holds [] { args:=args }=true:=(pre_splitW hpre).2
 obtain ⟨d,r,rfl,h1,h2⟩:=hasAllW_cons hsh
 obtain rfl:=hasAllW_nil h2
 obtain ⟨xs,rfl,h3⟩:=hasW_list h1
 obtain ⟨ns,rfl⟩:=items_int h3
 have hlen:ns.length≤n:=by
  unfold OpenLaw.pre at hc
  have h4:(WTm.not (.lt (.lit (.int (n:Int))) (.len (.arg 0)))).holds [] { args:=[.list (ns.map .int)] }=true:=by
   have h4:=(holds_andW hc).1
   rw [hn] at h4
   exact h4
  have h5:=condW_of h4 (w_not (w_lt w_lit (w_len_list (w_arg rfl))))
  rw [ζb] at h5
  refine Nat.le_of_not_lt fun q=>?_
  have q':(n:Int) < ((ns.length:Nat):Int):=by omega
  first
   | (rw [decide_eq_true q'] at h5; exact absurd h5 (by decide))
   | (simp at h5; omega)
 cases hwl with
 | cons w1 w2 =>
  cases w2
  cases w1 with
  | list ho hall=>exact ⟨_,_,ns,rfl,rfl,ho,Zg ns _ hall,hlen⟩
theorem Tu (l:OpenLaw) (args:List WData):l.row.toRowW.claim.post args (.bool true) args=true :=
 postW_of (r:=l.row.toRowW) (X:=(true == true))
  (show WShape.has [] (.bool true) .bool=true by first | rfl | decide | simp [WShape.has,WShape.arms,WShape.armsAll])
  (show (WTm.eq .res (.lit (.bool true))).value [] { args:=args,res:=some (.bool true),after:=args }=some (.bool (true == true)) from w_eq_bool (w_res rfl) w_lit) rfl
theorem Vm {l:OpenLaw} {n:Nat} {q:Program} {loose:List Str} {XP:(Str→Option Value)→Heap→Prop} {YP:World→Heap→Prop} {d:DefRec}
  (hn:l.most=some n) (hdf:d.params.defaults=[])
  (call:∀ (w:World) (s₀ s₁:Shared) (mg mb:Str→Option Value) (fa:Addr) (o:Obj) (pm cd doc:Value) (a:Addr) (vs:List Value) (ns:List Int),
   Ground q loose [] XP w s₀ mg mb s₁.heap→YP w s₁.heap →
   s₁.heap.get? fa=some o→o.data=.func (docDef d.name d.params d.body d.scope pm cd doc)→s₁.heap.CodeRec cd d.name→mg d.name=some (.ref fa) →
   s₁.heap.get? a=some { cls:=.type "list", data:=.seq vs.toArray }→IntsAre vs ns→ns.length≤n→s₁.gens=#[] →
   codeAny (model l.prog w) callerA (.call (.ref fa) ⟨[.ref a],[]⟩) (fun r s'=>r=.ok (.ret (.bool true))∧OldK s₁.heap s'.heap∧s'.os=s₁.os∧AllBare s'.gens) s₁) :
  WalkO q loose XP YP l.row.toRowW d [] (fun f vs=>PySem.call f vs):=by
 intro w s₀ s₁ mg mb G Y fa o pm cd doc dV kV ho hd hcd hD hmg hg args vals as hpre hlay hrd hwl hlo
 obtain rfl:dV=.none:=Dflts.none hD hdf
 obtain rfl:kV=.none:=Dflts.noKw hD
 obtain ⟨a,vs,ns,rfl,rfl,hobj,hints,hlen⟩:=To hn hpre hwl
 refine enter_call (codeAny_mono (call w s₀ s₁ mg mb fa o pm cd doc a vs ns G Y ho (fd_plain hd) hcd hmg hobj hints hlen hg) fun r s' hq=>?_)
 obtain ⟨rfl,h2,h3,h4⟩:=hq
 exact ⟨.inl ⟨.bool true,.bool true,[],rfl,fun _=>rfl,.bool true,Tu l _,fun _=>⟨List.Pairwise.nil,fun _ hm=>(nomatch hm)⟩⟩,h2,h3,h4⟩
section
variable {prog:Program} {w:World} {A:Around} {E:Value→Shared→Prop} {s:Shared} {K:Frag}
end
end Att
namespace L2
open PySem PySem.Spec PyProof.Rows
theorem Yv:∀ {vs:List Value} {ns:List Int},IntsAre vs ns→Vals (ns.map V.int) vs
 | _,_,.nil=>.nil
 | _,_,.cons n t h=>.cons ⟨t,rfl⟩ (Yv h)
theorem Vt {K:ζa} {p:Addr×Str} (h:p∈yg K):∃ c o vs,K.lookup c=some o∧o.cls=.type "code" ∧ o.data=.fields vs∧vs[11]?=some (.ref p.1):=by
 obtain ⟨⟨c,_⟩,_,e⟩:=ξu.mp h
 obtain ⟨o,e1,e2⟩:=ξZ.mp e
 unfold Qn at e2
 split at e2
 ·rename_i vs h1 h2
  split at e2
  ·rename_i q t P h3 h4
   split at e2
   ·cases e2
    exact ⟨c,o,vs,e1,h1,h2,h4⟩
   ·cases e2
  ·cases e2
 ·cases e2
theorem zas {P:Program} {w:World} {K:ζa} {mg mb:Str→Option Value} {CX:CXT} {k:Nat} {fa a:Addr} {fd:FuncData} {x:Str} {sp:Sp} {s₁:Shared} {vs:List Value} {ns:List Int}
  (KX:K.In s₁.heap) (hT0:(∀ p∈yg K,s₁.heap.get? p.1=some (PySem.W.tabObj #[]))∧Xg K=true)
  (hbm:∃ bm ob,mg "__builtins__" = some (.ref bm)∧bm≠builtinsNs∧s₁.heap.get? bm=some ob∧ob.cls=.type "module" ∧ ob.dict=some builtinsNs∧ob.data=.plain)
  (hns:s₁.heap.Ns mainGlobals mg) (hb:s₁.heap.Ns builtinsNs mb) (hbb:∀ x:Str,x ≠ "__name__" → mb x=bootBuiltins x) (hlim:s₁.heap.NoLimit) (hg:s₁.gens=#[])
  (ha:s₁.heap.get? a=some { cls:=.type "list", data:=.seq vs.toArray }) (hi:IntsAre vs ns) (hl:ns.length≤sizeLine) (hr:Room k callerA)
  (F:∀ base:Heap,K.In base→base.Ns mainGlobals mg→FnOk P w K mg base CX k fa fd [x] sp) (hbind:∀ (s:Shared) (u:Value),BindsTo s fd ⟨[u],[]⟩ [(x,u)])
  (hsp:∀ H:Hp,SqL K H a (ns.map V.int)→sp [.ref a] H (fun v _=>v=.bl true) fun _ _ _=>False)
  (hCX:∀ H e s',CX [] H s₁ (fun _ _ _=>False) e s'→False) :
  codeAny (model P w) callerA (.call (.ref fa) ⟨[.ref a],[]⟩) (fun r s'=>r=.ok (.ret (.bool true))∧OldK s₁.heap s'.heap∧s'.os=s₁.os∧AllBare s'.gens) s₁:=by
 have uq:=hT0.2
 unfold Xg at uq
 have hT:∀ p∈yg K,s₁.heap.get? p.1=some (PySem.W.tabObj #[])∧K.lookup p.1=none:=fun p hp=>⟨hT0.1 p hp,by
  have:=ζ1.mp uq p hp
  simp only [Bool.and_eq_true] at this
  exact Option.isNone_iff_eq_none.mp this.1⟩
 have one:∀ p q:Addr×Str,p∈yg K→q∈yg K→p.1=q.1→p.2=q.2:=fun p q hp hq e=>by
  have:=ζ1.mp uq p hp
  simp only [Bool.and_eq_true] at this
  have:=ζ1.mp this.2 q hq
  simpa [e] using this
 have rv:=Yv hi
 have lenV:=hi.length
 have core:∀ H:Hp,SqL K H a (ns.map V.int)→HOk P w H s₁.heap→(∀ b,H b=none∨(b=a∧∃ o xs,H b=some (.frz o (.lst xs)))∨∃ p∈yg K,b=p.1∧∃ ps,H b=some (.tbl ps))→(H a≠none→K.lookup a=none)→TbOk K H →
   codeAny (model P w) callerA (.call (.ref fa) ⟨[.ref a],[]⟩) (fun r s'=>r=.ok (.ret (.bool true))∧OldK s₁.heap s'.heap∧s'.os=s₁.os∧AllBare s'.gens) s₁:=by
  intro H hS hok hA hK hTb
  have base_of:∀ {b:Addr} {o:Obj},s₁.heap.get? b=some o→H b=none→(hidT s₁.heap H).get? b=some o:=fun e n=>zax e n
  have noA:∀ {b:Addr} {o:Obj},s₁.heap.get? b=some o→(∀ vs:Array Value,∀ n,o.data≠.seq vs n)→(∀ vs,o.data≠.fields vs)→H b=none:=fun {b o} e d1 d2=>by
   rcases hA b with z | ⟨rfl,_⟩ | ⟨p,hp,rfl,_⟩
   ·exact z
   ·rw [ha] at e; cases e
    exact absurd rfl (d1 _ _)
   ·rw [(hT p hp).1] at e; cases e
    exact absurd rfl (d2 _)
  have nsK:∀ {b:Addr} {m:Str→Option Value},s₁.heap.Ns b m→(hidT s₁.heap H).Ns b m:=fun {b m} ⟨o,es,ep,e,d,r⟩=>⟨o,es,ep,base_of e (noA e (fun _ _ z=>by rw [d] at z; cases z) fun _ z=>by rw [d] at z; cases z),d,r⟩
  have hKb:K.In (hidT s₁.heap H):=fun b o e=>base_of (KX b o e) (by
   rcases hA b with z | ⟨rfl,_,_,z⟩ | ⟨p,hp,rfl,_⟩
   ·exact z
   ·rw [hK (by rw [z]; simp)] at e; cases e
   ·rw [(hT p hp).2] at e; cases e)
  have hM:Mod K mg (hidT s₁.heap H):=⟨hKb,nsK hns,⟨mb,nsK hb,hbb⟩,let ⟨mc,h1,h2⟩:=hlim; ⟨mc,nsK h1,h2⟩,let ⟨bm,ob,q1,q2,q3,q4,q5,q6⟩:=hbm; ⟨bm,ob,q1,q2,base_of q3 (noA q3 (fun _ _ z=>by rw [q6] at z; cases z) fun _ z=>by rw [q6] at z; cases z),q4,q5,q6⟩⟩
  have e0:Env0 P w K mg (hidT s₁.heap H) callerA [] s₁ H:=⟨rfl,hM,fun b o e=>zbW e,Nat.le_of_eq (T0 _ _),trivial,fun b hb=>absurd (show b∈([]:List Addr) from hb) (by simp),hok,.of_eq hg,hTb⟩
  refine codeAny_mono ((F _ hKb (nsK hns)).run callerA [] s₁ H ⟨[.ref a],[]⟩ [.ref a] [.ref a] _ _ hr e0 (hbind s₁ (.ref a)) (.cons rfl .nil) (hsp H hS)) fun r s' h=>?_
  cases r with
  | error e=>exact (hCX H e s' h).elim
  | ok fl =>
   cases fl with
   | next=>exact False.elim h
   | brk=>exact False.elim h
   | cont=>exact False.elim h
   | ret u =>
    obtain ⟨v,H',os,bare,un,hok',r',q⟩:=h
    have q':v=.bl true:=q
    subst q'
    obtain rfl:u=Value.bool true:=r'
    refine ⟨rfl,⟨fun b o e=>?_,fun b o e=>un.there b o e (by simp)⟩,os,bare⟩
    rcases hA b with z | ⟨rfl,ob,xs,z⟩ | ⟨p,hp,rfl,ps,z⟩
    ·exact .inl (un.keep b o e z (by intro z; exact absurd (show b∈([]:List Addr) from z) (by simp)) (by simp))
    ·have z2:=un.frzs _ ob _ z
     obtain ⟨e1,_⟩:=hok _ _ z
     obtain ⟨e2,_⟩:=hok' _ _ z2
     rw [e] at e1; cases e1
     exact .inl e2
    ·obtain ⟨m,z2⟩:=un.tbls _ _ z
     obtain ⟨vs',e2,_⟩:=hok' _ _ z2
     obtain ⟨c,oc,cs,k1,k2,k3,k4⟩:=Vt hp
     rw [(hT p hp).1] at e
     cases e
     exact .inr (.inl ⟨⟨c,oc,cs,KX _ _ k1,k2,k3,k4⟩,rfl,#[],vs',rfl,by simpa using e2⟩)
 have tabH:∀ {H:Hp} {p:Addr×Str},p∈yg K→yj P w H s₁.heap p.1 (.tbl #[.str p.2 0]):=fun {H p} hp=>⟨#[],(hT p hp).1,trivial,fun q v z=>by cases z⟩
 let HT:Hp:=fun b=>((yg K).find? fun p=>p.1 == b).map fun p=>HO.tbl #[.str p.2 0]
 have HTat:∀ b,HT b=none∨∃ p∈yg K,b=p.1∧HT b=some (.tbl #[.str p.2 0]):=fun b=>by
  cases q:(yg K).find? fun p=>p.1 == b with
  | none=>exact .inl (by show Option.map _ _=none; rw [q]; rfl)
  | some p=>exact .inr ⟨p,List.mem_of_find?_eq_some q,(show p.1=b by have:=List.find?_some q; simpa using this).symm,by show Option.map _ _=_; rw [q]; rfl⟩
 have HTok:TbOk K HT:=fun p hp=>by
  rcases HTat p.1 with z | ⟨q,hq,e,z⟩
  ·exfalso
   have z':Option.map _ ((yg K).find? fun q=>q.1 == p.1)=none:=z
   rw [Option.map_eq_none_iff,List.find?_eq_none] at z'
   exact z' p hp (by simp)
  ·exact ⟨0,#[],by rw [z,one p q hp hq e]; simp⟩
 cases hk:K.lookup a with
 | some o =>
  have e:=KX a o hk
  rw [ha] at e
  cases e
  refine core HT (.inr ⟨_,vs.toArray,_,hk,rfl,rfl,rfl,by rw [List.size_toArray,lenV]; exact hl,by simpa using rv⟩) (fun b u z=>?_) (fun b=>?_) (fun z=>?_) HTok
  ·rcases HTat b with y | ⟨p,hp,rfl,y⟩
   ·rw [y] at z; cases z
   ·rw [y] at z; cases z; exact tabH hp
  ·rcases HTat b with y | ⟨p,hp,e,y⟩
   ·exact .inl y
   ·exact .inr (.inr ⟨p,hp,e,_,y⟩)
  ·rcases HTat a with y | ⟨p,hp,rfl,y⟩
   ·exact absurd y z
   ·exact (hT p hp).2
 | none =>
  have na:∀ p∈yg K,p.1≠a:=fun p hp e=>by
   have:=(hT p hp).1
   rw [e,ha] at this; cases this
  refine core (fun b=>if b=a then some (.frz { cls:=.type "list", data:=.seq vs.toArray } (.lst (ns.map V.int))) else HT b) (.inl (.inr ⟨{ cls:=.type "list", data:=.seq vs.toArray },if_pos rfl⟩)) (fun b u z=>?_) (fun b=>?_) (fun _=>hk) fun p hp=>?_
  ·by_cases hb:b=a
   ·have z':=(if_pos hb).symm.trans z
    cases z'
    subst hb
    exact ⟨ha,by rw [ζb]; exact hl,vs,_,rv,ha⟩
   ·have z':=(if_neg hb).symm.trans z
    rcases HTat b with y | ⟨p,hp,rfl,y⟩
    ·rw [y] at z'; cases z'
    ·rw [y] at z'; cases z'; exact tabH hp
  ·by_cases hb:b=a
   ·exact .inr (.inl ⟨hb,_,_,if_pos hb⟩)
   ·rcases HTat b with y | ⟨p,hp,e,y⟩
    ·exact .inl ((if_neg hb).trans y)
    ·exact .inr (.inr ⟨p,hp,e,_,(if_neg hb).trans y⟩)
  ·obtain ⟨t,m,e⟩:=HTok p hp
   exact ⟨t,m,(if_neg (na p hp)).trans e⟩
theorem zbi {l:PySem.W.OpenLaw} {n k:Nat} {q:Program} {loose:List Str} {XP:(Str→Option Value)→Heap→Prop} {YP:World→Heap→Prop} {d:DefRec} {K:Params→ζa} {CX:World→CXT} {sp:World→Sp} {x:Str}
  (hn:l.most=some n) (hn2:n≤sizeLine) (hdf:d.params.defaults=[]) (hr:Room k callerA)
  (hY:∀ (w:World) (h:Heap),YP w h→(K w.params).In h) (hT:∀ (w:World) (h:Heap),YP w h→(∀ p∈yg (K w.params),h.get? p.1=some (PySem.W.tabObj #[]))∧Xg (K w.params)=true)
  (F:∀ (w:World) (mg:Str→Option Value) (fa:Addr) (h:Heap),(K w.params).In h→h.Ns mainGlobals mg→mg d.name=some (.ref fa) →
   ∃ fd:FuncData,(∀ (s:Shared) (u:Value),BindsTo s fd ⟨[u],[]⟩ [(x,u)]) ∧
    ∀ base:Heap,(K w.params).In base→base.Ns mainGlobals mg→FnOk l.prog w (K w.params) mg base (CX w) k fa fd [x] (sp w))
  (hsp:∀ (w:World) (H:Hp) (a:Addr) (ns:List Int),ns.length≤n→SqL (K w.params) H a (ns.map V.int)→sp w [.ref a] H (fun v _=>v=.bl true) fun _ _ _=>False)
  (hCX:∀ (w:World) (H:Hp) (s:Shared) (e:Value) (s':Shared),CX w [] H s (fun _ _ _=>False) e s'→False) :
  PySem.W.WalkO q loose XP YP l.row.toRowW d [] (fun f vs=>PySem.call f vs):=by
 refine Att.Vm hn hdf fun w s₀ s₁ mg mb fa o pm cd doc a vs ns G Y ho hd hcd hmg hobj hints hlen hg=>?_
 have KX:=hY w _ Y
 obtain ⟨fd,hb,hF⟩:=F w mg fa _ KX G.T.g hmg
 exact zas KX (hT w _ Y) G.T.bmain G.T.g G.T.b G.T.builtins G.T.nolimit hg hobj hints (ζV hlen hn2) hr hF hb (fun H hS=>hsp w H a ns hlen hS) fun H e s'=>hCX w H s₁ e s'
def wg (s:Stmt):Arguments:=match s with
 | .FunctionDef _ a _ _ _ _ _ _ _ _=>a
 | _=>{ posonlyargs:=[],args:=[],vararg:=none,kwonlyargs:=[],kw_defaults:=[],kwarg:=none,defaults:=[] }
def xB (s:Stmt):List Stmt:=match s with
 | .FunctionDef _ _ b _ _ _ _ _ _ _=>b
 | _=>[]
def zo (s:Stmt):Scope:=match s with
 | .FunctionDef _ _ _ _ _ _ sc _ _ _=>sc
 | _=>{ kind:=.function,names:=[],isGenerator:=false,isCoroutine:=false }
abbrev CX0:CXT:=fun _ _ _ _ _ _=>False
abbrev E0:XK:=fun _ _ _=>False
theorem zcZ:Wi CX0 X E0:=fun _ _ _ _ _ _ _ h=>h.elim
structure Fun (K:ζa) (x qual:Str) (st:Stmt) (f:Addr) (fd:FuncData):Prop where
 ex:∃ (oc:Value) (od:Option Addr) (kV doc pm:Value) (an:Option Addr) (cdv ct:Value) (osl:Array (Option Value)),
  fd=PySem.W.fnOf x qual (wg st) (xB st) (zo st) .none kV doc pm an cdv ct∧K.lookup f=some ⟨oc,od,.func fd,osl⟩∧PySem.W.codeIn K cdv qual=true
 kp:PySem.W.keepIn K (.ref f)=true
section
variable {P:Program} {w:World} {K:ζa} {mg:Str→Option Value} {base:Heap}
theorem Fun.ok {x qual:Str} {st:Stmt} {f:Addr} {fd:FuncData} {N ps:List Str} {k:Nat} {sp:Sp} (F:Fun K x qual st f fd) (S:zA N ps (zo st)) (len:∀ vs H Q E,sp vs H Q E→vs.length=ps.length)
  (hbody:∀ (cdv:Value) (A:Around) (outer:List Env) (s:Shared) (H:Hp) (vs:List V) (Q:VK) (E:XK),Room k (A.deeper (envOfC qual (zo st) s.heap.objs.size f cdv))→sp vs H Q E →
   ∃ t,PSs (cxOf CX0 P w K mg base N qual (zo st) f cdv A outer s H E).nox (xB st) t∧t { nx:=fun _ H'=>Q .non H',rt:=Q } (start N vs) H):FnOk P w K mg base CX0 (k + 1) f fd ps sp:=by
 obtain ⟨oc,od,kV,doc,pm,an,cdv,ct,osl,rfl,lk,hcd⟩:=F.ex
 refine zc5 lk hcd S len fun A outer s H vs Q E hr hsp=>?_
 obtain ⟨t,h,q⟩:=hbody cdv A outer s H vs Q E hr hsp
 exact ⟨t,h.nox,q⟩
theorem Fun.binds {x qual:Str} {st:Stmt} {f:Addr} {fd:FuncData} {ps:List Str} (F:Fun K x qual st f fd)
  (h:∀ (kV doc pm:Value) (an:Option Addr) (cdv ct:Value) (us:List Value),us.length=ps.length→bindArgs (PySem.W.fnOf x qual (wg st) (xB st) (zo st) .none kV doc pm an cdv ct) ⟨us,[]⟩=pure (ps.zip us)):xg K fd ps []:=by
 obtain ⟨oc,od,kV,doc,pm,an,cdv,ct,osl,rfl,lk,hcd⟩:=F.ex
 exact .all (h kV doc pm an cdv ct)
theorem V9 {x qual:Str} {st:Stmt} {f:Addr} {oc:Value} {od an:Option Addr} {osl:Array (Option Value)} {kV doc pm cdv ct:Value} (l:K.lookup f=some ⟨oc,od,.func (PySem.W.fnOf x qual (wg st) (xB st) (zo st) .none kV doc pm an cdv ct),osl⟩)
  (c:PySem.W.codeIn K cdv qual=true) (k:PySem.W.keepIn K (.ref f)=true):Fun K x qual st f (PySem.W.fnOf x qual (wg st) (xB st) (zo st) .none kV doc pm an cdv ct):=⟨⟨oc,od,kV,doc,pm,an,cdv,ct,osl,rfl,l,c⟩,k⟩
end
theorem vh (hr:Room k A):A.units + 1 < cLine:=Nat.lt_of_le_of_lt (Nat.add_le_add_left (by decide:1≤64) _) hr.units
section
variable {X:Cx}
theorem pv (i:Nat) (hN:X.N[i]?=some x:=by rfl) (hv:Vis X.env.scope x:=by first | exact Or.inl rfl | exact Or.inr (.inl rfl) | exact Or.inr (.inr rfl)) (hd:(x == ("__debug__" : Str))=false:=by decide)
  (hcd:(x == ("__classdict__" : Str))=false:=by decide):PE X (.Name x pos) (tVar i):=QZ hN hv hd hcd
end
theorem iteF {A B:Prop} (h:B):if false=true then A else B:=by
 rw [if_neg ζt]
 exact h
theorem iteT {A B:Prop} (h:A):if true=true then A else B:=by
 rw [if_pos rfl]
 exact h
def Same (H H':Hp):Prop:=∀ b o,H b=some o→H' b=some o
theorem Same.refl (H:Hp):Same H H:=fun _ _ h=>h
theorem Same.trans (a:Same H H1) (b:Same H1 H2):Same H H2:=fun c o h=>b c o (a c o h)
theorem Same.free (e:Same H H') (h:H' l=Option.none):H l=Option.none:=by
 cases q:H l with
 | none=>rfl
 | some o =>
  rw [e l o q] at h
  cases h
theorem Same.seq {K:ζa} {H H':Hp} {a:Addr} {xs:List V} (e:Same H H') (h:SqL K H a xs):SqL K H' a xs:=by
 rcases h with (h | ⟨o,h⟩) | h
 ·exact .inl (.inl (e _ _ h))
 ·exact .inl (.inr ⟨o,e _ _ h⟩)
 ·exact .inr h
end L2
set_option maxHeartbeats 1000000
namespace L2
open PySem PySem.Spec PyProof.Rows PySem.SeqAt
section
variable {X:Cx}
theorem Zj:OpR X (binaryOp .Mult) (rI IntMulOk fun i j=>.int (i * j)):=opI fun _ _ _ _ _ _ _ hc q=>mul_int q hc
mutual
inductive Dp (K:ζa) (H:Hp):V→PyData→Prop
 | non:Dp K H .non .none
 | bl (b:Bool):Dp K H (.bl b) (.bool b)
 | int (i:Int):Dp K H (.int i) (.int i)
 | str (x:Str):Dp K H (.str x) (.str x)
 | lst {a:Addr} {xs:List V} {ds:List PyData}:SqL K H a xs→zO K H xs ds→Dp K H (.ref a) (.list ds)
 | tup {a:Addr} {xs:List V} {ds:List PyData}:SqT K H a xs→zO K H xs ds→Dp K H (.ref a) (.tuple ds)
inductive zO (K:ζa) (H:Hp):List V→List PyData→Prop
 | nil:zO K H [] []
 | cons {v:V} {vs:List V} {d:PyData} {ds:List PyData}:Dp K H v d→zO K H vs ds→zO K H (v :: vs) (d :: ds)
end
mutual
theorem Dp.reads (I:Inv X pins σ H s):∀ {x:V} {d:PyData} {u:Value},Dp X.K H x d→RelV x u→∃ as,Reads s.heap u d as
 | _,_,u,.non,r=>by cases (show u=Value.none from r); exact ⟨_,.none⟩
 | _,_,u,.bl b,r=>by cases (show u=Value.bool b from r); exact ⟨_,.bool b⟩
 | _,_,u,.int i,r=>by obtain ⟨t,e⟩:=(show ∃ t,u=Value.int i t from r); subst e; exact ⟨_,.int i t⟩
 | _,_,u,.str x,r=>by obtain ⟨t,e⟩:=(show ∃ t,u=Value.str x t from r); subst e; exact ⟨_,.str x t⟩
 | _,_,u,@Dp.lst _ _ a xs ds h k,r=>by
  cases (show u=Value.ref a from r)
  obtain ⟨its,rv,⟨o,n,e,c,_,d⟩,_⟩:=I.list h
  obtain ⟨as,ra⟩:=zO.reads I k rv
  exact ⟨_,.list e c d (by simpa using ra)⟩
 | _,_,u,@Dp.tup _ _ a xs ds h k,r=>by
  cases (show u=Value.ref a from r)
  obtain ⟨its,rv,⟨o,e,c,n,d⟩,_⟩:=I.tuple h
  obtain ⟨as,ra⟩:=zO.reads I k rv
  exact ⟨_,.tuple e c d (by simpa using ra)⟩
theorem zO.reads (I:Inv X pins σ H s):∀ {xs:List V} {ds:List PyData} {us:List Value},zO X.K H xs ds→Vals xs us→∃ as,ReadsAll s.heap us ds as
 | _,_,_,.nil,.nil=>⟨_,.nil⟩
 | _,_,_,.cons h k,.cons r t=>by
  obtain ⟨as,ra⟩:=Dp.reads I h r
  obtain ⟨bs,rb⟩:=zO.reads I k t
  exact ⟨_,.cons ra rb⟩
end
def rEqD (K:ζa) (neg:Bool):R2:=fun x y H Q=>∃ d e,Dp K H x d∧Dp K H y e∧shaped d=true∧shaped e=true∧Q (.bl (if neg then !PyData.eqv d e else PyData.eqv d e)) H
theorem zdF (hu:X.A.units + 64 < cLine):OpR X (compareOp .Eq) (rEqD X.K false):=by
 intro pins s σ H x y v u Q I rx ry h
 obtain ⟨d,e,h1,h2,z1,z2,q⟩:=h
 obtain ⟨as,ra⟩:=h1.reads I rx
 obtain ⟨bs,rb⟩:=h2.reads I ry
 exact eq_dataH ra rb z1 z2 hu ⟨.bl (PyData.eqv d e),H,I,rfl,q⟩
theorem zdD (hu:X.A.units + 64 < cLine):OpR X (compareOp .NotEq) (rEqD X.K true):=by
 intro pins s σ H x y v u Q I rx ry h
 obtain ⟨d,e,h1,h2,z1,z2,q⟩:=h
 obtain ⟨as,ra⟩:=h1.reads I rx
 obtain ⟨bs,rb⟩:=h2.reads I ry
 exact ne_dataH ra rb z1 z2 hu ⟨.bl (!PyData.eqv d e),H,I,rfl,q⟩
theorem Inv.turnNew {pins:List (Addr×Obj)} {σ:St} {H:Hp} {s:Shared} {h':Heap} {fp:List Addr} {T:Addr} {o:HO} {t':Nat} (I:Inv X pins σ H s) (hf:∀ b∈fp,FpOk X pins H b)
  (k:∀ b u,b∉fp→s.heap.get? b=some u→h'.get? b=some u) (hT:s.heap.objs.size≤T) (new:yj X.prog X.w (upd H T o) h' T o):Inv X pins σ (upd H T o) { s with heap:=h',toks:=t' }:=by
 have hn:H T=none:=I.hok.fresh hT
 have nfp:∀ b u,H b=some u→b∉fp:=fun b u e z=>by rw [(hf b z).1] at e; cases e
 have neT:∀ b u,s.heap.get? b=some u→b≠T:=fun b u e=>ζw (ζA (ζm e) hT)
 refine I.step (g':=s.gens) (d':=s.drawn) (ch:=fp) (fun b hb=>⟨(hf b hb).2.2.2.1,(hf b hb).2.1,(hf b hb).2.2.2.2.1,(hf b hb).2.2.2.2.2⟩) (fun b u _ _ hc e _=>k b u hc e) (fun b u _ _ hc e _=>⟨u.slots,k b u hc e⟩)
  (fun b u _ e n=>by rw [zp (neT b u e)]; exact n) (fun b u hc e=>⟨u,k b u hc e⟩) (fun b xs e=>by rw [zp (zB e hn)]; exact e) (fun b u v e=>by rw [zp (zB e hn)]; exact e) (fun b ps e=>⟨#[],by rw [zp (zB e hn),e]; simp⟩)
  (fun m hm=>?_) (fun b u e=>?_) I.bare
 ·obtain ⟨ob,es,ep,ho,r⟩:=hm
  exact ⟨ob,es,ep,k _ ob (fun z=>(hf _ z).2.1 rfl) ho,r⟩
 ·by_cases hb:b=T
  ·subst hb; rw [zi] at e; cases e; exact new
  ·rw [zp hb] at e
   refine (I.hok b u e).stay (fun c v hc q=>k c v ?_ q) (fun c q=>by rw [zp (zB q hn)]; exact q) fun c xs q=>by rw [zp (zB q hn)]; exact q
   rcases hc with z | z
   ·rw [z]; exact nfp b u e
   ·exact nfp c _ z
theorem Inv.turnAll {pins:List (Addr×Obj)} {σ:St} {H:Hp} {s:Shared} {h':Heap} {fp:List Addr} {t':Nat} (I:Inv X pins σ H s) (hf:∀ b∈fp,FpOk X pins H b)
  (k:∀ b u,b∉fp→s.heap.get? b=some u→h'.get? b=some u):Inv X pins σ H { s with heap:=h',toks:=t' }:=by
 have nfp:∀ b u,H b=some u→b∉fp:=fun b u e z=>by rw [(hf b z).1] at e; cases e
 refine I.step (g':=s.gens) (d':=s.drawn) (ch:=fp) (fun b hb=>⟨(hf b hb).2.2.2.1,(hf b hb).2.1,(hf b hb).2.2.2.2.1,(hf b hb).2.2.2.2.2⟩) (fun b u _ _ hc e _=>k b u hc e) (fun b u _ _ hc e _=>⟨u.slots,k b u hc e⟩)
  (fun b u _ e n=>n) (fun b u hc e=>⟨u,k b u hc e⟩) (fun b xs e=>e) (fun b u v e=>e) (fun b ps e=>⟨#[],by rw [e]; simp⟩)
  (fun m hm=>?_) (fun b u e=>?_) I.bare
 ·obtain ⟨ob,es,ep,ho,r⟩:=hm
  exact ⟨ob,es,ep,k _ ob (fun z=>(hf _ z).2.1 rfl) ho,r⟩
 ·refine (I.hok b u e).stay (fun c v hc q=>k c v ?_ q) (fun c q=>q) fun c xs q=>q
  rcases hc with z | z
  ·rw [z]; exact nfp b u e
  ·exact nfp c _ z
end
theorem ad (h:m≠n):(show Addr from m)≠(show Addr from n):=h
section
variable {X:Cx}
end
end L2
namespace L2
open PySem PySem.Spec PyProof.Rows
def Cx.blk (X:Cx) (N:List Str) (scope:Scope) (cl:List (Str×Addr)) (C:Addr) (s:Shared) (H:Hp) (fp:List Addr):Cx :=
 { X with N:=N,s₀:=s,H₀:=H,env:=compEnvC scope cl C X.env,outer:=X.stack,stack:=X.stack,ex:=fp,fn:=fun _=>false,pn:=[],xe:=fun _ _=>False }
def capt (js:List (Option Nat)) (σ:St):St:=js.map fun o=>match o with | none=>none | some j=>(σ[j]?).join
structure vM (X:Cx) (N:List Str) (scope:Scope) (cl:List (Str×Addr)) (js:List (Option Nat)):Prop where
 clos:closureFor scope X.env=pure cl
 nocell:∀ y∈scope.names,y.2≠.cell
 kind:scope.kind=.function
 names:∀ y∈scope.names,y.2=.local→scope.names.lookup y.1=some .local
 cells:∀ p∈cl,X.env.cells.lookup p.1=some p.2
 has:∀ y∈scope.names,y.2=.free→(cl.lookup y.1).isSome=true
 len:js.length=N.length
 cap:∀ (i j:Nat),js[i]?=some (some j)→∃ x,N[i]?=some x∧X.N[j]?=some x∧scope.names.lookup x=some .free∧(X.env.scope.names.lookup x=some .cell∨X.env.scope.names.lookup x=some .free)
def Sub (σ σ':St):Prop:=σ.length=σ'.length∧∀ (i:Nat) v,σ[i]?=some (some v)→σ'[i]?=some (some v)
theorem Sub.set (h:σ[i]?=some none):Sub σ (σ.set i x):=by
 refine ⟨by simp,fun j v e=>?_⟩
 have ne:j≠i:=by rintro rfl; rw [h] at e; cases e
 rw [ζC (Ne.symm ne)]
 exact e
theorem wO {env:Env} (hk:env.scope.kind=.function):∀ {names:List (Str×NameKind)} {x:Str},names.lookup x=some .free→env.scope.names.lookup x=some .cell →
  (names.map fun (n,k)=>if (k == NameKind.free && env.scope.kind == .function && env.kindOf n == some .cell) then (n,NameKind.cell) else (n,k)).lookup x=some .cell
 | [],_,h,_=>by simp at h
 | (n,k) :: r,x,h,hc=>by
  have ih:=@wO env hk r x
  show List.lookup x ((if (k == NameKind.free && env.scope.kind == .function && env.kindOf n == some .cell)=true then (n,NameKind.cell) else (n,k)) :: _)=_
  cases hx:x == n with
  | true =>
   have e:x=n:=by simpa using hx
   subst e
   simp only [List.lookup_cons,hx] at h
   cases h
   have c:(NameKind.free == NameKind.free && env.scope.kind == .function && env.kindOf x == some .cell)=true:=by
    have q:env.kindOf x=some .cell:=hc
    rw [hk,q]; rfl
   rw [if_pos c,ξg,hx]
  | false =>
   simp only [List.lookup_cons,hx] at h
   by_cases hcc:(k == NameKind.free && env.scope.kind == .function && env.kindOf n == some .cell)=true
   ·rw [if_pos hcc,ξg,hx]; exact ih h hc
   ·rw [if_neg hcc,ξg,hx]; exact ih h hc
theorem wN {env:Env}:∀ {names:List (Str×NameKind)} {x:Str},names.lookup x=some .free→env.scope.names.lookup x=some .free →
  (names.map fun (n,k)=>if (k == NameKind.free && env.scope.kind == .function && env.kindOf n == some .cell) then (n,NameKind.cell) else (n,k)).lookup x=some .free
 | [],_,h,_=>by simp at h
 | (n,k) :: r,x,h,hc=>by
  have ih:=@wN env r x
  show List.lookup x ((if (k == NameKind.free && env.scope.kind == .function && env.kindOf n == some .cell)=true then (n,NameKind.cell) else (n,k)) :: _)=_
  cases hx:x == n with
  | true =>
   have e:x=n:=by simpa using hx
   subst e
   simp only [List.lookup_cons,hx] at h
   cases h
   have q:env.kindOf x=some .free:=hc
   rw [if_neg (by rw [q]; simp),List.lookup_cons,hx]
  | false =>
   simp only [List.lookup_cons,hx] at h
   by_cases hcc:(k == NameKind.free && env.scope.kind == .function && env.kindOf n == some .cell)=true
   ·rw [if_pos hcc,ξg,hx]; exact ih h hc
   ·rw [if_neg hcc,ξg,hx]; exact ih h hc
theorem uE {env:Env}:∀ {names:List (Str×NameKind)} {x:Str},(∀ y∈names,y.2≠.cell) →
  ((names.map fun (n,k)=>if (k == NameKind.free && env.scope.kind == .function && env.kindOf n == some .cell) then (n,NameKind.cell) else (n,k)).lookup x=some .cell ∨
   (names.map fun (n,k)=>if (k == NameKind.free && env.scope.kind == .function && env.kindOf n == some .cell) then (n,NameKind.cell) else (n,k)).lookup x=some .free)→∃ y∈names,y.1=x∧y.2=.free
 | [],_,_,h=>by simp at h
 | (n,k) :: r,x,hn,h=>by
  have ih:=@uE env r x (fun y hy=>hn y (ζr _ hy))
  have h':List.lookup x ((if (k == NameKind.free && env.scope.kind == .function && env.kindOf n == some .cell)=true then (n,NameKind.cell) else (n,k)) :: (r.map fun (n,k)=>if (k == NameKind.free && env.scope.kind == .function && env.kindOf n == some .cell) then (n,NameKind.cell) else (n,k)))=some .cell ∨
   List.lookup x ((if (k == NameKind.free && env.scope.kind == .function && env.kindOf n == some .cell)=true then (n,NameKind.cell) else (n,k)) :: (r.map fun (n,k)=>if (k == NameKind.free && env.scope.kind == .function && env.kindOf n == some .cell) then (n,NameKind.cell) else (n,k)))=some .free:=h
  cases hx:x == n with
  | true =>
   have e:x=n:=by simpa using hx
   subst e
   by_cases hcc:(k == NameKind.free && env.scope.kind == .function && env.kindOf x == some .cell)=true
   ·have kf:k=.free:=by
     cases k <;> first | rfl | (simp at hcc)
    exact ⟨(x,k),ζj,rfl,kf⟩
   ·rw [if_neg hcc] at h'
    simp only [List.lookup_cons,hx] at h'
    rcases h' with q | q
    ·cases q; exact absurd rfl (hn (x,.cell) ζj)
    ·cases q; exact ⟨(x,.free),ζj,rfl,rfl⟩
  | false =>
   by_cases hcc:(k == NameKind.free && env.scope.kind == .function && env.kindOf n == some .cell)=true
   ·rw [if_pos hcc] at h'
    simp only [List.lookup_cons,hx] at h'
    obtain ⟨y,hy,e⟩:=ih h'
    exact ⟨y,ζr _ hy,e⟩
   ·rw [if_neg hcc] at h'
    simp only [List.lookup_cons,hx] at h'
    obtain ⟨y,hy,e⟩:=ih h'
    exact ⟨y,ζr _ hy,e⟩
section
variable {X:Cx} {N:List Str} {scope:Scope} {cl:List (Str×Addr)} {js:List (Option Nat)} {pins:List (Addr×Obj)} {σ:St} {H:Hp} {s:Shared} {fp:List Addr}
theorem Qi (K:vM X N scope cl js) (I:Inv X pins σ H s) (hf:∀ b∈fp,FpOk X pins H b) (hlt:∀ b∈fp,b < s.heap.objs.size) {h1:Heap} {m1:Str→Option Value} {tk:Nat} (hn:h1.Ns s.heap.objs.size m1)
  (hk:∀ b o,s.heap.get? b=some o→h1.get? b=some o) :
  Inv (X.blk N scope cl s.heap.objs.size s H fp) [] (capt js σ) H { s with heap:=h1,toks:=tk }:=by
 have bigC:∀ b∈fp,b≠s.heap.objs.size:=fun b hb=>ζw (hlt b hb)
 have hcl:∀ x c,cl.lookup x=some c→X.env.cells.lookup x=some c:=fun x c e=>K.cells (x,c) (PySem.mem_of_lookup e)
 refine ⟨⟨I.ok.mod,K.kind,I.ok.glob,I.ok.blt,ζh _,fun x y c e1 e2=>I.ok.inj x y c (hcl x c e1) (hcl y c e2),fun x hx=>?_,fun x c z _=>absurd z (by intro q; cases q),I.ok.hd,I.ok.frames,.inl rfl,fun b hb=>⟨bigC b hb,fun x c e=>(hf b hb).2.2.2.2.1 x c (hcl x c e)⟩,
  I.bs,Nat.le_trans I.ok.bsz I.sz,fun b o e hb=>?_,fun b hb z=>?_,I.stack,I.stkFree,I.ok.tb.un I.base⟩,rfl,I.bare,Un.kept hk,⟨m1,hn,fun i x v e1 e2 e3=>?_⟩,fun x c e=>?_,I.hok.fresh (Nat.le_refl _),fun x c e=>(I.freeC x c (hcl x c e)).imp id fun z=>⟨rfl,z.2⟩,fun p hp=>absurd (show p∈([]:List (Addr×Obj)) from hp) (by simp),I.hok.kept hk,?_⟩
 ·obtain ⟨y,hy,e1,e2⟩:=uE K.nocell hx
  have q:=K.has y hy e2
  rw [e1] at q
  exact ζX.mp q
 ·rcases (hf b hb).2.2.2.1 with z | z
  ·exact I.ok.noex b o e z
  ·exact absurd (ζA (ζm e) (ζV I.ok.bsz z)) (ζS _)
 ·rcases ζz.mp (I.stkSub b z) with q | q
  ·exact (hf b hb).2.1 q
  ·exact (hf b hb).2.2.1 q
 ·
  have hi:(capt js σ)[i]?=some (some v):=e2
  unfold capt at hi
  rw [ζs] at hi
  cases ej:js[i]? with
  | none=>rw [ej] at hi; cases hi
  | some o =>
   rw [ej] at hi
   cases o with
   | none=>cases hi
   | some j =>
    obtain ⟨y,h1',h2',h3',h4'⟩:=K.cap i j ej
    have e1':N[i]?=some x:=e1
    rw [h1'] at e1'
    cases e1'
    have hj:σ[j]?=some (some v):=by
     cases q:σ[j]? with
     | none=>have hi':(Option.join σ[j]?)=some v:=ζI hi; rw [q] at hi'; cases hi'
     | some w=>have hi':(Option.join σ[j]?)=some v:=ζI hi; rw [q] at hi'; cases w with
      | none=>cases hi'
      | some w=>exact congrArg some hi'
    obtain ⟨m,_,hl⟩:=I.loc
    obtain ⟨u,r,l⟩:=hl j x v h2' hj (.inr h4')
    refine ⟨u,r,.inr ⟨h4'.imp (fun z=>wO I.ok.kind h3' z) (fun z=>wN h3' z),?_⟩⟩
    rcases l with ⟨k,_⟩ | ⟨_,c,ec,hc⟩
    ·rcases h4' with h4' | h4' <;> exact absurd (k.symm.trans h4') (by intro z; cases z)
    ·obtain ⟨c',ec'⟩:=ζX.mp (K.has (x,.free) (PySem.mem_of_lookup h3') rfl)
     have e3':=hcl x c' ec'
     rw [ec] at e3'
     cases e3'
     exact ⟨c,ec',hc.keeps hk⟩
 ·obtain ⟨v,hv⟩:=I.cell x c (hcl x c e)
  exact ⟨v,hv.keeps hk⟩
 ·show (capt js σ).length=N.length
  unfold capt
  rw [ζb]
  exact K.len
theorem U8 (I:Inv X pins σ H s) (hf:∀ b∈fp,FpOk X pins H b) (J:Inv (X.blk N scope cl s.heap.objs.size s H fp) [] σ' H' s') (hs:Heap.SameBut s.heap.objs.size s'.heap h') :
  Inv X pins σ H' { s' with heap:=h' }:=by
 have neC:∀ b o,s.heap.get? b=some o→b≠s.heap.objs.size:=fun b o e=>ζw (ζm e)
 have u:=J.base
 have u':Un (frs X.stack) fp H H' s.heap s'.heap:=u
 refine I.call' (s':={ s' with heap:=h' }) (ch:=fp) J.os ⟨fun b o e n hb hx=>?_,fun b o e n hb hx=>?_,u'.free,fun b o e hx=>?_,u'.tups,u'.frzs,u'.tbls⟩ (fun b ob e=>?_) J.bare fun b hb=>?_
 ·exact (hs.2 b (neC b o e)).trans (u'.keep b o e n hb hx)
 ·obtain ⟨sl,q⟩:=u'.slot b o e n hb hx
  exact ⟨sl,(hs.2 b (neC b o e)).trans q⟩
 ·obtain ⟨o',q⟩:=u'.there b o e hx
  exact ⟨o',(hs.2 b (neC b o e)).trans q⟩
 ·have hfree:H' s.heap.objs.size=none:=J.free
  refine (J.hok b ob e).stay (fun c w' hc q=>(hs.2 c ?_).trans q) (fun _ q=>q) fun _ _ q=>q
  rintro rfl
  rcases hc with rfl | hc
  ·rw [hfree] at e; cases e
  ·rw [hfree] at hc; cases hc
 ·obtain ⟨f0,f1,f2,f3,f4,f5⟩:=hf b hb
  exact ⟨f3,f1,f4,f5⟩
end
def PIf (X:Cx) (ifs:List Expr) (t:TT):Prop :=
 ∀ (pins:List (Addr×Obj)) (s:Shared) (σ:St) (H:Hp) (Q:Bool→Hp→Prop),Inv X pins σ H s→t σ H Q →
  wpAny (model X.prog X.w) X.A (forIn ifs true fun c r=>if r=true then (do let ok ← isTrue c X.env (eval c X.env); pure (ForInStep.yield ok)) else pure (ForInStep.yield r)) (TP X pins σ Q) X.xe s
def tYes:TT:=fun _ H Q=>Q true H
theorem yx:PIf X [] tYes:=fun _ _ _ H _ I h=>wpAny_tests_nil ⟨H,I,h⟩
theorem yS (h:PT X c t):PIf X [c] t:=fun pins s σ H Q I q=>wpAny_tests_one (h pins s σ H Q I q)
def za3 (J:It) (g:TG) (tt:TT) (te:TE) (σc:St) (Q:VK) (H1:Hp):Prop:=∀ D,H1 D=none →
 ∃ W:Nat→Nat→List V→Hp→Prop,(∃ m,W 0 m [] (upd H1 D (.lst [])))∧∀ i m ys H,W i m ys H →
  (J.stop i H∧Q (.ref D) H) ∨
  (J.go i H∧∃ N:List V→Hp→Prop,(∀ zs H',N zs H'→∃ m',m' < m∧W (i + 1) m' zs H')∧∀ x H',J.yld i H x H'→g x σc H' fun σ2 H2=>Sub σc σ2∧tt σ2 H2 fun b H3 =>
   if b=true then te σ2 H3 fun v H4=>H4 D=some (.lst ys)∧ys.length < sizeLine∧N (ys ++ [v]) (upd H4 D (.lst (ys ++ [v]))) else N ys H3)
def ve (js:List (Option Nat)) (wi:TI) (g:TG) (tt:TT) (te:TE):TE:=fun σ H Q=>wi σ H fun J H1=>za3 J g tt te (capt js σ) Q H1
section
variable {prog:Program} {w:World} {A:Around} {R:Result→Shared→Prop} {s:Shared}
theorem YX (Iv:Nat→Shared→Prop) (F:Value→Shared→Prop) (hF:∀ e s,¬ F e s)
  (turn:∀ n s,Iv n s→wpAny (model prog w) A (pyNext it) (fun r s1=>(r=none→R (.ok .next) s1)∧∀ v,r=some v →
   wpAny (model prog w) A (letOwnedTupleGo tg it v) (fun _ s2=>wpAny (model prog w) A (assign tg env v) (fun _ s3 =>
    wpAny (model prog w) A (forIn ifs true fun c r=>if r=true then (do let ok ← isTrue c env (eval c env); pure (ForInStep.yield ok)) else pure (ForInStep.yield r)) (fun ok s4 =>
     (ok=false→∃ m,m < n∧Iv m s4)∧(ok=true→wpAny (model prog w) A (eval elt env) (fun x s5=>wpAny (model prog w) A (call (.builtin "list.append") [acc,x]) (fun _ s6=>∃ m,m < n∧Iv m s6) F s5) F s4)) F s3) F s2) F s1) F s)
  (n:Nat) (h:Iv n s):codeAny (model prog w) A (.compLoop (.ListComp elt [⟨tg,iter,ifs,0⟩] scope pos) 0 it acc env) R s:=by
 refine codeAny_loop rfl Iv (fun n s hI=>?_) n h
 show wpAny _ A (Sem.onRaise (compTurn (.ListComp elt [⟨tg,iter,ifs,0⟩] scope pos) 0 it acc env) (fun x=>do noteFrame x env; theTreesLotGoes x)) _ _ s
 refine wpAny_noted ?_
 rw [compTurn_list]
 have ff:∀ {E:Value→Shared→Prop} (e:Value) (s:Shared),F e s→E e s:=fun e s z=>(hF e s z).elim
 refine wpAny_bind (wpAny_standAt (wpAny_bind (wpAny_mono (turn n s hI) (fun r s1 h1=>?_) ff)))
 obtain ⟨h0,h1⟩:=h1
 cases r with
 | none=>exact wpAny_pure (h0 rfl)
 | some v =>
  refine wpAny_bind (wpAny_mono (h1 v rfl) (fun _ s2 h2=>?_) ff)
  refine wpAny_bind (wpAny_mono h2 (fun _ s3 h3=>?_) ff)
  refine wpAny_bind (wpAny_mono h3 (fun ok s4 h4=>?_) ff)
  cases ok with
  | false=>exact wpAny_pure ⟨rfl,h4.1 rfl⟩
  | true =>
   refine wpAny_bind (wpAny_bind (wpAny_mono (h4.2 rfl) (fun x s5 h5=>?_) ff))
   exact wpAny_bind (wpAny_mono h5 (fun _ s6 h6=>wpAny_pure (wpAny_pure ⟨rfl,h6⟩)) ff)
end
section
variable {X:Cx} {N:List Str} {scope:Scope} {cl:List (Str×Addr)} {js:List (Option Nat)} {pins:List (Addr×Obj)} {σ:St} {H:Hp} {s:Shared}
theorem YY {elt tg iter:Expr} {ifs:List Expr} {pos:Pos} {J:It} {fp:List Addr} {it:Addr} {tn:Nat→Heap→Prop} {g:TG} {tt:TT} {te:TE} {Q:VK} {E:Value→Shared→Prop} {RR:Value→Addr→Result→Shared→Prop}
  (hc:X.calm=true) (K:vM X N scope cl js) (I:Inv X pins σ H s) (T:Turn X.prog X.w X.K tg J fp it tn) (st:tn 0 s.heap) (hf:∀ b∈fp,FpOk X pins H b)
  (hg:∀ C s H fp,PG (X.blk N scope cl C s H fp) tg g) (ht:∀ C s H fp,PIf (X.blk N scope cl C s H fp) ifs tt) (he:∀ C s H fp,PE (X.blk N scope cl C s H fp) elt te)
  (hq:za3 J g tt te (capt js σ) Q H)
  (hRR:∀ (D:Addr) (s3 s':Shared) (H':Hp) (σ':St),Inv X pins σ (upd H D (.lst [])) s3→(∀ b∈fp,FpOk X pins (upd H D (.lst [])) b)→Inv (X.blk N scope cl s3.heap.objs.size s3 (upd H D (.lst [])) fp) [] σ' H' s'→Q (.ref D) H'→RR (.ref D) s3.heap.objs.size (.ok .next) s') :
  wpAny (model X.prog X.w) X.A (newList []) (fun acc s3=>wpAny (model X.prog X.w) X.A (newFunctionEnv scope X.env.globals cl [] X.env.qual none .none (some X.env)) (fun cenv s4 =>
   codeAny (model X.prog X.w) X.A (.compStart (.ListComp elt [⟨tg,iter,ifs,0⟩] scope pos) 0 (.ref it) acc { cenv with scope:=relabel scope X.env }) (RR acc cenv.locals) s4) E s3) E s:=by
 have fresh:H s.heap.objs.size=none:=I.fresh
 have lt:∀ b∈fp,b < s.heap.objs.size:=fun b hb=>by
  obtain ⟨o,e,_⟩:=T.obj _ _ st b hb
  exact ζm e
 obtain ⟨W,⟨m0,w0⟩,step⟩:=hq _ fresh
 refine wpAny_newObj_type ?_
 have I3:=I.lnew (ys:=[]) (its:=[]) (t':=s.toks) .nil (ζL _)
 have f3:∀ b∈fp,FpOk X pins (upd H s.heap.objs.size (.lst [])) b:=fun b hb=>⟨by rw [zp (ζw (lt b hb))]; exact (hf b hb).1,(hf b hb).2⟩
 generalize e3:({ s with heap:=s.heap.push { cls:=.type "list", data:=.seq ([]:List Value).toArray },toks:=s.toks }:Shared)=s3 at I3
 have st3:tn 0 s3.heap:=by
  rw [← e3]
  exact T.keep _ _ _ st fun b _ o e=>ζi _ e
 have lt3:∀ b∈fp,b < s3.heap.objs.size:=fun b hb=>by
  obtain ⟨o,e,_⟩:=T.obj _ _ st3 b hb
  exact ζm e
 refine wpAny_newFunctionEnv K.nocell (by intro y hy; simp at hy) (fun h4 n4 k4=>?_) K.kind
 have old:∀ b o,s3.heap.get? b=some o→h4.get? b=some o:=fun b o e=>(k4.2 b (ζw (ζm e))).trans (ζi _ e)
 have I4:=Qi K I3 f3 lt3 (tk:=s3.toks + ([]:List (Str×Value)).length) n4 old
 have st4:tn 0 h4:=T.keep _ _ _ st3 fun b _ o e=>old b o e
 have fpB:∀ {H':Hp},(∀ b∈fp,H' b=none)→∀ b∈fp,FpOk (X.blk N scope cl s3.heap.objs.size s3 (upd H s.heap.objs.size (.lst [])) fp) [] H' b:=fun hn b hb =>
  ⟨hn b hb,Nat.ne_of_lt (lt3 b hb),fun z=>(List.mem_cons.mp (I3.stkSub b z)).elim (f3 b hb).2.1 (f3 b hb).2.2.1,.inl hb,fun x c e=>(f3 b hb).2.2.2.2.1 x c (K.cells (x,c) (PySem.mem_of_lookup e)),fun p hp=>absurd (show p∈([]:List (Addr×Obj)) from hp) (by simp)⟩
 have loop:codeAny (model X.prog X.w) X.A (.compLoop (.ListComp elt [⟨tg,iter,ifs,0⟩] scope pos) 0 (.ref it) (.ref s.heap.objs.size) (compEnvC scope cl s3.heap.objs.size X.env)) (RR (.ref s.heap.objs.size) s3.heap.objs.size)
   ({ s3 with heap:=h4,toks:=s3.toks + ([]:List (Str×Value)).length }:Shared):=by
  refine YX (fun n s'=>∃ i ys H',Inv (X.blk N scope cl s3.heap.objs.size s3 (upd H s.heap.objs.size (.lst [])) fp) [] (capt js σ) H' s'∧tn i s'.heap∧(∀ b∈fp,H' b=none)∧W i n ys H') (fun _ _=>False) (fun _ _ z=>z) ?_ m0
   ⟨0,[],_,I4,st4,fun b hb=>(f3 b hb).1,w0⟩
  rintro n s5 ⟨i,ys,H5,I5,st5,fr5,w5⟩
  rcases step i n ys H5 w5 with ⟨stop,qn⟩ | ⟨go,Nn,hN,nxt⟩
  ·refine thn (T.done (X.blk N scope cl s3.heap.objs.size s3 (upd H s.heap.objs.size (.lst [])) fp) rfl rfl rfl hc i [] s5 (capt js σ) H5 _ I5 (fpB fr5) st5 stop) fun r s6 ⟨hr,I6⟩=>⟨fun _=>?_,fun v e=>?_⟩
   ·exact hRR _ s3 s6 H5 _ I3 f3 I6 qn
   ·rw [hr] at e; cases e
  ·refine thn (T.item (X.blk N scope cl s3.heap.objs.size s3 (upd H s.heap.objs.size (.lst [])) fp) rfl rfl rfl hc i [] s5 (capt js σ) H5 _ I5 (fpB fr5) st5 go) fun r s6 ⟨u,hr,h6⟩=>⟨fun e=>?_,fun v e=>?_⟩
   ·rw [hr] at e; cases e
   rw [hr] at e; cases e
   refine thn h6 fun _ s7 ⟨x,H7,I7,r7,y7,st7,fr7⟩=>?_
   have I7':=I7.pinned (fpB fr7) (T.obj _ _ st7)
   have back:∀ {σ':St} {H':Hp} {s':Shared} {i' n':Nat} {zs:List V},Inv (X.blk N scope cl s3.heap.objs.size s3 (upd H s.heap.objs.size (.lst [])) fp) ([] ++ tH fp s7.heap) σ' H' s'→Sub (capt js σ) σ'→W (i + 1) n' zs H' →
     ∃ i ys H',Inv (X.blk N scope cl s3.heap.objs.size s3 (upd H s.heap.objs.size (.lst [])) fp) [] (capt js σ) H' s'∧tn i s'.heap∧(∀ b∈fp,H' b=none)∧W i n' ys H':=fun {σ' H' s' i' n' zs} I' sb w'=>by
    refine ⟨i + 1,zs,H',(I'.unpinned).weak sb.1 sb.2,T.keep _ _ _ st7 fun b hb o e=>(I'.pin (b,o) (ζg _ (ζg _ (xr hb e)))).1,fun b hb=>?_,w'⟩
    obtain ⟨o,e,_⟩:=T.obj _ _ st7 b hb
    exact (I'.pin (b,o) (ζg _ (ζg _ (xr hb e)))).2.1
   refine thn (hg _ _ _ _ _ s7 (capt js σ) H7 x _ _ I7' r7 (nxt x H7 y7)) fun _ s8 ⟨σ8,H8,I8,sb8,q8⟩=>?_
   refine thn (ht _ _ _ _ _ s8 σ8 H8 _ I8 q8) fun ok s9 ⟨H9,I9,q9⟩=>⟨fun e=>?_,fun e=>?_⟩
   ·rw [e,if_neg ζt] at q9
    obtain ⟨m',hm,w'⟩:=hN _ _ q9
    exact ⟨m',hm,back (i':=0) I9 sb8 w'⟩
   ·rw [e,if_pos rfl] at q9
    refine thn (he _ _ _ _ _ s9 σ8 H9 _ I9 q9) fun xv sa ⟨v,Ha,Ia,ra,qa,za,nn⟩=>?_
    obtain ⟨m',hm,w'⟩:=hN _ _ nn
    refine thn (yf (X:=X.blk N scope cl s3.heap.objs.size s3 (upd H s.heap.objs.size (.lst [])) fp) _ sa σ8 Ha (.ref s.heap.objs.size) [v] (.ref s.heap.objs.size) [xv] (fun y H'=>H'=upd Ha s.heap.objs.size (.lst (ys ++ [v]))) Ia rfl (.cons ra .nil) ⟨_,ys,v,rfl,rfl,qa,za,rfl⟩) fun y sb ⟨z,Hb,Ib,_,eb⟩=>?_
    rw [eb] at Ib
    exact ⟨m',hm,back (i':=0) Ib sb8 w'⟩
 exact codeAny_compStart_list loop (T.self _ 0 _ _ _ st4 loop)
theorem yc (hc:X.calm=true) (K:vM X N scope cl js) (hi:PI X tg iter wi)
  (hg:∀ C s H fp,PG (X.blk N scope cl C s H fp) tg g) (ht:∀ C s H fp,PIf (X.blk N scope cl C s H fp) ifs tt) (he:∀ C s H fp,PE (X.blk N scope cl C s H fp) elt te)
  (hs:∀ x,foldedSetIterable iter X.env x=pure x:=by intro _; rfl):PE X (.ListComp elt [⟨tg,iter,ifs,0⟩] scope pos) (ve js wi g tt te):=by
 intro pins s σ H Q I h
 rw [eval_ListComp]
 refine wpAny_comprehension_free (use:=none) rfl hs K.clos K.kind K.names (thn (hi pins s σ H _ I h) fun v s1 h1=>thn h1 fun itv s2 h2=>?_)
 obtain ⟨it,fp,tn,J,H2,e,I2,T,st2,f2,hq⟩:=h2
 subst e
 refine YY (RR:=fun acc C=>compPost (model X.prog X.w) X.A X.xe none (EP X pins σ Q) acc C) hc K I2 T st2 f2 hg ht he hq ?_
 intro D s3 s' H' σ' I3 f3 J' q
 obtain ⟨m,hn,_⟩:=J'.loc
 exact ⟨m,hn,fun h'' hs''=>⟨.ref D,H',U8 I3 f3 J' hs'',rfl,q⟩⟩
theorem yU (hc:X.calm=true) (hN:X.N.Nodup) (hiN:X.N[i]?=some y) (hy:X.env.scope.names.lookup y=some .local) (K:vM X N scope cl js) (hi:PI X tg iter wi)
  (hg:∀ C s H fp,PG (X.blk N scope cl C s H fp) tg g) (ht:∀ C s H fp,PIf (X.blk N scope cl C s H fp) ifs tt) (he:∀ C s H fp,PE (X.blk N scope cl C s H fp) elt te)
  (hsw:swapsWith (.ListComp elt [⟨tg,iter,ifs,0⟩] scope pos) (some (.Name y py)) spos.line X.env=pure true:=by rfl)
  (hs:∀ x,foldedSetIterable iter X.env x=pure x:=by intro _; rfl):PS X (.Assign [.Name y py] (.ListComp elt [⟨tg,iter,ifs,0⟩] scope pos) spos) (tAsg (ve js wi g tt te) (yn i)):=by
 intro pins s σ H D I h
 rw [exec_Assign_Name_used _ _ _ _ hsw]
 refine wpAny_bind (wpAny_standAt (wpAny_bind ?_))
 show wpAny _ X.A (do let _ ← comprehension (.ListComp elt [⟨tg,iter,ifs,0⟩] scope pos) scope X.env _ (newList []) false (eval iter X.env) (some (assign (.Name y py) X.env))) _ _ s
 refine wpAny_bind (wpAny_mono (wpAny_comprehension_free (use:=some (assign (.Name y py) X.env)) (Q:=fun _ s'=>SP X pins D .next s') rfl hs K.clos K.kind K.names
  (thn (hi pins s σ H _ I h) fun v s1 h1=>thn h1 fun itv s2 h2=>?_)) (fun _ s' hq=>wpAny_pure (wpAny_pure hq)) fun _ _ e=>e)
 obtain ⟨it,fp,tn,J,H2,e,I2,T,st2,f2,hq⟩:=h2
 subst e
 refine YY (RR:=fun acc C=>compPost (model X.prog X.w) X.A X.xe (some (assign (.Name y py) X.env)) (fun _ s'=>SP X pins D .next s') acc C) hc K I2 T st2 f2 hg ht he hq ?_
 intro Dl s3 s' H' σ' I3 f3 J' q
 have I':Inv X pins σ H' s':=U8 I3 f3 J' (Heap.SameBut.refl ..)
 obtain ⟨m,hn,_⟩:=J'.loc
 have hC:s3.heap.objs.size≠X.env.locals:=Ne.symm (ζw I3.lt)
 have hcell:∀ x c,X.env.cells.lookup x=some c→c≠s3.heap.objs.size:=fun x c e z=>by
  obtain ⟨v,q⟩:=I3.cell x c e
  exact absurd q.lt (by rw [z]; exact ζS _)
 show wpAny _ X.A (assign (.Name y py) X.env (.ref Dl)) _ _ _
 refine wpAny_assign_Name (Yy I' hN hiN (.inl hy) (v:=.ref Dl) rfl (fun s'' I'' ⟨a,hs2,ha⟩=>?_) (.inr hy))
 have ha':s3.heap.objs.size≠a:=by
  rcases ha with ha | ha
  ·rw [ha]; exact hC
  ·exact Ne.symm (hcell y a ha)
 refine ⟨m,hn.sameBut hs2 ha',fun h3 hs3=>?_⟩
 refine ⟨_,H',I''.turned (t':=s''.toks) (it:=s3.heap.objs.size) (fun b o hb e=>(hs3.2 b hb).trans e) J'.free hC (.inr I3.sz) hcell (fun p hp z=>?_),q⟩
 exact absurd (ζm (I3.pin p hp).1) (by rw [z]; exact ζS _)
end
structure zz (P:Program) (w:World) (K:ζa) (mg:Str→Option Value) (base:Heap) (CX:CXT) (x:Str) (ps:List Str) (k:Nat) (sp:Sp):Prop where
 ex:∃ f fd,FnOk P w K mg base CX k f fd ps sp∧mg x=some (.ref f)∧PySem.W.keepIn K (.ref f)=true∧xg K fd ps []
section
variable {X:Cx} {CX:CXT} {k:Nat} {ps:List Str} {sp:Sp} {E:XK} {x:Str} {p pos:Pos} {e:Expr} {es:List Expr} {t:TA}
theorem zez (C:zz X.prog X.w X.K X.mg X.base CX x ps k sp) (hr:Room k X.A) (hg:Gl X x) (hx:Wi CX X E) (ha:PA X (e :: es) t)
  (hdb:(x == ("__debug__" : Str))=false:=by decide) (he:starEach (e :: es) X.env=(false,eval e X.env) :: starEach es X.env:=by rfl) (hpl:(backTo pos (starEach es X.env)).any (·.1)=false:=by rfl) :
  PE X (.Call (.Name x p) (e :: es) [] pos) (v6 sp [] E t):=by
 intro pins s σ H Q I h
 obtain ⟨f,fd,F,hm,hk,hb⟩:=C.ex
 exact (zbM F hr hg hm hk hb .nil hx ha hdb he hpl) pins s σ H Q I h
end
theorem vM.of (clos:closureFor scope X.env=pure cl) (nc:(scope.names.all fun y=>y.2 != .cell)=true) (kind:scope.kind=.function)
  (nm:(scope.names.all fun y=>y.2 != .local || (scope.names.lookup y.1 == some .local))=true) (cells:∀ p∈cl,X.env.cells.lookup p.1=some p.2) (has:(scope.names.all fun y=>y.2 != .free || (cl.lookup y.1).isSome)=true)
  (len:js.length=N.length) (cap:((js.zip N).all fun p=>match p.1 with | none=>true | some j=>(X.N[j]? == some p.2) && (scope.names.lookup p.2 == some .free) && (X.env.scope.names.lookup p.2 == some .cell || X.env.scope.names.lookup p.2 == some .free))=true):vM X N scope cl js:=by
 rw [ζ1] at nc nm has cap
 refine ⟨clos,fun y hy=>by simpa using nc y hy,kind,fun y hy e=>?_,cells,fun y hy e=>?_,len,fun i j e=>?_⟩
 ·have q:=nm y hy
  rw [e] at q
  simpa using q
 ·have q:=has y hy
  rw [e] at q
  simpa using q
 ·have hi:i < js.length:=(ζe.mp e).1
  have hx:N[i]?=some (N[i]'(by omega)):=ζp (by omega)
  have hz:(js.zip N)[i]?=some (some j,N[i]'(by omega)):=by
   rw [List.getElem?_zip_eq_some]
   exact ⟨e,hx⟩
  have q:=cap _ (ζk hz)
  simp only [Bool.and_eq_true,Bool.or_eq_true,beq_iff_eq] at q
  exact ⟨_,hx,q.1.1,q.1.2,q.2⟩
theorem Same.new (h:H p=none) (o:HO):Same H (upd H p o):=fun b u q=>by rw [zp (zB q h)]; exact q
def Uz (K:ζa):Sp:=fun vs H Q _=>∃ (a:Addr) (ns:List Int),vs=[.ref a]∧SqL K H a (ns.map V.int)∧ns.length≤63∧∀ H',Q (.bl true) H'
theorem U1 {K:ζa} {H:Hp}:∀ ns:List Int,zO K H (ns.map V.int) (ns.map PyData.int)
 | []=>.nil
 | n :: r=>.cons (.int n) (U1 r)
section
variable {X:Cx} {K:ζa}
theorem zu (hK:X.K=K):IxR X (rIxL K):=by subst hK; exact zb6
theorem yE (hK:X.K=K):IxR X (rIxT K):=by subst hK; exact zdV
theorem zm (hK:X.K=K):yq X (.builtin "len") (fun xs H Q=>∃ p ys,xs=[.ref p]∧(SqL K H p ys∨SqT K H p ys)∧Q (.int ys.length) H):=by subst hK; exact We
theorem yR (hK:X.K=K):yq X (.type "list") (fun xs H Q=>∃ p ys,xs=[.ref p]∧(SqL K H p ys∨SqT K H p ys)∧∀ l,H l=none→Q (.ref l) (upd H l (.lst ys))):=by subst hK; exact Wd
theorem XI (hK:X.K=K) (hu:X.A.units + 64 < cLine):OpR X (compareOp .Eq) (rEqD K false):=by subst hK; exact zdF hu
theorem zbO (hK:X.K=K) (hu:X.A.units + 64 < cLine):OpR X (compareOp .NotEq) (rEqD K true):=by subst hK; exact zdD hu
theorem ux (hK:X.K=K):SlR X (rSlL K):=by subst hK; exact zbv
theorem zG (hK:X.K=K):OpR X (compareOp .In) (rIn K false):=by subst hK; exact Tz
theorem yd (hK:X.K=K):OpR X (compareOp .NotIn) (rIn K true):=by subst hK; exact XH
theorem XC (hK:X.K=K) (hc:X.calm=true) (h:PGs X es t)
  (hn:(assignEach es X.env).length=n:=by rfl) (hst:(assignEach es X.env).findIdx? (·.1)=none:=by rfl):PG X (.Tuple es k pos) (gTup K n t):=by subst hK; exact zdx hc h hn hst
end
end L2
namespace L2
open PySem PySem.Spec PyProof.Rows PySem.SeqAt
section
variable {X:Cx} {K:ζa}
def rNeS (K:ζa):R2:=fun x y H Q=>∃ d,Dp K H x d∧Dp K H y d∧shaped d=true∧Q (.bl false) H
theorem zdC (hu:X.A.units + 64 < cLine):OpR X (compareOp .NotEq) (rNeS X.K):=by
 intro pins s σ H x y v u Q I rx ry h
 obtain ⟨d,h1,h2,z,q⟩:=h
 obtain ⟨as,ra⟩:=h1.reads I rx
 obtain ⟨bs,rb⟩:=h2.reads I ry
 refine ne_dataH ra rb z z hu ?_
 rw [eqv_refl d (canLay_of_shaped z)]
 exact ⟨.bl false,H,I,rfl,q⟩
theorem UF (hK:X.K=K) (hu:X.A.units + 64 < cLine):OpR X (compareOp .NotEq) (rNeS K):=by subst hK; exact zdC hu
end
end L2
namespace L2
open PySem PySem.Spec PyProof.Rows
section
end
end L2
namespace Cm
open PySem L2
theorem take_succ {α:Type} {xs:List α} {i:Nat} {x:α} (h:xs[i]?=some x):xs.take (i + 1)=xs.take i ++ [x]:=by
 rw [List.take_add_one,h]; rfl
theorem zK (F:Fun K x x st f fd) (hm:mg x=some (.ref f)) (hb:xg K fd ps []) (G:FnOk P w K mg base CX0 k f fd ps sp) :
  zz P w K mg base CX0 x ps k sp:=⟨f,fd,G,hm,F.kp,hb⟩
structure At (K:ζa) (x:Str) (st:Stmt) (f:Addr) (fd:FuncData):Prop where
 ns:PySem.W.nsIn K mainGlobals x=some (some (.ref f))
 fn:Fun K x x st f fd
theorem Xf {K:ζa} {x:Str} {st:Stmt} {f:Addr} {oc:Value} {od an:Option Addr} {osl:Array (Option Value)} {kV doc pm cdv ct:Value} (a:PySem.W.nsIn K mainGlobals x=some (some (.ref f)))
  (l:K.lookup f=some ⟨oc,od,.func (PySem.W.fnOf x x (wg st) (xB st) (zo st) .none kV doc pm an cdv ct),osl⟩) (c:PySem.W.codeIn K cdv x=true) (k:PySem.W.keepIn K (.ref f)=true):∃ f fd,At K x st f fd:=⟨f,_,a,V9 l c k⟩
theorem Z3:∀ ns:List Int,PyData.depthAll (ns.map .int)=0
 | []=>rfl
 | n :: r=>by
  show max (PyData.depth (.int n)) (PyData.depthAll (r.map .int))=0
  rw [Z3 r]; rfl
theorem tR (ns:List Int):PySem.SeqAt.shaped (.list (ns.map .int))=true:=by
 unfold PySem.SeqAt.shaped
 have h1:PyData.canLay0 (.list (ns.map .int))=true:=by
  show PyData.canLayAll0 (ns.map .int)=true
  induction ns with
  | nil=>rfl
  | cons n r ih =>
   show (PyData.canLay0 (.int n) && PyData.canLayAll0 (r.map .int))=true
   rw [ih]; rfl
 have h2:PyData.depth (.list (ns.map .int))=1:=by
  show PyData.depthAll (ns.map .int) + 1=1
  rw [Z3]
 rw [h1,h2]; rfl
end Cm
namespace PD
open PySem L2
variable {K:ζa}
theorem Same.seqT (e:Same H H') (h:SqT K H a xs):SqT K H' a xs:=by
 rcases h with (h | ⟨o,h⟩) | h
 ·exact .inl (.inl (e _ _ h))
 ·exact .inl (.inr ⟨o,e _ _ h⟩)
 ·exact .inr h
mutual
theorem yT (e:Same F F'):∀ {v:V} {d:PyData},Dp K F v d→Dp K F' v d
 | _,_,.non=>.non
 | _,_,.bl b=>.bl b
 | _,_,.int i=>.int i
 | _,_,.str x=>.str x
 | _,_,.lst h k=>.lst (e.seq h) (xw e k)
 | _,_,.tup h k=>.tup (Same.seqT e h) (xw e k)
theorem xw (e:Same F F'):∀ {vs:List V} {ds:List PyData},zO K F vs ds→zO K F' vs ds
 | _,_,.nil=>.nil
 | _,_,.cons h k=>.cons (yT e h) (xw e k)
end
theorem zO.length:∀ {vs:List V} {ds:List PyData},zO K F vs ds→vs.length=ds.length
 | _,_,.nil=>rfl
 | _,_,.cons _ k=>congrArg (· + 1) (zO.length k)
theorem zO.get:∀ {vs:List V} {ds:List PyData} {i:Nat} {d:PyData},zO K F vs ds→ds[i]?=some d→∃ v,vs[i]?=some v∧Dp K F v d
 | _,_,_,_,.nil,e=>by simp at e
 | _,_,0,_,.cons h _,e=>by simp at e; subst e; exact ⟨_,rfl,h⟩
 | _,_,i + 1,d,.cons _ k,e=>by
  obtain ⟨v,h1,h2⟩:=zO.get (i:=i) k (by simpa using e)
  exact ⟨v,by simpa using h1,h2⟩
theorem w6 (ns:List Int):zO K F (ns.map V.int) (ns.map PyData.int):=U1 ns
theorem zX:∀ {vs:List V} {ns:List Int},zO K F vs (ns.map PyData.int)→vs=ns.map V.int
 | _,[],.nil=>rfl
 | _,n :: r,.cons h t=>by cases h; rw [ζH,zX t]
theorem wA (h:Dp K F v (.int i)):v=.int i:=by cases h; rfl
theorem zeH (h:Dp K F v (.bool b)):v=.bl b:=by cases h; rfl
theorem Wa (h:Dp K F v (.str x)):v=.str x:=by cases h; rfl
theorem zd5 (h:Dp K F v (.list ds)):∃ a vs,v=.ref a∧SqL K F a vs∧zO K F vs ds:=by cases h with | lst h k=>exact ⟨_,_,rfl,h,k⟩
theorem zd4 (h:Dp K F v (.tuple ds)):∃ a vs,v=.ref a∧SqT K F a vs∧zO K F vs ds:=by cases h with | tup h k=>exact ⟨_,_,rfl,h,k⟩
structure Gr (H F H' F':Hp):Prop where
 h:Same H H'
 f:Same F F'
 le:Same F' H'
 ap:∀ a o,H a=some o→F a=none→F' a=none
theorem Gr.refl (le:Same F H):Gr H F H F:=⟨.refl _,.refl _,le,fun _ _ _ h=>h⟩
theorem Gr.trans (a:Gr H F H1 F1) (b:Gr H1 F1 H2 F2):Gr H F H2 F2:=⟨a.h.trans b.h,a.f.trans b.f,b.le,fun c o q n=>b.ap c o (a.h _ _ q) (a.ap c o q n)⟩
theorem Gr.new (le:Same F H) (hp:H p=none) (o:HO):Gr H F (upd H p o) (upd F p o):=by
 have fp:F p=none:=le.free hp
 refine ⟨Same.new hp o,Same.new fp o,fun b u q=>?_,fun b u q n=>?_⟩
 ·by_cases e:b=p
  ·subst e; rw [zi] at q ⊢; exact q
  ·rw [zp e] at q ⊢; exact le _ _ q
 ·rw [zp (zB q hp)]; exact n
theorem Gr.newO (le:Same F H) (hp:H p=none) (o:HO):Gr H F (upd H p o) F:=⟨Same.new hp o,.refl _,fun b u q=>by rw [zp (zB (le _ _ q) hp)]; exact le _ _ q,fun _ _ _ n=>n⟩
inductive Sx where
 | fresh | spoil (T:Addr→Prop)
def Sx.has (S:Sx) (H0:Hp) (a:Addr):Prop:=match S with | .fresh=>H0 a≠none | .spoil T=>H0 a≠none∨T a
def LN (K:ζa) (κ:Bool) (S:Sx) (H0 F:Hp) (a:Addr) (xs:List V):Prop:=match κ with
 | true=>F a=some (.lst xs)∧¬ S.has H0 a
 | false=>SqL K F a xs
theorem LN.sq (h:LN K κ S H0 F a xs):SqL K F a xs:=by
 cases κ with
 | true=>exact SqL.of h.1
 | false=>exact h
theorem LN.mono (h:LN K κ S H0 F a xs) (e:Same F F'):LN K κ S H0 F' a xs:=by
 cases κ with
 | true=>exact ⟨e _ _ h.1,h.2⟩
 | false=>exact e.seq h
theorem LN.new (h:¬ S.has H0 a):LN K κ S H0 (upd F a (.lst xs)) a xs:=by
 cases κ with
 | true=>exact ⟨zi,h⟩
 | false=>exact SqL.of zi
mutual
inductive Rp (K:ζa) (κ:Bool) (S:Sx) (H0 F:Hp):V→PyData→Prop
 | non:Rp K κ S H0 F .non .none
 | bl (b:Bool):Rp K κ S H0 F (.bl b) (.bool b)
 | int (i:Int):Rp K κ S H0 F (.int i) (.int i)
 | str (x:Str):Rp K κ S H0 F (.str x) (.str x)
 | lst {a:Addr} {xs:List V} {ds:List PyData}:LN K κ S H0 F a xs→zv K κ S H0 F xs ds→Rp K κ S H0 F (.ref a) (.list ds)
 | tup {a:Addr} {xs:List V} {ds:List PyData}:SqT K F a xs→zv K κ S H0 F xs ds→Rp K κ S H0 F (.ref a) (.tuple ds)
inductive zv (K:ζa) (κ:Bool) (S:Sx) (H0 F:Hp):List V→List PyData→Prop
 | nil:zv K κ S H0 F [] []
 | cons {v:V} {vs:List V} {d:PyData} {ds:List PyData}:Rp K κ S H0 F v d→zv K κ S H0 F vs ds→zv K κ S H0 F (v :: vs) (d :: ds)
end
section
variable {κ κ':Bool} {S S':Sx} {H0 H0' F F':Hp}
mutual
theorem xS (hl:∀ a xs,LN K κ S H0 F a xs→LN K κ' S' H0' F' a xs) (ht:∀ a xs,SqT K F a xs→SqT K F' a xs):∀ {v:V} {d:PyData},Rp K κ S H0 F v d→Rp K κ' S' H0' F' v d
 | _,_,.non=>.non
 | _,_,.bl b=>.bl b
 | _,_,.int i=>.int i
 | _,_,.str x=>.str x
 | _,_,.lst h k=>.lst (hl _ _ h) (xm hl ht k)
 | _,_,.tup h k=>.tup (ht _ _ h) (xm hl ht k)
theorem xm (hl:∀ a xs,LN K κ S H0 F a xs→LN K κ' S' H0' F' a xs) (ht:∀ a xs,SqT K F a xs→SqT K F' a xs):∀ {vs:List V} {ds:List PyData},zv K κ S H0 F vs ds→zv K κ' S' H0' F' vs ds
 | _,_,.nil=>.nil
 | _,_,.cons h k=>.cons (xS hl ht h) (xm hl ht k)
end
theorem yA (e:Same F F') (h:Rp K κ S H0 F v d):Rp K κ S H0 F' v d:=xS (fun _ _ z=>z.mono e) (fun _ _ z=>Same.seqT e z) h
theorem zw (e:Same F F') (h:zv K κ S H0 F vs ds):zv K κ S H0 F' vs ds:=xm (fun _ _ z=>z.mono e) (fun _ _ z=>Same.seqT e z) h
mutual
theorem yW:∀ {v:V} {d:PyData},Rp K κ S H0 F v d→Dp K F v d
 | _,_,.non=>.non
 | _,_,.bl b=>.bl b
 | _,_,.int i=>.int i
 | _,_,.str x=>.str x
 | _,_,.lst h k=>.lst h.sq (zP k)
 | _,_,.tup h k=>.tup h (zP k)
theorem zP:∀ {vs:List V} {ds:List PyData},zv K κ S H0 F vs ds→zO K F vs ds
 | _,_,.nil=>.nil
 | _,_,.cons h k=>.cons (yW h) (zP k)
end
mutual
theorem uc:∀ {v:V} {d:PyData},Dp K F v d→Rp K false S H0 F v d
 | _,_,.non=>.non
 | _,_,.bl b=>.bl b
 | _,_,.int i=>.int i
 | _,_,.str x=>.str x
 | _,_,.lst h k=>.lst h (uZ k)
 | _,_,.tup h k=>.tup h (uZ k)
theorem uZ:∀ {vs:List V} {ds:List PyData},zO K F vs ds→zv K false S H0 F vs ds
 | _,_,.nil=>.nil
 | _,_,.cons h k=>.cons (uc h) (uZ k)
end
theorem uB (hk:κ'=true→κ=true) (h:Rp K κ S H0 F v d):Rp K κ' S H0 F v d:=by
 cases κ' with
 | false=>exact uc (yW h)
 | true=>rw [hk rfl] at h; exact h
theorem zv.length (h:zv K κ S H0 F vs ds):vs.length=ds.length:=zO.length (zP h)
theorem zv.get:∀ {vs:List V} {ds:List PyData} {i:Nat} {d:PyData},zv K κ S H0 F vs ds→ds[i]?=some d→∃ v,vs[i]?=some v∧Rp K κ S H0 F v d
 | _,_,_,_,.nil,e=>by simp at e
 | _,_,0,_,.cons h _,e=>by simp at e; subst e; exact ⟨_,rfl,h⟩
 | _,_,i + 1,d,.cons _ k,e=>by
  obtain ⟨v,h1,h2⟩:=zv.get (i:=i) k (by simpa using e)
  exact ⟨v,by simpa using h1,h2⟩
theorem zv.get':∀ {vs:List V} {ds:List PyData} {i:Nat} {v:V},zv K κ S H0 F vs ds→vs[i]?=some v→∃ d,ds[i]?=some d∧Rp K κ S H0 F v d
 | _,_,_,_,.nil,e=>by simp at e
 | _,_,0,_,.cons h _,e=>by simp at e; subst e; exact ⟨_,rfl,h⟩
 | _,_,i + 1,d,.cons _ k,e=>by
  obtain ⟨v,h1,h2⟩:=zv.get' (i:=i) k (by simpa using e)
  exact ⟨v,by simpa using h1,h2⟩
theorem zv.append:∀ {vs ws:List V} {ds es:List PyData},zv K κ S H0 F vs ds→zv K κ S H0 F ws es→zv K κ S H0 F (vs ++ ws) (ds ++ es)
 | _,_,_,_,.nil,k=>k
 | _,_,_,_,.cons h t,k=>.cons h (zv.append t k)
theorem zv.take:∀ {vs:List V} {ds:List PyData} (n:Nat),zv K κ S H0 F vs ds→zv K κ S H0 F (vs.take n) (ds.take n)
 | _,_,0,_=>.nil
 | _,_,_ + 1,.nil=>.nil
 | _,_,n + 1,.cons h t=>.cons h (zv.take n t)
theorem zv.drop:∀ {vs:List V} {ds:List PyData} (n:Nat),zv K κ S H0 F vs ds→zv K κ S H0 F (vs.drop n) (ds.drop n)
 | _,_,0,r=>r
 | _,_,_ + 1,.nil=>.nil
 | _,_,n + 1,.cons _ t=>zv.drop n t
theorem ym (h:Rp K κ S H0 F v (.int i)):v=.int i:=by cases h; rfl
theorem uC (h:Rp K κ S H0 F v (.bool b)):v=.bl b:=by cases h; rfl
theorem tE (h:Rp K κ S H0 F v (.list ds)):∃ a vs,v=.ref a∧LN K κ S H0 F a vs∧zv K κ S H0 F vs ds:=by cases h with | lst h k=>exact ⟨_,_,rfl,h,k⟩
theorem uf (h:Rp K κ S H0 F v (.tuple ds)):∃ a vs,v=.ref a∧SqT K F a vs∧zv K κ S H0 F vs ds:=by cases h with | tup h k=>exact ⟨_,_,rfl,h,k⟩
end
def imm:PyData→Bool
 | .none=>true
 | .bool _=>true
 | .int _=>true
 | .str _=>true
 | .tuple ds=>immAll ds
 | _=>false
where immAll:List PyData→Bool
 | []=>true
 | d :: r=>imm d && immAll r
mutual
theorem Z2:∀ {v:V} {d:PyData},imm d=true→Dp K F v d→Rp K κ S H0 F v d
 | _,_,_,.non=>.non
 | _,_,_,.bl b=>.bl b
 | _,_,_,.int i=>.int i
 | _,_,_,.str x=>.str x
 | _,_,h,.lst _ _=>by unfold imm at h; cases h
 | _,_,h,.tup q k=>.tup q (tN (by unfold imm at h; exact h) k)
theorem tN:∀ {vs:List V} {ds:List PyData},imm.immAll ds=true→zO K F vs ds→zv K κ S H0 F vs ds
 | _,_,_,.nil=>.nil
 | _,_,h,.cons p k=>by
  unfold imm.immAll at h
  rw [ξP] at h
  exact .cons (Z2 h.1 p) (tN h.2 k)
end
theorem x6 (h:∀ d∈ds,imm d=true) (k:zO K F vs ds):zv K κ S H0 F vs ds:=by
 refine tN ?_ k
 clear k
 induction ds with
 | nil=>rfl
 | cons d r ih =>
  unfold imm.immAll
  rw [h d ζj,ih fun x hx=>h x (ζr _ hx)]
  rfl
inductive DV where
 | fz (κ:Bool) (d:PyData) | ow (κ:Bool) (ds:List PyData) | tn (d:PyData) | ox | o2 (r:Option Addr) (dss:List (List PyData)) | fn (a:Addr) | xn (o:Addr→HO) | oa (a:Addr) (κ:Bool) (ds:List PyData) | xp (φ:Hp→V→Prop) | od (o:HO) | og (ad:Hp→V→Addr→Prop) (ψ:Sx→Hp→Hp→Hp→V→Prop)
abbrev Ctx:=List (Option DV)
structure OwnO (S:Sx) (H0 H F:Hp) (a:Addr) (o:HO):Prop where
 h:H a=some o
 f:F a=none
 n:H0 a=none
 s:¬ S.has H0 a
abbrev vj (S:Sx) (H0 H F:Hp) (a:Addr) (vs:List V):Prop:=OwnO S H0 H F a (.lst vs)
structure IdA (r:Option Addr) (v:V) (a:Addr):Prop where
 eq:v=.ref a
 id:∀ b,r=some b→a=b
structure GOk (ad:Hp→V→Addr→Prop) (ψ:Sx→Hp→Hp→Hp→V→Prop):Prop where
 pl:∀ H H' v,(∀ a,ad H v a→H' a=H a)→∀ a,ad H' v a↔ad H v a
 ps:∀ S H0 H H' F F' v,(∀ a,ad H v a→H' a=H a)→Same F F'→ψ S H0 H F v→ψ S H0 H' F' v
def HasV (K:ζa) (S:Sx) (H0 H F:Hp) (v:V):DV→Prop
 | .fz κ d=>Rp K κ S H0 F v d
 | .ow κ ds=>∃ a vs,v=.ref a∧vj S H0 H F a vs∧zv K κ S H0 F vs ds
 | .tn d=>∃ T,S=.spoil T∧Rp K true (.spoil fun a=>¬ T a) (fun _=>none) F v d
 | .ox=>∃ a vs,v=.ref a∧vj S H0 H F a vs
 | .fn a=>v=.ref a
 | .xn o=>∃ a,v=.ref a∧F a=some (o a)
 | .oa a κ ds=>v=.ref a∧∃ vs,vj S H0 H F a vs∧zv K κ S H0 F vs ds
 | .xp φ=>∃ F1,Same F1 F∧φ F1 v
 | .od o=>∃ a,v=.ref a∧OwnO S H0 H F a o
 | .og ad ψ=>GOk ad ψ∧(∀ a,ad H v a→∃ o,OwnO S H0 H F a o)∧ψ S H0 H F v
 | .o2 r dss=>∃ a vs,IdA r v a∧vj S H0 H F a vs∧V.ref a∉vs∧vs.Nodup∧vs.length=dss.length∧∀ (j:Nat) x,vs[j]?=some x→∃ b us ds,x=.ref b∧vj S H0 H F b us∧dss[j]?=some ds∧zv K true S H0 F us ds
def Owns (H:Hp) (v:V):DV→Addr→Prop
 | .ow _ _,a=>v=.ref a
 | .ox,a=>v=.ref a
 | .oa _ _ _,a=>v=.ref a
 | .od _,a=>v=.ref a
 | .og ad _,a=>ad H v a
 | .o2 _ _,a=>v=.ref a∨∃ p vs,v=.ref p∧H p=some (.lst vs)∧V.ref a∈vs
 | _,_=>False
structure DEnv (K:ζa) (S:Sx) (H0 F0 H F:Hp) (σ:St) (Γ:Ctx):Prop where
 gr:Gr H0 F0 H F
 l0:Same F0 H0
 sd:∀ a,S.has H0 a→∃ o,H a=some o
 s0:∀ T,S=.spoil T→∀ a,T a→H0 a=none
 len:σ.length=Γ.length
 has:∀ (i:Nat) (x:DV),Γ[i]?=some (some x)→∃ v,σ[i]?=some (some v)∧HasV K S H0 H F v x
 ne:∀ (i j:Nat) (x y:DV) (v w:V) (a:Addr),Γ[i]?=some (some x)→Γ[j]?=some (some y)→σ[i]?=some (some v)→σ[j]?=some (some w)→Owns H v x a→Owns H w y a→i=j
variable {S:Sx} {κ:Bool}
theorem DEnv.le (e:DEnv K S H0 F0 H F σ Γ):Same F H:=e.gr.le
theorem DEnv.out (e:DEnv K S H0 F0 H F σ Γ) (hp:H p=none):¬ S.has H0 p:=fun c=>by
 obtain ⟨o,q⟩:=e.sd p c
 rw [hp] at q; cases q
theorem OwnO.mono (o:OwnO S H0 H F a u) (g:Gr H F H' F'):OwnO S H0 H' F' a u:=⟨g.h _ _ o.h,g.ap _ _ o.h o.f,o.n,o.s⟩
theorem HasV.mono (h:HasV K S H0 H F v x) (g:Gr H F H' F'):HasV K S H0 H' F' v x:=by
 cases x with
 | fz κ d=>exact yA g.f h
 | ow κ ds=>obtain ⟨a,vs,e,o,k⟩:=h; exact ⟨a,vs,e,o.mono g,zw g.f k⟩
 | tn d=>obtain ⟨T,e,k⟩:=h; exact ⟨T,e,yA g.f k⟩
 | ox=>obtain ⟨a,vs,e,o⟩:=h; exact ⟨a,vs,e,o.mono g⟩
 | o2 r dss =>
  obtain ⟨a,vs,e,o,n1,n2,l,k⟩:=h
  refine ⟨a,vs,e,o.mono g,n1,n2,l,fun j x hx=>?_⟩
  obtain ⟨b,us,ds,e2,o2,h2,k2⟩:=k j x hx
  exact ⟨b,us,ds,e2,o2.mono g,h2,zw g.f k2⟩
 | fn a=>exact h
 | xn φ=>obtain ⟨a,e,k⟩:=h; exact ⟨a,e,g.f _ _ k⟩
 | oa a κ ds=>obtain ⟨e,vs,o,k⟩:=h; exact ⟨e,vs,o.mono g,zw g.f k⟩
 | xp φ=>obtain ⟨F1,s,k⟩:=h; exact ⟨F1,s.trans g.f,k⟩
 | od u=>obtain ⟨a,e,o⟩:=h; exact ⟨a,e,o.mono g⟩
 | og ad ψ =>
  obtain ⟨ok,w,p⟩:=h
  have eq:∀ a,ad H v a→H' a=H a:=fun a z=>by
   obtain ⟨o,y⟩:=w a z
   rw [y.h]
   exact g.h _ _ y.h
  refine ⟨ok,fun a z=>?_,ok.ps S H0 H H' F F' v eq g.f p⟩
  obtain ⟨o,y⟩:=w a ((ok.pl H H' v eq a).mp z)
  exact ⟨o,y.mono g⟩
theorem HasV.owns (h:HasV K S H0 H F v x) (o:Owns H v x a):∃ u,OwnO S H0 H F a u:=by
 cases x with
 | fz _ _=>exact o.elim
 | tn _=>exact o.elim
 | ow κ ds=>obtain ⟨b,vs,e,w,_⟩:=h; cases (show v=.ref a from o); cases e; exact ⟨_,w⟩
 | ox=>obtain ⟨b,vs,e,w⟩:=h; cases (show v=.ref a from o); cases e; exact ⟨_,w⟩
 | o2 r dss =>
  obtain ⟨b,vs,e,w,_,_,_,k⟩:=h
  rcases o with o | ⟨p,us,e2,hp,hm⟩
  ·cases o; cases e.eq; exact ⟨_,w⟩
  ·cases e.eq
   cases e2
   have hw:=w.h
   rw [hp] at hw
   cases hw
   obtain ⟨j,hj⟩:=ξy.mp hm
   obtain ⟨c,ws,ds,e3,o3,_⟩:=k j _ hj
   cases e3
   exact ⟨_,o3⟩
 | fn _=>exact o.elim
 | xn _=>exact o.elim
 | oa b κ ds=>obtain ⟨e,vs,w,_⟩:=h; cases (show v=.ref a from o); cases e; exact ⟨_,w⟩
 | xp _=>exact o.elim
 | od u=>obtain ⟨b,e,w⟩:=h; cases (show v=.ref a from o); cases e; exact ⟨u,w⟩
 | og ad ψ=>exact h.2.1 a o
theorem Owns.back (h:HasV K S H0 H F v x) (g:∀ b u,OwnO S H0 H F b u→H' b=some u) (o:Owns H' v x a):Owns H v x a:=by
 cases x with
 | fz _ _=>exact o.elim
 | tn _=>exact o.elim
 | ow κ ds=>exact o
 | ox=>exact o
 | o2 r dss =>
  rcases o with o | ⟨p,us,e2,hp,hm⟩
  ·exact .inl o
  ·obtain ⟨b,vs,e',w,_⟩:=h
   have e:=e'.eq
   rw [e2] at e
   cases e
   rw [g _ _ w] at hp
   cases hp
   exact .inr ⟨p,_,e2,w.h,hm⟩
 | fn _=>exact o.elim
 | xn _=>exact o.elim
 | oa b κ ds=>exact o
 | xp _=>exact o.elim
 | od _=>exact o
 | og ad ψ =>
  obtain ⟨ok,w,p⟩:=h
  exact (ok.pl H H' v (fun b z=>by
   obtain ⟨u,y⟩:=w b z
   rw [g _ _ y,y.h]) a).mp o
theorem DEnv.mono (e:DEnv K S H0 F0 H F σ Γ) (g:Gr H F H' F'):DEnv K S H0 F0 H' F' σ Γ where
 gr:=e.gr.trans g
 l0:=e.l0
 sd:=fun a h=>let ⟨o,q⟩:=e.sd a h; ⟨o,g.h _ _ q⟩
 s0:=e.s0
 len:=e.len
 has:=fun i x h=>let ⟨v,a,b⟩:=e.has i x h; ⟨v,a,b.mono g⟩
 ne:=fun i j x y v w a h1 h2 h3 h4 o1 o2=>by
  obtain ⟨v',q1,q2⟩:=e.has i x h1
  obtain ⟨w',q3,q4⟩:=e.has j y h2
  rw [h3] at q1
  cases q1
  rw [h4] at q3
  cases q3
  exact e.ne i j x y v w a h1 h2 h3 h4 (o1.back q2 fun _ _ z=>g.h _ _ z.h) (o2.back q4 fun _ _ z=>g.h _ _ z.h)
section
variable {Γ:Ctx}
def EvE (K:ζa) (S:Sx) (κ:Bool) (t:TE) (Γ:Ctx) (d:PyData):Prop:=∀ (H0 F0 H F:Hp) (σ:St),DEnv K S H0 F0 H F σ Γ→∀ Q:VK,(∀ v H' F',Gr H F H' F'→Rp K κ S H0 F' v d→Q v H')→t σ H Q
def EvO (K:ζa) (S:Sx) (κ:Bool) (t:TE) (Γ:Ctx) (ds:List PyData):Prop:=∀ (H0 F0 H F:Hp) (σ:St),DEnv K S H0 F0 H F σ Γ→∀ Q:VK,(∀ a vs H' F',Gr H F H' F'→H a=none→H' a=some (.lst vs)→F' a=none→zv K κ S H0 F' vs ds→Q (.ref a) H')→t σ H Q
def EvL (K:ζa) (S:Sx) (κ:Bool) (t:TE) (Γ:Ctx) (ds:List PyData):Prop:=∀ (H0 F0 H F:Hp) (σ:St),DEnv K S H0 F0 H F σ Γ→∀ Q:VK,(∀ a vs H' F',Gr H F H' F'→SqL K H' a vs→zv K κ S H0 F' vs ds→Q (.ref a) H')→t σ H Q
def EvD (K:ζa) (S:Sx) (t:TE) (Γ:Ctx) (d:PyData):Prop:=∀ (H0 F0 H F:Hp) (σ:St),DEnv K S H0 F0 H F σ Γ→∀ Q:VK,(∀ v H' F',Gr H F H' F'→Dp K H' v d→Q v H')→t σ H Q
def EvT (K:ζa) (S:Sx) (t:TT) (Γ:Ctx) (b:Bool):Prop:=∀ (H0 F0 H F:Hp) (σ:St),DEnv K S H0 F0 H F σ Γ→∀ Q:Bool→Hp→Prop,(∀ H' F',Gr H F H' F'→Q b H')→t σ H Q
def EvA (K:ζa) (S:Sx) (κ:Bool) (t:TA) (Γ:Ctx) (ds:List PyData):Prop:=∀ (H0 F0 H F:Hp) (σ:St),DEnv K S H0 F0 H F σ Γ→∀ Q:List V→Hp→Prop,(∀ vs H' F',Gr H F H' F'→zv K κ S H0 F' vs ds→Q vs H')→t σ H Q
def EvP (K:ζa) (S:Sx) (t:TO) (Γ:Ctx) (o:Option Int):Prop:=∀ (H0 F0 H F:Hp) (σ:St),DEnv K S H0 F0 H F σ Γ→∀ Q:Option Int→Hp→Prop,(∀ H' F',Gr H F H' F'→Q o H')→t σ H Q
theorem EvE.toD (h:EvE K S κ t Γ d):EvD K S t Γ d:=fun H0 F0 H F σ e Q q=>h H0 F0 H F σ e Q fun v H' F' g p=>q v H' F' g (yT g.le (yW p))
theorem EvE.weak (h:EvE K S κ t Γ d) (hk:κ'=true→κ=true):EvE K S κ' t Γ d:=fun H0 F0 H F σ e Q q=>h H0 F0 H F σ e Q fun v H' F' g p=>q v H' F' g (uB hk p)
theorem EvE.imm (h:EvE K S κ t Γ d) (hk:imm d=true):EvE K S κ' t Γ d:=fun H0 F0 H F σ e Q q=>h H0 F0 H F σ e Q fun v H' F' g p=>q v H' F' g (Z2 hk (yW p))
theorem EvE.toL (h:EvE K S κ t Γ (.list ds)):EvL K S κ t Γ ds:=fun H0 F0 H F σ e Q q=>h H0 F0 H F σ e Q fun v H' F' g p=>by
 obtain ⟨a,vs,rfl,h1,h2⟩:=tE p
 exact q a vs H' F' g (g.le.seq h1.sq) h2
theorem EvL.imm (h:EvL K S κ t Γ ds) (hk:∀ d∈ds,imm d=true):EvL K S κ' t Γ ds:=fun H0 F0 H F σ e Q q=>h H0 F0 H F σ e Q fun a vs H' F' g p k=>q a vs H' F' g p (x6 hk (zP k))
theorem EvO.toL (h:EvO K S κ t Γ ds):EvL K S κ t Γ ds:=fun H0 F0 H F σ e Q q=>h H0 F0 H F σ e Q fun a vs H' F' g _ p _ k=>q a vs H' F' g (SqL.of p) k
theorem EvO.toE (h:EvO K S κ t Γ ds):EvE K S κ t Γ (.list ds):=fun H0 F0 H F σ e Q q=>h H0 F0 H F σ e Q fun a vs H' F' g n p f k=>by
 have s:Same F' (upd F' a (.lst vs)):=Same.new f _
 refine q (.ref a) H' (upd F' a (.lst vs)) ⟨g.h,g.f.trans s,fun b u z=>?_,fun b u z y=>?_⟩ (.lst (LN.new (e.out n)) (zw s k))
 ·by_cases eb:b=a
  ·subst eb; rw [zi] at z; rw [← z]; exact p
  ·rw [zp eb] at z; exact g.le _ _ z
 ·rw [zp (zB z n)]; exact g.ap _ _ z y
theorem EvL.toD (h:EvL K S κ t Γ ds):EvD K S t Γ (.list ds):=fun H0 F0 H F σ e Q q=>h H0 F0 H F σ e Q fun a vs H' F' g p k=>q _ H' F' g (.lst p (xw g.le (zP k)))
theorem zcr (h:Γ[i]?=some (some (.ow κ ds))):EvL K S κ (tVar i) Γ ds:=fun H0 F0 H F σ e Q q=>by
 obtain ⟨v,h1,a,vs,rfl,o,k⟩:=e.has i _ h
 exact ⟨_,h1,q a vs H F (.refl e.le) (SqL.of o.h) k⟩
theorem ZV (h:Γ[i]?=some (some (.fz κ d))):EvE K S κ (tVar i) Γ d:=fun H0 F0 H F σ e Q q=>by
 obtain ⟨v,hv,hd⟩:=e.has i _ h
 exact ⟨v,hv,q v H F (.refl e.le) hd⟩
theorem zd0 (h:Γ[i]?=some (some (.tn d))):EvE K S false (tVar i) Γ d:=fun H0 F0 H F σ e Q q=>by
 obtain ⟨v,hv,T,_,hd⟩:=e.has i _ h
 exact ⟨v,hv,q v H F (.refl e.le) (uc (yW hd))⟩
theorem xI:EvE K S κ (tC (.int i)) Γ (.int i):=fun _ _ H F _ e _ q=>q _ H F (.refl e.le) (.int i)
theorem zeG:EvE K S κ (tC (.bl b)) Γ (.bool b):=fun _ _ H F _ e _ q=>q _ H F (.refl e.le) (.bl b)
theorem zaI:EvE K S κ (tC .non) Γ .none:=fun _ _ H F _ e _ q=>q _ H F (.refl e.le) .non
theorem ZX:EvE K S κ (tC (.str x)) Γ (.str x):=fun _ _ H F _ e _ q=>q _ H F (.refl e.le) (.str x)
theorem YU (ha:EvE K S false ta Γ x) (hb:EvE K S false tb Γ y) (hr:∀ v w H F (Q:VK),Same F H→Dp K F v x→Dp K F w y→(∀ z,(∀ F,Dp K F z d)→Q z H)→r v w H Q) (hi:imm d=true:=by rfl):EvE K S κ (tOp r ta tb) Γ d:=fun H0 F0 H F σ e Q q =>
 ha H0 F0 H F σ e _ fun v H1 F1 g1 p1=>hb H0 F0 H1 F1 σ (e.mono g1) _ fun w H2 F2 g2 p2=>by
  exact hr v w H2 F2 Q g2.le (yT g2.f (yW p1)) (yW p2) fun z p3=>q z H2 F2 (g1.trans g2) (Z2 hi (p3 F2))
theorem Ve (hi:imm d=true) (hg:∀ F,Dp K F (g i j) d) (ha:EvE K S false ta Γ (.int i)) (hb:EvE K S false tb Γ (.int j)):EvE K S κ (tOp (rI0 g) ta tb) Γ d :=
 YU ha hb (fun v w H F Q le p1 p2 k=>by cases wA p1; cases wA p2; exact ⟨i,j,rfl,rfl,k _ hg⟩) hi
theorem ev_I (hi:imm d=true) (hg:∀ F,Dp K F (g i j) d) (ha:EvE K S false ta Γ (.int i)) (hb:EvE K S false tb Γ (.int j)) (hc:C i j):EvE K S κ (tOp (rI C g) ta tb) Γ d :=
 YU ha hb (fun v w H F Q le p1 p2 k=>by cases wA p1; cases wA p2; exact ⟨i,j,rfl,rfl,hc,k _ hg⟩) hi
theorem wx (ha:EvE K S false ta Γ (.int i)) (hb:EvE K S false tb Γ (.int j)):EvE K S κ (tOp (rI0 fun i j=>.int (i + j)) ta tb) Γ (.int (i + j)):=Ve rfl (fun _=>.int _) ha hb
theorem ZW (ha:EvE K S false ta Γ (.int i)) (hb:EvE K S false tb Γ (.int j)):EvE K S κ (tOp (rI0 fun i j=>.int (i - j)) ta tb) Γ (.int (i - j)):=Ve rfl (fun _=>.int _) ha hb
theorem YV (ha:EvE K S false ta Γ (.int i)) (hb:EvE K S false tb Γ (.int j)):EvE K S κ (tOp (rI0 fun i j=>.bl (decide (i < j))) ta tb) Γ (.bool (decide (i < j))):=Ve rfl (fun _=>.bl _) ha hb
theorem t7 (ha:EvE K S false ta Γ (.int i)) (hb:EvE K S false tb Γ (.int j)):EvE K S κ (tOp (rI0 fun i j=>.bl (decide (j < i))) ta tb) Γ (.bool (decide (j < i))):=Ve rfl (fun _=>.bl _) ha hb
theorem zc7 (ha:EvE K S false ta Γ (.int i)) (hb:EvE K S false tb Γ (.int j)):EvE K S κ (tOp (rI0 fun i j=>.bl (decide (j≤i))) ta tb) Γ (.bool (decide (j≤i))):=Ve rfl (fun _=>.bl _) ha hb
theorem X6 (ha:EvE K S false ta Γ (.int i)) (hb:EvE K S false tb Γ (.int j)) (hc:IntMulOk i j):EvE K S κ (tOp (rI IntMulOk fun i j=>.int (i * j)) ta tb) Γ (.int (i * j)):=ev_I rfl (fun _=>.int _) ha hb hc
theorem uX (ha:EvE K S false ta Γ (.int i)) (hb:EvE K S false tb Γ (.int j)) (hc:CDiv i j):EvE K S κ (tOp (rI CDiv fun i j=>.int (i / j)) ta tb) Γ (.int (i / j)):=ev_I rfl (fun _=>.int _) ha hb hc
theorem xH (ha:EvE K S false ta Γ (.int i)) (hb:EvE K S false tb Γ (.int j)) (hc:0 < j):EvE K S κ (tOp (rI (fun _ j=>0 < j) fun i j=>.int (i % j)) ta tb) Γ (.int (i % j)):=ev_I rfl (fun _=>.int _) ha hb hc
theorem uo (ha:EvE K S false ta Γ (.int i)):EvE K S κ (tUn (rU fun i=>.int (-i)) ta) Γ (.int (-i)):=fun H0 F0 H F σ e Q q =>
 ha H0 F0 H F σ e _ fun v H1 F1 g1 p1=>by cases ym p1; exact ⟨i,rfl,q _ H1 F1 g1 (.int _)⟩
theorem u7 (i j:Int):decide (V.int i=V.int j)=decide (i=j):=by by_cases h:i=j <;> simp [h]
theorem u6 (i j:Str):decide (V.str i=V.str j)=decide (i=j):=by by_cases h:i=j <;> simp [h]
theorem ur (ha:EvE K S false ta Γ (.int i)) (hb:EvE K S false tb Γ (.int j)):EvE K S κ (tOp rEq ta tb) Γ (.bool (decide (i=j))) :=
 YU ha hb fun v w H F Q le p1 p2 k=>by
  cases wA p1; cases wA p2
  refine ⟨rfl,?_⟩
  rw [u7]; exact k _ fun _=>.bl _
theorem zaM (ha:EvE K S false ta Γ (.str i)) (hb:EvE K S false tb Γ (.str j)):EvE K S κ (tOp rEq ta tb) Γ (.bool (decide (i=j))) :=
 YU ha hb fun v w H F Q le p1 p2 k=>by
  cases Wa p1; cases Wa p2
  refine ⟨rfl,?_⟩
  rw [u6]; exact k _ fun _=>.bl _
theorem vG (ha:EvE K S false ta Γ (.int i)) (hb:EvE K S false tb Γ (.int j)):EvE K S κ (tOp rNe ta tb) Γ (.bool (!(decide (i=j)))) :=
 YU ha hb fun v w H F Q le p1 p2 k=>by
  cases wA p1; cases wA p2
  refine ⟨rfl,?_⟩
  rw [u7]; exact k _ fun _=>.bl _
theorem zaJ (ha:EvE K S false ta Γ (.str i)) (hb:EvE K S false tb Γ (.str j)):EvE K S κ (tOp rNe ta tb) Γ (.bool (!(decide (i=j)))) :=
 YU ha hb fun v w H F Q le p1 p2 k=>by
  cases Wa p1; cases Wa p2
  refine ⟨rfl,?_⟩
  rw [u6]; exact k _ fun _=>.bl _
def isNone:PyData→Bool
 | .none=>true
 | _=>false
theorem W3 (h:Dp K F v d):decide (v=.non)=isNone d:=by
 cases h <;> first | rfl | exact decide_eq_false (by intro e; cases e)
theorem tL (ha:EvD K S ta Γ d):EvE K S κ (tOp (fun x y H Q=>y=.non∧Q (.bl (decide (x=.non))) H) ta (tC .non)) Γ (.bool (isNone d)):=fun H0 F0 H F σ e Q q =>
 ha H0 F0 H F σ e _ fun v H1 F1 g1 p1=>⟨rfl,by rw [W3 p1]; exact q _ H1 F1 g1 (.bl _)⟩
theorem X5 (ha:EvD K S ta Γ d):EvE K S κ (tOp (fun x y H Q=>y=.non∧Q (.bl (!decide (x=.non))) H) ta (tC .non)) Γ (.bool (!isNone d)):=fun H0 F0 H F σ e Q q =>
 ha H0 F0 H F σ e _ fun v H1 F1 g1 p1=>⟨rfl,by rw [W3 p1]; exact q _ H1 F1 g1 (.bl _)⟩
theorem Z0 (ha:EvD K S ta Γ d) (hb:EvD K S tb Γ f) (z1:SeqAt.shaped d=true) (z2:SeqAt.shaped f=true):EvE K S κ (tOp (rEqD K neg) ta tb) Γ (.bool (if neg then !PyData.eqv d f else PyData.eqv d f)):=fun H0 F0 H F σ e Q q =>
 ha H0 F0 H F σ e _ fun v H1 F1 g1 p1=>hb H0 F0 H1 F1 σ (e.mono g1) _ fun w H2 F2 g2 p2=>⟨d,f,yT g2.h p1,p2,z1,z2,q _ H2 F2 (g1.trans g2) (.bl _)⟩
theorem Zo (ha:EvD K S ta Γ d) (hb:EvD K S tb Γ d) (z:SeqAt.shaped d=true):EvE K S κ (tOp (rNeS K) ta tb) Γ (.bool false):=fun H0 F0 H F σ e Q q =>
 ha H0 F0 H F σ e _ fun v H1 F1 g1 p1=>hb H0 F0 H1 F1 σ (e.mono g1) _ fun w H2 F2 g2 p2=>⟨d,yT g2.h p1,p2,z,q _ H2 F2 (g1.trans g2) (.bl _)⟩
theorem zbh (k:zv K κ S H0 F vs ds) (h:atI ds i=some d):∃ v,atI vs i=some v∧Rp K κ S H0 F v d:=by
 unfold atI at h ⊢
 rw [zv.length k]
 cases e:ixN ds.length i with
 | none=>rw [e] at h; cases h
 | some j=>rw [e] at h; exact zv.get k h
theorem zI (ha:EvL K S κ ta Γ ds) (hb:EvE K S false tb Γ (.int i)) (h:atI ds i=some d):EvE K S κ (tOp (rIxL K) ta tb) Γ d:=fun H0 F0 H F σ e Q q =>
 ha H0 F0 H F σ e _ fun a vs H1 F1 g1 p1 k1=>hb H0 F0 H1 F1 σ (e.mono g1) _ fun w H2 F2 g2 p2=>by
  cases ym p2
  obtain ⟨v,h1,h2⟩:=zbh (zw g2.f k1) h
  exact ⟨a,vs,i,v,rfl,rfl,g2.h.seq p1,h1,q _ H2 F2 (g1.trans g2) h2⟩
theorem yP (ha:EvE K S κ ta Γ (.tuple ds)) (hb:EvE K S false tb Γ (.int i)) (h:atI ds i=some d):EvE K S κ (tOp (rIxT K) ta tb) Γ d:=fun H0 F0 H F σ e Q q =>
 ha H0 F0 H F σ e _ fun v H1 F1 g1 p1=>hb H0 F0 H1 F1 σ (e.mono g1) _ fun w H2 F2 g2 p2=>by
  cases ym p2
  obtain ⟨a,vs,rfl,h1,h2⟩:=uf p1
  obtain ⟨v,h3,h4⟩:=zbh (zw g2.f h2) h
  exact ⟨a,vs,i,v,rfl,rfl,Same.seqT (g1.le.trans g2.h) h1,h3,q _ H2 F2 (g1.trans g2) h4⟩
theorem Ub (ha:EvE K S false ta Γ (.bool a)) (hb:a=true→EvE K S false tb Γ (.bool b)):EvE K S κ (zcR ta tb) Γ (.bool (a && b)):=fun H0 F0 H F σ e Q q =>
 ha H0 F0 H F σ e _ fun v H1 F1 g1 p1=>by
  cases uC p1
  refine ⟨a,rfl,?_⟩
  cases a with
  | true=>exact iteT (hb rfl H0 F0 H1 F1 σ (e.mono g1) Q fun v H2 F2 g2 p2=>by cases uC p2; exact q _ H2 F2 (g1.trans g2) (.bl _))
  | false=>exact iteF (q _ H1 F1 g1 (.bl _))
theorem zc6 (ha:EvE K S false ta Γ (.bool a)) (hb:a=false→EvE K S false tb Γ (.bool b)):EvE K S κ (tOrV ta tb) Γ (.bool (a || b)):=fun H0 F0 H F σ e Q q =>
 ha H0 F0 H F σ e _ fun v H1 F1 g1 p1=>by
  cases uC p1
  refine ⟨a,rfl,?_⟩
  cases a with
  | false=>exact iteF (hb rfl H0 F0 H1 F1 σ (e.mono g1) Q fun v H2 F2 g2 p2=>by cases uC p2; exact q _ H2 F2 (g1.trans g2) (.bl _))
  | true=>exact iteT (q _ H1 F1 g1 (.bl _))
theorem ZY (ha:EvE K S false ta Γ (.bool a)):EvE K S κ (zcQ ta) Γ (.bool (!a)):=fun H0 F0 H F σ e Q q =>
 ha H0 F0 H F σ e _ fun v H1 F1 g1 p1=>by cases uC p1; exact ⟨a,rfl,q _ H1 F1 g1 (.bl _)⟩
theorem zq (h:EvE K S false t Γ (.bool b)):EvT K S (Qp t) Γ b:=fun H0 F0 H F σ e Q q =>
 h H0 F0 H F σ e _ fun v H1 F1 g1 p1=>by cases uC p1; exact ⟨b,rfl,q H1 F1 g1⟩
theorem et_B (h:EvE K S false t Γ (.bool b)):EvT K S (tB t) Γ b:=fun H0 F0 H F σ e Q q =>
 h H0 F0 H F σ e _ fun v H1 F1 g1 p1=>by cases uC p1; exact ⟨b,rfl,q H1 F1 g1⟩
theorem xu (ha:EvT K S t Γ a) (hb:a=true→EvT K S u Γ b):EvT K S (tAnd t u) Γ (a && b):=fun H0 F0 H F σ e Q q =>
 ha H0 F0 H F σ e _ fun H1 F1 g1=>by
  cases a with
  | true=>exact iteT (hb rfl H0 F0 H1 F1 σ (e.mono g1) Q fun H2 F2 g2=>q H2 F2 (g1.trans g2))
  | false=>exact iteF (q H1 F1 g1)
theorem yG (ha:EvT K S t Γ a) (hb:a=false→EvT K S u Γ b):EvT K S (tOr t u) Γ (a || b):=fun H0 F0 H F σ e Q q =>
 ha H0 F0 H F σ e _ fun H1 F1 g1=>by
  cases a with
  | false=>exact iteF (hb rfl H0 F0 H1 F1 σ (e.mono g1) Q fun H2 F2 g2=>q H2 F2 (g1.trans g2))
  | true=>exact iteT (q H1 F1 g1)
theorem xJ (ha:EvT K S t Γ a):EvT K S (tNot t) Γ (!a):=fun H0 F0 H F σ e Q q=>ha H0 F0 H F σ e _ fun H1 F1 g1=>q H1 F1 g1
theorem zaP:EvT K S tYes Γ true:=fun H0 F0 H F σ e Q q=>q H F (.refl e.le)
theorem EvT.eq (h:EvT K S t Γ a) (e:a=b):EvT K S t Γ b:=e ▸ h
theorem EvE.eq (h:EvE K S κ t Γ a) (e:a=b):EvE K S κ t Γ b:=e ▸ h
theorem EvO.eq (h:EvO K S κ t Γ a) (e:a=b):EvO K S κ t Γ b:=e ▸ h
theorem zC:EvA K S κ tNil Γ []:=fun H0 F0 H F σ e Q q=>q [] H F (.refl e.le) .nil
theorem zg (h:EvE K S κ t Γ d) (k:EvA K S κ u Γ ds):EvA K S κ (zR t u) Γ (d :: ds):=fun H0 F0 H F σ e Q q =>
 h H0 F0 H F σ e _ fun v H1 F1 g1 p1=>k H0 F0 H1 F1 σ (e.mono g1) _ fun vs H2 F2 g2 p2=>q _ H2 F2 (g1.trans g2) (.cons (yA g2.f p1) p2)
theorem ww (h:EvA K S κ t Γ ds) (hz:ds.length≤sizeLine):EvE K S κ (tTup t) Γ (.tuple ds):=fun H0 F0 H F σ e Q q =>
 h H0 F0 H F σ e _ fun vs H1 F1 g1 p1=>⟨by rw [zv.length p1]; exact hz,fun p hp=>q _ _ (upd F1 p (.tup vs)) (g1.trans (.new g1.le hp _)) (.tup (SqT.of zi) (zw (Same.new (g1.le.free hp) _) p1))⟩
theorem zZ (h:EvA K S κ t Γ ds) (hz:ds.length≤sizeLine):EvO K S κ (tLst t) Γ ds:=fun H0 F0 H F σ e Q q =>
 h H0 F0 H F σ e _ fun vs H1 F1 g1 p1=>⟨by rw [zv.length p1]; exact hz,fun p hp=>q p vs _ F1 (g1.trans (.newO g1.le hp _)) (g1.h.free hp) zi (g1.le.free hp) p1⟩
def spD (K:ζa) (κ:Bool) (pre:List PyData→PyData→Prop):Sp:=fun vs H Q _=>∃ F ds d,Same F H∧zO K F vs ds∧pre ds d∧∀ v H' F',Gr H F H' F'→Rp K κ .fresh H F' v d→Q v H'
theorem zk (h:EvA K S false t Γ ds) (hp:pre ds d):EvE K S κ (v6 (spD K true pre) [] E t) Γ d:=fun H0 F0 H F σ e Q q =>
 h H0 F0 H F σ e _ fun vs H1 F1 g1 p1=>⟨F1,ds,d,g1.le,by rw [ζG]; exact zP p1,hp,fun v H2 F2 g2 p2=>q v H2 F2 (g1.trans g2) (uB (κ:=true) (fun _=>rfl) (xS (κ:=true) (κ':=true) (S':=S) (H0':=H0) (fun a xs z=>⟨z.1,fun c=>by
  obtain ⟨u,hu⟩:=(e.mono g1).sd a c
  exact z.2 (by show H1 a≠none; rw [hu]; simp)⟩) (fun _ _ z=>z) p2))⟩
theorem Vc (h:EvA K S false t Γ ds) (hp:pre ds d):EvE K S false (v6 (spD K false pre) [] E t) Γ d:=fun H0 F0 H F σ e Q q =>
 h H0 F0 H F σ e _ fun vs H1 F1 g1 p1=>⟨F1,ds,d,g1.le,by rw [ζG]; exact zP p1,hp,fun v H2 F2 g2 p2=>q v H2 F2 (g1.trans g2) (uc (yW p2))⟩
theorem yb (h:EvL K S false ta Γ ds):EvE K S κ (tCB (fun xs H Q=>∃ p ys,xs=[.ref p]∧(SqL K H p ys∨SqT K H p ys)∧Q (.int ys.length) H) (zR ta tNil)) Γ (.int ds.length):=fun H0 F0 H F σ e Q q =>
 h H0 F0 H F σ e _ fun a vs H1 F1 g1 p1 k1=>⟨a,vs,rfl,.inl p1,q _ H1 F1 g1 (by rw [zv.length k1]; exact .int _)⟩
theorem uW (h:EvE K S false ta Γ (.tuple ds)):EvE K S κ (tCB (fun xs H Q=>∃ p ys,xs=[.ref p]∧(SqL K H p ys∨SqT K H p ys)∧Q (.int ys.length) H) (zR ta tNil)) Γ (.int ds.length):=fun H0 F0 H F σ e Q q =>
 h H0 F0 H F σ e _ fun v H1 F1 g1 p1=>by
  obtain ⟨a,vs,rfl,h1,h2⟩:=uf p1
  exact ⟨a,vs,rfl,.inr (Same.seqT g1.le h1),q _ H1 F1 g1 (by rw [zv.length h2]; exact .int _)⟩
theorem x5 (h:EvL K S κ ta Γ ds):EvO K S κ (tCB (fun xs H Q=>∃ p ys,xs=[.ref p]∧(SqL K H p ys∨SqT K H p ys)∧∀ l,H l=none→Q (.ref l) (upd H l (.lst ys))) (zR ta tNil)) Γ ds:=fun H0 F0 H F σ e Q q =>
 h H0 F0 H F σ e _ fun a vs H1 F1 g1 p1 k1=>⟨a,vs,rfl,.inl p1,fun p hp=>q p vs _ F1 (g1.trans (.newO g1.le hp _)) (g1.h.free hp) zi (g1.le.free hp) k1⟩
def cutD (xs:List PyData) (lo hi:Option Int):List PyData:=(xs.drop (HT.sIx xs.length 0 lo)).take (HT.sIx xs.length xs.length hi - HT.sIx xs.length 0 lo)
theorem zea (k:zv K κ S H0 F vs ds):zv K κ S H0 F (cutV vs lo hi) (cutD ds lo hi):=by
 unfold cutV cutD
 rw [zv.length k]
 exact zv.take _ (zv.drop _ k)
theorem X8:EvP K S Uw Γ none:=fun H0 F0 H F σ e Q q=>q H F (.refl e.le)
theorem uY (h:EvE K S false t Γ (.int i)):EvP K S (zcP t) Γ (some i):=fun H0 F0 H F σ e Q q =>
 h H0 F0 H F σ e _ fun v H1 F1 g1 p1=>by cases ym p1; exact ⟨i,rfl,q H1 F1 g1⟩
theorem xQ (h:EvL K S κ t Γ ds) (hl:EvP K S tl Γ lo) (hh:EvP K S th Γ hi):EvO K S κ (tSl (rSlL K) t tl th) Γ (cutD ds lo hi):=fun H0 F0 H F σ e Q q =>
 h H0 F0 H F σ e _ fun a vs H1 F1 g1 p1 k1=>hl H0 F0 H1 F1 σ (e.mono g1) _ fun H2 F2 g2=>hh H0 F0 H2 F2 σ ((e.mono g1).mono g2) _ fun H3 F3 g3 =>
  ⟨a,vs,rfl,(g2.h.trans g3.h).seq p1,fun p hp=>q p _ _ F3 (((g1.trans g2).trans g3).trans (.newO g3.le hp _)) (((g1.trans g2).trans g3).h.free hp) zi (g3.le.free hp) (zea (zw (g2.f.trans g3.f) k1))⟩
end
end PD
namespace L2
open PySem PySem.Spec PyProof.Rows
section
variable {X:Cx} {K:ζa}
def UC (K:ζa):R2:=fun x y H Q=>∃ l b xs zs,x=.ref l∧y=.ref b∧SqL K H l xs∧SqL K H b zs∧xs.length + zs.length≤sizeLine∧∀ p,H p=none→Q (.ref p) (upd H p (.lst (xs ++ zs)))
theorem zbQ:OpR X (binaryOp .Add) (UC X.K):=by
 intro pins s σ H x y v u Q I rx ry h
 obtain ⟨l,b,xs,zs,rfl,rfl,hH,hB,hz,q⟩:=h
 cases rx
 cases ry
 obtain ⟨its,r,pl,z⟩:=I.list hH
 obtain ⟨its2,r2,pl2,z2⟩:=I.list hB
 have l1:=r.length
 have l2:=r2.length
 obtain ⟨⟨cls,dd,data,sl⟩,ho,hc,n,hd⟩:=pl.isList
 obtain ⟨⟨cls2,dd2,data2,sl2⟩,ho2,hc2,n2,hd2⟩:=pl2.isList
 simp only at hc hd hc2 hd2
 subst hc hd hc2 hd2
 have e:its.toArray ++ its2.toArray=(its ++ its2).toArray:=by simp
 refine concat_meets ⟨_,ho,rfl⟩ ⟨_,ho2,rfl⟩ noFill_list_add seq_list_add PySem.F.slot_list_add PySem.F.entry_list_add (PySem.F.args_list_add_2 _ _) (list_addW l b its.toArray its2.toArray n n2 dd dd2 sl sl2 (by simp only [List.size_toArray]; omega)) ⟨ho,ho2,?_⟩
 rw [e]
 exact ⟨.ref _,_,I.lnew (t':=s.toks) (r.append r2) (by rw [ζf]; omega),rfl,q _ I.fresh⟩
def tyD:PyData→String
 | .none => "NoneType"
 | .bool _ => "bool"
 | .int _ => "int"
 | .str _ => "str"
 | .list _ => "list"
 | .tuple _ => "tuple"
 | _ => "object"
def QR (K:ζa):List V→Hp→VK→Prop:=fun xs H Q=>∃ x d T b,xs=[x,.ty T]∧Dp K H x d∧PySem.W.kitOne K (.type (tyD d)) (.type T)=some b∧Q (.bl b) H
theorem Qh:yq X (.builtin "isinstance") (QR X.K):=by
 intro pins s σ H xs us Q I r h
 obtain ⟨x,d,T,b,rfl,dp,e,q⟩:=h
 obtain ⟨u,v,rfl,ru,rv⟩:=r.two
 cases (show v=Value.type T from rv)
 have fin:∀ tk,EP X pins σ Q (.bool b) { s with toks:=tk }:=fun tk=>⟨.bl b,H,I.tok tk,rfl,q⟩
 cases dp with
 | non=>cases (show u=Value.none from ru); exact PySem.W.kia_one PySem.W.kitx_none I.kIn True.intro e (fun z=>nomatch z) fin
 | bl y=>cases (show u=Value.bool y from ru); exact PySem.W.kia_one PySem.W.kitx_bool I.kIn True.intro e (fun z=>nomatch z) fin
 | int i=>obtain ⟨t,z⟩:=(show ∃ t,u=Value.int i t from ru); cases z; exact PySem.W.kia_one PySem.W.kitx_int I.kIn True.intro e (fun z=>nomatch z) fin
 | str y=>obtain ⟨t,z⟩:=(show ∃ t,u=Value.str y t from ru); cases z; exact PySem.W.kia_one PySem.W.kitx_str I.kIn True.intro e (fun z=>nomatch z) fin
 | @lst a xs ds h k =>
  cases (show u=Value.ref a from ru)
  obtain ⟨its,rv,⟨o,n,h1,h2,_⟩,_⟩:=I.list h
  exact PySem.W.kia_one PySem.W.kitx_list I.kIn ⟨_,h1,h2⟩ e (fun z=>nomatch z) fin
 | @tup a xs ds h k =>
  cases (show u=Value.ref a from ru)
  obtain ⟨its,rv,⟨o,h1,h2,_⟩,_⟩:=I.tuple h
  exact PySem.W.kia_one PySem.W.kitx_tuple I.kIn ⟨_,h1,h2⟩ e (fun z=>nomatch z) fin
theorem x8 (hK:X.K=K):yq X (.builtin "isinstance") (QR K):=by subst hK; exact Qh
theorem wI (hK:X.K=K):OpR X (binaryOp .Add) (UC K):=by subst hK; exact zbQ
end
end L2
namespace PD
open PySem L2
section
variable {K:ζa} {S:Sx} {κ:Bool} {Γ:Ctx}
theorem wZ (ha:EvL K S κ ta Γ xs) (hb:EvL K S κ tb Γ ys) (hz:xs.length + ys.length≤sizeLine):EvO K S κ (tOp (UC K) ta tb) Γ (xs ++ ys):=fun H0 F0 H F σ e Q q =>
 ha H0 F0 H F σ e _ fun a vs H1 F1 g1 p1 k1=>hb H0 F0 H1 F1 σ (e.mono g1) _ fun b ws H2 F2 g2 p2 k2 =>
  ⟨a,b,vs,ws,rfl,rfl,g2.h.seq p1,p2,by rw [zv.length k1,zv.length k2]; exact hz,fun p hp=>q p _ _ F2 ((g1.trans g2).trans (.newO g2.le hp _)) ((g1.trans g2).h.free hp) zi (g2.le.free hp) (zv.append (zw g2.f k1) k2)⟩
theorem ZZ (h:EvD K S ta Γ d) (hi:PySem.W.kitOne K (.type (tyD d)) (.type T)=some b):EvE K S κ (tCB (QR K) (zR ta (zR (tC (.ty T)) tNil))) Γ (.bool b):=fun H0 F0 H F σ e Q q =>
 h H0 F0 H F σ e _ fun v H1 F1 g1 p1=>⟨v,d,T,b,rfl,p1,hi,q _ H1 F1 g1 (.bl b)⟩
theorem zaB (ns:List Int):(ns.map V.int).all uU=true:=by
 rw [ζ1]
 intro v hv
 obtain ⟨n,_,rfl⟩:=ζn.mp hv
 rfl
theorem zca (i:Int) (ns:List Int):inV (.int i) (ns.map V.int)=decide (i∈ns):=by
 unfold inV
 rw [ξC]
 by_cases h:i∈ns
 ·rw [decide_eq_true h,ζN]
  exact ⟨i,h,by show eqV (.int i) (.int i)=true; simp [eqV]⟩
 ·rw [decide_eq_false h,List.any_eq_false]
  intro x hx hq
  have:x=i:=by
   have q:eqV (.int x) (.int i)=true:=hq
   simpa [eqV] using q
  exact h (this ▸ hx)
theorem zW {neg:Bool} {ta tb:TE} {i:Int} {ns:List Int} (ha:EvE K S false ta Γ (.int i)) (hb:EvL K S false tb Γ (ns.map .int)):EvE K S κ (tOp (rIn K neg) ta tb) Γ (.bool (if neg then !decide (i∈ns) else decide (i∈ns))):=fun H0 F0 H F σ e Q q =>
 ha H0 F0 H F σ e _ fun v H1 F1 g1 p1=>hb H0 F0 H1 F1 σ (e.mono g1) _ fun b ws H2 F2 g2 p2 k2=>by
  cases ym p1
  cases zX (zP k2)
  refine ⟨b,_,rfl,.inl p2,rfl,zaB ns,?_⟩
  rw [zca]
  exact q _ H2 F2 (g1.trans g2) (.bl _)
def ExG (K:ζa) (S:Sx) (κ:Bool) (g:TG) (js:List Nat) (d:PyData) (Γ:Ctx) (k:Ctx→Prop):Prop:=∀ (H0 F0 H F:Hp) (σ:St) (v:V),DEnv K S H0 F0 H F σ Γ→Rp K κ S H0 F v d→∀ Q:St→Hp→Prop,
 (∀ Γ' σ' H' F',k Γ'→Gr H F H' F'→DEnv K S H0 F0 H' F' σ' Γ'→σ'.length=σ.length→(∀ j,j∉js→σ'[j]?=σ[j]?)→Q σ' H')→g v σ H Q
theorem DEnv.set (e:DEnv K S H0 F0 H F σ Γ) (p:HasV K S H0 H F v x)
  (hne:∀ a,Owns H v x a→∀ (j:Nat) y w,j≠i→Γ[j]?=some (some y)→σ[j]?=some (some w)→¬ Owns H w y a):DEnv K S H0 F0 H F (σ.set i (some v)) (Γ.set i (some x)):=by
 refine ⟨e.gr,e.l0,e.sd,e.s0,by simp [e.len],fun j f h=>?_,fun j k' x1 y1 v1 w1 b g1 g2 g3 g4 o1 o2=>?_⟩
 ·by_cases hj:j=i
  ·subst hj
   by_cases hl:j < Γ.length
   ·rw [ζv hl] at h
    cases h
    exact ⟨v,by rw [ζv (by rw [e.len]; exact hl)],p⟩
   ·rw [List.getElem?_eq_none (by simp; omega)] at h
    cases h
  ·rw [ζC (Ne.symm hj)] at h ⊢
   exact e.has j f h
 ·have li:∀ {j:Nat} {y:DV},(Γ.set i (some x))[j]?=some (some y)→j < Γ.length:=fun {j y} z=>by
   have:=(ζe.mp z).1
   rw [List.length_set] at this
   exact this
  by_cases hj:j=i
  ·subst hj
   by_cases hk:k'=j
   ·exact hk.symm
   ·rw [ζv (by rw [e.len]; exact li g1)] at g3
    rw [ζv (li g1)] at g1
    cases g1
    cases g3
    rw [ζC (Ne.symm hk)] at g4 g2
    exact absurd o2 (hne b o1 k' y1 w1 hk g2 g4)
  ·rw [ζC (Ne.symm hj)] at g3 g1
   by_cases hk:k'=i
   ·subst hk
    rw [ζv (by rw [e.len]; exact li g2)] at g4
    rw [ζv (li g2)] at g2
    cases g2
    cases g4
    exact absurd o1 (hne b o2 j x1 v1 hj g1 g3)
   ·rw [ζC (Ne.symm hk)] at g4 g2
    exact e.ne j k' x1 y1 v1 w1 b g1 g2 g3 g4 o1 o2
theorem DEnv.setF (e:DEnv K S H0 F0 H F σ Γ) (p:Rp K κ S H0 F v d):DEnv K S H0 F0 H F (σ.set i (some v)) (Γ.set i (some (.fz κ d))):=e.set (x:=.fz κ d) p fun _ z=>z.elim
theorem OwnO.other (w:OwnO S H0 H F b u) (h:b≠a):OwnO S H0 (upd H a oo) F b u:=⟨by rw [zp h]; exact w.h,w.f,w.n,w.s⟩
theorem HasV.other (h:HasV K S H0 H F v x) (n:¬ Owns H v x a):HasV K S H0 (upd H a oo) F v x:=by
 cases x with
 | fz κ d=>exact h
 | tn d=>exact h
 | ow κ ds=>obtain ⟨b,us,eb,wo,kk⟩:=h; exact ⟨b,us,eb,wo.other fun z=>n (by rw [eb,z]; rfl),kk⟩
 | ox=>obtain ⟨b,us,eb,wo⟩:=h; exact ⟨b,us,eb,wo.other fun z=>n (by rw [eb,z]; rfl)⟩
 | o2 r dss =>
  obtain ⟨b,us,eb,wo,n1,n2,l,k⟩:=h
  refine ⟨b,us,eb,wo.other fun z=>n (.inl (by rw [eb.eq,z])),n1,n2,l,fun j y hy=>?_⟩
  obtain ⟨c,ws,ds,e2,o2,h2,k2⟩:=k j y hy
  exact ⟨c,ws,ds,e2,o2.other fun z=>n (.inr ⟨b,us,eb.eq,wo.h,by rw [← z,← e2]; exact ζk hy⟩),h2,k2⟩
 | fn a=>exact h
 | xn φ=>exact h
 | oa b κ ds=>obtain ⟨eb,us,wo,kk⟩:=h; exact ⟨eb,us,wo.other fun z=>n (by rw [eb,z]; rfl),kk⟩
 | xp φ=>exact h
 | od u=>obtain ⟨b,eb,wo⟩:=h; exact ⟨b,eb,wo.other fun z=>n (by rw [eb,z]; rfl)⟩
 | og ad ψ =>
  obtain ⟨ok,w,p⟩:=h
  have eq:∀ b,ad H v b→upd H a oo b=H b:=fun b z=>zp fun y=>n (y ▸ z)
  refine ⟨ok,fun b z=>?_,ok.ps S H0 H _ F F v eq (.refl _) p⟩
  have z:=(ok.pl H _ v eq b).mp z
  obtain ⟨o,y⟩:=w b z
  exact ⟨o,y.other fun q=>n (q ▸ z)⟩
theorem Owns.other (h:HasV K S H0 H F v x) (n:¬ Owns H v x a) (o:Owns (upd H a oo) v x c):Owns H v x c:=by
 cases x with
 | fz _ _=>exact o.elim
 | tn _=>exact o.elim
 | ow κ ds=>exact o
 | ox=>exact o
 | o2 r dss =>
  rcases o with o | ⟨p,us,e2,hp,hm⟩
  ·exact .inl o
  ·rw [zp (fun z=>n (.inl (by rw [e2,z])))] at hp
   exact .inr ⟨p,us,e2,hp,hm⟩
 | fn _=>exact o.elim
 | xn _=>exact o.elim
 | oa _ _ _=>exact o
 | xp _=>exact o.elim
 | od _=>exact o
 | og ad ψ=>exact (h.1.pl H (upd H a oo) v (fun b z=>zp fun y:b=a=>n (y ▸ z)) c).mp o
theorem DEnv.putO (e:DEnv K S H0 F0 H F σ Γ) (h:Γ[i]?=some (some x)) (ha:σ[i]?=some (some v)) (ho:Owns H v x a)
  (k:HasV K S H0 (upd H a oo) F v y) (ko:∀ c,Owns (upd H a oo) v y c→Owns H v x c):DEnv K S H0 F0 (upd H a oo) F σ (Γ.set i (some y)):=by
 obtain ⟨v',q1,q2⟩:=e.has i x h
 rw [ha] at q1
 cases q1
 obtain ⟨ws,w⟩:=q2.owns ho
 have hs:Same F (upd H a oo):=fun b u z=>by
  have:b≠a:=by rintro rfl; rw [w.f] at z; cases z
  rw [zp this]; exact e.le _ _ z
 have li:=(ζe.mp h).1
 have far:∀ {j:Nat} {f:DV} {u:V},j≠i→Γ[j]?=some (some f)→σ[j]?=some (some u)→¬ Owns H u f a:=fun {j f u} hj z r o=>hj (e.ne j i f x u v a z h r ha o ho)
 refine ⟨⟨fun b u z=>?_,e.gr.f,hs,e.gr.ap⟩,e.l0,fun b c=>?_,e.s0,by simp [e.len],fun j f z=>?_,fun j k' x1 y1 v1 w1 b g1 g2 g3 g4 o1 o2=>?_⟩
 ·rw [zp (zB z w.n)]; exact e.gr.h _ _ z
 ·obtain ⟨o,q⟩:=e.sd b c
  by_cases hb:b=a
  ·subst hb; exact ⟨_,zi⟩
  ·exact ⟨o,by rw [zp hb]; exact q⟩
 ·by_cases hj:j=i
  ·subst hj
   rw [ζv li] at z
   cases z
   exact ⟨_,ha,k⟩
  ·rw [ζC (Ne.symm hj)] at z
   obtain ⟨u,r1,r2⟩:=e.has j f z
   exact ⟨u,r1,r2.other (far hj z r1)⟩
 ·have bk:∀ {j:Nat} {f:DV} {u:V},(Γ.set i (some y))[j]?=some (some f)→σ[j]?=some (some u)→Owns (upd H a oo) u f b→∃ g,Γ[j]?=some (some g)∧Owns H u g b:=fun {j f u} z r o=>by
   by_cases hj:j=i
   ·subst hj
    rw [ζv li] at z
    cases z
    rw [ha] at r
    cases r
    exact ⟨x,h,ko b o⟩
   ·rw [ζC (Ne.symm hj)] at z
    obtain ⟨u',r1,r2⟩:=e.has j f z
    rw [r] at r1
    cases r1
    exact ⟨f,z,o.other r2 (far hj z r)⟩
  obtain ⟨f1,z1,w1'⟩:=bk g1 g3 o1
  obtain ⟨f2,z2,w2'⟩:=bk g2 g4 o2
  exact e.ne j k' f1 f2 v1 w1 b z1 z2 g3 g4 w1' w2'
theorem DEnv.put (e:DEnv K S H0 F0 H F σ Γ) (h:Γ[i]?=some (some x)) (ha:σ[i]?=some (some v)) (ho:Owns H v x a)
  (k:HasV K S H0 (upd H a (.lst vs)) F v y) (ko:∀ c,Owns (upd H a (.lst vs)) v y c→Owns H v x c):DEnv K S H0 F0 (upd H a (.lst vs)) F σ (Γ.set i (some y)):=e.putO h ha ho k ko
theorem OwnO.frz (w:OwnO S H0 H F b u) (h:b≠a):OwnO S H0 H (upd F a oo) b u:=⟨w.h,by rw [zp h]; exact w.f,w.n,w.s⟩
theorem HasV.frz (h:HasV K S H0 H F v x) (s:Same F (upd F a (.lst vs))) (n:¬ Owns H v x a):HasV K S H0 H (upd F a (.lst vs)) v x:=by
 cases x with
 | fz κ d=>exact yA s h
 | tn d=>obtain ⟨T,eT,k⟩:=h; exact ⟨T,eT,yA s k⟩
 | ow κ ds=>obtain ⟨b,us,eb,wo,kk⟩:=h; exact ⟨b,us,eb,wo.frz fun z=>n (by rw [eb,z]; rfl),zw s kk⟩
 | ox=>obtain ⟨b,us,eb,wo⟩:=h; exact ⟨b,us,eb,wo.frz fun z=>n (by rw [eb,z]; rfl)⟩
 | o2 r dss =>
  obtain ⟨b,us,eb,wo,n1,n2,l,k⟩:=h
  refine ⟨b,us,eb,wo.frz fun z=>n (.inl (by rw [eb.eq,z])),n1,n2,l,fun j y hy=>?_⟩
  obtain ⟨c,ws,ds,e2,o2,h2,k2⟩:=k j y hy
  exact ⟨c,ws,ds,e2,o2.frz fun z=>n (.inr ⟨b,us,eb.eq,wo.h,by rw [← z,← e2]; exact ζk hy⟩),h2,zw s k2⟩
 | fn a=>exact h
 | xn φ=>obtain ⟨b,e,k⟩:=h; exact ⟨b,e,s _ _ k⟩
 | oa b κ ds=>obtain ⟨eb,us,wo,kk⟩:=h; exact ⟨eb,us,wo.frz fun z=>n (by rw [eb,z]; rfl),zw s kk⟩
 | xp φ=>obtain ⟨F1,s1,k⟩:=h; exact ⟨F1,s1.trans s,k⟩
 | od u=>obtain ⟨b,eb,wo⟩:=h; exact ⟨b,eb,wo.frz fun z=>n (by rw [eb,z]; rfl)⟩
 | og ad ψ =>
  obtain ⟨ok,w,p⟩:=h
  refine ⟨ok,fun b z=>?_,ok.ps S H0 H H F _ v (fun _ _=>rfl) s p⟩
  obtain ⟨o,y⟩:=w b z
  exact ⟨o,y.frz fun q=>n (q ▸ z)⟩
theorem DEnv.froz (e:DEnv K S H0 F0 H F σ Γ) (h:Γ[i]?=some (some x)) (hv:σ[i]?=some (some v)) (ho:Owns H v x a) (w:vj S H0 H F a vs)
  (k:HasV K S H0 H (upd F a (.lst vs)) v y) (ko:∀ c,Owns H v y c→Owns H v x c):Same F (upd F a (.lst vs))∧DEnv K S H0 F0 H (upd F a (.lst vs)) σ (Γ.set i (some y)):=by
 have s:Same F (upd F a (.lst vs)):=Same.new w.f _
 have li:=(ζe.mp h).1
 have g:Gr H0 F0 H (upd F a (.lst vs)):=⟨e.gr.h,e.gr.f.trans s,fun b u z=>by
  by_cases eb:b=a
  ·subst eb; rw [zi] at z; rw [← z]; exact w.h
  ·rw [zp eb] at z; exact e.le _ _ z,fun b u z y=>by
  rw [zp (zB z w.n)]; exact e.gr.ap _ _ z y⟩
 refine ⟨s,g,e.l0,e.sd,e.s0,by simp [e.len],fun j f z=>?_,fun j k' x1 y1 v1 w1 b g1 g2 g3 g4 o1 o2=>?_⟩
 ·by_cases hj:j=i
  ·subst hj
   rw [ζv li] at z
   cases z
   exact ⟨v,hv,k⟩
  ·rw [ζC (Ne.symm hj)] at z
   obtain ⟨u,r1,r2⟩:=e.has j f z
   exact ⟨u,r1,r2.frz s fun o=>hj (e.ne j i f x u v a z h r1 hv o ho)⟩
 ·have bk:∀ {j:Nat} {f:DV} {u:V},(Γ.set i (some y))[j]?=some (some f)→σ[j]?=some (some u)→Owns H u f b→∃ g,Γ[j]?=some (some g)∧Owns H u g b:=fun {j f u} z r o=>by
   by_cases hj:j=i
   ·subst hj
    rw [ζv li] at z
    cases z
    rw [hv] at r
    cases r
    exact ⟨x,h,ko b o⟩
   ·rw [ζC (Ne.symm hj)] at z
    exact ⟨f,z,o⟩
  obtain ⟨f1,z1,w1'⟩:=bk g1 g3 o1
  obtain ⟨f2,z2,w2'⟩:=bk g2 g4 o2
  exact e.ne j k' f1 f2 v1 w1 b z1 z2 g3 g4 w1' w2'
theorem DEnv.freeze (e:DEnv K S H0 F0 H F σ Γ) (h:Γ[i]?=some (some (.ow κ ds))):∃ F',Same F F'∧DEnv K S H0 F0 H F' σ (Γ.set i (some (.fz κ (.list ds)))):=by
 obtain ⟨v,q1,a,vs,rfl,w,q5⟩:=e.has i _ h
 exact ⟨_,e.froz (y:=.fz κ (.list ds)) h q1 rfl w (.lst (LN.new w.s) (zw (Same.new w.f _) q5)) fun _ z=>z.elim⟩
theorem zcy (h:k (Γ.set i (some (.fz κ d)))):ExG K S κ (yn i) [i] d Γ k:=fun H0 F0 H F σ v e p Q q =>
 q _ _ H F h (.refl e.le) (e.setF p) (by simp) fun j hj=>by rw [List.getElem?_set_ne (by intro z; exact hj (by simp [z]))]
theorem zd3 (h:k ((Γ.set i (some (.fz κ x))).set j (some (.fz κ y)))):ExG K S κ (gTup K 2 (uT (yn i) (uT (yn j) gNil))) [i,j] (.tuple [x,y]) Γ k:=fun H0 F0 H F σ v e p Q q=>by
 obtain ⟨a,vs,rfl,h1,h2⟩:=uf p
 cases h2 with
 | cons px h2=>cases h2 with
  | cons py h2 =>
   cases h2
   refine ⟨a,_,rfl,Same.seqT e.le h1,rfl,_,_,rfl,_,_,rfl,rfl,?_⟩
   refine q _ _ H F h (.refl e.le) ((e.setF px).setF py) (by simp) fun m hm=>?_
   rw [List.getElem?_set_ne (by intro z; exact hm (by simp [z])),List.getElem?_set_ne (by intro z; exact hm (by simp [z]))]
structure ItD (K:ζa) (S:Sx) (κ:Bool) (H0 F:Hp) (J:It) (ds:List PyData):Prop where
 go:∀ i H F',Same F F'→Same F' H→i < ds.length→J.go i H
 yld:∀ i H F' x H',Same F F'→Same F' H→(∀ a,S.has H0 a→∃ o,H a=some o)→i < ds.length→J.yld i H x H'→∃ d F'',ds[i]?=some d∧Gr H F' H' F''∧Rp K κ S H0 F'' x d
 stop:∀ H F',Same F F'→Same F' H→J.stop ds.length H
def EvI (K:ζa) (S:Sx) (κ:Bool) (t:TI) (Γ:Ctx) (ds:List PyData):Prop:=∀ (H0 F0 H F:Hp) (σ:St),DEnv K S H0 F0 H F σ Γ→∀ R:It→Hp→Prop,(∀ J H' F',Gr H F H' F'→ItD K S κ H0 F' J ds→R J H')→t σ H R
theorem zN (h:EvE K S κ t Γ (.list ds)):EvI K S κ (UX K t) Γ ds:=fun H0 F0 H F σ e R q =>
 h H0 F0 H F σ e _ fun v H1 F1 g1 p1=>by
  obtain ⟨a,vs,rfl,h1,h2⟩:=tE p1
  have hl:=zv.length h2
  have up:∀ {F' H':Hp},Same F1 F'→Same F' H'→SqL K H' a vs:=fun s1 s2=>(s1.trans s2).seq h1.sq
  refine ⟨a,rfl,⟨vs,up (.refl _) g1.le⟩,q _ H1 F1 g1 ⟨fun i H' F' s1 s2 hi=>?_,fun i H' F' x H'' s1 s2 _ hi y=>?_,fun H' F' s1 s2=>?_⟩⟩
  ·exact ⟨vs,vs[i]'(by omega),up s1 s2,by simp⟩
  ·obtain ⟨rfl,y⟩:=y
   obtain ⟨d,hd,hp⟩:=zv.get' h2 (y vs (up s1 s2))
   exact ⟨d,F',hd,.refl s2,yA s1 hp⟩
  ·exact ⟨vs,up s1 s2,by omega⟩
theorem xA (h:EvA K S false t Γ [.int n]) (h1:-(2 ^ 62)≤n) (h2:n < 2 ^ 62):EvI K S κ (UW t) Γ ((List.range n.toNat).map fun i:Nat=>.int (i:Int)):=fun H0 F0 H F σ e R q =>
 h H0 F0 H F σ e _ fun vs H1 F1 g1 p1=>by
  cases p1 with
  | cons p p1 =>
   cases p1
   cases ym p
   refine ⟨n,rfl,h1,h2,q _ H1 F1 g1 ⟨fun i H' F' s1 s2 hi=>?_,fun i H' F' x H'' s1 s2 _ hi y=>?_,fun H' F' s1 s2=>?_⟩⟩
   ·show i < n.toNat
    simpa using hi
   ·obtain ⟨rfl,rfl⟩:=y
    have hi':i < n.toNat:=by simpa using hi
    refine ⟨.int i,F',by simp [hi'],.refl s2,?_⟩
    have:(0:Int) + (i:Int)=i:=by omega
    rw [this]; exact .int _
   ·show n.toNat≤_
    simp
theorem X9 (h:EvA K S false t Γ [.int m,.int n]) (h1:-(2 ^ 62)≤m∧m < 2 ^ 62∧-(2 ^ 62)≤n∧n < 2 ^ 62):EvI K S κ (zc1 t) Γ ((List.range (n - m).toNat).map fun i:Nat=>.int (m + (i:Int))):=fun H0 F0 H F σ e R q =>
 h H0 F0 H F σ e _ fun vs H1 F1 g1 p1=>by
  cases p1 with
  | cons p p1 =>
   cases p1 with
   | cons p' p1 =>
    cases p1
    cases ym p
    cases ym p'
    refine ⟨m,n,rfl,h1,q _ H1 F1 g1 ⟨fun i H' F' s1 s2 hi=>?_,fun i H' F' x H'' s1 s2 _ hi y=>?_,fun H' F' s1 s2=>?_⟩⟩
    ·show i < (n - m).toNat
     simpa using hi
    ·obtain ⟨rfl,rfl⟩:=y
     have hi':i < (n - m).toNat:=by simpa using hi
     exact ⟨.int (m + i),F',by simp [hi'],.refl s2,.int _⟩
    ·show (n - m).toNat≤_
     simp
def Za (js:List (Option Nat)) (Γ:Ctx):Ctx:=js.map fun o=>match o with | none=>none | some j=>(Γ[j]?).join
theorem tP {i:Nat} (h:(Za js Γ)[i]?=some (some d)):∃ j,js[i]?=some (some j)∧Γ[j]?=some (some d):=by
 unfold Za at h
 rw [ζs] at h
 cases e:js[i]? with
 | none=>rw [e] at h; cases h
 | some o =>
  rw [e] at h
  cases o with
  | none=>cases h
  | some j =>
   refine ⟨j,rfl,?_⟩
   have h':(Γ[j]?).join=some d:=ζI h
   cases q:Γ[j]? with
   | none=>rw [q] at h'; cases h'
   | some o=>rw [q] at h'; exact congrArg some h'
theorem Z6 {i j:Nat} (h:js[i]?=some (some j)) (k:σ[j]?=some (some v)):(capt js σ)[i]?=some (some v):=by
 unfold capt
 rw [ζs,h]
 show some ((σ[j]?).join)=_
 rw [k]; rfl
theorem DEnv.capt {H0 F0 H F:Hp} {σ:St} {js:List (Option Nat)} (e:DEnv K S H0 F0 H F σ Γ) (hj:∀ i j k:Nat,js[i]?=some (some k)→js[j]?=some (some k)→i=j):DEnv K S H0 F0 H F (L2.capt js σ) (Za js Γ):=by
 refine ⟨e.gr,e.l0,e.sd,e.s0,by unfold L2.capt Za; simp,fun i d h=>?_,fun i j x y v w a h1 h2 h3 h4 o1 o2=>?_⟩
 ·obtain ⟨j,e1,e2⟩:=tP h
  obtain ⟨v,e3,e4⟩:=e.has j d e2
  exact ⟨v,Z6 e1 e3,e4⟩
 ·obtain ⟨m,e1,e2⟩:=tP h1
  obtain ⟨n,e3,e4⟩:=tP h2
  obtain ⟨v1,q1,_⟩:=e.has m x e2
  obtain ⟨v2,q2,_⟩:=e.has n y e4
  have c1:=Z6 (σ:=σ) e1 q1
  have c2:=Z6 (σ:=σ) e3 q2
  rw [h3] at c1
  rw [h4] at c2
  cases c1
  cases c2
  have:=e.ne m n x y v w a e2 e4 q1 q2 o1 o2
  subst this
  exact hj i j m e1 e3
theorem zaF (p:PyData→Bool) (f:PyData→PyData) (hi:EvI K S κ' wi Γ ds) (hjs:∀ i∈is,js[i]?=some none) (hj:∀ i j k:Nat,js[i]?=some (some k)→js[j]?=some (some k)→i=j)
  (hz:ds.length≤sizeLine) (hb:∀ d∈ds,ExG K S κ' g is d (Za js Γ) fun Γ'=>EvT K S tt Γ' (p d)∧(p d=true→EvE K S κ te Γ' (f d))):EvO K S κ (ve js wi g tt te) Γ ((ds.filter p).map f):=fun H0 F0 H F σ e Q q =>
 hi H0 F0 H F σ e _ fun J H1 F1 g1 I1=>by
  intro D hD
  have sdm:∀ {H2 F2:Hp},Gr H1 F1 H2 F2→∀ a,S.has H0 a→∃ o,H2 a=some o:=fun g2 a c=>let ⟨o,z⟩:=(e.mono g1).sd a c; ⟨o,g2.h _ _ z⟩
  refine ⟨fun i m ys H2=>m=ds.length - i∧i≤ds.length∧∃ F2,Gr H1 F1 H2 F2∧H2 D=some (.lst ys)∧F2 D=none∧zv K κ S H0 F2 ys (((ds.take i).filter p).map f),⟨_,rfl,ζL _,F1,.newO g1.le hD _,zi,g1.le.free hD,.nil⟩,?_⟩
  rintro i m ys H2 ⟨rfl,hi,F2,g2,hl,fl,k2⟩
  by_cases hlt:i < ds.length
  ·refine .inr ⟨I1.go i H2 F2 g2.f g2.le hlt,fun zs H3=>i + 1≤ds.length∧∃ F2,Gr H1 F1 H3 F2∧H3 D=some (.lst zs)∧F2 D=none∧zv K κ S H0 F2 zs (((ds.take (i + 1)).filter p).map f),fun zs H3 h3=>⟨ds.length - (i + 1),by omega,rfl,h3⟩,fun x H3 y=>?_⟩
   obtain ⟨d,F3,hd,g3,p3⟩:=I1.yld i H2 F2 x H3 g2.f g2.le (sdm g2) hlt y
   have hl3:=g3.h _ _ hl
   have fl3:=g3.ap _ _ hl fl
   have E3:=((e.mono g1).mono (g2.trans g3)).capt hj
   refine hb d (ζk hd) H0 F0 H3 F3 _ x E3 p3 _ fun Γ' σ' H4 F4 hΓ g4 E4 len4 out4=>?_
   obtain ⟨ht,he⟩:=hΓ
   have hl4:=g4.h _ _ hl3
   have fl4:=g4.ap _ _ hl3 fl3
   have tk:ds.take (i + 1)=ds.take i ++ [d]:=by rw [List.take_add_one,hd]; rfl
   refine ⟨⟨len4.symm,fun j v hv=>?_⟩,ht H0 F0 H4 F4 σ' E4 _ fun H5 F5 g5=>?_⟩
   ·by_cases hjj:j∈is
    ·have:=hjs j hjj
     unfold L2.capt at hv
     rw [ζs,this] at hv
     cases hv
    ·rw [out4 j hjj]; exact hv
   have hl5:=g5.h _ _ hl4
   have fl5:=g5.ap _ _ hl4 fl4
   cases hpd:p d with
   | false =>
    refine iteF ⟨hlt,F5,g2.trans ((g3.trans g4).trans g5),hl5,fl5,?_⟩
    rw [tk,ζ4,ζo]
    simp only [List.filter_cons,hpd,List.filter_nil]
    simpa using zw ((g3.trans g4).trans g5).f k2
   | true =>
    refine iteT (he hpd H0 F0 H5 F5 σ' (E4.mono g5) _ fun v H6 F6 g6 p6=>?_)
    have hl6:=g6.h _ _ hl5
    have fl6:=g6.ap _ _ hl5 fl5
    have gg:=(g3.trans g4).trans (g5.trans g6)
    have G6:=g2.trans gg
    refine ⟨hl6,?_,hlt,F6,⟨fun b u z=>?_,G6.f,fun b u z=>?_,G6.ap⟩,zi,fl6,?_⟩
    ·have h1:=zv.length k2
     rw [ζb] at h1
     have h2:=ζE p (ds.take i)
     rw [ζ7] at h2
     omega
    ·rw [zp (zB z hD)]; exact G6.h _ _ z
    ·rw [zp (by rintro rfl; rw [fl6] at z; cases z)]; exact G6.le _ _ z
    ·rw [tk,ζ4,ζo]
     simp only [List.filter_cons,hpd,List.filter_nil,if_true,List.map_cons,List.map_nil]
     exact zv.append (zw gg.f k2) (.cons p6 .nil)
  ·have ei:i=ds.length:=by omega
   subst ei
   rw [ξf] at k2
   exact .inl ⟨I1.stop H2 F2 g2.f g2.le,q D ys H2 F2 (g1.trans g2) (g1.h.free hD) hl fl k2⟩
structure Post where
 nx:Ctx→Prop
 rt:PyData→Prop
 bk:Ctx→Prop:=fun _=>False
 ct:Ctx→Prop:=fun _=>False
 kr:Bool:=false
structure Into (K:ζa) (S:Sx) (H0 F0 B:Hp) (P:Post) (D:Ends):Prop where
 nx:∀ Γ' σ' H' F',P.nx Γ'→Same B F'→DEnv K S H0 F0 H' F' σ' Γ'→D.nx σ' H'
 rt:∀ d v H' F',P.rt d→Gr H0 F0 H' F'→Rp K P.kr .fresh H0 F' v d→D.rt v H'
 bk:∀ Γ' σ' H' F',P.bk Γ'→Same B F'→DEnv K S H0 F0 H' F' σ' Γ'→D.bk σ' H'
 ct:∀ Γ' σ' H' F',P.ct Γ'→Same B F'→DEnv K S H0 F0 H' F' σ' Γ'→D.ct σ' H'
def Tg (S:Sx) (B:Hp):Prop:=∀ T,S=.spoil T→∀ a xs,B a=some (.lst xs)→¬ T a
def ExT (K:ζa) (S S':Sx) (t:TS) (Γ:Ctx) (P:Post):Prop:=∀ (H0 F0 H F:Hp) (σ:St) (B:Hp),DEnv K S H0 F0 H F σ Γ→Same B F→(S'=S∨Tg S B)→∀ D:Ends,Into K S' H0 F0 B P D→t D σ H
abbrev ExS (K:ζa) (S:Sx) (t:TS) (Γ:Ctx) (P:Post):Prop:=ExT K S S t Γ P
variable {S':Sx}
variable {P:Post}
theorem yr (h:P.nx Γ):ExS K S Wo Γ P:=fun H0 F0 H F σ B e b _ D I=>I.nx Γ σ H F h b e
theorem yK (N:Ctx→Prop) (h1:ExT K S S t Γ { P with nx:=N,bk:=fun _=>False,ct:=fun _=>False }) (h2:∀ Γ',N Γ'→ExT K S S' u Γ' P):ExT K S S' (tSeq t u) Γ P:=fun H0 F0 H F σ B e b v D I =>
 h1 H0 F0 H F σ B e b (.inl rfl) { D with nx:=u D } ⟨fun Γ' σ' H' F' n s e'=>h2 Γ' n H0 F0 H' F' σ' B e' s v D I,I.rt,fun _ _ _ _ z=>z.elim,fun _ _ _ _ z=>z.elim⟩
theorem T3 (h:¬ S.has H0 a):¬ Sx.has .fresh H0 a:=by
 cases S with
 | fresh=>exact h
 | spoil T=>exact fun c=>h (.inl c)
theorem WG (hk:(S=S∧κ=kr)∨kr=false) (p:Rp K κ S H0 F v d):Rp K kr .fresh H0 F v d:=by
 rcases hk with ⟨_,rfl⟩ | rfl
 ·cases κ with
  | false=>exact uc (yW p)
  | true=>exact xS (κ:=true) (κ':=true) (fun a xs z=>⟨z.1,T3 z.2⟩) (fun _ _ z=>z) p
 ·exact uc (yW p)
theorem zM (κ:Bool) (h:EvE K S κ te Γ d) (hr:P.rt d) (hk:(S=S∧κ=P.kr)∨P.kr=false):ExT K S S' (tRet te) Γ P:=fun H0 F0 H F σ B e b _ D I=>h H0 F0 H F σ e _ fun v H' F' g p=>I.rt d v H' F' hr (e.gr.trans g) (WG hk p)
theorem YO (i:Nat) (h:Γ[i]?=some (some (.ow κ ds))) (k:ExT K S S' t (Γ.set i (some (.fz κ (.list ds)))) P):ExT K S S' t Γ P:=fun H0 F0 H F σ B e b v D I=>by
 obtain ⟨F',s,e'⟩:=e.freeze h
 exact k H0 F0 H F' σ B e' (b.trans s) v D I
theorem zck (h:Γ[i]?=some (some (.ow κ ds))) (hr:P.rt (.list ds)) (hk:(S=S∧κ=P.kr)∨P.kr=false):ExT K S S' (tRet (tVar i)) Γ P :=
 YO i h (zM κ (ZV (by rw [ζv (ζe.mp h).1])) hr hk)
theorem zaC (h:EvE K S κ te Γ d) (k:P.nx (Γ.set i (some (.fz κ d)))):ExS K S (tAsg te (yn i)) Γ P:=fun H0 F0 H F σ B e b _ D I =>
 h H0 F0 H F σ e _ fun v H' F' g p=>I.nx _ _ H' F' k (b.trans g.f) ((e.mono g).setF p)
theorem zcj (h:EvO K S κ te Γ ds) (k:P.nx (Γ.set i (some (.ow κ ds)))):ExS K S (tAsg te (yn i)) Γ P:=fun H0 F0 H F σ B e b _ D I =>
 h H0 F0 H F σ e _ fun a vs H' F' g n p f q=>I.nx _ _ H' F' k (b.trans g.f) ((e.mono g).set (x:=.ow κ ds) ⟨a,vs,rfl,⟨p,f,e.gr.h.free n,e.out n⟩,q⟩ fun c oc j y w hj z hw o=>by
  cases (show V.ref a=.ref c from oc)
  obtain ⟨v,q1,q2⟩:=e.has j y z
  rw [hw] at q1
  cases q1
  obtain ⟨us,w1⟩:=q2.owns (o.back q2 fun _ _ z=>g.h _ _ z.h)
  have:=w1.h
  rw [n] at this; cases this)
theorem zaE (h:EvE K S κ te Γ d) (hg:ExG K S κ g js d Γ P.nx):ExS K S (tAsg te g) Γ P:=fun H0 F0 H F σ B e b _ D I =>
 h H0 F0 H F σ e _ fun v H1 F1 g1 p1=>hg H0 F0 H1 F1 σ v (e.mono g1) p1 _ fun Γ' σ' H' F' n g2 e' _ _=>I.nx Γ' σ' H' F' n (b.trans (g1.f.trans g2.f)) e'
theorem YR (h:Γ[i]?=some (some (.ow κ ds))) (he:EvE K S κ te Γ d) (hz:ds.length < sizeLine) (k:P.nx (Γ.set i (some (.ow κ (ds ++ [d]))))):ExS K S (v5 (tBM K "list" we (tVar i) (zR te tNil))) Γ P:=fun H0 F0 H F σ B e b _ D I=>by
 obtain ⟨v0,q1,a,vs,rfl,w,q5⟩:=e.has i _ h
 refine ⟨_,q1,.inl ⟨rfl,_,SqL.of w.h⟩,he H0 F0 H F σ e _ fun v H' F' g p=>?_⟩
 have k':=zw g.f q5
 refine ⟨a,vs,v,rfl,rfl,g.h _ _ w.h,by rw [zv.length q5]; exact hz,?_⟩
 exact I.nx _ _ _ F' k (b.trans g.f) ((e.mono g).put (y:=.ow κ (ds ++ [d])) h q1 (show Owns H' (.ref a) (.ow κ ds) a from rfl) ⟨a,_,rfl,⟨zi,(w.mono g).f,w.n,w.s⟩,zv.append k' (.cons p .nil)⟩ fun _ z=>z)
theorem xj (hc:EvT K S c Γ b) (h1:b=true→ExT K S S' t Γ P) (h2:b=false→ExT K S S' u Γ P):ExT K S S' (tIfS c t u) Γ P:=fun H0 F0 H F σ B e bb v D I =>
 hc H0 F0 H F σ e _ fun H' F' g=>by
  cases b with
  | true=>exact iteT (h1 rfl H0 F0 H' F' σ B (e.mono g) (bb.trans g.f) v D I)
  | false=>exact iteF (h2 rfl H0 F0 H' F' σ B (e.mono g) (bb.trans g.f) v D I)
theorem um (κ:Bool) (Iv:Nat→Ctx→Prop) (hi:EvI K S κ wi Γ ds) (h0:Iv 0 Γ)
  (hs:∀ i d Γ',ds[i]?=some d→Iv i Γ'→∃ js,ExG K S κ g js d Γ' fun Γ''=>ExS K S tb Γ'' { nx:=Iv (i + 1),rt:=P.rt,bk:=P.nx,ct:=Iv (i + 1),kr:=P.kr }) (hd:∀ Γ',Iv ds.length Γ'→P.nx Γ'):ExS K S (tFor wi g tb) Γ P:=fun H0 F0 H F σ B e b _ D I =>
 hi H0 F0 H F σ e _ fun J H1 F1 g1 I1=>by
  refine ⟨fun i m σ2 H2=>m=ds.length - i∧i≤ds.length∧∃ Γ2 F2,Iv i Γ2∧Same F1 F2∧DEnv K S H0 F0 H2 F2 σ2 Γ2,⟨_,rfl,ζL _,Γ,F1,h0,.refl _,e.mono g1⟩,?_⟩
  rintro i m σ2 H2 ⟨rfl,hi,Γ2,F2,v2,s2,e2⟩
  have b1:Same B F1:=b.trans g1.f
  by_cases hlt:i < ds.length
  ·refine .inr ⟨I1.go i H2 F2 s2 e2.le hlt,fun σ3 H3=>i + 1≤ds.length∧∃ Γ3 F3,Iv (i + 1) Γ3∧Same F1 F3∧DEnv K S H0 F0 H3 F3 σ3 Γ3,fun σ3 H3 h3=>⟨_,by omega,rfl,h3⟩,fun x H3 y=>?_⟩
   obtain ⟨d,F3,hd,g3,p3⟩:=I1.yld i H2 F2 x H3 s2 e2.le e2.sd hlt y
   obtain ⟨js,hg⟩:=hs i d Γ2 hd v2
   refine hg H0 F0 H3 F3 σ2 x (e2.mono g3) p3 _ fun Γ' σ' H4 F4 k4 g4 e4 _ _=>?_
   have s4:Same F1 F4:=s2.trans (g3.f.trans g4.f)
   exact k4 H0 F0 H4 F4 σ' F1 e4 s4 (.inl rfl) _ ⟨fun Γ5 σ5 H5 F5 n s5 e5=>⟨hlt,Γ5,F5,n,s5,e5⟩,I.rt,fun Γ5 σ5 H5 F5 n s5 e5=>I.nx Γ5 σ5 H5 F5 n (b1.trans s5) e5,fun Γ5 σ5 H5 F5 n s5 e5=>⟨hlt,Γ5,F5,n,s5,e5⟩⟩
  ·have ei:i=ds.length:=by omega
   subst ei
   exact .inl ⟨I1.stop H2 F2 s2 e2.le,I.nx Γ2 σ2 H2 F2 (hd Γ2 v2) (b1.trans s2) e2⟩
theorem vF (Iv:Nat→Ctx→Prop) (m0:Nat) (h0:Iv m0 Γ)
  (hs:∀ m Γ',Iv m Γ'→∃ b,EvT K S c Γ' b∧(b=true→ExS K S tb Γ' { nx:=fun Γ''=>∃ m',m' < m∧Iv m' Γ'',rt:=P.rt,bk:=P.nx,ct:=fun Γ''=>∃ m',m' < m∧Iv m' Γ'',kr:=P.kr })∧(b=false→P.nx Γ')):ExS K S (Qo c tb) Γ P:=fun H0 F0 H F σ B e bb _ D I=>by
 refine ⟨fun m σ2 H2=>∃ Γ2 F2,Iv m Γ2∧Same B F2∧DEnv K S H0 F0 H2 F2 σ2 Γ2,⟨m0,Γ,F,h0,bb,e⟩,?_⟩
 rintro m σ2 H2 ⟨Γ2,F2,v2,s2,e2⟩
 obtain ⟨b,hc,h1,h2⟩:=hs m Γ2 v2
 refine hc H0 F0 H2 F2 σ2 e2 _ fun H3 F3 g3=>?_
 have s3:=s2.trans g3.f
 cases b with
 | true =>
  refine iteT ⟨fun σ4 H4=>∃ m',m' < m∧∃ Γ4 F4,Iv m' Γ4∧Same B F4∧DEnv K S H0 F0 H4 F4 σ4 Γ4,fun σ4 H4 ⟨m',hm,h⟩=>⟨m',hm,h⟩,?_⟩
  exact h1 rfl H0 F0 H3 F3 σ2 B (e2.mono g3) s3 (.inl rfl) _ ⟨fun Γ5 σ5 H5 F5 ⟨m',hm,n⟩ s5 e5=>⟨m',hm,Γ5,F5,n,s5,e5⟩,I.rt,fun Γ5 σ5 H5 F5 n s5 e5=>I.nx Γ5 σ5 H5 F5 n s5 e5,fun Γ5 σ5 H5 F5 ⟨m',hm,n⟩ s5 e5=>⟨m',hm,Γ5,F5,n,s5,e5⟩⟩
 | false=>exact iteF (I.nx Γ2 σ2 H3 F3 (h2 rfl) s3 (e2.mono g3))
def vo (n:Nat) (ds:List PyData):Ctx:=ds.map (fun d=>some (.fz false d)) ++ List.replicate (n - ds.length) none
theorem w8 (le:Same F H) (k:zO K F vs ds):DEnv K .fresh H F H F (L2.start N vs) (vo N.length ds):=by
 have l:=zO.length k
 have no:∀ (i:Nat) (x:DV),(vo N.length ds)[i]?=some (some x)→∃ d,x=.fz false d∧ds[i]?=some d:=fun i x h=>by
  unfold vo at h
  by_cases hi:i < ds.length
  ·rw [List.getElem?_append_left (by simpa using hi),List.getElem?_map] at h
   rw [ζp hi] at h ⊢
   have h':some (DV.fz false ds[i])=some x:=ζI h
   exact ⟨_,(ζI h').symm,rfl⟩
  ·rw [List.getElem?_append_right (by simpa using Nat.le_of_not_lt hi)] at h
   rw [ξD] at h
   split at h <;> cases h
 refine ⟨.refl le,le,fun a c=>?_,fun T z=>(nomatch z),by unfold L2.start vo; simp [l],fun i x h=>?_,fun i j x y v w a h _ _ _ o=>?_⟩
 ·cases q:H a with
  | none=>exact absurd q c
  | some o=>exact ⟨o,rfl⟩
 ·obtain ⟨d',e,h'⟩:=no i _ h
  cases e
  obtain ⟨v,h1,h2⟩:=zO.get k h'
  refine ⟨v,?_,uc h2⟩
  unfold L2.start
  have hi:=(ζe.mp h1).1
  rw [List.getElem?_append_left (by simpa using hi),List.getElem?_map,h1]
  rfl
 ·obtain ⟨d',e,_⟩:=no i _ h
  cases e
  exact o.elim
theorem QE (hΓ:vo N.length ds=Γ) (h:ExS K .fresh t Γ { nx:=fun _=>d=.none,rt:=fun x=>x=d,kr:=κ }) (le:Same F H) (k:zO K F vs ds)
  (q:∀ v H' F',Gr H F H' F'→Rp K κ .fresh H F' v d→Q v H'):t { nx:=fun _ H'=>Q .non H',rt:=Q } (L2.start N vs) H:=by
 subst hΓ
 refine h H F H F (L2.start N vs) F (w8 le k) (.refl _) (.inl rfl) _ ⟨fun Γ' σ' H' F' n _ e=>?_,fun d' v H' F' e g p=>?_,fun _ _ _ _ z=>z.elim,fun _ _ _ _ z=>z.elim⟩
 ·have n':d=.none:=n
  subst n'
  exact q .non H' F' e.gr .non
 ·have e':d'=d:=e
  subst e'
  exact q v H' F' g p
theorem zH (h:∀ ds d,pre ds d→ds.length=n) (s:spD K κ pre vs H Q E):vs.length=n:=by
 obtain ⟨F,ds,d,_,k,p,_⟩:=s
 rw [zO.length k]
 exact h ds d p
inductive MkD:DV→DV→Prop
 | fz {d:PyData}:MkD (.fz true d) (.fz true d)
 | im {κ:Bool} {d:PyData}:imm d=true→MkD (.fz κ d) (.fz true d)
 | ow {ds:List PyData}:MkD (.ow true ds) (.ow true ds)
 | oi {κ:Bool} {ds:List PyData}:(∀ d∈ds,imm d=true)→MkD (.ow κ ds) (.ow true ds)
 | ox:MkD .ox .ox
 | fn {a:Addr}:MkD (.fn a) (.fn a)
inductive wm:Ctx→Ctx→Prop
 | nil:wm [] []
 | no {x:Option DV} {Γ Γ':Ctx}:wm Γ Γ'→wm (x :: Γ) (none :: Γ')
 | got {x y:DV} {Γ Γ':Ctx}:MkD x y→wm Γ Γ'→wm (some x :: Γ) (some y :: Γ')
theorem wm.len (h:wm Γ Γ'):Γ.length=Γ'.length:=by
 induction h with
 | nil=>rfl
 | no _ ih=>exact congrArg (· + 1) ih
 | got _ _ ih=>exact congrArg (· + 1) ih
theorem wm.get (h:wm Γ Γ'):∀ {i:Nat} {x:DV},Γ'[i]?=some (some x)→∃ y,Γ[i]?=some (some y)∧MkD y x:=by
 induction h with
 | nil=>intro i x e; simp at e
 | no _ ih =>
  intro i x e
  cases i with
  | zero=>simp at e
  | succ i=>exact ih (i:=i) (by simpa using e)
 | @got a b _ _ m _ ih =>
  intro i x e
  cases i with
  | zero =>
   have e':b=x:=by simpa using e
   subst e'
   exact ⟨a,rfl,m⟩
  | succ i=>exact ih (i:=i) (by simpa using e)
theorem MkD.owns (h:MkD y x) (o:Owns H' v x a):Owns H v y a:=by
 cases h <;> first | exact o | exact o.elim
theorem zcl (h:EvA K .fresh false ta Γ ds) (hp:pre ds d) (hm:wm Γ Γ1) (hs:Γ1.set i (some (.tn d))=Γ2)
  (k:∀ T,ExT K (.spoil T) S' u Γ2 P):ExT K .fresh S' (tSeq (tAsg (v6 (spD K true pre) [] E ta) (yn i)) u) Γ P:=fun H0 F0 H F σ B e b _ D I =>
 h H0 F0 H F σ e _ fun vs H1 F1 g1 p1=>⟨F1,ds,d,g1.le,by rw [ζG]; exact zP p1,hp,fun v H2 F2 g2 p2=>by
  have e1:=e.mono g1
  let T:Addr→Prop:=fun a=>F2 a≠none∧H1 a=none
  have nT:∀ {a:Addr} {o:HO},H1 a=some o→¬ T a:=fun {a o} z c=>by
   have:H1 a=none:=c.2
   rw [z] at this; cases this
  have keep:∀ (a:Addr) (xs:List V),LN K true .fresh H0 F1 a xs→LN K true (.spoil T) H0 F2 a xs:=fun a xs z=>⟨g2.f _ _ z.1,fun c=>c.elim z.2 (nT (g1.le _ _ z.1))⟩
  have ownS:∀ {a:Addr} {us:List V},vj .fresh H0 H1 F1 a us→vj (.spoil T) H0 H2 F2 a us:=fun {a us} w=>⟨g2.h _ _ w.h,g2.ap _ _ w.h w.f,w.n,fun c=>c.elim w.s (nT w.h)⟩
  have em:DEnv K (.spoil T) H0 F0 H2 F2 σ Γ1:=by
   refine ⟨e1.gr.trans g2,e1.l0,fun a c=>?_,fun T' eT a c=>?_,by rw [e.len,hm.len],fun j x hx=>?_,fun m n x y v w a h1 h2 h3 h4 o1 o2=>?_⟩
   ·rcases c with c | c
    ·obtain ⟨o,q⟩:=e1.sd a c
     exact ⟨o,g2.h _ _ q⟩
    ·cases q:F2 a with
     | none=>exact absurd q c.1
     | some o=>exact ⟨o,g2.le _ _ q⟩
   ·cases eT
    exact e1.gr.h.free c.2
   ·obtain ⟨y,hy,my⟩:=hm.get hx
    obtain ⟨w,hw,hv⟩:=e1.has j y hy
    refine ⟨w,hw,?_⟩
    cases my with
    | fz=>exact xS keep (fun _ _ z=>Same.seqT g2.f z) hv
    | im hi=>exact Z2 hi (yT g2.f (yW hv))
    | ow=>obtain ⟨a,us,ea,wo,kk⟩:=hv; exact ⟨a,us,ea,ownS wo,xm keep (fun _ _ z=>Same.seqT g2.f z) kk⟩
    | oi hi=>obtain ⟨a,us,ea,wo,kk⟩:=hv; exact ⟨a,us,ea,ownS wo,x6 hi (xw g2.f (zP kk))⟩
    | ox=>obtain ⟨a,us,ea,wo⟩:=hv; exact ⟨a,us,ea,ownS wo⟩
    | fn=>exact hv
   ·obtain ⟨x',e1',m1⟩:=hm.get h1
    obtain ⟨y',e2',m2⟩:=hm.get h2
    exact e1.ne m n x' y' v w a e1' e2' h3 h4 (m1.owns o1) (m2.owns o2)
  subst hs
  refine k T H0 F0 H2 F2 _ B (em.set (x:=.tn d) ⟨T,rfl,?_⟩ fun _ z=>z.elim) (b.trans (g1.f.trans g2.f)) (.inr fun T' eT a xs z=>?_) D I
  ·refine xS (κ:=true) (κ':=true) (S':=.spoil fun a=>¬ T a) (H0':=fun _=>none) (fun a xs z=>⟨z.1,fun c=>c.elim (fun w=>w rfl) fun w=>w ⟨by rw [z.1]; simp,?_⟩⟩) (fun _ _ z=>z) p2
   cases q:H1 a with
   | none=>rfl
   | some o=>exact absurd (show H1 a≠none by rw [q]; simp) z.2
  ·cases eT
   exact nT (g1.le _ _ (g1.f _ _ (b _ _ z)))⟩
def UV:Option HO→Bool
 | some (.lst _)=>true
 | _=>false
open Classical in
noncomputable def drop (T:Addr→Prop) (F:Hp):Hp:=fun a=>if T a∧UV (F a)=true then none else F a
theorem yk:drop T F a=some o↔F a=some o∧¬ (T a∧UV (some o)=true):=by
 unfold drop
 constructor
 ·intro h
  split at h
  ·cases h
  ·rename_i c; rw [h] at c; exact ⟨h,c⟩
 ·rintro ⟨h,c⟩
  rw [h,if_neg c]
inductive SpD:DV→DV→Prop
 | fz {d:PyData}:SpD (.fz true d) (.fz true d)
 | im {κ:Bool} {d:PyData}:imm d=true→SpD (.fz κ d) (.fz true d)
 | ow {ds:List PyData}:SpD (.ow true ds) (.ow true ds)
 | oi {κ:Bool} {ds:List PyData}:(∀ d∈ds,imm d=true)→SpD (.ow κ ds) (.ow true ds)
 | ox:SpD .ox .ox
 | tn {ds:List PyData}:SpD (.tn (.list ds)) .ox
inductive SpC:Ctx→Ctx→Prop
 | nil:SpC [] []
 | no {x:Option DV} {Γ Γ':Ctx}:SpC Γ Γ'→SpC (x :: Γ) (none :: Γ')
 | got {x y:DV} {Γ Γ':Ctx}:SpD x y→SpC Γ Γ'→SpC (some x :: Γ) (some y :: Γ')
theorem SpC.len (h:SpC Γ Γ'):Γ.length=Γ'.length:=by
 induction h with
 | nil=>rfl
 | no _ ih=>exact congrArg (· + 1) ih
 | got _ _ ih=>exact congrArg (· + 1) ih
theorem SpC.get (h:SpC Γ Γ'):∀ {i:Nat} {x:DV},Γ'[i]?=some (some x)→∃ y,Γ[i]?=some (some y)∧SpD y x:=by
 induction h with
 | nil=>intro i x e; simp at e
 | no _ ih =>
  intro i x e
  cases i with
  | zero=>simp at e
  | succ i=>exact ih (i:=i) (by simpa using e)
 | @got a b _ _ m _ ih =>
  intro i x e
  cases i with
  | zero =>
   have e':b=x:=by simpa using e
   subst e'
   exact ⟨a,rfl,m⟩
  | succ i=>exact ih (i:=i) (by simpa using e)
def OneT (Γ:Ctx):Prop:=∀ (i j:Nat) d f,Γ[i]?=some (some (.tn d))→Γ[j]?=some (some (.tn f))→i=j
theorem DEnv.spoilt (e:DEnv K (.spoil T) H0 F0 H F σ Γ) (h1:∀ b o,H b=some o→UV (some o)=false∨¬ T b→H' b=some o) (hm:SpC Γ Γ') (ho:OneT Γ)
  (h2:∀ (i:Nat) ds a vs,Γ[i]?=some (some (.tn (.list ds)))→σ[i]?=some (some (.ref a))→H a=some (.lst vs)→∃ ws,H' a=some (.lst ws)):DEnv K .fresh H0 F0 H' (drop T F) σ Γ':=by
 have s0:∀ a,T a→H0 a=none:=e.s0 T rfl
 have hF:∀ b o,drop T F b=some o→H' b=some o:=fun b o z=>by
  obtain ⟨z1,z2⟩:=yk.mp z
  refine h1 b o (e.le _ _ z1) ?_
  cases q:UV (some o) with
  | false=>exact .inl rfl
  | true=>exact .inr fun c=>z2 ⟨c,q⟩
 have tup:∀ (a:Addr) (xs:List V),SqT K F a xs→SqT K (drop T F) a xs:=fun a xs z=>by
  rcases z with (z | ⟨o,z⟩) | z
  ·exact .inl (.inl (yk.mpr ⟨z,fun c=>nomatch c.2⟩))
  ·exact .inl (.inr ⟨o,yk.mpr ⟨z,fun c=>nomatch c.2⟩⟩)
  ·exact .inr z
 have ln:∀ (a:Addr) (xs:List V),LN K true (.spoil T) H0 F a xs→LN K true .fresh H0 (drop T F) a xs:=fun a xs z=>⟨yk.mpr ⟨z.1,fun c=>z.2 (.inr c.1)⟩,fun c=>z.2 (.inl c)⟩
 have dpim:∀ {κ:Bool} {v:V} {d:PyData},imm d=true→Rp K κ (.spoil T) H0 F v d→Rp K true .fresh H0 (drop T F) v d:=fun hi p=>xS (κ:=true) ln tup (Z2 hi (yW p))
 have own:∀ {a:Addr} {us:List V},vj (.spoil T) H0 H F a us→vj .fresh H0 H' (drop T F) a us:=fun {a us} w=>by
  refine ⟨h1 _ _ w.h (.inr fun c=>w.s (.inr c)),?_,w.n,fun c=>w.s (.inl c)⟩
  cases q:drop T F a with
  | none=>rfl
  | some o =>
   have:=(yk.mp q).1
   rw [w.f] at this
   cases this
 have tno':∀ {i:Nat} {ds:List PyData} {v:V},Γ[i]?=some (some (.tn (.list ds)))→σ[i]?=some (some v)→∃ a vs ws,v=.ref a∧F a=some (.lst vs)∧vj .fresh H0 H' (drop T F) a ws:=fun {i ds v} hi hv=>by
  obtain ⟨v',hv',h⟩:=e.has i _ hi
  rw [hv] at hv'
  cases hv'
  obtain ⟨T',eT,p⟩:=h
  cases eT
  obtain ⟨a,vs,rfl,hl,_⟩:=tE p
  have Ta:T a:=Classical.byContradiction fun c=>hl.2 (.inr c)
  obtain ⟨ws,hw⟩:=h2 i ds a vs hi hv (e.le _ _ hl.1)
  refine ⟨a,vs,ws,rfl,hl.1,hw,?_,s0 a Ta,fun c=>c (s0 a Ta)⟩
  cases q:drop T F a with
  | none=>rfl
  | some o =>
   obtain ⟨q1,q2⟩:=yk.mp q
   rw [hl.1] at q1
   cases q1
   exact absurd ⟨Ta,rfl⟩ q2
 refine ⟨⟨fun b o z=>?_,fun b o z=>?_,hF,fun b o z n=>?_⟩,e.l0,(fun a c=>by
  cases q:H0 a with
  | none=>exact absurd q c
  | some o=>exact ⟨o,h1 _ _ (e.gr.h _ _ q) (.inr fun c=>by rw [s0 _ c] at q; cases q)⟩),(fun T' eT=>nomatch eT),by rw [e.len,hm.len],fun j x hx=>?_,fun m n x y v w a g1 g2 g3 g4 o1 o2=>?_⟩
 ·exact h1 _ _ (e.gr.h _ _ z) (.inr fun c=>by rw [s0 _ c] at z; cases z)
 ·exact yk.mpr ⟨e.gr.f _ _ z,fun c=>by have:=e.l0 _ _ z; rw [s0 _ c.1] at this; cases this⟩
 ·cases q:drop T F b with
  | none=>rfl
  | some o'=>have:=(yk.mp q).1; rw [e.gr.ap _ _ z n] at this; cases this
 ·obtain ⟨y,hy,my⟩:=hm.get hx
  obtain ⟨v,hv,h⟩:=e.has j y hy
  refine ⟨v,hv,?_⟩
  cases my with
  | fz=>exact xS ln tup h
  | im hi=>exact dpim hi h
  | ow=>obtain ⟨a,us,ea,wo,kk⟩:=h; exact ⟨a,us,ea,own wo,xm ln tup kk⟩
  | oi hi=>obtain ⟨a,us,ea,wo,kk⟩:=h; exact ⟨a,us,ea,own wo,xm (κ:=true) ln tup (x6 hi (zP kk))⟩
  | ox=>obtain ⟨a,us,ea,wo⟩:=h; exact ⟨a,us,ea,own wo⟩
  | tn=>obtain ⟨a,_,ws,ea,_,wo⟩:=tno' hy hv; exact ⟨a,ws,ea,wo⟩
 ·obtain ⟨x',e1',m1⟩:=hm.get g1
  obtain ⟨y',e2',m2⟩:=hm.get g2
  have cs:∀ {x x':DV} {i:Nat} {v:V},Γ[i]?=some (some x')→σ[i]?=some (some v)→SpD x' x→Owns H' v x a→(Owns H v x' a∧F a=none)∨(∃ ds,x'=.tn (.list ds))∧F a≠none:=fun {x x' i v} hi hs m o=>by
   have ho':Owns H v x' a→F a=none:=fun o'=>by
    obtain ⟨u,hu,h⟩:=e.has i x' hi
    rw [hs] at hu
    cases hu
    obtain ⟨us,wo⟩:=h.owns o'
    exact wo.f
   cases m with
   | fz=>exact o.elim
   | im _=>exact o.elim
   | ow=>exact .inl ⟨o,ho' o⟩
   | oi _=>exact .inl ⟨o,ho' o⟩
   | ox=>exact .inl ⟨o,ho' o⟩
   | tn =>
    obtain ⟨b,vs,ws,eb,hb,_⟩:=tno' hi hs
    cases (show v=.ref a from o)
    cases eb
    exact .inr ⟨⟨_,rfl⟩,by rw [hb]; simp⟩
  rcases cs e1' g3 m1 o1 with ⟨p1,f1⟩ | ⟨⟨d1,rfl⟩,f1⟩
  ·rcases cs e2' g4 m2 o2 with ⟨p2,f2⟩ | ⟨_,f2⟩
   ·exact e.ne m n x' y' v w a e1' e2' g3 g4 p1 p2
   ·exact absurd f1 f2
  ·rcases cs e2' g4 m2 o2 with ⟨p2,f2⟩ | ⟨⟨d2,rfl⟩,f2⟩
   ·exact absurd f2 f1
   ·exact ho m n _ _ e1' e2'
theorem Ul (b:Same B F) (h:Tg (.spoil T) B):Same B (drop T F):=fun a o z=>yk.mpr ⟨b _ _ z,fun c=>by
 cases o with
 | lst xs=>exact h T rfl a xs z c.1
 | _=>exact nomatch c.2⟩
theorem zbe (v:Sx.fresh=.spoil T∨Tg (.spoil T) B):Tg (.spoil T) B:=v.elim (fun z=>nomatch z) fun z=>z
end
inductive SetC:Ctx→Nat→Option DV→Ctx→Prop
 | zero {a x:Option DV} {l:Ctx}:SetC (a :: l) 0 x (x :: l)
 | succ {a x:Option DV} {l l':Ctx} {i:Nat}:SetC l i x l'→SetC (a :: l) (i + 1) x (a :: l')
theorem SetC.eq (h:SetC Γ i x Γ'):Γ.set i x=Γ':=by
 induction h with
 | zero=>rfl
 | succ _ ih=>rw [List.set_cons_succ,ih]
inductive GetC:Ctx→Nat→DV→Prop
 | zero {x:DV} {l:Ctx}:GetC (some x :: l) 0 x
 | succ {a:Option DV} {x:DV} {l:Ctx} {i:Nat}:GetC l i x→GetC (a :: l) (i + 1) x
theorem GetC.eq (h:GetC Γ i x):Γ[i]?=some (some x):=by
 induction h with
 | zero=>rfl
 | succ _ ih=>rw [List.getElem?_cons_succ,ih]
inductive xK:List (Option Nat)→Ctx→Ctx→Prop
 | nil {Γ:Ctx}:xK [] Γ []
 | no {js:List (Option Nat)} {Γ Γ':Ctx}:xK js Γ Γ'→xK (none :: js) Γ (none :: Γ')
 | got {js:List (Option Nat)} {Γ Γ':Ctx} {j:Nat} {x:DV}:GetC Γ j x→xK js Γ Γ'→xK (some j :: js) Γ (some x :: Γ')
theorem xK.eq (h:xK js Γ Γ'):Za js Γ=Γ':=by
 induction h with
 | nil=>rfl
 | no _ ih =>
  unfold Za at ih ⊢
  rw [ζH,ih]
 | got g _ ih =>
  unfold Za at ih ⊢
  rw [ζH,ih]
  show (Option.join _ :: _)=_
  rw [g.eq]
  rfl
section
variable {K:ζa} {S S':Sx} {κ κ':Bool} {Γ Γ' Γ'':Ctx} {P:Post}
theorem evv (h:GetC Γ i (.fz κ' d)) (hk:κ=true→κ'=true):EvE K S κ (tVar i) Γ d:=(ZV h.eq).weak hk
theorem evi (h:GetC Γ i (.fz κ' d)) (hk:imm d=true):EvE K S κ (tVar i) Γ d:=(ZV h.eq).imm hk
theorem evtn (h:GetC Γ i (.tn d)):EvE K S false (tVar i) Γ d:=zd0 h.eq
theorem EvL.weak (h:EvL K S κ' t Γ ds) (hk:κ=true→κ'=true):EvL K S κ t Γ ds:=fun H0 F0 H F σ e Q q=>h H0 F0 H F σ e Q fun a vs H' F' g p k=>q a vs H' F' g p (by
 cases κ with
 | false=>exact uZ (zP k)
 | true=>rw [hk rfl] at k; exact k)
theorem evw (h:GetC Γ i (.ow κ' ds)) (hk:κ=true→κ'=true):EvL K S κ (tVar i) Γ ds:=(zcr h.eq).weak hk
theorem exs (κ:Bool) (h:EvE K S κ te Γ d) (e:SetC Γ i (some (.fz κ d)) Γ') (k:ExT K S S' u Γ' P):ExT K S S' (tSeq (tAsg te (yn i)) u) Γ P:=yK (·=Γ') (zaC h e.eq) fun _ z=>z ▸ k
theorem exs1 (κ:Bool) (h:EvE K S κ te Γ d) (e:SetC Γ i (some (.fz κ d)) Γ') (k:P.nx Γ'):ExS K S (tAsg te (yn i)) Γ P:=zaC h (e.eq ▸ k)
theorem exo (κ:Bool) (h:EvO K S κ te Γ ds) (e:SetC Γ i (some (.ow κ ds)) Γ') (k:ExT K S S' u Γ' P):ExT K S S' (tSeq (tAsg te (yn i)) u) Γ P:=yK (·=Γ') (zcj h e.eq) fun _ z=>z ▸ k
theorem exa (h:GetC Γ i (.ow κ ds)) (he:EvE K S κ te Γ d) (e:SetC Γ i (some (.ow κ (ds ++ [d]))) Γ') (hz:ds.length < sizeLine) (k:ExT K S S' u Γ' P):ExT K S S' (tSeq (v5 (tBM K "list" we (tVar i) (zR te tNil))) u) Γ P:=yK (·=Γ') (YR h.eq he hz e.eq) fun _ z=>z ▸ k
theorem exa1 (h:GetC Γ i (.ow κ ds)) (he:EvE K S κ te Γ d) (e:SetC Γ i (some (.ow κ (ds ++ [d]))) Γ') (hz:ds.length < sizeLine) (k:P.nx Γ'):ExS K S (v5 (tBM K "list" we (tVar i) (zR te tNil))) Γ P:=YR h.eq he hz (e.eq ▸ k)
theorem exfz (i:Nat) (h:GetC Γ i (.ow κ ds)) (e:SetC Γ i (some (.fz κ (.list ds))) Γ') (k:ExT K S S' t Γ' P):ExT K S S' t Γ P:=YO i h.eq (by rw [e.eq]; exact k)
theorem egn (e:SetC Γ i (some (.fz κ d)) Γ') (h:k Γ'):ExG K S κ (yn i) [i] d Γ k:=zcy (by rw [e.eq]; exact h)
theorem egt (e1:SetC Γ i (some (.fz κ x)) Γ') (e2:SetC Γ' j (some (.fz κ y)) Γ'') (h:k Γ''):ExG K S κ (gTup K 2 (uT (yn i) (uT (yn j) gNil))) [i,j] (.tuple [x,y]) Γ k:=zd3 (by rw [e1.eq,e2.eq]; exact h)
theorem exro (h:GetC Γ i (.ow κ ds)) (hr:P.rt (.list ds)) (hk:(S=S∧κ=P.kr)∨P.kr=false):ExT K S S' (tRet (tVar i)) Γ P:=zck h.eq hr hk
theorem exif (N:Ctx→Prop) (hc:EvT K S c Γ b) (h1:b=true→ExS K S t Γ { P with nx:=N,bk:=fun _=>False,ct:=fun _=>False }) (h2:b=false→ExS K S u Γ { P with nx:=N,bk:=fun _=>False,ct:=fun _=>False }) (k:∀ Γ',N Γ'→ExT K S S' v Γ' P):ExT K S S' (tSeq (tIfS c t u) v) Γ P:=yK N (xj hc h1 h2) k
theorem vE (hc:EvT K S c Γ b) (h1:b=true→ExT K S S' (tSeq t v) Γ P) (h2:b=false→ExT K S S' (tSeq u v) Γ P):ExT K S S' (tSeq (tIfS c t u) v) Γ P:=fun H0 F0 H F σ B e bb vv D I=>by
 refine hc H0 F0 H F σ e _ fun H' F' g=>?_
 cases b with
 | true=>exact iteT (h1 rfl H0 F0 H' F' σ B (e.mono g) (bb.trans g.f) vv D I)
 | false=>exact iteF (h2 rfl H0 F0 H' F' σ B (e.mono g) (bb.trans g.f) vv D I)
theorem exn (k:ExT K S S' v Γ P):ExT K S S' (tSeq Wo v) Γ P:=yK (·=Γ) (yr rfl) fun _ z=>z ▸ k
theorem wK (hc:EvT K S c Γ b) (hb:b=false) (k:ExT K S S' v Γ P):ExT K S S' (tSeq (tIfS c t Wo) v) Γ P:=vE hc (fun h=>by rw [hb] at h; cases h) fun _=>exn k
theorem vi (κ:Bool) (Iv:Nat→Ctx→Prop) (hi:EvI K S κ wi Γ ds) (h0:Iv 0 Γ)
  (hs:∀ i d Γ',ds[i]?=some d→Iv i Γ'→∃ js,ExG K S κ g js d Γ' fun Γ''=>ExS K S tb Γ'' { nx:=Iv (i + 1),rt:=P.rt,bk:=Iv ds.length,ct:=Iv (i + 1),kr:=P.kr }) (hd:∀ Γ',Iv ds.length Γ'→ExT K S S' u Γ' P):ExT K S S' (tSeq (tFor wi g tb) u) Γ P:=yK (Iv ds.length) (um κ Iv hi h0 hs fun _ h=>h) hd
theorem exrs (κ:Bool) (h:EvE K S κ te Γ d) (hr:P.rt d) (hk:(S=S∧κ=P.kr)∨P.kr=false):ExT K S S' (tSeq (tRet te) v) Γ P:=yK (fun _=>False) (zM κ h hr hk) fun _ z=>z.elim
theorem exmk (h:EvA K .fresh false ta Γ ds) (hp:pre ds d) (hm:wm Γ Γ1) (hs:SetC Γ1 i (some (.tn d)) Γ2)
  (k:∀ T,ExT K (.spoil T) S' u Γ2 P):ExT K .fresh S' (tSeq (tAsg (v6 (spD K true pre) [] E ta) (yn i)) u) Γ P:=zcl h hp hm hs.eq k
theorem YT (κ':Bool) (p:PyData→Bool) (f:PyData→PyData) (hi:EvI K S κ' wi Γ ds) (hc:xK js Γ Γc) (hjs:(is.all fun i=>js[i]? == some none)=true)
  (hj:(js.filterMap id).Nodup) (hz:ds.length≤sizeLine) (hb:∀ d∈ds,ExG K S κ' g is d Γc fun Γ'=>EvT K S tt Γ' (p d)∧(p d=true→EvE K S κ te Γ' (f d))):EvO K S κ (ve js wi g tt te) Γ ((ds.filter p).map f):=by
 refine zaF p f hi (fun i hi=>?_) ?_ hz (by rw [hc.eq]; exact hb)
 ·have:=ζ1.mp hjs i hi
  simpa using this
 ·intro i j k h1 h2
  clear hc hjs hi hb
  induction js generalizing i j with
  | nil=>simp at h1
  | cons o js ih =>
   cases o with
   | none =>
    cases i with
    | zero=>simp at h1
    | succ i =>
     cases j with
     | zero=>simp at h2
     | succ j=>rw [ih (by simpa using hj) i j (by simpa using h1) (by simpa using h2)]
   | some m =>
    have hj':(m :: js.filterMap id).Nodup:=by simpa using hj
    have hm:=(ζU.mp hj').1
    cases i with
    | zero =>
     cases j with
     | zero=>rfl
     | succ j =>
      have e1:m=k:=by simpa using h1
      subst e1
      have h2':js[j]?=some (some m):=by simpa using h2
      exact absurd (show m∈js.filterMap id from ξu.mpr ⟨some m,ζk h2',rfl⟩) hm
    | succ i =>
     cases j with
     | zero =>
      have e1:m=k:=by simpa using h2
      subst e1
      have h2':js[i]?=some (some m):=by simpa using h1
      exact absurd (show m∈js.filterMap id from ξu.mpr ⟨some m,ζk h2',rfl⟩) hm
     | succ j=>rw [ih (List.nodup_cons.mp hj').2 i j (by simpa using h1) (by simpa using h2)]
theorem zcq (κ':Bool) (f:PyData→PyData) (hi:EvI K S κ' wi Γ ds) (hc:xK js Γ Γc) (hjs:(is.all fun i=>js[i]? == some none)=true)
  (hj:(js.filterMap id).Nodup) (hz:ds.length≤sizeLine) (hb:∀ d∈ds,ExG K S κ' g is d Γc fun Γ'=>EvE K S κ te Γ' (f d)):EvO K S κ (ve js wi g tYes te) Γ (ds.map f):=by
 have h:=YT (K:=K) (S:=S) (κ:=κ) (g:=g) (tt:=tYes) (te:=te) (is:=is) κ' (fun _=>true) f hi hc hjs hj hz fun d hd H0 F0 H F σ v e p Q q=>hb d hd H0 F0 H F σ v e p Q fun Γ' σ' H' F' k=>q Γ' σ' H' F' ⟨zaP,fun _=>k⟩
 rwa [List.filter_eq_self.mpr (fun _ _=>rfl)] at h
end
inductive xf:Nat→List PyData→Ctx→Prop
 | z:xf 0 [] []
 | no {n:Nat} {Γ:Ctx}:xf n [] Γ→xf (n + 1) [] (none :: Γ)
 | got {n:Nat} {d:PyData} {ds:List PyData} {Γ:Ctx}:xf n ds Γ→xf (n + 1) (d :: ds) (some (.fz false d) :: Γ)
theorem xf.eq (h:xf n ds Γ):vo n ds=Γ:=by
 induction h with
 | z=>rfl
 | @no n Γ _ ih =>
  rw [← ih]
  unfold vo
  simp [List.replicate_succ]
 | @got n d ds Γ _ ih =>
  rw [← ih]
  unfold vo
  simp
theorem zbz (le:Same F H) (k:zO K F vs ds) (q:∀ v H' F',Gr H F H' F'→Rp K κ .fresh H F' v d→Q v H') (hn:N.length=n) (hΓ:xf n ds Γ)
  (h:ExS K .fresh t Γ { nx:=fun _=>d=.none,rt:=fun x=>x=d,kr:=κ }):t { nx:=fun _ H'=>Q .non H',rt:=Q } (L2.start N vs) H:=QE (hn ▸ hΓ.eq) h le k q
section
variable {K:ζa} {S:Sx} {κ:Bool} {Γ:Ctx}
end
theorem asm {p:Prop} (h:p):p:=h
theorem atI0:atI (a :: l) 0=some a:=by
 unfold atI ixN
 simp
theorem atI1:atI (a :: b :: l) 1=some b:=by
 unfold atI ixN
 have h:(1:Int) < ((a :: b :: l).length:Int):=by simp; omega
 rw [if_pos (by decide),if_pos h]
 rfl
theorem zdQ (h:PySem.W.kitOne K t c=some b):PySem.W.kitOne K t c=some b:=h
end PD
namespace L2
open PySem PySem.Spec PyProof.Rows
section
variable {X:Cx} {K:ζa}
theorem zE (hK:X.K=K) (hl:PE X l tl):PI X tg l (UX K tl):=by subst hK; exact zbK hl
variable {o e:Expr} {es:List Expr} {to:TE} {t:TA} {name:Str} {apos cpos:Pos} {T id:String} {r:V→List V→Hp→VK→Prop}
theorem XG (hK:X.K=K) (pa:PlainAttrs T) (slot:Slot T name id) (hty:typeOf (.builtin id)=pure (.type "method_descriptor")) (hm:MtR X id r) (ho:PE X o to)
  (hbase:attributeBase o name X.env (eval o X.env)=eval o X.env:=by rfl) (hline:(apos.endLine == cpos.line)=true:=by rfl):PE X (.Call (.Attribute o name apos) [] [] cpos) (tBM0 K T r to):=by subst hK; exact zdz pa slot hty hm ho hbase hline
theorem yN (hK:X.K=K) (pa:PlainAttrs T) (slot:Slot T name id) (hty:typeOf (.builtin id)=pure (.type "method_descriptor")) (hm:MtR X id r) (ho:PE X o to) (ha:PA X (e :: es) t)
  (hbase:attributeBase o name X.env (eval o X.env)=eval o X.env:=by rfl)
  (hfew:((backTo cpos (starEach (e :: es) X.env)).all (fun x=>!x.1) && (backToKw cpos (keywordEach [] X.env)).all (fun x=>x.1.isSome)
   && decide ((e :: es).length + ([]:List Keyword).length + (if ([]:List Keyword).isEmpty then 0 else 1) < 30))=true:=by rfl)
  (hline:(apos.endLine == cpos.line)=true:=by rfl) (hs:starEach (e :: es) X.env=(false,eval e X.env) :: starEach es X.env:=by rfl) (hplain:(backTo cpos (starEach es X.env)).any (·.1)=false:=by rfl):PE X (.Call (.Attribute o name apos) (e :: es) [] cpos) (tBM K T r to t):=by subst hK; exact zeA pa slot hty hm ho ha hbase hfew hline hs hplain
end
end L2
namespace PD
open PySem L2
abbrev il (ns:List Int):PyData:=.list (ns.map .int)
theorem W5 (ns:List Int):∀ d∈ns.map PyData.int,imm d=true:=fun d hd=>by
 obtain ⟨n,_,rfl⟩:=ζn.mp hd
 rfl
section
variable {K:ζa} {S:Sx} {κ:Bool} {Γ:Ctx}
theorem zaG {t:TE} {ns:List Int} (h:EvE K S false t Γ (.list (ns.map .int))):EvL K S κ t Γ (ns.map .int):=h.toL.imm (W5 ns)
end
theorem xN {α:Type} {g:α→PyData} {ns:List α} {i:Nat} {d:PyData} (h:(ns.map g)[i]?=some d):∃ n,ns[i]?=some n∧d=g n:=by
 rw [ζs] at h
 cases e:ns[i]? with
 | none=>rw [e] at h; cases h
 | some n=>rw [e] at h; exact ⟨n,rfl,(ζI h).symm⟩
theorem vP (h0:-(2 ^ 64) < j) (h1:j < 2 ^ 64):IntMulOk i j:=.of_right (intBits_le_64 h0 h1)
theorem yt {α:Type} {g:α→PyData} {xs:List α} {i:Nat} {x:α} (h:xs[i]?=some x):atI (xs.map g) (i:Int)=some (g x):=zcH (by rw [ζs,h]; rfl)
theorem zb8 {n i:Nat} (h:i < n):ixN n (i:Int)=some i:=by
 unfold ixN
 rw [if_pos (by omega),if_pos (by omega)]
 simp
theorem xo (h:((List.range n).map fun k:Nat=>PyData.int (k:Int))[i]?=some d):i < n∧d=.int i:=by
 rw [ζs] at h
 by_cases hi:i < n
 ·rw [ζ2 hi] at h
  exact ⟨hi,(ζI h).symm⟩
 ·rw [List.getElem?_eq_none (by simp; omega)] at h
  cases h
theorem yX (n:Nat):((List.range n).map fun k:Nat=>PyData.int (k:Int)).length=n:=by rw [ζb,ζu]
def isTn:Option DV→Bool
 | some (.tn _)=>true
 | _=>false
theorem UG (h:(Γ.filter isTn).length≤1):OneT Γ:=by
 intro i j d f h1 h2
 have key:∀ (Γ:Ctx),(Γ.filter isTn).length≤1→∀ (i j:Nat),Γ[i]?=some (some (.tn d))→Γ[j]?=some (some (.tn f))→i=j:=by
  intro Γ
  induction Γ with
  | nil=>intro _ i j h1; simp at h1
  | cons x r ih =>
   intro hl i j h1 h2
   have no:isTn x=true→∀ {m:Nat} {g:PyData},r[m]?=some (some (.tn g))→False:=fun hx m g hm=>by
    rw [ξO,if_pos hx,ζO] at hl
    have:(some (DV.tn g))∈r.filter isTn:=ζl.mpr ⟨ζk hm,rfl⟩
    have:=ζ9 this
    omega
   have hl':(r.filter isTn).length≤1:=by
    rw [ξO] at hl
    split at hl
    ·rw [ζO] at hl; omega
    ·exact hl
   cases i with
   | zero =>
    cases j with
    | zero=>rfl
    | succ j =>
     have e:x=some (.tn d):=by simpa using h1
     exact (no (by rw [e]; rfl) (by simpa using h2)).elim
   | succ i =>
    cases j with
    | zero =>
     have e:x=some (.tn f):=by simpa using h2
     exact (no (by rw [e]; rfl) (by simpa using h1)).elim
    | succ j=>rw [ih hl' i j (by simpa using h1) (by simpa using h2)]
 exact key Γ h i j h1 h2
section
variable {K:ζa} {S S':Sx} {κ:Bool} {Γ:Ctx} {P:Post}
end
theorem Zm {α:Type} {g:α→PyData} (h:∀ x,PyData.canLay0 (g x)=true):∀ xs:List α,PyData.canLayAll0 (xs.map g)=true
 | []=>rfl
 | x :: r=>by
  show (PyData.canLay0 (g x) && PyData.canLayAll0 (r.map g))=true
  rw [h,Zm h r]
  rfl
theorem vX {α:Type} {g:α→PyData} {n:Nat} (h:∀ x,PyData.depth (g x)≤n):∀ xs:List α,PyData.depthAll (xs.map g)≤n
 | []=>ζL _
 | x :: r=>by
  show max (PyData.depth (g x)) (PyData.depthAll (r.map g))≤n
  have:=vX h r
  have:=h x
  omega
theorem YA (h1:PyData.canLay0 d=true) (h2:PyData.depth d≤50):SeqAt.shaped d=true:=by
 unfold SeqAt.shaped
 rw [h1]
 simp
 omega
end PD
namespace L2
open PySem PySem.Spec PyProof.Rows
def srt (ns:List Int):List Int:=ns.mergeSort fun a b=>decide (a≤b)
theorem tX:∀ {a b:List Int},a.Perm b→a.Pairwise (·≤·)→b.Pairwise (·≤·)→a=b
 | [],b,p,_,_=>p.nil_eq
 | x :: r,[],p,_,_=>absurd p.length_eq (by simp)
 | x :: r,y :: t,p,h1,h2=>by
  have a1:=ξl.mp h1
  have a2:=ξl.mp h2
  have hx:x∈y :: t:=p.mem_iff.mp ζj
  have hy:y∈x :: r:=p.mem_iff.mpr ζj
  have e:x=y:=by
   rcases ζz.mp hx with e | hx
   ·exact e
   ·rcases ζz.mp hy with e | hy
    ·exact e.symm
    ·have:=a2.1 x hx
     have:=a1.1 y hy
     omega
  subst e
  rw [tX p.cons_inv a1.2 a2.2]
theorem uw (ns:List Int):(srt ns).Perm ns:=List.mergeSort_perm ns _
theorem Zs (ns:List Int):(srt ns).Pairwise (·≤·):=by
 have:=List.pairwise_mergeSort (le:=fun a b:Int=>decide (a≤b)) (fun a b c h1 h2=>by simp at *; omega) (fun a b=>by simp; omega) ns
 exact this.imp fun h=>by simpa using h
theorem zdi (p:a.Perm ns) (h:a.Pairwise (·≤·)):a=srt ns:=tX (p.trans (uw ns).symm) h (Zs ns)
section
variable {X:Cx} {K:ζa}
theorem uu:∀ {ns:List Int} {us:List Value},IntsAre us ns→Vals (ns.map V.int) us
 | _,_,.nil=>.nil
 | _,_,.cons _ t r=>.cons ⟨t,rfl⟩ (uu r)
def Xx (K:ζa):List V→Hp→VK→Prop:=fun xs H Q=>∃ p ns,xs=[.ref p]∧SqL K H p (ns.map V.int)∧ns.length < 64∧∀ l,H l=none→Q (.ref l) (upd H l (.lst ((srt ns).map V.int)))
theorem Vj:yq X (.builtin "sorted") (Xx X.K):=by
 intro pins s σ H xs us Q I r h
 obtain ⟨p,ns,rfl,hq,h64,q⟩:=h
 obtain ⟨u,rfl,rx⟩:=xh r
 cases rx
 obtain ⟨its,r',pl,hz⟩:=I.list hq
 have hl:=r'.length
 rw [ζb] at hl hz
 refine sorted_ints (vs:=its) pl.isList (x0 r') (by omega) fun out ns' a1 a2 a3=>?_
 have e:=zdi a2 a3
 subst e
 obtain ⟨c,hc⟩:=sortedAll_at s.heap its out
 exact ⟨.ref (s.heap.objs.size + 1),_,I.laid (t':=s.toks) (fun _ _=>sortedAll_old) (Nat.le_succ _) (show yj X.prog X.w _ _ _ (.lst ((srt ns).map V.int)) from ⟨by rw [List.length_map,(uw ns).length_eq]; exact hz,out.toList,c,uu a1,by simpa using hc⟩),rfl,q _ (I.hok.fresh (Nat.le_succ _))⟩
theorem u8 (hK:X.K=K):yq X (.builtin "sorted") (Xx K):=by subst hK; exact Vj
def low (d:PyData):Bool:=d.canLay0 && decide (d.depth≤50)
open Classical in
noncomputable def eqU2 (h:Heap) (d:PyData) (y:Value):Bool:=decide (∃ dy as,Reads h y dy as∧low dy=true∧PyData.eqv dy d=true)
theorem XW (h:low d=true):d.canLay0=true:=(ζP.mp h).1
theorem TQ (h:low d=true):d.depth≤50:=of_decide_eq_true (ζP.mp h).2
open Classical in
theorem U0 (r:Reads h y dy as) (l:low dy=true):eqU2 h d y=PyData.eqv dy d:=by
 unfold eqU2
 cases e:PyData.eqv dy d with
 | true=>apply decide_eq_true; exact ⟨dy,as,r,l,e⟩
 | false =>
  apply decide_eq_false
  rintro ⟨dz,bs,r2,l2,e2⟩
  rw [SeqAt.Reads.unique dy dz y as bs (XW l) r r2] at e
  rw [e] at e2
  cases e2
theorem Vo:∀ {us:List Value} {ds:List PyData} {as:List Addr},ReadsAll h us ds as→(∀ e∈ds,low e=true)→us.any (eqU2 h d)=ds.any (PyData.eqv · d)
 | _,_,_,.nil,_=>rfl
 | _,_,_,.cons r t,l=>by rw [ξi,ξi,U0 r (l _ ζj),Vo t fun e he=>l e (ζr _ he)]
theorem YK:∀ {us:List Value} {ds:List PyData} {as:List Addr},ReadsAll h us ds as→∀ u∈us,∃ d∈ds,∃ bs,Reads h u d bs
 | _,_,_,.nil,_,hu=>by cases hu
 | _,_,_,.cons r t,u,hu=>by
  rcases ζz.mp hu with rfl | hu
  ·exact ⟨_,ζj,_,r⟩
  ·obtain ⟨d,hd,bs,q⟩:=YK t u hu
   exact ⟨d,ζr _ hd,bs,q⟩
def rInD (K:ζa) (neg:Bool):R2:=fun x y H Q=>∃ p xs d ds,y=.ref p∧SqL K H p xs∧Dp K H x d∧zO K H xs ds∧low d=true∧(∀ e∈ds,low e=true)∧Q (.bl (if neg then !ds.any (PyData.eqv · d) else ds.any (PyData.eqv · d))) H
theorem Ty (hu:X.A.units + 64 < cLine):OpR X (compareOp .NotIn) (rInD X.K true):=by
 intro pins s σ H x y v u Q I rx ry h
 obtain ⟨p,xs,d,ds,rfl,hq,h1,h2,l1,l2,q⟩:=h
 cases ry
 obtain ⟨its,r,pl,hz⟩:=I.list hq
 obtain ⟨as,ra⟩:=h1.reads I rx
 obtain ⟨bs,rb⟩:=zO.reads I h2 r
 refine SeqAt.notIn_listAt (eqU2 s.heap d) pl.isList (fun w hw=>?_) ⟨.bl _,H,I,rfl,?_⟩
 ·obtain ⟨dw,hd,cs,rc⟩:=YK rb w (by simpa using hw)
  rw [U0 rc (l2 dw hd)]
  exact SeqAt.eqAt_reads dw d _ s w v cs as rc ra (XW (l2 dw hd)) (XW l1) (by have:=TQ l1; have:=Nat.min_le_right dw.depth d.depth; show X.A.units + 1 + _ < _; omega)
 ·rw [show its.toArray.any (eqU2 s.heap d)=its.any (eqU2 s.heap d) by simp,Vo rb l2]
  exact q
theorem ZJ (hK:X.K=K) (hu:X.A.units + 64 < cLine):OpR X (compareOp .NotIn) (rInD K true):=by subst hK; exact Ty hu
def Xy:V→List V→Hp→VK→Prop:=fun x vs H Q=>∃ l xs j y,x=.ref l∧vs=[.int j,y]∧H l=some (.lst xs)∧0≤j∧j≤(xs.length:Int)∧xs.length < sizeLine∧Q .non (upd H l (.lst (xs.take j.toNat ++ y :: xs.drop j.toNat)))
theorem YJ:MtM X "list.insert" Xy:=by
 intro pins s σ H x vs v us Q I rx rv h
 obtain ⟨l,xs,j,y,rfl,rfl,hH,h0,hj,hz,q⟩:=h
 cases rx
 cases rv with
 | cons ru rv' =>
  obtain ⟨t,rfl⟩:=ru
  obtain ⟨u,rfl,ry⟩:=Vals.one rv'
  obtain ⟨z,its,n,r,hl,e⟩:=I.lstM hH
  have hb:sizeLine < 2 ^ 62:=by decide
  have hf:Builtin.List.listFitsIndex j=true:=fitsIndex_both (by omega) (by omega)
  have hs:its.toArray.size≤sizeLine:=by rw [ζQ]; omega
  have e1:¬ (j < 0):=by omega
  have e2:min j.toNat its.length=j.toNat:=by omega
  refine call_meets F.slot_list_insert ⟨_,e,rfl⟩ F.entry_list_insert (F.args_list_insert_3 _ _ _) (AutoSeq1.list_insert_list_int_val_1 l its.toArray n j t u (by rw [hf]; decide) hs) ⟨e,?_⟩
  refine ⟨.non,_,I.lset (its':=its.take j.toNat ++ u :: its.drop j.toNat) hH e ?_ ((r.take j.toNat).append (.cons ry (r.drop j.toNat))) ?_,rfl,q⟩
  ·simp only [e1,if_false,List.size_toArray,e2]
   apply Array.toList_inj.mp
   simp
   exact ζW (by rw [ζ0]; exact ζh _)
  ·rw [ζf,ζO,ζ7,ζ0]
   omega
end
end L2
namespace PD
open PySem L2
section
variable {K:ζa} {S S':Sx} {κ κ':Bool} {Γ Γ' Γ'':Ctx} {P:Post}
theorem ug (ns:List Int):zv K κ S H0 F (ns.map V.int) (ns.map .int):=x6 (W5 ns) (w6 ns)
theorem ZU (h:EvL K S false ta Γ (ns.map .int)) (h64:ns.length < 64):EvO K S κ (tCB (Xx K) (zR ta tNil)) Γ ((srt ns).map .int):=fun H0 F0 H F σ e Q q =>
 h H0 F0 H F σ e _ fun a vs H1 F1 g1 p1 k1=>by
  cases zX (zP k1)
  exact ⟨a,ns,rfl,p1,h64,fun p hp=>q p _ _ F1 (g1.trans (.newO g1.le hp _)) (g1.h.free hp) zi (g1.le.free hp) (ug _)⟩
theorem zaK (ha:EvE K S false ta Γ d) (hb:EvL K S false tb Γ ds) (l1:low d=true) (l2:∀ e∈ds,low e=true) :
  EvE K S κ (tOp (rInD K neg) ta tb) Γ (.bool (if neg then !ds.any (PyData.eqv · d) else ds.any (PyData.eqv · d))):=fun H0 F0 H F σ e Q q =>
 ha H0 F0 H F σ e _ fun v H1 F1 g1 p1=>hb H0 F0 H1 F1 σ (e.mono g1) _ fun b ws H2 F2 g2 p2 k2 =>
  ⟨b,ws,d,ds,rfl,p2,yT (g1.le.trans g2.h) (yW p1),xw g2.le (zP k2),l1,l2,q _ H2 F2 (g1.trans g2) (.bl _)⟩
theorem T5 (h:Γ[i]?=some (some (.ow κ ds))) (hi:EvE K S false ti Γ (.int m)) (he:EvE K S κ te Γ d) (h0:0≤m) (h1:m≤ds.length) (hz:ds.length < sizeLine) (k:P.nx (Γ.set i (some (.ow κ (ds.take m.toNat ++ d :: ds.drop m.toNat))))) :
  ExS K S (v5 (tBM K "list" Xy (tVar i) (zR ti (zR te tNil)))) Γ P:=fun H0 F0 H F σ B e b _ D I=>by
 obtain ⟨v0,q1,a,vs,rfl,w,q5⟩:=e.has i _ h
 refine ⟨_,q1,.inl ⟨rfl,_,SqL.of w.h⟩,hi H0 F0 H F σ e _ fun v1 H1 F1 g1 p1=>he H0 F0 H1 F1 σ (e.mono g1) _ fun v H' F' g2 p=>?_⟩
 cases ym p1
 have g:=g1.trans g2
 have k':=zw g.f q5
 have hl:=zv.length q5
 refine ⟨a,vs,m,v,rfl,rfl,g.h _ _ w.h,h0,by rw [hl]; exact h1,by rw [hl]; exact hz,?_⟩
 exact I.nx _ _ _ F' k (b.trans g.f) ((e.mono g).put (y:=.ow κ (ds.take m.toNat ++ d :: ds.drop m.toNat)) h q1 (show Owns H' (.ref a) (.ow κ ds) a from rfl) ⟨a,_,rfl,⟨zi,(w.mono g).f,w.n,w.s⟩,zv.append (zv.take _ k') (.cons p (zv.drop _ k'))⟩ fun _ z=>z)
theorem exin (h:GetC Γ i (.ow κ ds)) (hi:EvE K S false ti Γ (.int m)) (he:EvE K S κ te Γ d) (h0:0≤m) (h1:m≤ds.length) (hz:ds.length < sizeLine) (e:SetC Γ i (some (.ow κ (ds.take m.toNat ++ d :: ds.drop m.toNat))) Γ') (k:P.nx Γ') :
  ExS K S (v5 (tBM K "list" Xy (tVar i) (zR ti (zR te tNil)))) Γ P:=T5 h.eq hi he h0 h1 hz (e.eq ▸ k)
theorem T9 (h:F a=some (.lst xs)) (t:T a):drop T F a=none:=by
 cases q:drop T F a with
 | none=>rfl
 | some o =>
  obtain ⟨q1,q2⟩:=yk.mp q
  rw [h] at q1
  cases q1
  exact absurd ⟨t,rfl⟩ q2
end
end PD
namespace L2
open PySem PySem.Spec PyProof.Rows
section
variable {X:Cx} {K:ζa}
theorem Xd:∀ {bs:List Bool} {us:List Value},Vals (bs.map V.bl) us→us=bs.map Value.bool
 | [],_,.nil=>rfl
 | _ :: _,_,.cons r t=>by rw [Xd t,show _=Value.bool _ from r]; rfl
theorem Y8:∀ (bs:List Bool) (f:Nat→Bool),(∀ i b,bs[i]?=some b→f i=b)→(List.range bs.length).all f=bs.all fun b=>b
 | [],_,_=>rfl
 | b :: r,f,h=>by
  have ih:=Y8 r (fun i=>f (i + 1)) fun i b' hb=>h (i + 1) b' (by simpa using hb)
  rw [ζO,List.range_succ_eq_map,ξ1,List.all_map,ξ1,h 0 b rfl,← ih]
  rfl
def rAll (K:ζa):List V→Hp→VK→Prop:=fun xs H Q=>∃ p,∃ bs:List Bool,xs=[.ref p]∧SqL K H p (bs.map V.bl)∧Q (.bl (bs.all fun b=>b)) H
theorem za6 (hc:X.calm=true):yq X (.builtin "all") (rAll X.K):=by
 intro pins s σ H xs us Q I r h
 obtain ⟨p,bs,rfl,hq,q⟩:=h
 obtain ⟨u,rfl,rx⟩:=xh r
 cases rx
 obtain ⟨its,r',pl,hz⟩:=I.list hq
 have e:=Xd r'
 subst e
 have hl:=pl.isList
 refine call_all_walk (wpAny_pyIter_list hl ?_)
 have hne:p≠s.heap.objs.size:=by
  obtain ⟨o,ho,_⟩:=hl
  exact ζw (ζm ho)
 refine ⟨s.heap.objs.size,_,_,_,_,_,fun i=>bs.getD i false,rfl,Walks.list (A:=X.A.in1) (I.ok.hd hc) _ p hne (bs.map Value.bool).toArray,⟨⟨_,ζy _ rfl,rfl,rfl⟩,hl.push _⟩,fun i v s Q E hP hQ=>?_,fun h' tk hk=>?_⟩
 ·have hP':(bs.map Value.bool)[i]?=some v:=by simpa using hP
  rw [ζs] at hP'
  cases eb:bs[i]? with
  | none=>rw [eb] at hP'; cases hP'
  | some b =>
   rw [eb] at hP'
   cases hP'
   have:bs.getD i false=b:=by rw [ζd,eb]; rfl
   have hQ':Q (bs.getD i false) s:=hQ
   rw [this] at hQ'
   exact wpAny_truthy_bool hQ'
 ·have e:(List.range (bs.map Value.bool).toArray.size).all (fun i=>bs.getD i false)=bs.all fun b=>b:=by
   rw [ζQ,ζb]
   exact Y8 bs _ fun i b hb=>by rw [ζd,hb]; rfl
  rw [e]
  exact ⟨.bl _,H,I.kept fun b o eb=>hk b o (by simpa using Nat.ne_of_lt (Heap.lt_size eb)) (Heap.get?_push_of_some _ eb),rfl,q⟩
theorem Y2 (hK:X.K=K) (hc:X.calm=true):yq X (.builtin "all") (rAll K):=by subst hK; exact za6 hc
end
end L2
namespace PD
open PySem L2
section
variable {K:ζa} {S S':Sx} {κ κ':Bool} {Γ Γ' Γ'':Ctx} {P:Post}
theorem w4:∀ {vs:List V} {bs:List Bool},zO K F vs (bs.map PyData.bool)→vs=bs.map V.bl
 | _,[],.nil=>rfl
 | _,_ :: _,.cons h t=>by rw [zeH h,w4 t]; rfl
theorem zaO {ta:TE} {bs:List Bool} (h:EvL K S false ta Γ (bs.map .bool)):EvE K S κ (tCB (rAll K) (zR ta tNil)) Γ (.bool (bs.all fun b=>b)):=fun H0 F0 H F σ e Q q =>
 h H0 F0 H F σ e _ fun a vs H1 F1 g1 p1 k1=>by
  cases w4 (zP k1)
  exact ⟨a,bs,rfl,p1,q _ H1 F1 g1 (.bl _)⟩
theorem zct (h:EvE K S false ta Γ (.bool b)):EvE K S κ (tCB (fun xs H Q=>(∃ i,xs=[.int i]∧Q (.int i) H)∨∃ k,xs=[.bl k]∧Q (.int (if k then 1 else 0)) H) (zR ta tNil)) Γ (.int (if b then 1 else 0)):=fun H0 F0 H F σ e Q q =>
 h H0 F0 H F σ e _ fun v H1 F1 g1 p1=>by
  cases uC p1
  exact .inr ⟨b,rfl,q _ H1 F1 g1 (.int _)⟩
theorem WC:∀ {vs:List V} {ds:List PyData},vs.length=ds.length→(∀ (j:Nat) v d,vs[j]?=some v→ds[j]?=some d→Rp K κ S H0 F v d)→zv K κ S H0 F vs ds
 | [],[],_,_=>.nil
 | [],_ :: _,h,_=>by cases h
 | _ :: _,[],h,_=>by cases h
 | v :: vs,d :: ds,h,k=>.cons (k 0 v d rfl rfl) (WC (by simpa using h) fun j v' d' h1 h2=>k (j + 1) v' d' (by simpa using h1) (by simpa using h2))
theorem tJ:∀ {l:List α},l.Nodup→∀ {i j:Nat} {x:α},l[i]?=some x→l[j]?=some x→i=j
 | [],_,i,j,x,h,_=>by simp at h
 | y :: r,n,0,0,x,_,_=>rfl
 | y :: r,n,0,j + 1,x,h1,h2=>by
  have e:y=x:=by simpa using h1
  exact absurd (List.mem_of_getElem? (show r[j]?=some x by simpa using h2)) (e ▸ (List.nodup_cons.mp n).1)
 | y :: r,n,i + 1,0,x,h1,h2=>by
  have e:y=x:=by simpa using h2
  exact absurd (List.mem_of_getElem? (show r[i]?=some x by simpa using h1)) (e ▸ (List.nodup_cons.mp n).1)
 | y :: r,n,i + 1,j + 1,x,h1,h2=>by rw [tJ (List.nodup_cons.mp n).2 (show r[i]?=some x by simpa using h1) (show r[j]?=some x by simpa using h2)]
theorem exo2 (hi:EvI K S κ' wi Γ ds) (hz:ds.length≤sizeLine) (es:SetC Γ i (some (.o2 none (List.replicate ds.length []))) Γ') (k:ExT K S S' u Γ' P) :
  ExT K S S' (tSeq (tAsg (ve [none] wi (yn 0) tYes (tLst tNil)) (yn i)) u) Γ P:=fun H0 F0 H F σ B e bb vv D I =>
 hi H0 F0 H F σ e _ fun J H1 F1 g1 I1=>by
  intro L hL
  have sdm:∀ {H2 F2:Hp},Gr H1 F1 H2 F2→∀ a,S.has H0 a→∃ o,H2 a=some o:=fun g2 a c=>let ⟨o,z⟩:=(e.mono g1).sd a c; ⟨o,g2.h _ _ z⟩
  refine ⟨fun n m ys H2=>m=ds.length - n∧n≤ds.length∧∃ F2,Gr H1 F1 H2 F2∧H2 L=some (.lst ys)∧F2 L=none∧V.ref L∉ys∧ys.Nodup∧ys.length=n∧∀ (j:Nat) x,ys[j]?=some x→∃ c,x=.ref c∧H1 c=none∧H2 c=some (.lst [])∧F2 c=none,
   ⟨_,rfl,Nat.zero_le _,F1,.newO g1.le hL _,zi,g1.le.free hL,by simp,List.nodup_nil,rfl,by simp⟩,?_⟩
  rintro n m ys H2 ⟨rfl,hn,F2,g2,hl,fl,n1,n2,n3,hy⟩
  by_cases hlt:n < ds.length
  ·refine .inr ⟨I1.go n H2 F2 g2.f g2.le hlt,fun zs H3=>n + 1≤ds.length∧∃ F2,Gr H1 F1 H3 F2∧H3 L=some (.lst zs)∧F2 L=none∧V.ref L∉zs∧zs.Nodup∧zs.length=n + 1∧∀ (j:Nat) x,zs[j]?=some x→∃ c,x=.ref c∧H1 c=none∧H3 c=some (.lst [])∧F2 c=none,fun zs H3 h3=>⟨ds.length - (n + 1),by omega,rfl,h3⟩,fun x H3 y=>?_⟩
   obtain ⟨d,F3,hd,g3,p3⟩:=I1.yld n H2 F2 x H3 g2.f g2.le (sdm g2) hlt y
   have g:=g2.trans g3
   have hl3:=g3.h _ _ hl
   have fl3:=g3.ap _ _ hl fl
   refine ⟨Sub.set rfl,?_⟩
   unfold tYes
   dsimp only
   refine iteT ⟨ζL _,fun p hp=>?_⟩
   have npL:p≠L:=by rintro rfl; rw [hl3] at hp; cases hp
   have fp3:F3 p=none:=g3.le.free hp
   have hp1:H1 p=none:=g.h.free hp
   have np:V.ref p∉ys:=fun hm=>by
    obtain ⟨j,hj⟩:=ξy.mp hm
    obtain ⟨c,ec,_,h2,_⟩:=hy j _ hj
    cases ec
    have:=g3.h _ _ h2
    rw [hp] at this; cases this
   refine ⟨by rw [zp npL.symm]; exact hl3,by omega,hlt,F3,⟨fun b u z=>?_,g.f,fun b u z=>?_,g.ap⟩,zi,fl3,?_,?_,by rw [ζf,n3]; rfl,fun j x hx=>?_⟩
   ·rw [zp (zB z hL),zp (zB z hp1)]
    exact g.h _ _ z
   ·rw [zp (by rintro rfl; rw [fl3] at z; cases z),zp (by rintro rfl; rw [fp3] at z; cases z)]
    exact g3.le _ _ z
   ·intro hm
    rcases ζq.mp hm with hm | hm
    ·exact n1 hm
    ·have:V.ref L=.ref p:=by simpa using hm
     cases this
     exact npL rfl
   ·refine List.nodup_append.mpr ⟨n2,by simp,fun a ha b hb=>?_⟩
    have:b=.ref p:=by simpa using hb
    rintro rfl
    exact np (this ▸ ha)
   ·by_cases hj:j < ys.length
    ·rw [List.getElem?_append_left hj] at hx
     obtain ⟨c,rfl,h1,h2,h3⟩:=hy j x hx
     have ncL:c≠L:=by rintro rfl; exact n1 (ζk hx)
     have ncp:c≠p:=by rintro rfl; exact np (ζk hx)
     exact ⟨c,rfl,h1,by rw [zp ncL,zp ncp]; exact g3.h _ _ h2,g3.ap _ _ h2 h3⟩
    ·rw [List.getElem?_append_right (by omega)] at hx
     have:j - ys.length=0:=by
      have:=(ζe.mp hx).1
      simp at this
      omega
     rw [this] at hx
     cases (show some (V.ref p)=some x from hx)
     exact ⟨p,rfl,hp1,by rw [zp npL,zi],fp3⟩
  ·have en:n=ds.length:=by omega
   subst en
   have g:=g1.trans g2
   have e2:=e.mono g
   have hHL:H L=none:=g1.h.free hL
   refine .inl ⟨I1.stop H2 F2 g2.f g2.le,?_⟩
   obtain rfl:=es.eq
   have hv:HasV K S H0 H2 F2 (.ref L) (.o2 none (List.replicate ds.length [])):=⟨L,ys,⟨rfl,fun _ z=>nomatch z⟩,⟨hl,fl,e.gr.h.free hHL,e.out hHL⟩,n1,n2,by rw [List.length_replicate]; exact n3,fun j x hx=>by
    obtain ⟨c,rfl,h1,h2,h3⟩:=hy j x hx
    have hHc:H c=none:=g1.h.free h1
    have hj:=(ζe.mp hx).1
    exact ⟨c,[],[],rfl,⟨h2,h3,e.gr.h.free hHc,e.out hHc⟩,by rw [ξD,if_pos (by omega)],.nil⟩⟩
   refine k H0 F0 H2 F2 _ B (e2.set hv fun a oa j y w hj z hw o=>?_) (bb.trans g.f) vv D I
   obtain ⟨v,q1,q2⟩:=e.has j y z
   rw [hw] at q1
   cases q1
   obtain ⟨us,w1⟩:=q2.owns (o.back q2 fun _ _ z=>g.h _ _ z.h)
   have ha:=w1.h
   rcases oa with oa | ⟨p,vs,ep,hp,hm⟩
   ·cases oa
    rw [hHL] at ha; cases ha
   ·cases ep
    rw [hl] at hp
    cases hp
    obtain ⟨j',hj'⟩:=ξy.mp hm
    obtain ⟨c,ec,h1,_⟩:=hy j' _ hj'
    cases ec
    rw [g1.h.free h1] at ha; cases ha
theorem zdZ (h:GetC Γ i (.o2 r dss)) (hi:EvE K S false ti Γ (.int m)) (hm:ixN dss.length m=some j) (hd:dss[j]?=some ds):EvL K S true (tOp (rIxL K) (tVar i) ti) Γ ds:=fun H0 F0 H F σ e Q q=>by
 obtain ⟨v0,q1,a,vs,⟨rfl,hid⟩,w,n1,n2,n3,hk⟩:=e.has i _ h.eq
 refine ⟨_,q1,hi H0 F0 H F σ e _ fun w' H1 F1 g1 p1=>?_⟩
 cases ym p1
 have hj:=(ζe.mp hd).1
 have hx:vs[j]?=some (vs[j]'(by omega)):=ζp (by omega)
 obtain ⟨b,us,ds',ex,ow,hd',kk⟩:=hk j _ hx
 rw [hd] at hd'
 cases hd'
 have hat:atI vs m=some (.ref b):=by
  unfold atI
  rw [n3,hm]
  show vs[j]?=_
  rw [hx,ex]
 exact ⟨a,vs,m,_,rfl,rfl,SqL.of (g1.h _ _ w.h),hat,q b us H1 F1 g1 (SqL.of (g1.h _ _ ow.h)) (zw g1.f kk)⟩
theorem zaD (h:GetC Γ i (.o2 r dss)) (hi:EvE K S false ti Γ (.int m)) (hm:ixN dss.length m=some j) (hd:dss[j]?=some ds) (he:EvE K S true te Γ d) (hz:ds.length < sizeLine)
  (es:SetC Γ i (some (.o2 r (dss.set j (ds ++ [d])))) Γ') (k:P.nx Γ'):ExS K S (v5 (tBM K "list" we (tOp (rIxL K) (tVar i) ti) (zR te tNil))) Γ P:=fun H0 F0 H F σ B e bb _ D I=>by
 obtain ⟨v0,q1,a,vs,⟨rfl,hid⟩,w,n1,n2,n3,hk⟩:=e.has i _ h.eq
 refine ⟨_,q1,hi H0 F0 H F σ e _ fun w' H1 F1 g1 p1=>?_⟩
 cases ym p1
 have hj:=(ζe.mp hd).1
 have hx:vs[j]?=some (vs[j]'(by omega)):=ζp (by omega)
 obtain ⟨b,us,ds',ex,ow,hd',kk⟩:=hk j _ hx
 rw [hd] at hd'
 cases hd'
 rw [ex] at hx
 have hat:atI vs m=some (.ref b):=by
  unfold atI
  rw [n3,hm]
  exact hx
 refine ⟨a,vs,m,_,rfl,rfl,SqL.of (g1.h _ _ w.h),hat,.inl ⟨rfl,_,SqL.of (g1.h _ _ ow.h)⟩,he H0 F0 H1 F1 σ (e.mono g1) _ fun v H2 F2 g2 p2=>?_⟩
 have g:=g1.trans g2
 have ow2:=ow.mono g
 have w2:=w.mono g
 have nba:b≠a:=by rintro rfl; exact n1 (ζk hx)
 refine ⟨b,us,v,rfl,rfl,ow2.h,by rw [zv.length kk]; exact hz,?_⟩
 obtain rfl:=es.eq
 refine I.nx _ _ _ F2 k (bb.trans g.f) ((e.mono g).put (y:=.o2 r (dss.set j (ds ++ [d]))) h.eq q1 (show Owns H2 (.ref a) (.o2 r dss) b from .inr ⟨a,vs,rfl,w2.h,ζk hx⟩) ?_ ?_)
 ·refine ⟨a,vs,⟨rfl,hid⟩,w2.other nba.symm,n1,n2,by rw [List.length_set]; exact n3,fun j' x hx'=>?_⟩
  by_cases hjj:j'=j
  ·subst hjj
   rw [hx] at hx'
   cases hx'
   exact ⟨b,us ++ [v],ds ++ [d],rfl,⟨zi,ow2.f,ow2.n,ow2.s⟩,by rw [ζv hj],zv.append (zw g.f kk) (.cons p2 .nil)⟩
  ·obtain ⟨c,ws,ds',rfl,oc,hc,kc⟩:=hk j' x hx'
   have ncb:c≠b:=by
    rintro rfl
    exact hjj (tJ n2 hx' hx)
   exact ⟨c,ws,ds',rfl,(oc.mono g).other ncb,by rw [ζC (Ne.symm hjj)]; exact hc,zw g.f kc⟩
 ·rintro c (oc | ⟨p,xs,ep,hp,hm'⟩)
  ·exact .inl oc
  ·cases ep
   rw [zp nba.symm,w2.h] at hp
   cases hp
   exact .inr ⟨a,vs,rfl,w2.h,hm'⟩
theorem HasV.frzG (h:HasV K S H0 H F v x) (s:Same F F') (n:∀ c,Owns H v x c→F' c=none):HasV K S H0 H F' v x:=by
 cases x with
 | fz κ d=>exact yA s h
 | tn d=>obtain ⟨T,eT,k⟩:=h; exact ⟨T,eT,yA s k⟩
 | ow κ ds=>obtain ⟨b,us,eb,wo,kk⟩:=h; exact ⟨b,us,eb,⟨wo.h,n b eb,wo.n,wo.s⟩,zw s kk⟩
 | ox=>obtain ⟨b,us,eb,wo⟩:=h; exact ⟨b,us,eb,⟨wo.h,n b eb,wo.n,wo.s⟩⟩
 | o2 r dss =>
  obtain ⟨b,us,eb,wo,n1,n2,l,k⟩:=h
  refine ⟨b,us,eb,⟨wo.h,n b (.inl eb.eq),wo.n,wo.s⟩,n1,n2,l,fun j y hy=>?_⟩
  obtain ⟨c,ws,ds,e2,o2,h2,k2⟩:=k j y hy
  exact ⟨c,ws,ds,e2,⟨o2.h,n c (.inr ⟨b,us,eb.eq,wo.h,by rw [← e2]; exact ζk hy⟩),o2.n,o2.s⟩,h2,zw s k2⟩
 | fn a=>exact h
 | xn φ=>obtain ⟨b,e,k⟩:=h; exact ⟨b,e,s _ _ k⟩
 | oa b κ ds=>obtain ⟨eb,us,wo,kk⟩:=h; exact ⟨eb,us,⟨wo.h,n b eb,wo.n,wo.s⟩,zw s kk⟩
 | xp φ=>obtain ⟨F1,s1,k⟩:=h; exact ⟨F1,s1.trans s,k⟩
 | od u=>obtain ⟨b,eb,wo⟩:=h; exact ⟨b,eb,⟨wo.h,n b eb,wo.n,wo.s⟩⟩
 | og ad ψ =>
  obtain ⟨ok,w,p⟩:=h
  refine ⟨ok,fun b z=>?_,ok.ps S H0 H H F F' v (fun _ _=>rfl) s p⟩
  obtain ⟨o,y⟩:=w b z
  exact ⟨o,⟨y.h,n b z,y.n,y.s⟩⟩
open Classical in
noncomputable def frzF (F H:Hp) (a:Addr) (vs:List V):Hp:=fun c=>if c=a∨V.ref c∈vs then H c else F c
theorem DEnv.frz2 (e:DEnv K S H0 F0 H F σ Γ) (h:GetC Γ i (.o2 r dss)) (es:SetC Γ i (some (.fz true (.list (dss.map .list)))) Γ') :
  ∃ (Ff:Hp) (A:Addr→Prop),DEnv K S H0 F0 H Ff σ Γ'∧Same F Ff∧(∀ c,A c→F c=none∧∃ vs,Ff c=some (.lst vs))∧∀ c,¬ A c→Ff c=F c:=by
 have h':=h.eq
 obtain ⟨v0,q1,a,vs,⟨rfl,hid⟩,w,n1,n2,n3,hk⟩:=e.has i _ h'
 have inn:∀ {c:Addr},(c=a∨V.ref c∈vs)→∃ us,vj S H0 H F c us:=fun {c} hc=>by
  rcases hc with rfl | hc
  ·exact ⟨_,w⟩
  ·obtain ⟨j,hj⟩:=ξy.mp hc
   obtain ⟨b,us,ds,eb,ow,_⟩:=hk j _ hj
   cases eb
   exact ⟨us,ow⟩
 have Fin:∀ {c:Addr},(c=a∨V.ref c∈vs)→frzF F H a vs c=H c:=fun hc=>if_pos hc
 have Fout:∀ {c:Addr},¬ (c=a∨V.ref c∈vs)→frzF F H a vs c=F c:=fun hc=>if_neg hc
 have s:Same F (frzF F H a vs):=fun c o hc=>by
  rw [Fout fun z=>by obtain ⟨us,ow⟩:=inn z; rw [ow.f] at hc; cases hc]
  exact hc
 have le:Same (frzF F H a vs) H:=fun c o hc=>by
  by_cases z:c=a∨V.ref c∈vs
  ·rw [Fin z] at hc; exact hc
  ·rw [Fout z] at hc; exact e.le _ _ hc
 have li:=(ζe.mp h').1
 have own:∀ {c:Addr},(c=a∨V.ref c∈vs)→Owns H (.ref a) (.o2 r dss) c:=fun {c} hc=>by
  rcases hc with rfl | hc
  ·exact .inl rfl
  ·exact .inr ⟨a,vs,rfl,w.h,hc⟩
 obtain rfl:=es.eq
 have hv:HasV K S H0 H (frzF F H a vs) (.ref a) (.fz true (.list (dss.map .list))):=by
  refine .lst ⟨by rw [Fin (.inl rfl)]; exact w.h,w.s⟩ (WC (by rw [ζb]; exact n3) fun j v d h1 h2=>?_)
  obtain ⟨b,us,ds,rfl,ow,hd,kk⟩:=hk j v h1
  rw [ζs,hd] at h2
  cases h2
  exact .lst ⟨by rw [Fin (.inr (ζk h1))]; exact ow.h,ow.s⟩ (zw s kk)
 have eF:DEnv K S H0 F0 H (frzF F H a vs) σ (Γ.set i (some (.fz true (.list (dss.map .list))))):=by
  refine ⟨⟨e.gr.h,e.gr.f.trans s,le,fun c o hc hn=>?_⟩,e.l0,e.sd,e.s0,by simp [e.len],fun j f z=>?_,fun j k' x1 y1 v1 w1 b g1 g2 g3 g4 o1 o2=>?_⟩
  ·rw [Fout fun z=>by obtain ⟨us,ow⟩:=inn z; rw [ow.n] at hc; cases hc]
   exact e.gr.ap c o hc hn
  ·by_cases hj:j=i
   ·subst hj
    rw [ζv li] at z
    cases z
    exact ⟨_,q1,hv⟩
   ·rw [ζC (Ne.symm hj)] at z
    obtain ⟨u,r1,r2⟩:=e.has j f z
    refine ⟨u,r1,r2.frzG s fun c oc=>?_⟩
    by_cases zc:c=a∨V.ref c∈vs
    ·exact absurd (e.ne j i f _ u _ c z h' r1 q1 oc (own zc)) hj
    ·rw [Fout zc]
     obtain ⟨us,wo⟩:=r2.owns oc
     exact wo.f
  ·by_cases hj:j=i
   ·subst hj
    rw [ζv li] at g1
    cases g1
    exact o1.elim
   ·by_cases hk':k'=i
    ·subst hk'
     rw [ζv li] at g2
     cases g2
     exact o2.elim
    ·rw [ζC (Ne.symm hj)] at g1
     rw [ζC (Ne.symm hk')] at g2
     exact e.ne j k' x1 y1 v1 w1 b g1 g2 g3 g4 o1 o2
 refine ⟨_,fun c=>c=a∨V.ref c∈vs,eF,s,fun c hc=>?_,fun c hc=>Fout hc⟩
 obtain ⟨us,ow⟩:=inn hc
 exact ⟨ow.f,us,by rw [Fin hc]; exact ow.h⟩
theorem zeF (i:Nat) (h:GetC Γ i (.o2 r dss)) (es:SetC Γ i (some (.fz true (.list (dss.map .list)))) Γ') (k:ExT K S S' t Γ' P):ExT K S S' t Γ P:=fun H0 F0 H F σ B e bb vv D I=>by
 obtain ⟨Ff,A,eF,s,_⟩:=e.frz2 h es
 exact k H0 F0 H _ σ B eF (bb.trans s) vv D I
theorem thaw (e:DEnv K S H0 F0 H F σ Γ) (h:GetC Γ i (.ow κ ds)) (es:SetC Γ i (some (.fz κ (.list ds))) Γf) :
  ∃ a Ff,DEnv K S H0 F0 H Ff σ Γf∧∀ H' F',Gr H Ff H' F'→Gr H F H' (drop (fun c=>c=a) F'):=by
 obtain ⟨v,q1,a,vs,rfl,w,q5⟩:=e.has i _ h.eq
 obtain ⟨s,e'⟩:=e.froz (y:=.fz κ (.list ds)) h.eq q1 rfl w (.lst (LN.new w.s) (zw (Same.new w.f _) q5)) fun _ z=>z.elim
 rw [es.eq] at e'
 refine ⟨a,_,e',fun H' F' g=>⟨g.h,fun c o z=>yk.mpr ⟨g.f _ _ (s _ _ z),?_⟩,fun c o z=>g.le _ _ (yk.mp z).1,fun c o z n=>?_⟩⟩
 ·rintro ⟨rfl,_⟩
  rw [w.f] at z; cases z
 ·by_cases hc:c=a
  ·subst hc
   exact T9 (g.f _ _ zi) rfl
  ·cases q':drop (fun c=>c=a) F' c with
   | none=>rfl
   | some o' =>
    have:=(yk.mp q').1
    rw [g.ap _ _ z (by rw [zp hc]; exact n)] at this; cases this
theorem zcv (i:Nat) (h:GetC Γ i (.ow κ ds)) (es:SetC Γ i (some (.fz κ (.list ds))) Γf) (k:EvT K S t Γf b):EvT K S t Γ b:=fun H0 F0 H F σ e Q q=>by
 obtain ⟨a,Ff,e',g⟩:=thaw e h es
 exact k H0 F0 H Ff σ e' Q fun H' F' g'=>q H' _ (g H' F' g')
theorem yp {α:Type} {js:List (Option Nat)} {Γc:Ctx} {wi:TI} {g:TG} {te:TE} {is:List Nat} {xs:List α} (κ':Bool) (u f:α→PyData) (hu:∀ x∈xs,∀ y∈xs,u x=u y→f x=f y) (hi:EvI K S κ' wi Γ (xs.map u)) (hc:xK js Γ Γc) (hjs:(is.all fun i=>js[i]? == some none)=true)
  (hj:(js.filterMap id).Nodup) (hz:xs.length≤sizeLine) (hb:∀ x∈xs,ExG K S κ' g is (u x) Γc fun Γ'=>EvE K S κ te Γ' (f x)):EvO K S κ (ve js wi g tYes te) Γ (xs.map f):=by
 classical
 let F:PyData→PyData:=fun d=>if h:∃ x,x∈xs∧u x=d then f h.choose else .none
 have hF:∀ x∈xs,F (u x)=f x:=fun x hx=>by
  have h:∃ y,y∈xs∧u y=u x:=⟨x,hx,rfl⟩
  show (if h:∃ y,y∈xs∧u y=u x then f h.choose else .none)=_
  rw [dif_pos h]
  exact hu _ h.choose_spec.1 _ hx h.choose_spec.2
 refine EvO.eq (zcq (κ:=κ) κ' F hi hc hjs hj (by rw [ζb]; exact hz) fun d hd=>?_) ?_
 ·obtain ⟨x,hx,rfl⟩:=ζn.mp hd
  rw [hF x hx]
  exact hb x hx
 ·rw [ζM]
  exact ξB fun x hx=>hF x hx
theorem zap:sizeLine < 2 ^ 62:=by decide
theorem UZ {n:Nat} (f:Nat→PyData) (hi:EvA K S false ta Γ [.int n]) (hn:n≤sizeLine) (hc:xK js Γ Γc) (hjs:(is.all fun i=>js[i]? == some none)=true)
  (hj:(js.filterMap id).Nodup) (hb:∀ k:Nat,k < n→ExG K S true g is (.int k) Γc fun Γ'=>EvE K S κ te Γ' (f k)):EvO K S κ (ve js (UW ta) g tYes te) Γ ((List.range n).map f) :=
 yp true (fun k:Nat=>.int (k:Int)) f (fun x _ y _ h=>by cases Int.ofNat.inj (PyData.int.inj h); rfl) (xA (n:=(n:Int)) hi (by omega) (by have:=zap; omega)) hc hjs hj (by rw [ζu]; exact hn) fun k hk=>hb k (ζD.mp hk)
theorem VI:((List.range n).map f).length=n:=by rw [ζb,ζu]
theorem zdp (h:k < n):((List.range n).map f)[k]?=some (f k):=by
 rw [ζs,ζ2 h]
 rfl
theorem zdo (h:((List.range n).map f)[k]?=some x):k < n∧x=f k:=by
 have hk:k < n:=by
  have:=(ζe.mp h).1
  rwa [VI] at this
 rw [zdp hk] at h
 cases h
 exact ⟨hk,rfl⟩
end
end PD
namespace L2
open PySem PySem.Spec PyProof.Rows
section
variable {X:Cx} {K:ζa}
end
end L2
namespace PD
open PySem L2
section
variable {K:ζa} {S S':Sx} {κ κ':Bool} {Γ Γ' Γ'':Ctx} {P:Post} {E:XK} {C:Addr}
inductive Arg (K:ζa) (F:Hp):V→DV→Prop
 | dat {v:V} {d:PyData}:Dp K F v d→Arg K F v (.fz false d)
 | thg {a:Addr} {o:Addr→HO}:F a=some (o a)→Arg K F (.ref a) (.xn o)
inductive xx (K:ζa) (F:Hp):List V→List DV→Prop
 | nil:xx K F [] []
 | cons {v:V} {x:DV} {vs:List V} {xs:List DV}:Arg K F v x→xx K F vs xs→xx K F (v :: vs) (x :: xs)
theorem xx.length:∀ {vs:List V} {xs:List DV},xx K F vs xs→vs.length=xs.length
 | _,_,.nil=>rfl
 | _,_,.cons _ t=>congrArg (· + 1) (xx.length t)
theorem xx.get:∀ {vs:List V} {xs:List DV} {i:Nat} {x:DV},xx K F vs xs→xs[i]?=some x→∃ v,vs[i]?=some v∧Arg K F v x
 | _,_,_,_,.nil,e=>by simp at e
 | _,_,0,_,.cons h _,e=>by simp at e; subst e; exact ⟨_,rfl,h⟩
 | _,_,i + 1,x,.cons _ t,e=>by
  obtain ⟨v,h1,h2⟩:=xx.get (i:=i) t (by simpa using e)
  exact ⟨v,by simpa using h1,h2⟩
theorem Arg.has (h:Arg K F v x):HasV K .fresh H H F v x:=by
 cases h with
 | dat h=>exact uc h
 | thg h=>exact ⟨_,rfl,h⟩
theorem Arg.noOwn (h:Arg K F v x):¬ Owns H w x a:=by
 cases h <;> exact fun o=>o.elim
def spV (K:ζa) (κ:Bool) (pre:List DV→PyData→Prop):Sp:=fun vs H Q _=>∃ F xs d,Same F H∧xx K F vs xs∧pre xs d∧∀ v H' F',Gr H F H' F'→Rp K κ .fresh H F' v d→Q v H'
theorem zbr (h:∀ xs d,pre xs d→xs.length=n) (s:spV K κ pre vs H Q E):vs.length=n:=by
 obtain ⟨F,xs,d,_,k,p,_⟩:=s
 rw [k.length]
 exact h xs d p
inductive xc:Nat→List DV→Ctx→Prop
 | z:xc 0 [] []
 | no {n:Nat} {Γ:Ctx}:xc n [] Γ→xc (n + 1) [] (none :: Γ)
 | got {n:Nat} {x:DV} {xs:List DV} {Γ:Ctx}:xc n xs Γ→xc (n + 1) (x :: xs) (some x :: Γ)
theorem xc.len (h:xc n xs Γ):Γ.length=n∧xs.length≤n:=by
 induction h with
 | z=>exact ⟨rfl,ζh _⟩
 | no _ ih=>exact ⟨by rw [ζO,ih.1],ζL _⟩
 | got _ ih=>exact ⟨by rw [ζO,ih.1],by rw [ζO]; omega⟩
theorem xc.get (h:xc n xs Γ):∀ {i:Nat} {x:DV},Γ[i]?=some (some x)→xs[i]?=some x:=by
 induction h with
 | z=>intro i x e; simp at e
 | no _ ih =>
  intro i x e
  cases i with
  | zero=>simp at e
  | succ i =>
   have:=ih (i:=i) (by simpa using e)
   simp at this
 | got _ ih =>
  intro i x e
  cases i with
  | zero=>simpa using e
  | succ i =>
   have:=ih (i:=i) (by simpa using e)
   simpa using this
theorem Vg (le:Same F H) (k:xx K F vs xs) (hn:N.length=n) (hΓ:xc n xs Γ):DEnv K .fresh H F H F (L2.start N vs) Γ:=by
 have l:=k.length
 have sl:=hΓ.len
 refine ⟨.refl le,le,fun a c=>?_,fun T z=>(nomatch z),by unfold L2.start; rw [List.length_append,List.length_map,List.length_replicate,sl.1]; omega,fun i x h=>?_,fun i j x y v w a h _ _ _ o=>?_⟩
 ·cases q:H a with
  | none=>exact absurd q c
  | some o=>exact ⟨o,rfl⟩
 ·obtain ⟨v,h1,h2⟩:=k.get (hΓ.get h)
  refine ⟨v,?_,h2.has⟩
  unfold L2.start
  have hi:=(ζe.mp h1).1
  rw [List.getElem?_append_left (by simpa using hi),List.getElem?_map,h1]
  rfl
 ·obtain ⟨v',_,h2⟩:=k.get (hΓ.get h)
  exact fun o'=>(h2.noOwn o).elim
theorem QD (le:Same F H) (k:xx K F vs xs) (q:∀ v H' F',Gr H F H' F'→Rp K κ .fresh H F' v d→Q v H') (hn:N.length=n) (hΓ:xc n xs Γ)
  (h:ExS K .fresh t Γ { nx:=fun _=>d=.none,rt:=fun x=>x=d,kr:=κ }):t { nx:=fun _ H'=>Q .non H',rt:=Q } (L2.start N vs) H :=
 h H F H F _ F (Vg le k hn hΓ) (.refl _) (.inl rfl) _ ⟨fun Γ' σ' H' F' n b e=>q _ H' F' e.gr (by rw [n]; exact .non),fun d' v H' F' r g p=>q v H' F' g (r ▸ p),fun _ _ _ _ z=>z.elim,fun _ _ _ _ z=>z.elim⟩
def EvV (K:ζa) (S:Sx) (t:TA) (Γ:Ctx) (xs:List DV):Prop:=∀ (H0 F0 H F:Hp) (σ:St),DEnv K S H0 F0 H F σ Γ→∀ Q:List V→Hp→Prop,(∀ vs H' F',Gr H F H' F'→xx K F' vs xs→Q vs H')→t σ H Q
theorem zcp:EvV K S tNil Γ []:=fun _ _ H F _ e Q q=>q [] H F (.refl e.le) .nil
theorem W9 (h:EvE K S false t Γ d) (k:EvV K S u Γ xs):EvV K S (zR t u) Γ (.fz false d :: xs):=fun H0 F0 H F σ e Q q =>
 h H0 F0 H F σ e _ fun v H1 F1 g1 p1=>k H0 F0 H1 F1 σ (e.mono g1) _ fun vs H2 F2 g2 p2=>q _ H2 F2 (g1.trans g2) (.cons (.dat (yT g2.f (yW p1))) p2)
theorem zco (h:GetC Γ i (.xn o)) (k:EvV K S u Γ xs):EvV K S (zR (tVar i) u) Γ (.xn o :: xs):=fun H0 F0 H F σ e Q q=>by
 obtain ⟨v,q1,a,rfl,q2⟩:=e.has i _ h.eq
 exact ⟨_,q1,k H0 F0 H F σ e _ fun vs H2 F2 g2 p2=>q _ H2 F2 g2 (.cons (.thg (g2.f _ _ q2)) p2)⟩
theorem zaN (h:EvV K S t Γ xs) (hp:pre xs d):EvE K S κ (v6 (spV K true pre) [] E t) Γ d:=fun H0 F0 H F σ e Q q =>
 h H0 F0 H F σ e _ fun vs H1 F1 g1 p1=>⟨F1,xs,d,g1.le,by rw [ζG]; exact p1,hp,fun v H2 F2 g2 p2=>q v H2 F2 (g1.trans g2) (uB (κ:=true) (fun _=>rfl) (xS (κ:=true) (κ':=true) (S':=S) (H0':=H0) (fun a xs z=>⟨z.1,fun c=>by
  obtain ⟨u,hu⟩:=(e.mono g1).sd a c
  exact z.2 (by show H1 a≠none; rw [hu]; simp)⟩) (fun _ _ z=>z) p2))⟩
end
section
variable {K:ζa} {S S':Sx} {κ κ':Bool} {Γ Γ' Γ'':Ctx} {P:Post} {E:XK}
theorem DEnv.newOwn (e:DEnv K S H0 F0 H F σ Γ) (g:Gr H F H' F') (hb:H b=none) (j:Nat) (f:DV) (u:V) (z:Γ[j]?=some (some f)) (r:σ[j]?=some (some u)):¬ Owns H' u f b:=fun o=>by
 obtain ⟨u',q1,q2⟩:=e.has j f z
 rw [r] at q1
 cases q1
 obtain ⟨us,w⟩:=q2.owns (o.back q2 fun _ _ z=>g.h _ _ z.h)
 have:=w.h
 rw [hb] at this; cases this
def ExM (K:ζa) (t:TS) (Γ:Ctx) (G:Hp→Hp→Hp→Hp→V→Prop):Prop:=∀ (H0 F0 H F:Hp) (σ:St),DEnv K .fresh H0 F0 H F σ Γ→∀ D:Ends,(∀ v H' F',G H0 F0 H' F' v→D.rt v H')→t D σ H
theorem Zn (N:Ctx→Prop) (h1:ExS K .fresh t Γ { nx:=N,rt:=fun _=>False }) (h2:∀ Γ',N Γ'→ExM K u Γ' G):ExM K (tSeq t u) Γ G:=fun H0 F0 H F σ e D q =>
 h1 H0 F0 H F σ F e (.refl _) (.inl rfl) _ ⟨fun Γ' σ' H' F' n _ e'=>h2 Γ' n H0 F0 H' F' σ' e' D q,fun _ _ _ _ z=>z.elim,fun _ _ _ _ z=>z.elim,fun _ _ _ _ z=>z.elim⟩
theorem zeu (le:Same F H) (k:zO K F vs ds) (q:∀ v H' F',G H F H' F' v→D.rt v H') (hn:N.length=n) (hΓ:xf n ds Γ) (h:ExM K t Γ G):t D (L2.start N vs) H:=by
 have e:=w8 (N:=N) le k
 rw [hn,hΓ.eq] at e
 exact h H F H F _ e D q
end
end PD
namespace L2
open PySem PySem.Spec PyProof.Rows
section
variable {X:Cx}
end
end L2
namespace PD
open PySem L2
section
variable {K:ζa} {S S':Sx} {κ κ':Bool} {Γ Γ' Γ'' Γ3:Ctx} {P:Post}
theorem yo {α:Type} {js:List (Option Nat)} {Γc:Ctx} {wi:TI} {g:TG} {tt:TT} {te:TE} {is:List Nat} {xs:List α} (κ':Bool) (u f:α→PyData) (p:α→Bool) (hu:∀ x∈xs,∀ y∈xs,u x=u y→f x=f y∧p x=p y) (hi:EvI K S κ' wi Γ (xs.map u)) (hc:xK js Γ Γc) (hjs:(is.all fun i=>js[i]? == some none)=true)
  (hj:(js.filterMap id).Nodup) (hz:xs.length≤sizeLine) (hb:∀ x∈xs,ExG K S κ' g is (u x) Γc fun Γ'=>EvT K S tt Γ' (p x)∧(p x=true→EvE K S κ te Γ' (f x))):EvO K S κ (ve js wi g tt te) Γ ((xs.filter p).map f):=by
 classical
 let F:PyData→PyData:=fun d=>if h:∃ x,x∈xs∧u x=d then f h.choose else .none
 let G:PyData→Bool:=fun d=>if h:∃ x,x∈xs∧u x=d then p h.choose else false
 have ex:∀ x∈xs,∃ y,y∈xs∧u y=u x:=fun x hx=>⟨x,hx,rfl⟩
 have hF:∀ x∈xs,F (u x)=f x:=fun x hx=>by
  show (if h:∃ y,y∈xs∧u y=u x then f h.choose else .none)=_
  rw [dif_pos (ex x hx)]
  exact (hu _ (ex x hx).choose_spec.1 _ hx (ex x hx).choose_spec.2).1
 have hG:∀ x∈xs,G (u x)=p x:=fun x hx=>by
  show (if h:∃ y,y∈xs∧u y=u x then p h.choose else false)=_
  rw [dif_pos (ex x hx)]
  exact (hu _ (ex x hx).choose_spec.1 _ hx (ex x hx).choose_spec.2).2
 refine EvO.eq (YT (κ:=κ) κ' G F hi hc hjs hj (by rw [ζb]; exact hz) fun d hd=>?_) ?_
 ·obtain ⟨x,hx,rfl⟩:=ζn.mp hd
  rw [hF x hx,hG x hx]
  exact hb x hx
 ·rw [List.filter_map,ζM]
  have e1:xs.filter (G∘u)=xs.filter p:=List.filter_congr fun x hx=>hG x hx
  rw [e1]
  exact ξB fun x hx=>hF x (ζl.mp hx).1
theorem YS {n:Nat} (f:Nat→PyData) (p:Nat→Bool) (hi:EvA K S false ta Γ [.int n]) (hn:n≤sizeLine) (hc:xK js Γ Γc) (hjs:(is.all fun i=>js[i]? == some none)=true)
  (hj:(js.filterMap id).Nodup) (hb:∀ k:Nat,k < n→ExG K S true g is (.int k) Γc fun Γ'=>EvT K S tt Γ' (p k)∧(p k=true→EvE K S κ te Γ' (f k))):EvO K S κ (ve js (UW ta) g tt te) Γ (((List.range n).filter p).map f) :=
 yo true (fun k:Nat=>.int (k:Int)) f p (fun x _ y _ h=>by cases Int.ofNat.inj (PyData.int.inj h); exact ⟨rfl,rfl⟩) (xA (n:=(n:Int)) hi (by omega) (by have:=zap; omega)) hc hjs hj (by rw [ζu]; exact hn) fun k hk=>hb k (ζD.mp hk)
end
end PD
namespace L2
open PySem PySem.Spec PyProof.Rows
section
variable {X:Cx} {K:ζa}
def dd (ns:List Int):List Int:=ns.foldl step_dedup []
theorem X2 (ns:List Int):firstMet (fun i=>ns.getD i 0) ns.length=dd ns:=by
 unfold firstMet dd
 congr 1
 refine List.ext_getElem? fun i=>?_
 rw [ζs]
 by_cases h:i < ns.length
 ·rw [ζ2 h,ζp h]
  show some (ns.getD i 0)=_
  rw [ζd,ζp h]
  rfl
 ·rw [ζT (by rw [ζu]; omega),ζT (by omega)]
  rfl
theorem U5 (ns:List Int) (k:Int):dd (ns ++ [k])=step_dedup (dd ns) k:=by
 unfold dd
 rw [List.foldl_append]
 rfl
theorem Uf (ns:List Int):∀ k,k∈dd ns↔k∈ns:=by
 suffices h:∀ n,∀ k,k∈dd (ns.take n)↔k∈ns.take n by simpa using h ns.length
 intro n
 induction n with
 | zero=>intro k; rfl
 | succ n ih =>
  intro k
  by_cases hn:n < ns.length
  ·have e:ns.take (n + 1)=ns.take n ++ [ns[n]]:=by rw [List.take_succ,ζp hn]; rfl
   rw [e,U5]
   unfold step_dedup
   split
   ·rename_i h
    obtain ⟨x,hx,ex⟩:=ζN.mp h
    have:=eq_of_beq ex
    subst this
    rw [ih,ζq]
    refine ⟨.inl,fun z=>?_⟩
    rcases z with z | z
    ·exact z
    ·rw [ζc.mp z]
     exact (ih _).mp hx
   ·rw [ζq,ζq,ih]
  ·rw [ζW (by omega)]
   have:=ih k
   rw [ζW (by omega)] at this
   exact this
theorem zaY (ns:List Int):(dd ns).length≤ns.length:=by
 have:=length_foldl_step_dedup_le ns ([]:List Int)
 simpa [dd] using this
end
end L2
namespace PD
open PySem L2
section
variable {K:ζa} {S S':Sx} {κ κ':Bool} {Γ Γ' Γ'':Ctx} {P:Post}
def EvG (K:ζa) (S:Sx) (κ:Bool) (t:TE) (Γ:Ctx) (G:PyData→Prop):Prop:=∀ (H0 F0 H F:Hp) (σ:St),DEnv K S H0 F0 H F σ Γ→∀ Q:VK,(∀ d v H' F',G d→Gr H F H' F'→Rp K κ S H0 F' v d→Q v H')→t σ H Q
def spW (K:ζa) (κ:Bool) (pre:List PyData→(PyData→Prop)→Prop):Sp:=fun vs H Q _=>∃ F ds G,Same F H∧zO K F vs ds∧pre ds G∧∀ d v H' F',G d→Gr H F H' F'→Rp K κ .fresh H F' v d→Q v H'
theorem Zh (h:∀ ds G,pre ds G→ds.length=n) (s:spW K κ pre vs H Q E):vs.length=n:=by
 obtain ⟨F,ds,d,_,k,p,_⟩:=s
 rw [zO.length k]
 exact h ds d p
theorem uV (h:EvA K S false t Γ ds) (hp:pre ds G):EvG K S κ (v6 (spW K true pre) [] E t) Γ G:=fun H0 F0 H F σ e Q q =>
 h H0 F0 H F σ e _ fun vs H1 F1 g1 p1=>⟨F1,ds,G,g1.le,by rw [ζG]; exact zP p1,hp,fun d v H2 F2 hd g2 p2=>q d v H2 F2 hd (g1.trans g2) (uB (κ:=true) (fun _=>rfl) (xS (κ:=true) (κ':=true) (S':=S) (H0':=H0) (fun a xs z=>⟨z.1,fun c=>by
  obtain ⟨u,hu⟩:=(e.mono g1).sd a c
  exact z.2 (by show H1 a≠none; rw [hu]; simp)⟩) (fun _ _ z=>z) p2))⟩
theorem exg {te:TE} {u:TS} {i:Nat} {G:PyData→Prop} {Γ':PyData→Ctx} (κ:Bool) (h:EvG K S κ te Γ G) (es:∀ d,SetC Γ i (some (.fz κ d)) (Γ' d)) (k:∀ d,G d→ExT K S S' u (Γ' d) P):ExT K S S' (tSeq (tAsg te (yn i)) u) Γ P :=
 yK (fun Γ1=>∃ d,G d∧Γ1=Γ' d) (fun H0 F0 H F σ B e b _ D I=>h H0 F0 H F σ e _ fun d v H' F' hd g p=>I.nx _ _ H' F' ⟨d,hd,rfl⟩ (b.trans g.f) (by rw [← (es d).eq]; exact (e.mono g).setF p)) fun Γ1 ⟨d,hd,z⟩=>z ▸ k d hd
theorem zcf (κ:Bool) (h:EvG K S κ te Γ G) (hr:∀ d,G d→P.rt d) (hk:(S=S∧κ=P.kr)∨P.kr=false):ExT K S S' (tRet te) Γ P:=fun H0 F0 H F σ B e b _ D I=>h H0 F0 H F σ e _ fun d v H' F' hd g p=>I.rt d v H' F' (hr d hd) (e.gr.trans g) (WG hk p)
theorem uA (le:Same F H) (k:zO K F vs ds) (q:∀ d v H' F',G d→Gr H F H' F'→Rp K κ .fresh H F' v d→Q v H') (hn:N.length=n) (hΓ:xf n ds Γ)
  (h:ExS K .fresh t Γ { nx:=fun _=>False,rt:=G,kr:=κ }):t { nx:=fun _ H'=>Q .non H',rt:=Q } (L2.start N vs) H:=by
 have e:=w8 (N:=N) le k
 rw [hn,hΓ.eq] at e
 exact h H F H F _ F e (.refl _) (.inl rfl) _ ⟨fun _ _ _ _ z=>z.elim,fun d v H' F' r g p=>q d v H' F' r g p,fun _ _ _ _ z=>z.elim,fun _ _ _ _ z=>z.elim⟩
end
end PD
namespace L2
open PySem
def Rise (xs:Array Nat):Prop:=xs.toList.Pairwise (· < ·)
theorem Rise.lt (r:Rise xs) (h:i < j) (hj:j < xs.size):xs[i]'(by omega) < xs[j]:=by
 have:=List.pairwise_iff_getElem.mp r i j (by simp; omega) (by simpa using hj) h
 simpa using this
theorem Z7 (xs:Array Nat) (r:Rise xs) (j:Nat):∀ (fuel lo hi:Nat),lo≤hi→hi≤xs.size→hi - lo≤fuel →
  (∀ i (h:i < xs.size),i < lo→xs[i] < j)→(∀ i (h:i < xs.size),hi≤i→j≤xs[i]) →
  SetTable.below.go xs j fuel lo hi≤xs.size∧(∀ i (h:i < xs.size),i < SetTable.below.go xs j fuel lo hi→xs[i] < j)∧∀ i (h:i < xs.size),SetTable.below.go xs j fuel lo hi≤i→j≤xs[i]
 | 0,lo,hi,h1,h2,h3,a,b=>by
  have:lo=hi:=by omega
  subst this
  exact ⟨h2,a,b⟩
 | f + 1,lo,hi,h1,h2,h3,a,b=>by
  unfold SetTable.below.go
  by_cases hl:lo < hi
  ·rw [if_pos hl]
   dsimp only
   have hm:(lo + hi) / 2 < xs.size:=by omega
   have eg:xs.getD ((lo + hi) / 2) j=xs[(lo + hi) / 2]:=by simp [hm]
   rw [eg]
   by_cases hx:xs[(lo + hi) / 2] < j
   ·rw [if_pos hx]
    refine Z7 xs r j f _ _ (by omega) h2 (by omega) (fun i hi' hlt=>?_) b
    by_cases e:i=(lo + hi) / 2
    ·subst e; exact hx
    ·exact Nat.lt_trans (r.lt (show i < (lo + hi) / 2 by omega) hm) hx
   ·rw [if_neg hx]
    refine Z7 xs r j f _ _ (by omega) (by omega) (by omega) a fun i hi' hle=>?_
    by_cases e:i=(lo + hi) / 2
    ·subst e; omega
    ·have:=r.lt (show (lo + hi) / 2 < i by omega) hi'
     omega
  ·rw [if_neg hl]
   have:lo=hi:=by omega
   subst this
   exact ⟨h2,a,b⟩
theorem zbd (xs:Array Nat) (r:Rise xs) (j:Nat):SetTable.below xs j≤xs.size∧(∀ i (h:i < xs.size),i < SetTable.below xs j→xs[i] < j)∧∀ i (h:i < xs.size),SetTable.below xs j≤i→j≤xs[i] :=
 Z7 xs r j _ _ _ (ζL _) (ζh _) (by omega) (fun _ _ h=>by omega) fun i h z=>by omega
structure TOk (b:Bool) (t:SetTable):Prop where
 led:t.led=b
 rise:Rise t.place
 dum:t.dummies=#[]
theorem TOk.fresh:TOk b (.fresh f m b):=⟨rfl,List.Pairwise.nil,rfl⟩
theorem TOk.plain {b c:Bool} (h:TOk b t):TOk b { t with plain:=c }:=⟨h.led,h.rise,h.dum⟩
theorem TOk.standIn (h:TOk b t) (n:Nat):TOk b (t.standIn n):=⟨h.led,by
 show (Array.range n).toList.Pairwise (· < ·)
 rw [Array.toList_range]
 exact ξ4,rfl⟩
theorem TOk.orStandIn (h:TOk b t) (n:Nat):TOk b (t.orStandIn n):=by
 unfold SetTable.orStandIn
 split
 ·exact h
 ·exact h.standIn n
theorem UY (j:Nat):SetTable.has #[] j=false:=rfl
theorem zbu {t:SetTable} {j:Nat} (h:t.slot j=.empty):t.place[SetTable.below t.place j]?≠some j:=by
 intro z
 unfold SetTable.slot at h
 simp [z] at h
theorem tS (ht:TOk b t):∀ (n:Nat) (p:SetTable.Probe) {j:Nat} {d:Option Nat},p.dummy=none→SetTable.probe.go t g h n p=some (.empty j d)→d=none∧t.slot j=.empty
 | 0,p,j,d,_,e=>by cases e
 | n + 1,p,j,d,hp,e=>by
  unfold SetTable.probe.go at e
  split at e
  ·rename_i hs
   injection e with e
   injection e with e1 e2
   subst e1
   exact ⟨e2 ▸ hp,hs⟩
  ·rename_i hs
   exfalso
   unfold SetTable.slot at hs
   rw [ht.dum] at hs
   simp only [UY] at hs
   split at hs <;> simp at hs
  ·split at e
   ·cases e
   ·refine tS ht n _ ?_ e
    unfold SetTable.advance
    split
    ·exact hp
    ·exact hp
theorem zdt {b:Bool} {t:SetTable} (h:TOk b t) {j:Nat} (hj:t.slot j=.empty):TOk b (t.put j).1:=by
 refine ⟨h.led,?_,by show (if SetTable.has t.dummies j=true then _ else _)=_; rw [h.dum,UY]; rfl⟩
 have hn:=zbu hj
 obtain ⟨a,b,c⟩:=zbd t.place h.rise j
 show (SetTable.insertAt t.place (SetTable.below t.place j) j).toList.Pairwise (· < ·)
 generalize SetTable.below t.place j=p at *
 rw [SetTable.toList_insertAt,List.pairwise_append]
 have hr:t.place.toList.Pairwise (· < ·):=h.rise
 refine ⟨hr.sublist (List.take_sublist _ _),?_,?_⟩
 ·rw [ξl]
  refine ⟨fun x hx=>?_,hr.sublist (List.drop_sublist _ _)⟩
  obtain ⟨i,hi,rfl⟩:=ξo.mp hx
  rw [ζ0,ζ3] at hi
  rw [List.getElem_drop,Array.getElem_toList]
  have:=c (p + i) (by omega) (by omega)
  by_cases z:i=0
  ·subst z
   have h2:t.place[p]≠j:=fun q=>hn (by rw [Array.getElem?_eq_getElem (by omega),q])
   simp only [Nat.add_zero] at this ⊢
   omega
  ·have h3:=h.rise.lt (show p < p + i by omega) (show p + i < t.place.size by omega)
   have h4:=c p (by omega) (ζh _)
   omega
 ·intro x hx y hy
  obtain ⟨i,hi,rfl⟩:=ξo.mp hx
  rw [ζ7,ζ3] at hi
  rw [List.getElem_take,Array.getElem_toList]
  have h1:=b i (by omega) (by omega)
  rcases ζz.mp hy with rfl | hy
  ·exact h1
  ·obtain ⟨k,hk,rfl⟩:=ξo.mp hy
   rw [ζ0,ζ3] at hk
   rw [List.getElem_drop,Array.getElem_toList]
   have:=c (p + k) (by omega) (by omega)
   omega
theorem TU (h:TOk b t) (es:Array (Int×Value)) (k:Int) (x:Value):TOk b (layNew t es k x).2.1:=by
 unfold layNew
 split
 ·rename_i slot wd e
  unfold SetTable.freeSlot at e
  split at e
  ·rename_i j d e2
   obtain ⟨rfl,hs⟩:=tS h _ _ rfl e2
   injection e with e
   injection e with e3 _
   have e3:j=slot:=e3
   subst e3
   exact (zdt h hs).orStandIn _
  ·cases e
 ·exact h.standIn _
theorem WH (h:TOk b t) (es:Array (Int×Value)) (n:Nat):TOk b (relayAll t es n).2.1:=by
 unfold relayAll
 split
 ·rename_i t' order e
  dsimp only
  split
  ·unfold SetTable.relaid SetTable.laid at e
   simp only [Option.bind_eq_bind] at e
   obtain ⟨ow,_,e⟩:=ξZ.mp e
   injection e with e
   injection e with e1 e2
   subst e1
   refine ⟨h.led,?_,rfl⟩
   show List.Pairwise (· < ·) _
   dsimp only
   rw [ξI,List.pairwise_filterMap]
   refine ξ4.imp fun {i j} hij x hx y hy=>?_
   obtain ⟨u,_,rfl⟩:=ξ3.mp hx
   obtain ⟨u',_,rfl⟩:=ξ3.mp hy
   exact hij
  ·exact h.standIn _
 ·exact h.standIn _
theorem ZF (next:Nat→Nat) (xs:Array α):(pickOrder next xs).toList.Perm xs.toList:=by
 suffices h:∀ (n k:Nat) (l:List α) (out:Array α),l.length=n→(pickOrder.go next n k l out).toList.Perm (out.toList ++ l) by
  have:=h xs.size 0 xs.toList #[] (by simp)
  simpa [pickOrder] using this
 intro n
 induction n with
 | zero =>
  intro k l out hl
  have:l=[]:=ξh.mp hl
  subst this
  simp [pickOrder.go]
 | succ n ih =>
  intro k l out hl
  unfold pickOrder.go
  have hm:next k % l.length < l.length:=Nat.mod_lt _ (by omega)
  rw [ζp hm]
  dsimp only
  refine (ih _ _ _ (by rw [List.length_eraseIdx_of_lt hm]; omega)).trans ?_
  rw [Array.toList_push,ξa]
  refine List.Perm.append_left _ ?_
  have e:l=l.take (next k % l.length) ++ l[next k % l.length] :: l.drop (next k % l.length + 1):=by
   rw [← ξA hm,ξ9]
  conv=>rhs; rw [e]
  rw [List.eraseIdx_eq_take_drop_succ,List.singleton_append]
  exact List.perm_middle.symm
end L2
namespace L2
open PySem PySem.Spec PyProof.Rows
def IsE (e:Int×Value):Prop:=∃ k t,e=(hashInt k,.int k t)
def kOf (e:Int×Value):Int:=match e.2 with | .int k _=>k | _=>0
def SetI (b:Bool) (a:Addr) (l:List Int) (h:Heap):Prop :=
 ∃ o es ep t,h.get? a=some o∧o.ExactSet∧o.data=.set es ep t∧(∀ e∈es.toList,IsE e)∧(es.toList.map kOf).Perm l∧es.size < scanBound∧t.fits es.size=true∧TOk b t
section
variable {prog:Program} {w:World} {A:Around} {E:Value→Shared→Prop} {s:Shared} {b:Bool} {a:Addr} {l:List Int}
theorem SetI.at (x:SetI b a l h) (e:∀ o,h.get? a=some o→h'.get? a=some o):SetI b a l h' :=
 let ⟨o,es,ep,t,ho,r⟩:=x
 ⟨o,es,ep,t,e o ho,r⟩
theorem IsE.elems (h:∀ e∈es,IsE e):ElemsOf (intKind prog w) es:=fun e he=>by
 obtain ⟨k,t,rfl⟩:=h e he
 exact ⟨⟨k,intKind_is _ _ k t,rfl⟩,rfl⟩
theorem IsE.is (h:IsE e) (k:Int):(intKind prog w).is k e.2=true↔kOf e=k:=by
 obtain ⟨j,t,rfl⟩:=h
 constructor
 ·intro z
  exact ((intKind prog w).inj _ _ _ z (intKind_is _ _ j t)).symm
 ·intro z
  have z:j=k:=z
  subst z
  exact intKind_is _ _ j t
theorem Vv {o:Obj} {es:Array (Int×Value)} {ep:Nat} {t:SetTable} {h:Heap} (ho:h.get? a=some o) (hd:o.data=.set es ep t) (es':Array (Int×Value)) (t':SetTable) :
  (h.update a (Obj.putSet es' t')).get? a=some { o with data:=.set es' (ep + 1) t' }:=by
 have q:=Heap.get?_update_self (Obj.putSet es' t') ho (by rw [putSet_of _ _ hd]; rfl)
 rwa [putSet_of _ _ hd] at q
theorem zcO {g:Bool→Sem Unit} (hg:∀ (c:Bool) (s₁:Shared) (R:Unit→Shared→Prop),R () s₁→wpAny (model prog w) A (g c) R E s₁)
  {o:Obj} {es:Array (Int×Value)} {ep:Nat} {t:SetTable} (ho:s.heap.get? a=some o) (hex:o.ExactSet) (hd:o.data=.set es ep t)
  {es1:Array (Int×Value)} {t2:SetTable} (he:∀ e∈es1.toList,IsE e) (hp:(es1.toList.map kOf).Perm l) (hz:es1.size < scanBound) (hf:t2.fits es1.size=true) (ht:TOk b t2) {wd:Bool} {R:Option Bool→Shared→Prop}
  (k:∀ h',Heap.SameBut a s.heap h'→SetI b a l h'→R (some true) { s with heap:=h' }) :
  wpAny (model prog w) A (do
   storeSet a es1 t2
   if (!wd && t2.tooFull)=true then do
    g (relayAll t2 es1 (SetTable.grown es1.size)).2.2; storeSet a (relayAll t2 es1 (SetTable.grown es1.size)).1 (relayAll t2 es1 (SetTable.grown es1.size)).2.1; pure (some true)
   else pure (some true)) R E s:=by
 refine wpAny_bind (wpAny_storeSet_of ho hd ?_ (fits_of_scanBound hz))
 have g1:=Vv ho hd es1 t2
 have u1:=Heap.SameBut.update s.heap a (Obj.putSet es1 t2)
 split
 ·have hr:=relayAll_perm t2 es1 (SetTable.grown es1.size)
  have hq:=relayAll_fits t2 es1 (SetTable.grown es1.size)
  have hk:=WH ht es1 (SetTable.grown es1.size)
  generalize relayAll t2 es1 (SetTable.grown es1.size)=Z at hr hq hk ⊢
  obtain ⟨es2,t3,gv⟩:=Z
  dsimp only at hr hq hk ⊢
  have z2:es2.size=es1.size:=by have:=hr.length_eq; simpa using this
  refine wpAny_bind (hg _ _ _ ?_)
  refine wpAny_bind (wpAny_storeSet_of g1 rfl ?_ (fits_of_scanBound (by rw [z2]; exact hz)))
  exact wpAny_pure (k _ (u1.trans (Heap.SameBut.update _ a _)) ⟨_,es2,_,t3,Vv g1 rfl es2 t3,hex,rfl,fun e x=>he e (hr.mem_iff.mp x),(hr.map kOf).trans hp,by rw [z2]; exact hz,hq,hk⟩)
 ·exact wpAny_pure (k _ u1 ⟨_,es1,_,t2,g1,hex,rfl,he,hp,hz,hf,ht⟩)
theorem addI {k:Int} {tk:Tok} {Q:Bool→Shared→Prop} (hS:SetI b a l s.heap) (hl:l.length + 1 < scanBound)
  (h:∀ (r:Bool) h',Heap.SameBut a s.heap h'→SetI b a (step_dedup l k) h'→Q r { s with heap:=h' }) :
  wpAny (model prog w) A (setAddHashed a (.int k tk) (hashInt k)) Q E s:=by
 obtain ⟨o,es,ep,t,ho,hex,hd,hE,hp,hz,hf,ht⟩:=hS
 have hel:ElemsOf (intKind prog w) es.toList:=IsE.elems hE
 have hn:es.size=l.length:=by have:=hp.length_eq; simpa using this
 have hm:∀ k',k'∈l↔∃ e∈es.toList,(intKind prog w).is k' e.2=true:=fun k'=>by
  rw [← hp.mem_iff,ζn]
  exact ⟨fun ⟨e,x,y⟩=>⟨e,x,((hE e x).is k').mpr y⟩,fun ⟨e,x,y⟩=>⟨e,x,((hE e x).is k').mp y⟩⟩
 unfold setAddHashed setAddHashedIn
 refine wpAny_holding (wpAny_bind (wpAny_setState_of ho hd hf ?_))
 dsimp only
 rw [byScan_of (knd:=intKind prog w) (x:=.int k tk) rfl hz hel]
 simp only [↓reduceIte]
 unfold setAddByScan
 refine wpAny_bind (wpAny_bind (wpAny_rule ?_))
 refine wpAny_bind (wpAny_setScan_of (knd:=intKind prog w) (k:=k) (intKind_is _ _ k tk) ho hd hf hel ?_)
 cases hr:List.findIdx? (fun e=>(intKind prog w).is k e.2) es.toList with
 | some j =>
  dsimp only
  obtain ⟨hj,hpj,_⟩:=List.findIdx?_eq_some_iff_getElem.mp hr
  have hk:k∈l:=(hm k).mpr ⟨es.toList[j],ξM hj,hpj⟩
  have e1:step_dedup l k=l:=by unfold step_dedup; rw [if_pos (List.any_eq_true.mpr ⟨k,hk,by simp⟩)]
  have q:=h false s.heap (Heap.SameBut.refl a s.heap) (e1.symm ▸ ⟨o,es,ep,t,ho,hex,hd,hE,hp,hz,hf,ht⟩)
  exact wpAny_pure (wpAny_pure q)
 | none =>
  dsimp only
  have hk:k∉l:=fun z=>by
   obtain ⟨e,he,hpe⟩:=(hm k).mp z
   have q:=List.findIdx?_eq_none_iff.mp hr e he
   rw [hpe] at q; cases q
  have e1:step_dedup l k=l ++ [k]:=by
   unfold step_dedup
   refine if_neg fun z=>?_
   obtain ⟨x,hx,ex⟩:=ζN.mp z
   exact hk (eq_of_beq ex ▸ hx)
  have hgw:∀ (c:Bool) {s₁:Shared} {R:Unit→Shared→Prop},R () s₁→wpAny (model prog w) A (match c with | true=>rule "set.scan.the-table-gave-way" | false=>pure ()) R E s₁:=fun c s₁ R q=>by
   cases c
   ·exact wpAny_pure q
   ·exact wpAny_rule q
  have hperm:=layNew_perm t es (hashInt k) (.int k tk)
  have hfits:=layNew_fits t es (hashInt k) (.int k tk)
  have hok:=TU ht es (hashInt k) (.int k tk)
  show wpAny _ _ (let (es,t,wasDummy,gave):=layNew t es (hashInt k) (.int k tk); _) _ _ _
  generalize layNew t es (hashInt k) (.int k tk)=Z at hperm hfits hok ⊢
  obtain ⟨es1,t1,wd,gv⟩:=Z
  dsimp only at hperm hfits hok ⊢
  rw [Array.toList_push] at hperm
  have hE1:∀ e∈es1.toList,IsE e:=fun e he=>by
   rcases ζq.mp (hperm.mem_iff.mp he) with z | z
   ·exact hE e z
   ·rw [ζc.mp z]; exact ⟨k,tk,rfl⟩
  have hp1:(es1.toList.map kOf).Perm (l ++ [k]):=by
   refine (hperm.map kOf).trans ?_
   rw [ζo]
   exact hp.append_right _
  have hz1:es1.size < scanBound:=by
   have q:=hp1.length_eq
   rw [ζb,ζ3,ζf] at q
   have:es1.size=l.length + 1:=q
   omega
  refine wpAny_bind (hgw _ ?_)
  have kk:∀ h',Heap.SameBut a s.heap h'→SetI b a (l ++ [k]) h'→Q true { s with heap:=h' }:=fun h' u v=>h true h' u (e1.symm ▸ v)
  split
  ·refine wpAny_bind ?_
   rw [hashByValue_scannable 8 (x:=.int k tk) rfl]
   refine wpAny_pure ?_
   refine zcO ?_ ho hex hd hE1 hp1 hz1 ?_ ?_ fun h' u v=>wpAny_pure (kk h' u v)
   ·exact fun c s₁ R q=>hgw c q
   ·split
    ·exact hfits
    ·exact SetTable.fits_plain_off hfits
   ·split
    ·exact hok
    ·exact hok.plain
  ·refine wpAny_bind (wpAny_pure ?_)
   simp only [↓reduceIte]
   refine zcO ?_ ho hex hd hE1 hp1 hz1 hfits hok fun h' u v=>wpAny_pure (kk h' u v)
   exact fun c s₁ R q=>hgw c q
end
section
variable {prog:Program} {w:World} {A:Around} {E:Value→Shared→Prop} {s:Shared} {b:Bool} {a I:Addr} {l:List Int}
end
section
variable {prog:Program} {w:World} {A:Around} {E:Value→Shared→Prop} {s:Shared} {b:Bool} {a I T:Addr} {l:List Int}
theorem zbl {R:Result→Shared→Prop} {fp wr:List Addr} {G:Array GenState→Array GenState→Prop} {n:Nat} {P:Nat→Value→Prop} {St:Nat→Shared→Prop} (W:WalksS prog w A.in1 I fp wr G n P St) (S:Addr) (hSf:S∉fp)
  (val:Nat→Int) (hval:∀ i v,P i v→∃ t,v=.int (val i) t) (hz:n + 1 < scanBound) :
  ∀ (k i:Nat) (s:Shared),n - i=k→i≤n→St i s→SetI b S (firstMet val i) s.heap→(∀ s',Moved (S :: wr) G s s'→SetI b S (firstMet val n) s'.heap→R (.ok (.ret .none)) s') →
   codeAny (model prog w) A (.builtin "set.update.loop" ⟨[.ref S,.ref I],[]⟩) R s:=by
 have hSw:S∉wr:=fun h=>hSf (W.sub _ h)
 have sb:∀ c∈wr,c∈S :: wr:=fun c=>ζr _
 intro k
 induction k with
 | zero =>
  intro i s hk hi st hS hR
  obtain rfl:i=n:=by omega
  refine codeAny_builtin F.entry_set_update_loop ?_
  rw [Around.under_plainId F.plain_set_update_loop _]
  show wpAny _ A.in1 (pyNext (.ref I) >>= _) _ _ s
  refine wpAny_bind (W.done s _ _ st fun s' hm=>wpAny_pure (hR s' (hm.mono sb) (hS.at fun o z=>hm.heap S o hSw z)))
 | succ k ih =>
  intro i s hk hi st hS hR
  have hlt:i < n:=by omega
  refine codeAny_builtin F.entry_set_update_loop ?_
  rw [Around.under_plainId F.plain_set_update_loop _]
  show wpAny _ A.in1 (pyNext (.ref I) >>= _) _ _ s
  refine wpAny_bind (W.item i s _ _ hlt st fun v s' hP st' hm=>?_)
  obtain ⟨t,rfl⟩:=hval i v hP
  have hS':SetI b S (firstMet val i) s'.heap:=hS.at fun o z=>hm.heap S o hSw z
  show wpAny _ A.in1 (holding [Value.int (val i) t] (setAdd S (.int (val i) t)) >>= _) _ _ s'
  refine wpAny_bind (wpAny_holding ?_)
  unfold setAdd
  refine wpAny_holding (wpAny_bind ((intKind prog w).pyHash (k:=val i) (intKind_is _ _ _ _) ?_))
  have room:(firstMet val i).length + 1 < scanBound:=by have:=firstMet_length_le val i; omega
  refine addI (s:={ s' with toks:=s'.toks + 1 }) hS' room fun r h' u hS2=>?_
  rw [← firstMet_succ] at hS2
  refine wpAny_pure ⟨plainId_quiet F.plain_set_update_loop _,ih (i + 1) _ (by omega) hlt (W.frame _ s' _ _ st' (ξw _) fun c hc o z=>?_) hS2 fun s'' hm'' hS''=>?_⟩
  ·rw [u.2 c fun q:c=S=>hSf (by rw [← q]; exact hc)]; exact z
  ·refine hR s'' (Moved.trans W.gtrans ((hm.mono sb).then_heap (ξw _) fun c o hc z=>?_) hm'') hS''
   rw [u.2 c fun q:c=S=>hc (by rw [q]; exact .head _)]; exact z
theorem newI (x:Value) (hb:w.params.followText "set-order" = b)
  (h:Q₁ (.ref s.heap.objs.size) { s with heap:=s.heap.push { cls:=.type "set", dict:=none,data:=.set #[] 0 (.fresh 0 0 (!b)) } }) :
  codeAny (model prog w) A (.call (.builtin "set.__new__") ⟨[.type "set", x],[]⟩) (wants Q₁ E) s:=by
 refine codeAny_of_tree ?_
 show wpAny _ A.in1 (do checkBuiltinCall "set.__new__" ⟨[.type "set", x],[]⟩; again (.builtin "set.__new__" ⟨[.type "set", x],[]⟩)) _ _ s
 refine wpAny_bind (wpAny_of_eq (F.newCall_set_1 x) (wpAny_pure ⟨plainId_quiet F.plain_set_new _,codeAny_builtin F.entry_set_new ?_⟩))
 rw [Around.under_plainId F.plain_set_new _]
 unfold Builtin.«set.__new__» Builtin.Frozenset.newClass
 have hsub:=sub_set_self
 obtain ⟨hp,g,d,tk,os⟩:=s
 dsimp only
 wp_walk
 refine wpAny_askSetting (wpAny_pure ?_)
 dsimp only
 simp only [newObj]
 refine wpAny_bind (wpAny_alloc (wpAny_pure (wpAny_pure ?_)))
 rw [show (model prog w).w.params.followText "set-order" = b from hb]
 exact h
set_option maxHeartbeats 3200000 in
theorem zdk (hh:A.handled=none) (hb:w.params.followText "set-order" = b) (hl:s.heap.IsList L items) (hi:IntsAre items.toList ns) (hz:items.size + 1 < scanBound)
  (k:∀ (h':Heap) (tk:Nat),SetI (!b) s.heap.objs.size (firstMet (fun i=>ns.getD i 0) items.size) h'→(∀ c o,s.heap.get? c=some o→h'.get? c=some o)→Q (.ref s.heap.objs.size) { s with heap:=h',toks:=tk }) :
  wpAny (model prog w) A (call (.type "set") [.ref L]) Q E s:=by
 obtain ⟨c,tl,hmro⟩:=F.called_set.mro
 have hmade:=F.called_set.made
 have hsub:=F.called_set.sub
 refine wpAny_call (codeAny_of_tree ?_)
 show wpAny _ _ (callAny (.type "set") _) _ _ _
 refine wpAny_pure ⟨Code.quiet_builtin _ (by decide +kernel),codeAny_builtin F.entry_type_call ?_⟩
 rw [Around.under_plain (weight_type_call_type "set" [.ref L] []) rfl]
 have h1:=F.called_set.notType
 have h2:=F.called_set.canCreate
 have hct:=F.typeCall_set_1 (.ref L)
 repeat (any_goals (first | assumption | wp_step))
 refine codeAny_mono (newI (.ref L) (E:=E) hb (Q₁:=fun x s₁=>x=.ref s.heap.objs.size∧s₁={ s with heap:=s.heap.push { cls:=.type "set", dict:=none,data:=.set #[] 0 (.fresh 0 0 (!b)) } }) ⟨rfl,rfl⟩) fun r s₁ hr=>?_
 cases r with
 | error e=>exact hr
 | ok fl =>
  cases fl with
  | ret obj =>
   obtain ⟨rfl,rfl⟩:=hr
   generalize ho0:({ cls:=.type "set", dict:=none,data:=.set #[] 0 (.fresh 0 0 (!b)) }:Obj)=o0
   have hS:(s.heap.push o0).get? s.heap.objs.size=some o0:=ζy _ (by rw [← ho0]; rfl)
   have hS0:SetI (!b) s.heap.objs.size [] (s.heap.push o0):=⟨o0,#[],0,_,hS,by rw [← ho0]; exact ⟨rfl,rfl,rfl⟩,by rw [← ho0],(fun e z=>by simp at z),.nil,by decide,by rfl,TOk.fresh⟩
   have hT:Shared.TypeIs { s with heap:=s.heap.push o0 } (.ref s.heap.objs.size) "set" := ⟨_,hS,by rw [← ho0]⟩
   have hli:=F.called_set.init.lookup
   have hbi:=F.called_set.init.bind (.ref s.heap.objs.size)
   repeat (any_goals (first | assumption | wp_step))
   refine codeAny_mono (codeAny_call_builtin (R:=wants (fun r s₂=>r=.none∧∃ h' tk,s₂={ s with heap:=h',toks:=tk }∧SetI (!b) s.heap.objs.size (firstMet (fun i=>ns.getD i 0) items.size) h' ∧
     (∀ c o,s.heap.get? c=some o→h'.get? c=some o)) E) F.called_set.init.plain F.entry_set_init (check_set_init_1 hT ?_)) fun r₂ s₂ hr₂=>?_
   ·obtain ⟨ol,hol,hcl,nl,hdl⟩:=hl
    obtain ⟨oc,od,odt,osl⟩:=ol
    simp only at hcl hdl
    subst hcl; subst hdl
    have hol':(s.heap.push o0).get? L=some { cls:=.type "list", dict:=od,data:=.seq items nl,slots:=osl }:=ζi _ hol
    have e1:=F.sub_list_set
    have e2:=F.sub_list_frozenset
    have hne:(Value.type "list" == Value.type "dict")=false:=by decide
    have hl1:(s.heap.push o0).IsList L items:=⟨_,hol',rfl,nl,rfl⟩
    have hz0:(s.heap.push o0).objs.size=s.heap.objs.size + 1:=ξE _ _
    subst ho0
    unfold Builtin.«set.__init__» noKeywords Builtin.Frozenset.updateFrom
    generalize hPI:pyIter=PI
    wp_walk
    subst hPI
    refine wpAny_pyIter_list hl1 ?_
    refine wpAny_bind (wpAny_runValue ?_)
    have hlS:L < s.heap.objs.size:=ζm hol
    have hh3:A.in1.in1.in1.handled=none:=hh
    have hneI:L≠(s.heap.push { cls:=.type "set", dict:=none,data:=.set #[] 0 (.fresh 0 0 (!b)) }).objs.size:=by rw [hz0]; exact ζw (ξj hlS)
    have hSf:s.heap.objs.size∉[(s.heap.push { cls:=.type "set", dict:=none,data:=.set #[] 0 (.fresh 0 0 (!b)) }).objs.size,L]:=by
     rw [hz0]
     intro z
     rcases ζz.mp z with z | z
     ·exact ζw (ζ5 _) z
     ·exact ξv hlS (ζc.mp z)
    have hval:∀ (i:Nat) (v:Value),items[i]?=some v→∃ t,v=.int ((fun i=>ns.getD i 0) i) t:=fun i v hv=>IntsAre.int_at hi i v (by rw [ξm]; exact hv)
    refine zbl (b:=!b) ((Walks.list hh3 _ L hneI items).toS) s.heap.objs.size hSf (fun i=>ns.getD i 0) hval hz (items.size - 0) 0 _ (by omega) (ζL _) ⟨⟨_,ζy _ rfl,rfl,rfl⟩,(hl1.push _)⟩ ?hS0 ?hR
    case hS0=>exact hS0.at fun o z=>ζi _ z
    case hR =>
     intro s' hm hS'
     obtain ⟨h',g',d',tk',os'⟩:=s'
     have eg:g'=s.gens:=hm.gens
     have ed:d'=s.drawn:=hm.drawn
     have eo:os'=s.os:=hm.os
     subst eg; subst ed; subst eo
     show wpAny _ _ _ _ _ _
     refine wpAny_pure ?_
     show wpAny _ _ (ret Value.none) _ _ _
     refine wpAny_pure ⟨rfl,h',tk',rfl,hS',fun c o z=>?_⟩
     have hc:c < s.heap.objs.size:=ζm z
     refine hm.heap c o (fun q=>?_) (ζi _ (ζi _ z))
     rcases ζz.mp q with q | q
     ·exact ζw hc q
     ·have q:=ζc.mp q
      rw [hz0] at q
      exact ζw (ξj hc) q
   ·cases r₂ with
    | error e=>exact hr₂
    | ok fl₂ =>
     cases fl₂ with
     | ret r =>
      obtain ⟨rfl,h',tk,rfl,hS',hk'⟩:=hr₂
      repeat (any_goals (first | assumption | wp_step))
      exact k _ _ hS' hk'
     | _=>exact hr₂.elim
  | _=>exact hr.elim
end
section
variable {X:Cx} {K:ζa} {b:Bool}
def SetB (b:Bool) (a:Addr) (l:List Int):HO:=.ext (SetI (!b) a l)
theorem UA (x:SetI (!b) a l h):yj P w H h a (SetB b a l) :=
 ⟨x,(let ⟨o,_,_,_,ho,_⟩:=x; ⟨o,ho⟩),fun _ _ x1 k=>x1.at k⟩
def QO (K:ζa) (b:Bool):List V→Hp→VK→Prop:=fun xs H Q=>∃ p ns,xs=[.ref p]∧SqL K H p (ns.map V.int)∧ns.length < 4000∧∀ l,H l=none→Q (.ref l) (upd H l (SetB b l (dd ns)))
theorem YZ (hK:X.K=K) (hc:X.calm=true) (hb:X.w.params.followText "set-order" = b):yq X (.type "set") (QO K b):=by
 subst hK
 intro pins s σ H xs us Q I r h
 obtain ⟨p,ns,rfl,hq,hz,q⟩:=h
 obtain ⟨u,rfl,rx⟩:=xh r
 cases rx
 obtain ⟨its,r',pl,hy⟩:=I.list hq
 have hl:=r'.length
 rw [ζb] at hl hy
 refine zdk (ns:=ns) (I.ok.hd hc) hb pl.isList (by simpa using x0 r') (by rw [List.size_toArray]; unfold scanBound; omega) fun h' tk hS hk=>?_
 have z2:its.toArray.size=ns.length:=by rw [ζQ,hl]
 rw [z2,X2] at hS
 exact ⟨.ref s.heap.objs.size,_,I.laid (t':=tk) hk (ζh _) (UA hS),rfl,q _ (I.hok.fresh (ζh _))⟩
def zcX (b:Bool):List V→Hp→VK→Prop:=fun xs H Q=>∃ p l,xs=[.ref p]∧H p=some (SetB b p l)∧Q (.int l.length) H
theorem Qg:yq X (.builtin "len") (zcX b):=by
 intro pins s σ H xs us Q I r h
 obtain ⟨p,l,rfl,hH,q⟩:=h
 obtain ⟨u,rfl,rx⟩:=xh r
 cases rx
 obtain ⟨o,es,ep,t,ho,hex,hd,_,hp,hz,hf,_⟩:SetI (!b) p l s.heap:=(I.hok p _ hH).1
 have e:es.size=l.length:=by have:=hp.length_eq; simpa using this
 exact PySem.call_len_set ho hex hd hf (by unfold scanBound at hz; omega) ⟨.int l.length,H,I.tok _,⟨_,by rw [e]⟩,q⟩
end
end L2
namespace PD
open PySem L2
section
variable {K:ζa} {S S':Sx} {κ κ' b:Bool} {Γ Γ' Γ'':Ctx} {P:Post}
end
end PD
namespace L2
open PySem PySem.Spec PyProof.Rows
def Ite (K:ζa) (a:Addr):It :=
 ⟨fun i H=>∃ xs x,SqL K H a xs∧xs[i]?=some x,
  fun i H x H'=>∃ T u,H T=none∧x=.ref T∧H'=upd H T (.tup [.int i,u])∧∀ xs,SqL K H a xs→xs[i]?=some u,
  fun i H=>∃ xs,SqL K H a xs∧xs.length≤i⟩
theorem Tk {P:Program} {w:World} {K:ζa} {es:List Expr} {k:Nat} {tpos:Pos} (a n:Addr) :
  Turn P w K (.Tuple es k tpos) (Ite K a) [n + 1,n] (n + 1) (fun i h=>(∃ old,IsEnum h (n + 1) n i old)∧h.IsListIter n a i) where
 mem:=by simp
 obj:=fun i h st c hc=>by
  obtain ⟨⟨v,hz⟩,⟨o1,e1,_,d1⟩⟩:=st
  simp only [List.mem_cons,List.not_mem_nil,or_false] at hc
  rcases hc with rfl | rfl
  ·exact ⟨_,hz,fun v z=>by have z':Data.fields _=Data.cell v:=z; cases z'⟩
  ·exact ⟨_,e1,fun v z=>by rw [d1] at z; cases z⟩
 keep:=fun i h h' st k=>by
  obtain ⟨⟨v,hz⟩,h1⟩:=st
  exact ⟨⟨v,k _ (by simp) _ hz⟩,h1.at fun o e=>k _ (by simp) o e⟩
 item:=by
  intro X hP hw hK hc i pins s σ H E I hf st hg
  subst hP hw hK
  obtain ⟨⟨old,hz⟩,h1⟩:=st
  obtain ⟨xs,x,hxs,hx⟩:=hg
  obtain ⟨its,rx,px,zx⟩:=I.list hxs
  obtain ⟨u,hu,ru⟩:=rx.get hx
  have hne:n + 1≠n:=ad (by omega)
  refine wpAny_pyNext_enum_item hz h1 px.isList (x:=u) (by simpa using hu) hne fun h' z' i1' t' sz' kp=>?_
  refine ⟨_,rfl,wpAny_letOwnedTupleGo_enum z' fun h'' z'' sb=>?_⟩
  have kp2:∀ c o,c∉[n + 1,n]→s.heap.get? c=some o→h''.get? c=some o:=fun c o hc e =>
   (sb.2 c (fun z=>hc (by simp [z]))).trans (kp c o (fun z=>hc (by simp [z])) (fun z=>hc (by simp [z])) e)
  have lts:∀ c∈[n + 1,n],c < s.heap.objs.size:=fun c hc=>by
   obtain ⟨_,e1,_⟩:=id h1
   simp only [List.mem_cons,List.not_mem_nil,or_false] at hc
   rcases hc with rfl | rfl
   ·exact ζm hz
   ·exact ζm e1
  have tz:s.heap.objs.size≠n + 1:=Nat.ne_of_gt (lts _ (by simp))
  refine ⟨.ref s.heap.objs.size,upd H s.heap.objs.size (.tup [.int i,x]),I.turnNew (t':=s.toks + 1) hf kp2 (ζh _) ?_,rfl,⟨_,x,I.hok.fresh (ζh _),rfl,rfl,fun zs hq=>by rw [I.list_inj hq hxs]; exact hx⟩,?_,fun c hc=>?_⟩
  ·refine ⟨by show 2≤sizeLine; decide,[.int i s.toks,u],.cons ⟨_,rfl⟩ (.cons ru .nil),⟨_,(sb.2 _ tz).trans t',rfl,_,rfl⟩⟩
  ·exact ⟨⟨_,z''⟩,i1'.at fun o e=>(sb.2 _ (Ne.symm hne)).trans e⟩
  ·rw [zp (ζw (lts c hc))]
   exact (hf c hc).1
 done:=by
  intro X hP hw hK hc i pins s σ H E I hf st hg
  subst hP hw hK
  obtain ⟨⟨old,hz⟩,h1⟩:=st
  obtain ⟨xs,hxs,hl⟩:=hg
  obtain ⟨its,rx,px,zx⟩:=I.list hxs
  have l1:=rx.length
  have hend:its.toArray[i]?=none:=by
   simp
   omega
  exact wpAny_pyNext_enum_end (I.ok.hd hc) hz h1 px.isList hend fun h' kp=>⟨rfl,I.turnAll (t':=s.toks) hf fun c o hc e=>kp c o (fun z=>hc (by simp [z])) e⟩
 self:=fun _ _ _ _ _ st h=>let ⟨_,z⟩:=st.1; wpAny_pyIter_enum z h
section
variable {X:Cx} {K:ζa}
def zc2 (K:ζa) (ta:TA):TI:=fun σ H R=>ta σ H fun vs H1=>∃ a,vs=[.ref a]∧(∃ xs,SqL K H1 a xs)∧R (Ite K a) H1
theorem QY {a:Expr} {ta:TA} {p pos:Pos} {es:List Expr} {k:Nat} {tpos:Pos} (hK:X.K=K) (hg:Gl X "enumerate") (hm:X.mg "enumerate" = none) (ha:PA X [a] ta) (he:starEach (a :: []) X.env=(false,eval a X.env) :: starEach [] X.env:=by rfl)
  (hpl:(backTo pos (starEach [] X.env)).any (·.1)=false:=by rfl):PI X (.Tuple es k tpos) (.Call (.Name "enumerate" p) [a] [] pos) (zc2 K ta):=by
 subst hK
 intro pins s σ H R I h
 refine wpAny_Call_Name_kw (uk I hg hm (u:=.type "enumerate") (by decide +kernel) ?_ (by decide) (by decide))
 refine PyProof.Rows.callWith_type1 (thn (ha pos pins s σ H _ I h) fun us s1 ⟨vs,H1,I1,r1,q1⟩=>?_) he hpl
 obtain ⟨a1,rfl,⟨xs,hx⟩,q⟩:=q1
 obtain ⟨u,rfl,ru⟩:=xh r1
 cases (show u=Value.ref a1 from ru)
 obtain ⟨its,rx,px,zx⟩:=I1.list hx
 refine call_enumerate_list px.isList fun h' hz h1 sz kp=>?_
 refine wpAny_pyIter_enum hz ?_
 refine ⟨s1.heap.objs.size + 1,_,_,_,H1,rfl,I1.kept (t':=s1.toks) kp,Tk a1 s1.heap.objs.size,⟨⟨_,hz⟩,h1⟩,fun c hc=>?_,q⟩
 have hc':s1.heap.objs.size≤c:=by
  simp only [List.mem_cons,List.not_mem_nil,or_false] at hc
  rcases hc with rfl | rfl
  ·exact Nat.le_add_right _ _
  ·exact ζh _
 exact I1.fpOk hc' (I1.hok.fresh hc')
end
end L2
namespace PD
open PySem L2
section
variable {K:ζa} {S S':Sx} {κ κ':Bool} {Γ Γ' Γ'':Ctx} {P:Post}
theorem zcx (h:EvA K S κ t Γ [.list xs]):EvI K S κ (zc2 K t) Γ (xs.mapIdx fun i x=>.tuple [.int (i:Nat),x]):=fun H0 F0 H F σ e R q =>
 h H0 F0 H F σ e _ fun vs H1 F1 g1 p1=>by
  cases p1 with
  | cons p p1 =>
   cases p1
   obtain ⟨a,us,rfl,h1,h2⟩:=tE p
   have l1:=zv.length h2
   have up:∀ {F' H':Hp},Same F1 F'→Same F' H'→SqL K H' a us:=fun s1 s2=>(s1.trans s2).seq h1.sq
   refine ⟨a,rfl,⟨us,up (.refl _) g1.le⟩,q _ H1 F1 g1 ⟨fun i H' F' s1 s2 hi=>?_,fun i H' F' x H'' s1 s2 sd hi y=>?_,fun H' F' s1 s2=>?_⟩⟩
   ·rw [ξU] at hi
    exact ⟨us,us[i]'(by omega),up s1 s2,by simp⟩
   ·obtain ⟨T,u,hT,rfl,rfl,y1⟩:=y
    obtain ⟨d,hd,hp⟩:=zv.get' h2 (y1 us (up s1 s2))
    have s3:Same F' (upd F' T (.tup [.int i,u])):=Same.new (s2.free hT) _
    exact ⟨.tuple [.int i,d],_,by rw [ξR,hd]; rfl,.new s2 hT _,.tup (SqT.of zi) (.cons (.int _) (.cons (yA (s1.trans s3) hp) .nil))⟩
   ·exact ⟨us,up s1 s2,by rw [ξU]; omega⟩
end
end PD
namespace L2
open PySem
end L2
namespace L2
open PySem PySem.Spec PyProof.Rows
theorem Xj:entryFor table "set.__and__" = some Builtin.«frozenset.__and__»:=entryFor_alias (id' := "frozenset.__and__") (by kernel_rfl) rfl (by decide +kernel) (by kernel_rfl)
def Yc (b:Bool) (m:Nat) (a:Addr) (h:Heap):Prop:=∃ o ep t,h.get? a=some o∧o.ExactSet∧o.data=.set #[] ep t∧TOk b t∧t.place=#[]∧(∃ k,t.mask + 1=2 ^ k)∧m≤t.mask
theorem Yc.fits (h:TOk b t) (e:t.place=#[]):t.fits (#[]:Array (Int×Value)).size=true:=by
 unfold SetTable.fits SetTable.fill
 rw [e,h.dum]
 simp
theorem Yc.set (x:Yc b m a h):SetI b a [] h:=by
 obtain ⟨o,ep,t,ho,hx,hd,ht,hp,_⟩:=x
 exact ⟨o,#[],ep,t,ho,hx,hd,(fun e z=>by simp at z),.nil,by decide,Yc.fits ht hp,ht⟩
section
variable {prog:Program} {w:World} {A:Around} {E:Value→Shared→Prop} {s:Shared} {b:Bool} {a r o:Addr} {l l1 l2:List Int} {m:Nat}
end
section
variable {prog:Program} {w:World} {A:Around} {E:Value→Shared→Prop} {s:Shared} {bt:Bool} {a r o:Addr} {l l1 l2:List Int} {m:Nat}
theorem zbY (hb:w.params.followText "set-order" = bt)
  (k:∀ ob,Yc (!bt) 7 s.heap.objs.size (s.heap.push ob)→Q (.ref s.heap.objs.size) { s with heap:=s.heap.push ob }):wpAny (model prog w) A (newSet (.type "set")) Q E s:=by
 unfold newSet setsByText
 refine wpAny_bind (wpAny_bind (wpAny_askSetting (wpAny_pure ?_)))
 rw [show (model prog w).w.params.followText "set-order" = bt from hb]
 dsimp only
 simp only [newObj]
 exact wpAny_bind (wpAny_alloc (wpAny_pure (k _ ⟨_,0,_,ζy _ rfl,⟨rfl,rfl,rfl⟩,rfl,TOk.fresh,rfl,⟨3,rfl⟩,ζh _⟩)))
theorem zds (h:∀ a∈sets,∃ b l,SetI b a l s.heap) (k:Q true s):wpAny (model prog w) A (setsQuiet sets) Q E s:=by
 unfold setsQuiet
 refine wpAny_bind (wpAny_forIn_list _ (fun rest r s'=>r.1=none∧s'=s∧∀ a∈rest,∃ b l,SetI b a l s.heap) _ ?_ ?_ _ _ ⟨rfl,rfl,h⟩)
 ·rintro x rest ⟨r1,r2⟩ s' ⟨e1,rfl,hr⟩
  obtain ⟨b,l,ob,es,ep,t,ho,hex,hd,hE,hp,hz,hf,ht⟩:=hr x (.head _)
  refine wpAny_bind (wpAny_setEntries_of ho hd hf ?_)
  refine wpAny_bind (wpAny_forIn_array' _ (fun rest r s''=>r.1=none∧s''=s'∧∀ e∈rest,IsE e) _ ?_ ?_ _ _ ⟨rfl,rfl,hE⟩)
  ·rintro e rest2 ⟨q1,q2⟩ s'' ⟨e2,rfl,h2⟩
   obtain ⟨k',t',rfl⟩:=h2 e (.head _)
   exact wpAny_pure ⟨rfl,rfl,fun y hy=>h2 y (.tail _ hy)⟩
  ·rintro ⟨q1,q2⟩ s'' ⟨e2,rfl,_⟩
   have e2:q1=none:=e2
   subst e2
   exact wpAny_pure ⟨rfl,rfl,fun y hy=>hr y (.tail _ hy)⟩
 ·rintro ⟨r1,r2⟩ s' ⟨e1,rfl,_⟩
  have e1:r1=none:=e1
  subst e1
  exact wpAny_pure k
end
section
variable {prog:Program} {w:World} {A:Around} {E:Value→Shared→Prop} {s:Shared} {bt:Bool} {a r o p q:Addr} {l l1 l2:List Int} {m:Nat}
theorem Wg {h:Heap} (hS:SetI b a l s.heap) (k:Q true s):wpAny (model prog w) A (Builtin.Frozenset.isAnySet (.ref a)) Q E s:=by
 obtain ⟨ob,_,_,_,ho,hx,_⟩:=hS
 unfold Builtin.Frozenset.isAnySet
 refine wpAny_bind (wpAny_isInstance (b:=true) ⟨ob,ho,hx.1⟩ sub_set_self (wpAny_pure k))
end
section
variable {X:Cx} {K:ζa} {b:Bool}
theorem zeJ (ns:List Int):(dd ns).Nodup:=by
 suffices z:∀ n,(dd (ns.take n)).Nodup by simpa using z ns.length
 intro n
 induction n with
 | zero=>exact ξc
 | succ n ih =>
  by_cases hn:n < ns.length
  ·have e:ns.take (n + 1)=ns.take n ++ [ns[n]]:=by rw [List.take_succ,ζp hn]; rfl
   rw [e,U5]
   unfold step_dedup
   split
   ·exact ih
   ·rename_i h
    rw [ζR]
    refine ⟨ih,by simp,fun x hx y hy=>?_⟩
    rw [ζc.mp hy]
    rintro rfl
    exact h (List.any_eq_true.mpr ⟨_,hx,by simp⟩)
  ·have e1:ns.take (n + 1)=ns.take n:=by rw [ζW (by omega),ζW (by omega)]
   rw [e1]
   exact ih
end
end L2
namespace PD
open PySem L2
section
variable {K:ζa} {S S':Sx} {κ κ' b:Bool} {Γ Γ' Γ'':Ctx} {P:Post}
end
section
variable {K:ζa} {S S':Sx} {κ κ':Bool} {Γ Γ' Γ'':Ctx} {P:Post} {E:XK} {C:Addr}
theorem X7 (hc:EvT K S c Γ b) (h1:b=true→EvE K S κ t Γ d) (h2:b=false→EvE K S κ u Γ d):EvE K S κ (tIf c t u) Γ d:=fun H0 F0 H F σ e Q q =>
 hc H0 F0 H F σ e _ fun H1 F1 g=>by
  cases b with
  | true=>exact iteT (h1 rfl H0 F0 H1 F1 σ (e.mono g) Q fun v H2 F2 g2 p=>q v H2 F2 (g.trans g2) p)
  | false=>exact iteF (h2 rfl H0 F0 H1 F1 σ (e.mono g) Q fun v H2 F2 g2 p=>q v H2 F2 (g.trans g2) p)
end
section
variable {K:ζa} {S S':Sx} {κ κ':Bool} {Γ Γ' Γ'':Ctx} {P:Post}
theorem cutH (g:α→PyData) (xs:List α) (k:Nat):cutD (xs.map g) (some (k:Int)) none=(xs.drop k).map g:=by
 unfold cutD
 rw [HT.Xr]
 show ((xs.map g).drop (min k (xs.map g).length)).take ((xs.map g).length - min k (xs.map g).length)=_
 rw [ζW (by rw [ζ0]; exact ζh _),ζb,← List.map_drop]
 congr 1
 rcases Nat.le_total k xs.length with h | h
 ·rw [Nat.min_eq_left h]
 ·rw [Nat.min_eq_right h,List.drop_of_length_le (ζh _),List.drop_of_length_le h]
theorem Ud:∀ (a b:List Int),PyData.eqv (.list (a.map .int)) (.list (b.map .int))=decide (a=b)
 | [],[]=>rfl
 | [],_ :: _=>rfl
 | _ :: _,[]=>rfl
 | x :: a,y :: b=>by
  have ih:=Ud a b
  have e:PyData.eqv (.list ((x :: a).map .int)) (.list ((y :: b).map .int))=((x == y) && PyData.eqv (.list (a.map .int)) (.list (b.map .int))):=by
   simp [PyData.eqv,PyData.eqvAll]
  rw [e,ih]
  by_cases h:x=y
  ·subst h; simp
  ·have:(x == y)=false:=by simpa using h
   rw [this]
   simp [h]
end
end PD
namespace L2
open PySem PySem.Spec PyProof.Rows
section
variable {prog:Program} {w:World} {A:Around} {E:Value→Shared→Prop} {s:Shared} {b bt:Bool} {a r o p q:Addr} {l l1 l2:List Int}
theorem zeE (hS:SetI b a l s.heap) (h:∀ x:Option Nat,(x.isSome=true↔k∈l)→Q x s):wpAny (model prog w) A (setFind a (.int k tk) (hashInt k)) Q E s:=by
 obtain ⟨ob,es,ep,t,ho,hex,hd,hE,hp,hz,hf,ht⟩:=hS
 have hel:ElemsOf (intKind prog w) es.toList:=IsE.elems hE
 have hm:k∈l↔∃ e∈es.toList,(intKind prog w).is k e.2=true:=by
  rw [← hp.mem_iff,ζn]
  exact ⟨fun ⟨e,x,y⟩=>⟨e,x,((hE e x).is k).mpr y⟩,fun ⟨e,x,y⟩=>⟨e,x,((hE e x).is k).mp y⟩⟩
 unfold setFind setFindIn
 refine wpAny_bind (wpAny_setState_of ho hd hf ?_)
 dsimp only
 rw [byScan_of (knd:=intKind prog w) (x:=.int k tk) rfl hz hel]
 simp only [↓reduceIte]
 refine wpAny_bind (wpAny_rule ?_)
 refine wpAny_bind (wpAny_setScan_of (knd:=intKind prog w) (k:=k) (intKind_is _ _ k tk) ho hd hf hel ?_)
 cases hr:List.findIdx? (fun e=>(intKind prog w).is k e.2) es.toList with
 | none =>
  dsimp only
  refine wpAny_pure (h none ⟨fun z=>(by cases z),fun z=>?_⟩)
  obtain ⟨e,he,hpe⟩:=hm.mp z
  have q:=List.findIdx?_eq_none_iff.mp hr e he
  rw [hpe] at q; cases q
 | some j =>
  dsimp only
  obtain ⟨hj,hpj,_⟩:=List.findIdx?_eq_some_iff_getElem.mp hr
  exact wpAny_pure (h (some (0 + j)) ⟨fun _=>hm.mpr ⟨es.toList[j],ξM hj,hpj⟩,fun _=>rfl⟩)
theorem zer {also:List Addr} {Q:Array (Int×Value)→Shared→Prop} (hb:w.params.followText "set-order" = bt) (hR:SetI (!bt) r l1 s.heap) (hO:SetI (!bt) o l2 s.heap) (hA:∀ x∈also,∃ c l,SetI c x l s.heap)
  (k:∀ (ws:Array (Int×Value)) h',(∀ e∈ws.toList,IsE e)→(ws.toList.map kOf).Perm l2→Heap.SameBut r s.heap h'→SetI (!bt) r l1 h'→Q ws { s with heap:=h' }):wpAny (model prog w) A (setWalkUnseen o also (some r)) Q E s:=by
 obtain ⟨ob,es,ep,t,ho,hex,hd,hE,hp,hz,hf,ht⟩:=id hO
 have ks:∀ ws:Array (Int×Value),ws.toList.Perm es.toList→Q ws s:=fun ws pm=>k ws s.heap (fun e x=>hE e (pm.mem_iff.mp x)) ((pm.map kOf).trans hp) (Heap.SameBut.refl _ _) hR
 unfold setWalkUnseen
 refine wpAny_bind (wpAny_setState_of ho hd hf ?_)
 dsimp only
 unfold setsByText
 refine wpAny_bind (wpAny_bind (wpAny_askSetting (wpAny_pure ?_)))
 rw [show (model prog w).w.params.followText "set-order" = bt from hb]
 cases bt with
 | true =>
  simp only [Bool.true_or,↓reduceIte]
  unfold setWalk
  refine wpAny_bind (wpAny_setState_of ho hd hf ?_)
  dsimp only
  unfold setsByText
  refine wpAny_bind (wpAny_bind (wpAny_askSetting (wpAny_pure ?_)))
  rw [show (model prog w).w.params.followText "set-order" = true from hb]
  simp only [↓reduceIte]
  exact wpAny_bind (wpAny_askSetting (wpAny_pure (ks _ (ZF _ _))))
 | false =>
  have led:t.led=true:=ht.led
  by_cases c:(false || (t.led && t.plain) || decide (es.size≤1))=true
  ·rw [if_pos c]
   unfold setWalk
   refine wpAny_bind (wpAny_setState_of ho hd hf ?_)
   dsimp only
   unfold setsByText
   refine wpAny_bind (wpAny_bind (wpAny_askSetting (wpAny_pure ?_)))
   rw [show (model prog w).w.params.followText "set-order" = false from hb]
   simp only [Bool.false_eq_true,↓reduceIte]
   split
   ·rename_i z
    have z:(!t.plain && decide (es.size > 1))=true:=z
    rw [led] at c
    simp at c z
    have y:¬ 1 < es.size:=by
     rcases c with c | c
     ·rw [c] at z
      exact absurd z.1 (by decide)
     ·omega
    exact absurd z.2 y
   ·refine wpAny_bind (wpAny_of_eq (a:=()) ?_ ?_)
    ·show (if (!t.led && decide (es.size > 1))=true then _ else _)=_
     rw [led]
     rfl
    ·exact wpAny_pure (ks es (.refl _))
  ·rw [if_neg c]
   refine wpAny_bind (zds (fun x hx=>?_) ?_)
   ·rcases ζz.mp hx with rfl | hx
    ·exact ⟨_,_,hO⟩
    ·exact hA x hx
   rw [if_neg (by decide)]
   refine wpAny_bind (wpAny_rule ?_)
   obtain ⟨ob1,es1,ep1,t1,ho1,hex1,hd1,hE1,hp1,hz1,hf1,ht1⟩:=id hR
   refine wpAny_bind (wpAny_setState_of ho1 hd1 hf1 ?_)
   dsimp only
   split
   ·refine wpAny_bind (wpAny_storeSet_of ho1 hd1 ?_ (fits_of_scanBound hz1))
    refine wpAny_pure (k es _ hE hp (Heap.SameBut.update ..) ⟨_,es1,_,_,Vv ho1 hd1 _ _,hex1,rfl,hE1,hp1,hz1,hf1,⟨?_,ht1.rise,ht1.dum⟩⟩)
    show (t1.led && t.led)=_
    rw [ht1.led,led]
    rfl
   ·exact wpAny_pure (ks es (.refl _))
theorem zcT (hS:SetI b a l s.heap) (k:Q l.length s):wpAny (model prog w) A (Builtin.Frozenset.sizeOf a) Q E s:=by
 obtain ⟨ob,es,ep,t,ho,hex,hd,hE,hp,hz,hf,ht⟩:=hS
 have hn:es.size=l.length:=by have:=hp.length_eq; simpa using this
 unfold Builtin.Frozenset.sizeOf
 refine wpAny_bind (wpAny_setEntries_of ho hd hf (wpAny_pure ?_))
 rw [hn]
 exact k
theorem zcz (nd:l.Nodup):(step_dedup l k).Nodup∧(∀ x,x∈step_dedup l k↔x∈l∨x=k)∧(step_dedup l k).length≤l.length + 1:=by
 unfold step_dedup
 split
 ·rename_i z
  obtain ⟨y,hy,ey⟩:=ζN.mp z
  have ey:=eq_of_beq ey
  subst ey
  exact ⟨nd,fun x=>⟨.inl,fun z=>z.elim id fun z=>z ▸ hy⟩,by omega⟩
 ·rename_i z
  refine ⟨?_,fun x=>by rw [ζq,ζc],by rw [ζf]; exact ζh _⟩
  rw [ζR]
  refine ⟨nd,by simp,fun x hx y hy=>?_⟩
  rw [ζc.mp hy]
  rintro rfl
  exact z (List.any_eq_true.mpr ⟨_,hx,by simp⟩)
theorem andI (hb:w.params.followText "set-order" = bt) (hP:SetI (!bt) p l1 s.heap) (hR:SetI (!bt) q l2 s.heap) (hne:p≠q) (hl:l1.length + l2.length < 2000)
  (k:∀ h' l3,SetI (!bt) s.heap.objs.size l3 h'→(∀ c ob,s.heap.get? c=some ob→h'.get? c=some ob)→(∀ x,x∈l3↔x∈l1∧x∈l2)→l3.Nodup→l3.length≤l1.length + l2.length→Q (.ref s.heap.objs.size) { s with heap:=h' }) :
  wpAny (model prog w) A (binaryOp .BitAnd (.ref p) (.ref q)) Q E s:=by
 obtain ⟨op,_,_,_,hop,hxp,_⟩:=id hP
 obtain ⟨oq,_,_,_,hoq,hxq,_⟩:=id hR
 have hp:p < s.heap.objs.size:=ζm hop
 have hq:q < s.heap.objs.size:=ζm hoq
 have hT:s.TypeIs (.ref p) "set" := ⟨op,hop,hxp.1⟩
 refine wpAny_binaryOp_same hT ⟨oq,hoq,hxq.1⟩ F.fills_set_and F.slot_set_and (wpAny_call_entry F.slot_set_and hT Xj ?_ (F.args_set_and_2 _ _))
 unfold Builtin.«frozenset.__and__»
 show wpAny _ _ (do
  if !(← Builtin.Frozenset.isAnySet (.ref p) <&&> Builtin.Frozenset.isAnySet (.ref q)) then rule s!"frozenset.{"__and__"}.declined"; return ← ret .notImplemented
  ret (← Builtin.Frozenset.intersection s!"frozenset.{"__and__"}" p (.ref q))) _ _ _
 refine wpAny_bind (wpAny_bind (Wg (h:=s.heap) hP ?_))
 show wpAny _ _ (Builtin.Frozenset.isAnySet (Value.ref q)) _ _ _
 refine Wg (h:=s.heap) hR ?_
 simp only [Bool.not_true,Bool.false_eq_true,↓reduceIte]
 refine wpAny_bind ?_
 unfold Builtin.Frozenset.intersection
 rw [if_neg (by simpa using Ne.symm hne)]
 unfold Builtin.Frozenset.baseOf
 refine wpAny_bind (wpAny_bind (wpAny_isInstance (b:=true) ⟨op,hop,hxp.1⟩ sub_set_self (wpAny_pure ?_)))
 simp only [↓reduceIte]
 refine wpAny_bind (zbY hb fun o1 f1=>?_)
 unfold Builtin.Frozenset.addrOf
 refine wpAny_bind (wpAny_pure ?_)
 have up:∀ c ob,s.heap.get? c=some ob→(s.heap.push o1).get? c=some ob:=fun c ob z=>ζi _ z
 have hP1:SetI (!bt) p l1 (s.heap.push o1):=hP.at fun _ z=>up _ _ z
 have hR1:SetI (!bt) q l2 (s.heap.push o1):=hR.at fun _ z=>up _ _ z
 refine wpAny_bind (wpAny_holding ?_)
 refine wpAny_bind (Wg (s:={ s with heap:=s.heap.push o1 }) (h:=s.heap) hR1 ?_)
 rw [if_pos rfl]
 refine wpAny_bind (wpAny_pure ?_)
 refine wpAny_bind (zcT (s:={ s with heap:=s.heap.push o1 }) hR1 ?_)
 refine wpAny_bind (zcT (s:={ s with heap:=s.heap.push o1 }) hP1 ?_)
 obtain ⟨⟨ak,wk⟩,ep,la,lw,hA,hW,na,nw,hiff,hlw⟩:∃ pr:Addr×Addr,(if l2.length > l1.length then (q,p) else (p,q))=pr∧∃ la lw,SetI (!bt) pr.1 la (s.heap.push o1)∧SetI (!bt) pr.2 lw (s.heap.push o1)∧s.heap.objs.size≠pr.1∧s.heap.objs.size≠pr.2∧(∀ x,x∈la∧x∈lw↔x∈l1∧x∈l2)∧lw.length≤l1.length + l2.length:=by
  by_cases c:l2.length > l1.length
  ·exact ⟨_,if_pos c,l2,l1,hR1,hP1,ξv hq,ξv hp,fun x=>And.comm,by omega⟩
  ·exact ⟨_,if_neg c,l1,l2,hP1,hR1,ξv hp,ξv hq,fun x=>Iff.rfl,by omega⟩
 rw [ep]
 dsimp only at hA hW na nw ⊢
 obtain ⟨ob2,es2,ep2,t2,ho2,hx2,hd2,hE2,hp2,hz2,hf2,ht2⟩:=id hW
 refine wpAny_bind (wpAny_setEpoch_of (s:={ s with heap:=s.heap.push o1 }) ho2 hd2 hf2 ?_)
 refine wpAny_bind (zer (s:={ s with heap:=s.heap.push o1 }) hb f1.set hW (fun x hx=>?_) fun ws h2 wE wp u2 f2=>?_)
 ·rcases ζz.mp hx with rfl | hx
  ·exact ⟨_,_,hA⟩
  ·rw [ζc.mp hx]; exact ⟨_,_,f1.set⟩
 refine wpAny_bind (wpAny_forIn_array' _ (fun rest _ s'=>∃ l h',s'={ s with heap:=h' }∧Heap.SameBut s.heap.objs.size (s.heap.push o1) h'∧SetI (!bt) s.heap.objs.size l h'∧(∀ e∈rest,IsE e)∧(∀ x,(x∈l∨(x∈la∧x∈rest.map kOf))↔x∈la∧x∈lw)∧l.Nodup∧l.length + rest.length≤lw.length) _ ?_ ?_ _ _ ⟨[],h2,rfl,u2,f2,wE,fun x=>by rw [wp.mem_iff]; simp,List.nodup_nil,by have:=wp.length_eq; rw [List.length_map] at this; simpa using Nat.le_of_eq this⟩)
 ·rintro e rest _ s' ⟨l,h',rfl,u,f,hE',hm,hnd,hlen⟩
  obtain ⟨kk,tk,rfl⟩:=hE' e (.head _)
  rw [ζO] at hlen
  have hA':SetI (!bt) ak la h':=hA.at fun ob z=>by rw [u.2 ak (Ne.symm na)]; exact z
  have un:∀ (h3:Heap) (Q':Unit→Shared→Prop),Heap.SameBut s.heap.objs.size h' h3→Q' () { s with heap:=h3 }→wpAny (model prog w) A.in1 (Builtin.Frozenset.unchanged s!"frozenset.{"__and__"}" wk ep2) Q' E { s with heap:=h3 }:=fun h3 Q' u3 qq=>by
   unfold Builtin.Frozenset.unchanged
   refine wpAny_bind (wpAny_setEpoch_of (s:={ s with heap:=h3 }) ?_ hd2 hf2 ?_)
   ·show h3.get? wk=some ob2
    rw [u3.2 wk (Ne.symm nw),u.2 wk (Ne.symm nw)]
    exact ho2
   ·rw [if_neg (by simp)]
    exact wpAny_pure qq
  refine wpAny_bind (wpAny_holding (wpAny_bind (zeE (s:={ s with heap:=h' }) hA' fun x hx=>?_)))
  by_cases c:x.isSome=true
  ·rw [if_pos c]
   refine wpAny_bind (addI (s:={ s with heap:=h' }) f (by unfold scanBound; omega) fun rr h3 u3 f3=>wpAny_pure ?_)
   refine wpAny_bind (un h3 _ u3 (wpAny_pure ?_))
   obtain ⟨d1,d2,d3⟩:=zcz (k:=kk) hnd
   refine ⟨_,h3,rfl,u.trans u3,f3,fun y hy=>hE' y (.tail _ hy),fun y=>?_,d1,by omega⟩
   rw [← hm y,d2 y,ζH]
   show _↔_∨(_∧y∈kk :: _)
   rw [ζz]
   have ka:=hx.mp c
   constructor
   ·rintro ((z | rfl) | z)
    ·exact .inl z
    ·exact .inr ⟨ka,.inl rfl⟩
    ·exact .inr ⟨z.1,.inr z.2⟩
   ·rintro (z | ⟨z1,z | z⟩)
    ·exact .inl (.inl z)
    ·exact .inl (.inr z)
    ·exact .inr ⟨z1,z⟩
  ·rw [if_neg c]
   refine wpAny_pure (wpAny_bind (un h' _ (Heap.SameBut.refl _ _) (wpAny_pure ?_)))
   refine ⟨l,h',rfl,u,f,fun y hy=>hE' y (.tail _ hy),fun y=>?_,hnd,by omega⟩
   rw [← hm y,ζH]
   show _↔_∨(_∧y∈kk :: _)
   rw [ζz]
   have ka:kk∉la:=fun z=>c (hx.mpr z)
   constructor
   ·rintro (z | z)
    ·exact .inl z
    ·exact .inr ⟨z.1,.inr z.2⟩
   ·rintro (z | ⟨z1,rfl | z⟩)
    ·exact .inl z
    ·exact absurd z1 ka
    ·exact .inr ⟨z1,z⟩
 ·rintro _ s' ⟨l,h',rfl,u,f,_,hm,hnd,hlen⟩
  refine wpAny_pure (wpAny_pure ?_)
  exact wpAny_pure ⟨_,rfl,by simp,k h' l f (fun c ob z=>by rw [u.2 c (Nat.ne_of_lt (Heap.lt_size z))]; exact up c ob z) (fun x=>by rw [← hiff x,← hm x]; simp) hnd (by simp at hlen; omega)⟩
end
section
variable {X:Cx} {K:ζa} {b:Bool}
def zcY (b:Bool):R2:=fun x y H Q=>∃ p q l1 l2,x=.ref p∧y=.ref q∧p≠q∧H p=some (SetB b p l1)∧H q=some (SetB b q l2)∧l1.length + l2.length < 2000 ∧
 ∀ c l3,H c=none→(∀ k,k∈l3↔k∈l1∧k∈l2)→l3.Nodup→l3.length≤l1.length + l2.length→Q (.ref c) (upd H c (SetB b c l3))
theorem zbR (hc:X.calm=true) (hb:X.w.params.followText "set-order" = b):OpR X (binaryOp .BitAnd) (zcY b):=by
 intro pins s σ H x y v u Q I rx ry h
 obtain ⟨p,q,l1,l2,rfl,rfl,hne,hp,hq,hz,k⟩:=h
 cases rx
 cases ry
 exact andI hb (I.hok p _ hp).1 (I.hok q _ hq).1 hne hz fun h' l3 f kk a1 a2 a3=>⟨.ref s.heap.objs.size,_,I.laid (t':=s.toks) kk (ζh _) (UA f),rfl,k _ l3 (I.hok.fresh (ζh _)) a1 a2 a3⟩
end
end L2
namespace PD
open PySem L2
section
variable {K:ζa} {S S':Sx} {κ κ' b:Bool} {Γ Γ' Γ'':Ctx} {P:Post}
theorem T7 {ta tc:TE} {ns ms:List Int} (h1:EvL K S false ta Γ (ns.map .int)) (h2:EvL K S false tc Γ (ms.map .int)) (hz:ns.length + ms.length < 2000) :
  EvE K S κ (tCB (zcX b) (zR (tOp (zcY b) (tCB (QO K b) (zR ta tNil)) (tCB (QO K b) (zR tc tNil))) tNil)) Γ (.int ((dd ns).filter fun k=>decide (k∈ms)).length):=fun H0 F0 H F σ e Q q =>
 h1 H0 F0 H F σ e _ fun a vs H1 F1 g1 p1 k1=>by
  cases zX (zP k1)
  refine ⟨a,ns,rfl,p1,by omega,fun p hp=>?_⟩
  have g2:=g1.trans (.newO g1.le hp (SetB b p (dd ns)))
  refine h2 H0 F0 _ F1 σ (e.mono g2) _ fun c ws H3 F3 g3 p3 k3=>?_
  cases zX (zP k3)
  refine ⟨c,ms,rfl,p3,by omega,fun r hr=>?_⟩
  have g4:=(g2.trans g3).trans (.newO g3.le hr (SetB b r (dd ms)))
  have hpH:H3 p=some (SetB b p (dd ns)):=g3.h _ _ zi
  have hne:p≠r:=fun z=>by rw [z,hr] at hpH; cases hpH
  have d1:=zaY ns
  have d2:=zaY ms
  refine ⟨p,r,dd ns,dd ms,rfl,rfl,hne,by rw [zp hne]; exact hpH,zi,by omega,fun t l3 ht m3 n3 z3=>?_⟩
  have g5:=g4.trans (.newO g4.le ht (SetB b t l3))
  have el:l3.length=((dd ns).filter fun k=>decide (k∈ms)).length:=by
   refine List.Perm.length_eq ?_
   rw [List.perm_ext_iff_of_nodup n3 ((zeJ ns).sublist ξr)]
   intro k
   rw [m3 k,ζl,Uf ms k,decide_eq_true_eq]
  refine ⟨t,l3,rfl,zi,?_⟩
  rw [el]
  exact q _ _ F3 g5 (.int _)
theorem zam (ns ms:List Int):decide (((((dd ns).filter fun k=>decide (k∈ms)).length:Nat):Int) > 0)=ns.any fun k=>decide (k∈ms):=by
 rw [ξF,decide_eq_true_eq,ζN]
 constructor
 ·intro h
  obtain ⟨k,hk⟩:=List.exists_mem_of_length_pos (l:=(dd ns).filter fun k=>decide (k∈ms)) (by omega)
  obtain ⟨h1,h2⟩:=ζl.mp hk
  exact ⟨k,(Uf ns k).mp h1,h2⟩
 ·rintro ⟨k,h1,h2⟩
  have hk:k∈(dd ns).filter fun k=>decide (k∈ms):=ζl.mpr ⟨(Uf ns k).mpr h1,h2⟩
  have:=ζ9 hk
  omega
end
end PD
namespace L2
open PySem PySem.Spec PyProof.Rows
section
variable {X:Cx} {K:ζa}
theorem Vals.ofGet:∀ (xs:List V) (us:List Value),xs.length=us.length→(∀ (i:Nat) x u,xs[i]?=some x→us[i]?=some u→RelV x u)→Vals xs us
 | [],[],_,_=>.nil
 | [],_ :: _,h,_=>by cases h
 | _ :: _,[],h,_=>by cases h
 | x :: xs,u :: us,h,k=>.cons (k 0 x u rfl rfl) (Vals.ofGet xs us (Nat.succ.inj h) fun i y v h1 h2=>k (i + 1) y v h1 h2)
def zcW:List V→Hp→VK→Prop:=fun xs H Q=>∃ n:Int,xs=[.int n]∧∀ l,H l=none→Q (.ref l) (upd H l (.rng 0 n))
theorem Y0:yq X (.type "range") zcW:=by
 intro pins s σ H xs us Q I r h
 obtain ⟨n,rfl,q⟩:=h
 obtain ⟨u,rfl,rx⟩:=xh r
 obtain ⟨t,rfl⟩:=rx
 exact call_range_1 ⟨.ref s.heap.objs.size,_,I.laid (t':=s.toks + 1 + 1) (fun b u e=>ζi _ e) (ζh _) (show yj X.prog X.w _ _ _ (.rng 0 n) from ⟨_,_,_,ζy _ rfl⟩),rfl,q _ (I.hok.fresh (ζh _))⟩
def WK:List V→Hp→VK→Prop:=fun xs H Q=>∃ (p:Addr) (n:Nat),xs=[.ref p]∧H p=some (.rng 0 n)∧n≤1000000∧∀ l,H l=none→Q (.ref l) (upd H l (.lst ((List.range n).map fun i:Nat=>V.int (i:Int))))
theorem u9 (hc:X.calm=true):yq X (.type "list") WK:=by
 intro pins s σ H xs us Q I r h
 obtain ⟨p,n,rfl,hp,hn,q⟩:=h
 obtain ⟨u,rfl,rx⟩:=xh r
 cases rx
 obtain ⟨t,u,v,ho⟩:∃ t u v,s.heap.get? p=some { cls:=.type "range", data:=.fields #[.int 0 t,.int n u,.int 1 v] }:=I.hok p _ hp
 have rs:Builtin.Range.rangeSize 0 n 1=(n:Int):=by
  unfold Builtin.Range.rangeSize
  simp
  omega
 refine call_list_range (n:=n) (I.ok.hd hc) ho ?_ ?_ (by omega) fun h' tk acc' c' hk hS hacc=>?_
 ·exact small_one (by omega) (by omega) (by omega) (by omega)
 ·exact rs
 ·have hl:acc'.toList.length=n:=by rw [ζ3]; exact hacc.1
  refine ⟨.ref s.heap.objs.size,_,I.laid (t':=tk) hk (ζh _) (show yj X.prog X.w _ h' _ (.lst ((List.range n).map fun i:Nat=>V.int (i:Int))) from ⟨by rw [ζb,ζu,sizeLine_eq]; omega,acc'.toList,c',Vals.ofGet _ _ (by rw [ζb,ζu,hl]) fun i x u h1 h2=>?_,hS⟩),rfl,q _ (I.hok.fresh (ζh _))⟩
  have hi:i < n:=by
   have:=(ζe.mp h2).1
   omega
  rw [ζs,ζ2 hi] at h1
  cases h1
  obtain ⟨t',rfl⟩:=hacc.2 i u (by rw [← ξm]; exact h2)
  exact ⟨t',by rw [Int.mul_one,Int.zero_add]⟩
end
end L2
namespace PD
open PySem L2
section
variable {K:ζa} {S S':Sx} {κ κ':Bool} {Γ Γ' Γ'':Ctx} {P:Post}
theorem t6 {n:Nat} (h:EvE K S false ta Γ (.int (n:Int))) (hn:n≤1000000):EvO K S κ (tCB WK (zR (tCB zcW (zR ta tNil)) tNil)) Γ ((List.range n).map fun i:Nat=>.int (i:Int)):=fun H0 F0 H F σ e Q q =>
 h H0 F0 H F σ e _ fun v H1 F1 g1 p1=>by
  cases ym p1
  refine ⟨n,rfl,fun p hp=>⟨p,n,rfl,zi,hn,fun l hl=>?_⟩⟩
  have g2:=g1.trans (.newO g1.le hp (.rng 0 n))
  have hr:zv K κ S H0 F1 ((List.range n).map fun i:Nat=>V.int (i:Int)) ((List.range n).map fun i:Nat=>.int (i:Int)):=by
   have:=ug (K:=K) (κ:=κ) (S:=S) (H0:=H0) (F:=F1) ((List.range n).map fun i:Nat=>(i:Int))
   rw [ζM,ζM] at this
   exact this
  exact q l _ _ F1 (g2.trans (.newO g2.le hl _)) (g2.h.free hl) zi (g2.le.free hl) hr
end
end PD
namespace L2
open PySem PySem.Spec PyProof.Rows PySem.W
abbrev knw (o:Obj):HO:=.frz o (.ext fun _=>True)
theorem ZQ (e:h.get? a=some o):yj P w H h a (knw o):=⟨e,trivial,⟨o,e⟩,fun _ _ _ _=>trivial⟩
def zeM (H:Hp) (c:Addr) (v:V):Prop:=∃ o u,H c=some (knw o)∧o.data=.cell (some u)∧RelV v u
def Yd (H:Hp) (c:Addr) (q:Str):Prop:=∃ o fs t,H c=some (knw o)∧o.data=.fields fs∧fs[1]?=some (.str q t)
structure wL (x:Str) (ys:List Str) (sc:Scope):Prop where
 kind:sc.kind=.function
 co:sc.isCoroutine=false
 gen:sc.isGenerator=false
 nd:(x :: ys).Nodup
 par:sc.names.lookup x=some .local
 nocell:∀ y∈sc.names,y.2≠.cell
 fre:∀ y,sc.names.lookup y=some .free→y∈ys
 isf:∀ y∈ys,sc.names.lookup y=some .free
def cxL (P:Program) (w:World) (K:ζa) (mg:Str→Option Value) (base:Heap) (N:List Str) (qual:Str) (scope:Scope) (f:Addr) (cd:Value) (cl:List (Str×Addr)) (A:Around) (outer:List Env) (s:Shared) (H:Hp):Cx where
 prog:=P
 w:=w
 K:=K
 mg:=mg
 base:=base
 A:=A.deeper (envX qual scope s.heap.objs.size f cd cl)
 N:=N
 s₀:=s
 H₀:=H
 env:=envX qual scope s.heap.objs.size f cd cl
 outer:=outer
 stack:=envX qual scope s.heap.objs.size f cd cl :: outer
 ex:=[]
 calm:=true
 fn:=fun _=>false
 pn:=[]
 xe:=fun _ _=>False
structure w9 (H:Hp) (ys:List Str) (va:Str→V) (cl:List (Str×Addr)):Prop where
 has:∀ y∈ys,∃ c,cl.lookup y=some c
 cel:∀ y c,cl.lookup y=some c→y∈ys∧zeM H c (va y)
 inj:∀ y z c,cl.lookup y=some c→cl.lookup z=some c→y=z
section
variable {P:Program} {w:World} {K:ζa} {mg:Str→Option Value} {base:Heap} {x:Str} {ys:List Str} {va:Str→V} {qual:Str} {scope:Scope} {f:Addr} {cd:Value} {cl:List (Str×Addr)} {A:Around} {outer:List Env} {s:Shared} {H:Hp}
theorem zb9 {tk:Nat} (S:wL x ys scope) (hd:A.handled=none) (e0:Env0 P w K mg base A outer s H) (rv:RelV v u) (C:w9 H ys va cl)
  (hns:h1.Ns s.heap.objs.size fun y=>[(x,u)].reverse.lookup y) (hk:∀ b o,s.heap.get? b=some o→h1.get? b=some o) :
  Inv (cxL P w K mg base (x :: ys) qual scope f cd cl A outer s H) [] (some v :: ys.map fun y=>some (va y)) H { s with heap:=h1,toks:=tk }:=by
 have noA:∀ b:Addr,b∉(cxL P w K mg base (x :: ys) qual scope f cd cl A outer s H).ex:=fun b z=>absurd (show b∈([]:List Addr) from z) (by simp)
 have cel:∀ y c,cl.lookup y=some c→∃ u',RelV (va y) u'∧h1.IsCell c (some u'):=fun y c e=>by
  obtain ⟨o,u',e1,e2,e3⟩:=(C.cel y c e).2
  exact ⟨u',e3,o,hk _ _ (e0.hok _ _ e1).1,e2⟩
 refine ⟨⟨e0.mod,S.kind,rfl,rfl,ζh _,fun y z c h1 h2=>C.inj y z c h1 h2,fun y hy=>?_,(fun y c z _=>by cases z),fun _=>hd,Around.frames_deeper e0.frames,.inr ⟨rfl,rfl⟩,fun b z=>absurd z (noA b),e0.bs,e0.bsz,fun b _ _=>noA b,fun b z=>absurd z (noA b),e0.funs,e0.frf,e0.tb⟩,
  rfl,e0.bare,Un.kept hk,⟨_,hns,fun i y v' q1 q2 q3=>?_⟩,fun y c e=>?_,e0.hok.fresh (Nat.le_refl _),fun y c e=>?_,fun p hp=>absurd (show p∈([]:List (Addr×Obj)) from hp) (by simp),e0.hok.kept hk,?_⟩
 ·have hy:scope.names.lookup y=some .cell∨scope.names.lookup y=some .free:=hy
  rcases hy with hy | hy
  ·exact absurd rfl (S.nocell _ (PySem.mem_of_lookup hy))
  ·exact C.has y (S.fre y hy)
 ·have q1:(x :: ys)[i]?=some y:=q1
  cases i with
  | zero =>
   have e1:x=y:=by simpa using q1
   have e2:v=v':=by simpa using q2
   subst e1 e2
   exact ⟨u,rv,.inl ⟨S.par,by show List.lookup x [(x,u)]=_; simp⟩⟩
  | succ i =>
   have q1:ys[i]?=some y:=by simpa using q1
   have q2:(ys.map fun y=>some (va y))[i]?=some (some v'):=by simpa using q2
   rw [ζs,q1] at q2
   have e2:va y=v':=by simpa using q2
   subst e2
   have my:=ζk q1
   obtain ⟨c,hc⟩:=C.has y my
   obtain ⟨u',r',z⟩:=cel y c hc
   exact ⟨u',r',.inr ⟨.inr (S.isf y my),c,hc,z⟩⟩
 ·obtain ⟨u',_,z⟩:=cel y c e
  exact ⟨_,z⟩
 ·obtain ⟨o,_,e1,_⟩:=(C.cel y c e).2
  exact .inr ⟨rfl,o,_,e1⟩
 ·show _=(x :: ys).length
  simp
theorem zat (S:wL x ys scope) (len:∀ vs H Q E,sp vs H Q E→vs.length=1)
  (hsp:∀ vs H Q E,sp vs H Q E→H f=some (knw (kla_obj "<lambda>" qual params body scope cl pm c' ctv))∧Yd H c' qual∧w9 H ys va cl)
  (hbody:∀ (A:Around) (outer:List Env) (s:Shared) (H:Hp) (v:V) (Q:VK) (E:XK),Room k (A.deeper (envX qual scope s.heap.objs.size f (.ref c') cl))→sp [v] H Q E →
   ∃ te,PE (cxL P w K mg base (x :: ys) qual scope f (.ref c') cl A outer s H) body te∧te (some v :: ys.map fun y=>some (va y)) H Q) :
  FnOk P w K mg base CX0 (k + 1) f (kla_fn "<lambda>" qual params body scope cl pm (.ref c') ctv) [x] sp:=by
 refine ⟨fun vs H Q E h=>len vs H Q E h,fun A outer s H args us vs Q E hr e0 hb r hq=>?_⟩
 have hl:=len _ _ _ _ hq
 obtain ⟨v,rfl⟩:∃ v,vs=[v]:=by
  match vs,hl with
  | [v],_=>exact ⟨v,rfl⟩
 obtain ⟨u,rfl,rv⟩:=r.one
 obtain ⟨hf,⟨oc,fcs,t,hc,d1,d2⟩,C⟩:=hsp _ _ _ _ hq
 have lim:s.heap.NoLimit:=e0.mod.nolimit.keeps fun b o e=>(e0.bs b o e).1
 refine kla_callFunE hr.depth (e0.hok _ _ hf).1 rfl S.co S.gen rfl ⟨c',oc,fcs,t,rfl,(e0.hok _ _ hc).1,d1,d2⟩ (hb _ _ _ _ ?_)
 refine wpAny_newFunctionEnv S.nocell (fun y hy=>?_) (fun h₁ hns hsb=>⟨lim.fresh _ hsb,?_⟩) S.kind
 ·have e:y=(x,u):=by simpa using hy
  rw [e]
  exact S.par
 show codeAny _ _ (.expr body (envX qual scope s.heap.objs.size f (.ref c') cl)) _ _
 have hk₁:∀ b o,s.heap.get? b=some o→h₁.get? b=some o:=fun b o e=>hsb.extBut b o (ζw (ζm e)) (ζi _ e)
 obtain ⟨te,ht,hq'⟩:=hbody A outer s H v Q E (hr.deeper _) hq
 refine kla_codeExpr (wpAny_mono (ht [] _ _ H _ (zb9 S hr.hd e0 rv C hns hk₁) hq') (fun u' s' hs=>?_) fun e s' z=>False.elim z)
 obtain ⟨v',H',J,rv',q⟩:=hs
 exact ⟨v',H',J.os,J.bare,J.base,J.hok,rv',q⟩
end
theorem Uo:∀ (l:List Value),TriplesOk l→codeAmong p (l ++ [rawInt i,rawInt j,c])=some v→codeAmong p l=some v∨v=c:=by
 intro l
 fun_induction TriplesOk l with
 | case1 =>
  intro _ h
  simp only [List.nil_append,codeAmong,rawInt] at h
  split at h
  ·cases h; exact .inr rfl
  ·cases h
 | case2 a t b u x rest ih =>
  intro ht h
  simp only [List.cons_append,codeAmong] at h ⊢
  split at h
  ·rename_i hc
   rw [if_pos hc]
   exact .inl h
  ·rename_i hc
   rw [if_neg hc]
   exact ih ht h
 | case3 l h1 h2=>intro h; exact h.elim
def Tf (H H':Hp):Prop:=∀ b,H' b=H b∨H b=none∧∃ o,H' b=some (knw o)
section
variable {X:Cx} {pins:List (Addr×Obj)} {σ:St} {H:Hp} {s:Shared}
theorem Inv.tb (I:Inv X pins σ H s):TbOk X.K H:=I.ok.tb.un I.base
theorem W2 (I:Inv X pins σ H s)
  (hcode:X.env.code=.ref c) (hhd:codeHdIn X.K c P=true) (htab:(P,q)∈yg X.K) (hq:X.env.qual ++ "<lambda>" = q) (hcl:closureFor lsc X.env=pure clos) (hdef:defaultsOf params X.env=([],[]))
  (h:∀ s' H' f c' pm ctv,Inv X pins σ H' s'→Tf H H'→H f=none→H' f=some (knw (kla_obj "<lambda>" q params body lsc clos pm c' ctv))→Yd H' c' q→Q (.ref f) s') :
  wpAny (model X.prog X.w) X.A (eval (.Lambda params body lsc lpos) X.env) Q E s:=by
 obtain ⟨t,more,hP⟩:=I.tb (P,q) htab
 obtain ⟨vs,hPo,ht,hcs⟩:=I.hok P _ hP
 have tag:tagQ (#[.str q t] ++ more)=q:=by
  have e0:(#[Value.str q t] ++ more)[0]?=some (.str q t):=by rw [Array.getElem?_append_left (by simp)]; rfl
  unfold tagQ
  rw [e0]
 have hd:CodeHd s.heap c P:=codeHd_of_K I.kIn hhd
 have hns:s.heap.Ns mainGlobals X.mg:=I.mod.glob.keeps I.bk
 have neP:∀ {b:Addr},H b=none→b≠P:=fun n z=>by rw [z,hP] at n; cases n
 have hbt:s.heap.BuiltinsAt X.mg P:=by
  obtain ⟨bm,ob,b1,b2,b3,b4,b5,b6⟩:=I.mod.bm
  obtain ⟨b3',n⟩:=I.bs bm ob b3
  refine ⟨bm,ob,b1,b2,fun z=>?_,neP n,b3',b4,b5,b6⟩
  obtain ⟨o,es,ep,e,d,_⟩:=hns
  rw [z,e] at b3'; cases b3'; rw [d] at b6; cases b6
 have hgP:mainGlobals≠P:=fun z=>by
  obtain ⟨o,es,ep,e,d,_⟩:=hns
  rw [z,hPo] at e; cases e; cases d
 refine kla_eval hdef ?_
 rw [hq]
 cases hc:codeAmong lpos vs.toList with
 | some cv =>
  obtain ⟨c',oc,fs,t',rfl,k1,k2,k3⟩:=hcs lpos cv hc
  rw [tag] at k3
  refine kla_makeFunctionHit hcl I.ok.glob hns hcode hd hPo ht hc hbt fun ctv h' tk hk hsz=>?_
  have fr:H h'.objs.size=none:=I.hok.fresh hsz
  have ob:(h'.push (kla_obj "<lambda>" q params body lsc clos ((X.mg "__name__").getD .none) c' ctv)).get? h'.objs.size=some _:=ζy _ rfl
  refine h _ (upd H h'.objs.size (knw (kla_obj "<lambda>" q params body lsc clos ((X.mg "__name__").getD .none) c' ctv))) h'.objs.size c' ((X.mg "__name__").getD .none) ctv (I.laid (t':=tk) (fun b u e=>ζi _ (hk b u e)) hsz (ZQ ob)) (fun b=>?_) fr zi ⟨oc,fs,t',by rw [zp (zB k1 fr)]; exact k1,k2,k3⟩
  by_cases e:b=h'.objs.size
  ·subst e; exact .inr ⟨fr,_,zi⟩
  ·exact .inl (zp e)
 | none =>
  refine kla_makeFunction hcl I.ok.glob hns hcode hd hPo ht hc hgP hbt fun c' ctv h' tk hx hge hlt hrec htb=>?_
  obtain ⟨c2,oc,fs,t',e2,hoc,k2,k3⟩:=hrec
  cases e2
  let fo:=kla_obj "<lambda>" q params body lsc clos ((X.mg "__name__").getD .none) c' ctv
  let H1:Hp:=upd (upd H c' (knw oc)) h'.objs.size (knw fo)
  have frc:H c'=none:=I.hok.fresh hge
  have frf:H h'.objs.size=none:=I.hok.fresh (ξ8 (Nat.lt_of_le_of_lt hge hlt))
  have ncf:c'≠h'.objs.size:=ζw hlt
  have at0:∀ b,b≠c'→b≠h'.objs.size→H1 b=H b:=fun b n1 n2=>by show upd _ _ _ b=_; rw [zp n2,zp n1]
  have atc:H1 c'=some (knw oc):=by show upd _ _ _ c'=_; rw [zp ncf,zi]
  have atf:H1 h'.objs.size=some (knw fo):=zi
  have keep1:∀ {b:Addr} {u:HO},H b=some u→H1 b=some u:=fun {b u} e=>by rw [at0 b (zB e frc) (zB e frf)]; exact e
  have ho:∀ b o,b≠P→s.heap.get? b=some o→(h'.push fo).get? b=some o:=fun b o n e=>ζi _ (hx b o n e)
  have lt:∀ {b:Addr} {o:Obj},s.heap.get? b=some o→b≠c'∧b≠h'.objs.size:=fun {b o} e=>by
   have l:=ζm e
   exact ⟨ζw (ζA l hge),ζw (ζA l (ξ8 (Nat.lt_of_le_of_lt hge hlt)))⟩
  have un:Un X.fs [] H H1 s.heap (h'.push fo):=by
   refine ⟨fun b o e n _ _=>ho b o (neP n) e,fun b o e n _ _=>⟨o.slots,ho b o (neP n) e⟩,fun b o e n _=>by rw [at0 b (lt e).1 (lt e).2]; exact n,fun b o e _=>?_,fun b xs e=>keep1 e,fun b o u e=>keep1 e,fun b ps e=>⟨#[],by rw [keep1 e]; simp⟩⟩
   by_cases z:b=P
   ·subst z; exact ⟨_,ζi _ htb⟩
   ·exact ⟨o,ho b o z e⟩
  have hok:HOk X.prog X.w H1 (h'.push fo):=fun b u e=>by
   by_cases z1:b=h'.objs.size
   ·subst z1
    rw [atf] at e; cases e
    exact ZQ (ζy _ rfl)
   ·by_cases z2:b=c'
    ·subst z2
     rw [atc] at e; cases e
     exact ZQ (ζi _ hoc)
    ·rw [at0 b z2 z1] at e
     by_cases z3:b=P
     ·subst z3
      rw [hP] at e; cases e
      refine ⟨vs ++ #[rawInt lpos.line,rawInt lpos.col,.ref c'],ζi _ htb,?_,fun p v z=>?_⟩
      ·rw [Array.toList_append]
       exact TriplesOk_snoc _ _ _ _ ht
      ·rw [Array.toList_append] at z
       rcases Uo _ ht z with y | y
       ·obtain ⟨b1,o1,fs1,t1,y1,y2,y3,y4⟩:=hcs p v y
        exact ⟨b1,o1,fs1,t1,y1,keep1 y2,y3,y4⟩
       ·exact ⟨c',oc,fs,t',y,atc,k2,by rw [tag]; exact k3⟩
     ·refine (I.hok b u e).stay (fun d v hd' y=>ho d v ?_ y) (fun d y=>keep1 y) (fun d xs y=>keep1 y) fun d o' u' y _=>keep1 y
      rcases hd' with rfl | hd'
      ·exact z3
      ·intro y; rw [y,hP] at hd'; cases hd'
  refine h _ H1 h'.objs.size c' ((X.mg "__name__").getD .none) ctv (I.un (t':=tk) un hok) (fun b=>?_) frf atf ⟨oc,fs,t',atc,k2,k3⟩
  by_cases z1:b=h'.objs.size
  ·subst z1; exact .inr ⟨frf,_,atf⟩
  ·by_cases z2:b=c'
   ·subst z2; exact .inr ⟨frc,_,atc⟩
   ·exact .inl (at0 b z2 z1)
end
def tGL (te:TE) (params:Arguments) (body:Expr) (lsc:Scope) (q:Str) (caps:List (Str×Nat)) (sp:Sp):TE:=fun σ H Q=>te σ H fun v1 H1=>∃ va:Str→V,(∀ p∈caps,σ[p.2]?=some (some (va p.1))) ∧
 ∀ (cl:List (Str×Addr)) (f c':Addr) (pm ctv:Value) (H2:Hp),Tf H1 H2→H1 f=none→H2 f=some (knw (kla_obj "<lambda>" q params body lsc cl pm c' ctv))→Yd H2 c' q→w9 H2 (caps.map (·.1)) va cl →
  sp [v1,.ref f] H2 (fun v H3=>∀ H4:Hp,(∀ b,H4 b=H3 b∨H4 b=none∧H1 b=none∧∃ o,H2 b=some (knw o))→Q v H4) E0
section
variable {X:Cx} {k:Nat} {ps:List Str} {sp:Sp} {g:Str} {p cpos lpos:Pos} {e:Expr} {te:TE} {params:Arguments} {body:Expr} {lsc:Scope} {q:Str} {c P:Addr} {clos:List (Str×Addr)} {caps:List (Str×Nat)}
theorem ui (C:zz X.prog X.w X.K X.mg X.base CX0 g ps k sp) (hr:Room k X.A) (hg:Gl X g) (he:PE X e te) (hcode:X.env.code=.ref c) (hhd:codeHdIn X.K c P=true) (htab:(P,q)∈yg X.K) (hq:X.env.qual ++ "<lambda>" = q)
  (hcl:closureFor lsc X.env=pure clos) (hdef:defaultsOf params X.env=([],[])) (hN:∀ p∈caps,X.N[p.2]?=some p.1∧X.env.scope.names.lookup p.1=some .cell) (hk1:∀ p∈clos,p.1∈caps.map (·.1)∧X.env.cells.lookup p.1=some p.2) (hk2:∀ p∈caps,(clos.lookup p.1).isSome=true) (hfn:∀ y,X.fn y=true)
  (hdb:(g == ("__debug__" : Str))=false:=by decide) (hs1:starEach [e,.Lambda params body lsc lpos] X.env=(false,eval e X.env) :: starEach [.Lambda params body lsc lpos] X.env:=by rfl) (hpl:(backTo cpos (starEach [.Lambda params body lsc lpos] X.env)).any (·.1)=false:=by rfl) :
  PE X (.Call (.Name g p) [e,.Lambda params body lsc lpos] [] cpos) (tGL te params body lsc q caps sp):=by
 intro pins s σ H Q I h
 obtain ⟨f0,fd,F,hm,hk,hb⟩:=C.ex
 refine wpAny_Call_Name_kw (XZ I hg hm ?_ hdb)
 refine callWith_K (h₀:=X.base) I.ok.mod.kin hk ?_ hs1 hpl
 rw [hs1]
 show wpAny _ _ (spliced ((false,eval e X.env) :: backTo cpos (starEach [.Lambda params body lsc lpos] X.env))) _ _ s
 refine Calls.spliced_cons (thn (he pins s σ H _ I h) fun u1 s1 ⟨v1,H1,I1,r1,va,hva,hsp⟩=>?_)
 show wpAny _ _ (spliced ((false,eval (.Lambda params body lsc lpos) X.env) :: backTo cpos (starEach [] X.env))) _ _ s1
 refine Calls.spliced_cons (W2 I1 hcode hhd htab hq hcl hdef fun s2 Ha f c' pm ctv I2 up frf hf hcd=>?_)
 refine Calls.spliced_nil ?_
 refine ⟨I2.kIn,?_⟩
 have cel:∀ y b,(y,b)∈clos→Ha b=none∧X.env.cells.lookup y=some b∧y∈caps.map (·.1)∧∃ o u,s2.heap.get? b=some o∧o.data=.cell (some u)∧RelV (va y) u:=fun y b hy=>by
  obtain ⟨m1,m2⟩:=hk1 (y,b) hy
  obtain ⟨pp,hp,e1⟩:=ζn.mp m1
  have e1:pp.1=y:=e1
  have n:=hN pp hp
  have vv:=hva pp hp
  rw [e1] at n vv
  have fr:Ha b=none:=(I2.freeC y b m2).elim (fun z=>z) fun z=>by rw [hfn y] at z; cases z.1
  obtain ⟨m,hn,hl⟩:=id I2.loc
  obtain ⟨u,ru,lk⟩:=hl pp.2 y (va y) n.1 vv (.inr (.inl n.2))
  refine ⟨fr,m2,m1,?_⟩
  rcases lk with ⟨z,_⟩ | ⟨_,b2,z2,o,z3,z4⟩
  ·have z':X.env.scope.names.lookup y=some .local:=z
   rw [n.2] at z'; cases z'
  ·rw [m2] at z2; cases z2
   exact ⟨o,u,z3,z4,ru⟩
 let cs:List Addr:=clos.map (·.2)
 have inC:∀ {b:Addr},b∈cs→∃ y,(y,b)∈clos:=fun {b} hb=>by
  obtain ⟨⟨y,b'⟩,h1,h2⟩:=ζn.mp hb
  have:b'=b:=h2
  subst this
  exact ⟨y,h1⟩
 have frC:∀ {b:Addr},b∈cs→Ha b=none:=fun hb=>let ⟨y,hy⟩:=inC hb; (cel y _ hy).1
 let H2:Hp:=fun b=>if b∈cs then (s2.heap.get? b).map knw else Ha b
 have h2n:∀ {b:Addr},b∉cs→H2 b=Ha b:=fun hb=>if_neg hb
 have h2c:∀ {b:Addr},b∈cs→∃ y o u,(y,b)∈clos∧s2.heap.get? b=some o∧H2 b=some (knw o)∧o.data=.cell (some u)∧RelV (va y) u:=fun {b} hb=>by
  obtain ⟨y,hy⟩:=inC hb
  obtain ⟨_,_,_,o,u,z1,z2,z3⟩:=cel y b hy
  exact ⟨y,o,u,hy,z1,by show (if b∈cs then _ else _)=_; rw [if_pos hb,z1]; rfl,z2,z3⟩
 have nC:∀ {b:Addr} {x:HO},Ha b=some x→b∉cs:=fun {b x} hx hb=>by rw [frC hb] at hx; cases hx
 have keep2:∀ {b:Addr} {x:HO},Ha b=some x→H2 b=some x:=fun hx=>by rw [h2n (nC hx)]; exact hx
 have hok2:HOk X.prog X.w H2 s2.heap:=fun b x hx=>by
  by_cases hb:b∈cs
  ·obtain ⟨_,o,u,_,z1,z2,_⟩:=h2c hb
   rw [z2] at hx; cases hx
   exact ZQ z1
  ·rw [h2n hb] at hx
   exact (I2.hok b x hx).stay (fun _ _ _ z=>z) (fun _ z=>keep2 z) (fun _ _ z=>keep2 z) fun _ _ _ z _=>keep2 z
 have big:∀ {b:Addr},b∈cs→X.s₀.heap.objs.size≤b∧b≠X.env.locals:=fun {b} hb=>by
  obtain ⟨y,hy⟩:=inC hb
  obtain ⟨_,m2,_⟩:=cel y b hy
  exact ⟨I2.ok.cab y b (hfn y) m2,I2.cne y b m2⟩
 have e0:Env0 X.prog X.w X.K X.mg X.base X.A X.stack s2 H2:=by
  have e:=I2.env0
  refine ⟨e.frames,e.mod,fun b o z=>⟨(e.bs b o z).1,?_⟩,e.bsz,e.funs,fun b hb=>?_,hok2,e.bare,fun p hp=>?_⟩
  ·rw [h2n fun hb=>absurd (ζA (ζm (I2.ok.bs b o z).1) (big hb).1) (ζS _)]
   exact (e.bs b o z).2
  ·rw [h2n fun hc=>?_]
   ·exact e.frf b hb
   ·rcases ζz.mp (I2.stkSub b hb) with z | z
    ·exact (big hc).2 z
    ·obtain ⟨_,o,ho,_⟩:=I2.ok.funs.mem z
     exact absurd (ζA (ζm ho) (big hc).1) (ζS _)
  ·obtain ⟨t,m,z⟩:=e.tb p hp
   exact ⟨t,m,keep2 z⟩
 have kup:Tf H1 H2:=fun b=>by
  by_cases hb:b∈cs
  ·obtain ⟨_,o,_,_,_,z2,_⟩:=h2c hb
   refine .inr ⟨?_,o,z2⟩
   rcases up b with z | ⟨z,_⟩
   ·rw [← z]; exact frC hb
   ·exact z
  ·rw [h2n hb]; exact up b
 have lkm:∀ {y:Str} {b:Addr},clos.lookup y=some b→(y,b)∈clos:=fun e=>PySem.mem_of_lookup e
 have clo:w9 H2 (caps.map (·.1)) va clos:=by
  refine ⟨fun y hy=>?_,fun y b hy=>?_,fun y z b hy hz=>?_⟩
  ·obtain ⟨pp,hp,e1⟩:=ζn.mp hy
   have e1:pp.1=y:=e1
   have:=hk2 pp hp
   rw [e1] at this
   exact ζX.mp this
  ·obtain ⟨_,_,m1,o,u,z1,z2,z3⟩:=cel y b (lkm hy)
   have hb:b∈cs:=ζn.mpr ⟨(y,b),lkm hy,rfl⟩
   refine ⟨m1,o,u,?_,z2,z3⟩
   show (if b∈cs then _ else _)=_
   rw [if_pos hb,z1]; rfl
  ·exact I2.ok.inj y z b (cel y b (lkm hy)).2.1 (cel z b (lkm hz)).2.1
 have cod2:Yd H2 c' q:=let ⟨o,fs,t,z1,z2,z3⟩:=hcd; ⟨o,fs,t,keep2 z1,z2,z3⟩
 have sq:=hsp clos f c' pm ctv H2 kup frf (keep2 hf) cod2 clo
 have hl:[u1,Value.ref f].length=ps.length:=F.len _ _ _ _ sq
 have bt:=hb s2 [u1,.ref f] I2.kIn (by rw [ζG]; exact hl)
 rw [ζG] at bt
 refine wpAny_call (codeAny_mono (F.run X.A X.stack s2 H2 ⟨[u1,.ref f],[]⟩ [u1,.ref f] [v1,.ref f] _ _ hr e0 bt (.cons r1 (.cons rfl .nil)) sq) fun rs s3 hq3=>?_)
 cases rs with
 | error e'=>exact False.elim hq3
 | ok fl =>
  cases fl with
  | next=>exact False.elim hq3
  | brk=>exact False.elim hq3
  | cont=>exact False.elim hq3
  | ret u =>
   obtain ⟨v,H3,os,bare,un,hok3,rv,q3⟩:=hq3
   let H4:Hp:=fun b=>if b∈cs then none else H3 b
   have h4n:∀ {b:Addr},b∉cs→H4 b=H3 b:=fun hb=>if_neg hb
   have h3c:∀ {b:Addr},b∈cs→∃ o u',s2.heap.get? b=some o∧H3 b=some (knw o)∧o.data=.cell (some u'):=fun {b} hb=>by
    obtain ⟨_,o,u',_,z1,z2,z3,_⟩:=h2c hb
    exact ⟨o,u',z1,un.frzs _ _ _ z2,z3⟩
   have un4:Un (frs X.stack) [] Ha H4 s2.heap s3.heap:=by
    refine ⟨fun b o z n hb _=>?_,fun b o z n hb _=>?_,fun b o z n _=>?_,fun b o z hx=>un.there b o z hx,fun b xs z=>?_,fun b o u z=>?_,fun b ps' z=>?_⟩
    ·by_cases hc:b∈cs
     ·obtain ⟨o',_,y1,y2,_⟩:=h3c hc
      rw [z] at y1; cases y1
      exact (hok3 b _ y2).1
     ·exact un.keep b o z (by rw [h2n hc]; exact n) hb (by simp)
    ·by_cases hc:b∈cs
     ·obtain ⟨o',_,y1,y2,_⟩:=h3c hc
      rw [z] at y1; cases y1
      exact ⟨o.slots,(hok3 b _ y2).1⟩
     ·exact un.slot b o z (by rw [h2n hc]; exact n) hb (by simp)
    ·by_cases hc:b∈cs
     ·exact if_pos hc
     ·rw [h4n hc]; exact un.free b o z (by rw [h2n hc]; exact n) (by simp)
    ·rw [h4n (nC z)]; exact un.tups b xs (keep2 z)
    ·rw [h4n (nC z)]; exact un.frzs b o u (keep2 z)
    ·obtain ⟨m,y⟩:=un.tbls b ps' (keep2 z)
     exact ⟨m,by rw [h4n (nC z)]; exact y⟩
   have hok4:HOk X.prog X.w H4 s3.heap:=fun b x hx=>by
    have hb:b∉cs:=fun hc=>by rw [show H4 b=none from if_pos hc] at hx; cases hx
    rw [h4n hb] at hx
    have nc3:∀ {d:Addr} {y:HO},H3 d=some y→(∀ o u,y≠.frz o u)→d∉cs:=fun {d y} hd' hn hc=>by
     obtain ⟨o,_,_,z,_⟩:=h3c hc
     rw [hd'] at z; cases z
     exact hn _ _ rfl
    refine (hok3 b x hx).stay (fun _ _ _ z=>z) (fun d z=>?_) (fun d xs z=>?_) fun d o' u' z nd=>?_
    ·rw [h4n (nc3 z fun _ _ y=>by cases y)]; exact z
    ·rw [h4n (nc3 z fun _ _ y=>by cases y)]; exact z
    ·rw [h4n fun hc=>by
      obtain ⟨o,u2,_,y,y2⟩:=h3c hc
      rw [z] at y; cases y
      exact nd _ y2]
     exact z
   refine ⟨v,H4,I2.call' os un4 hok4 bare (ch:=[]) (fun _ z=>nomatch z),rv,q3 H4 fun b=>?_⟩
   by_cases hc:b∈cs
   ·obtain ⟨_,o,_,_,_,z2,_⟩:=h2c hc
    refine .inr ⟨if_pos hc,?_,o,z2⟩
    rcases up b with z | ⟨z,_⟩
    ·rw [← z]; exact frC hc
    ·exact z
   ·exact .inl (h4n hc)
end
def tFnL (i:Nat) (a:Addr) (sp:Sp) (t:TA):TE:=fun σ H Q=>σ[i]?=some (some (.ref a))∧t σ H fun vs H1=>(∃ nm q params body lsc cl pm c' ctv,H1 a=some (knw (kla_obj nm q params body lsc cl pm c' ctv)))∧sp vs H1 Q E0
section
variable {X:Cx} {k:Nat} {ps:List Str} {sp:Sp} {x:Str} {p pos:Pos} {e:Expr} {es:List Expr} {t:TA}
theorem Q2 (i:Nat) (F:FnOk X.prog X.w X.K X.mg X.base CX0 k a fd ps sp) (hb:xg X.K fd ps []) (hr:Room k X.A) (ha:PA X (e :: es) t)
  (hN:X.N[i]?=some x:=by rfl) (hv:Vis X.env.scope x:=by first | exact Or.inl rfl | exact Or.inr (.inl rfl) | exact Or.inr (.inr rfl)) (hd:(x == ("__debug__" : Str))=false:=by decide) (hcd:(x == ("__classdict__" : Str))=false:=by decide)
  (he:starEach (e :: es) X.env=(false,eval e X.env) :: starEach es X.env:=by rfl) (hpl:(backTo pos (starEach es X.env)).any (·.1)=false:=by rfl) :
  PE X (.Call (.Name x p) (e :: es) [] pos) (tFnL i a sp t):=by
 intro pins s σ H Q I h
 obtain ⟨hs,h⟩:=h
 refine wpAny_Call_Name_kw (thn (QZ (X:=X) (i:=i) (pos:=p) hN hv hd hcd pins s σ H (fun v H'=>v=.ref a∧H'=H) I ⟨_,hs,rfl,rfl⟩) fun u s1 ⟨v,H',I1,r1,ev,eH⟩=>?_)
 subst ev eH
 cases (show u=Value.ref a from r1)
 have key:wpAny (model X.prog X.w) X.A (spliced (backTo pos (starEach (e :: es) X.env))) (fun us s2=>(∃ nm q params body lsc cl pm c' ctv,s2.heap.get? a=some (kla_obj nm q params body lsc cl pm c' ctv))∧wpAny (model X.prog X.w) X.A (call (.ref a) ([] ++ us)) (EP X pins σ Q) X.xe s2) X.xe s1 :=
  thn (ha pos pins s1 σ _ _ I1 h) fun us s2 ⟨vs,H1,I2,r,⟨nm,q,params,body,lsc,cl,pm,c',ctv,ho⟩,hq⟩=>⟨⟨nm,q,params,body,lsc,cl,pm,c',ctv,(I2.hok _ _ ho).1⟩,QC F hr hb .nil zcZ I2 r (by rw [ζG]; exact hq)⟩
 rw [he] at key ⊢
 refine callWith_of (P:=fun h=>∃ nm q params body lsc cl pm c' ctv,h.get? a=some (kla_obj nm q params body lsc cl pm c' ctv)) (by show ((false || (backTo pos (starEach es X.env)).any (·.1)) || false)=false; rw [hpl]; rfl) (fun h ⟨nm,q,params,body,lsc,cl,pm,c',ctv,ho⟩=>⟨.frame,.inl rfl,(Looks.ld (part:=none) ho).andThen .now⟩) (Calls.evalArgs_plain key)
end
end L2
namespace PD
open PySem L2 PySem.W
section
variable {P:Program} {w:World} {K:ζa} {mg:Str→Option Value} {base:Heap} {S S':Sx} {κ κ':Bool} {Γ Γ' Γ'':Ctx}
def LamD (P:Program) (w:World) (K:ζa) (mg:Str→Option Value) (base:Heap) (kk:Nat) (p1:PyData→PyData→Prop) (F:Hp) (a:Addr):Prop:=∃ fd x spl nm q params body lsc cl pm c' ctv,FnOk P w K mg base CX0 kk a fd [x] spl∧xg K fd [x] []∧F a=some (knw (kla_obj nm q params body lsc cl pm c' ctv)) ∧
 ∀ (H' F':Hp) (v:V) (d r:PyData) (Q:VK),Same F F'→Same F' H'→Dp K F' v d→p1 d r→(∀ v' H'' F'',Gr H' F' H'' F''→Rp K false .fresh H' F'' v' r→Q v' H'')→spl [v] H' Q E0
def spG (P:Program) (w:World) (K:ζa) (mg:Str→Option Value) (base:Heap) (kk:Nat) (pre:List PyData→(PyData→PyData→Prop)→PyData→Prop):Sp:=fun vs H Q _=>∃ F ds d us a p1,vs=us ++ [.ref a]∧Same F H∧zO K F us ds∧LamD P w K mg base kk p1 F a∧pre ds p1 d∧∀ v H' F',Gr H F H' F'→Rp K true .fresh H F' v d→Q v H'
theorem zbs (h:∀ ds p1 d,pre ds p1 d→ds.length=n) (s:spG P w K mg base kk pre vs H Q E):vs.length=n + 1:=by
 obtain ⟨F,ds,d,us,a,p1,rfl,_,k,_,p,_⟩:=s
 rw [ζf,zO.length k,h ds p1 d p]
 rfl
def spLm (K:ζa) (f c':Addr) (o:Obj) (q:Str) (ys:List Str) (va:Str→V) (dc:Str→PyData) (cl:List (Str×Addr)) (p1:PyData→PyData→Prop):Sp:=fun vs H Q _=>∃ v F d r,vs=[v]∧H f=some (knw o)∧Yd H c' q∧w9 H ys va cl∧Same F H∧Dp K F v d∧(∀ y∈ys,Dp K F (va y) (dc y))∧p1 d r ∧
 ∀ v' H' F',Gr H F H' F'→Rp K false .fresh H F' v' r→Q v' H'
theorem zaW {H F:Hp} {v:V} {d:PyData} {va:Str→V} {dc:Str→PyData} {ys:List Str} (le:Same F H) (hd:Dp K F v d) (hc:∀ y∈ys,Dp K F (va y) (dc y)):DEnv K .fresh H F H F (some v :: ys.map fun y=>some (va y)) (some (.fz false d) :: ys.map fun y=>some (.fz false (dc y))):=by
 have no:∀ (i:Nat) (x:DV),(some (.fz false d) :: ys.map fun y=>some (.fz false (dc y)):Ctx)[i]?=some (some x)→∃ u e,(some v :: ys.map fun y=>some (va y):St)[i]?=some (some u)∧x=.fz false e∧Dp K F u e:=fun i x h=>by
  cases i with
  | zero=>exact ⟨v,d,rfl,by simpa using h.symm,hd⟩
  | succ i =>
   have h:(ys.map fun y=>some (DV.fz false (dc y)))[i]?=some (some x):=by simpa using h
   rw [ζs] at h
   cases e:ys[i]? with
   | none=>rw [e] at h; cases h
   | some y =>
    rw [e] at h
    refine ⟨va y,dc y,by simp [e],by simpa using h.symm,hc y (List.mem_of_getElem? e)⟩
 refine ⟨.refl le,le,fun a h=>?_,fun T z=>(nomatch z),by simp,fun i x h=>?_,fun i j x y v w a h1 h2 _ _ o1 _=>?_⟩
 ·cases e:H a with
  | none=>exact absurd e h
  | some o=>exact ⟨o,rfl⟩
 ·obtain ⟨u,e,q1,rfl,q2⟩:=no i x h
  exact ⟨u,q1,uc q2⟩
 ·obtain ⟨u,e,_,rfl,_⟩:=no i x h1
  exact o1.elim
theorem zdP {k:Nat} (S:wL x ys lsc)
  (hp:∀ (A:Around) (outer:List Env) (s:Shared) (H:Hp),Room k (A.deeper (envX qual lsc s.heap.objs.size f (.ref c') cl))→PE (cxL P w K mg base (x :: ys) qual lsc f (.ref c') cl A outer s H) body te)
  (hE:∀ d r,p1 d r→EvE K .fresh false te (some (.fz false d) :: ys.map fun y=>some (.fz false (dc y))) r) :
  FnOk P w K mg base CX0 (k + 1) f (kla_fn "<lambda>" qual params body lsc cl pm (.ref c') ctv) [x] (spLm K f c' (kla_obj "<lambda>" qual params body lsc cl pm c' ctv) qual ys va dc cl p1):=by
 refine zat (va:=va) S (fun vs H Q E h=>?_) (fun vs H Q E h=>?_) fun A outer s H v Q E hr h=>?_
 ·obtain ⟨v,_,_,_,rfl,_⟩:=h
  rfl
 ·obtain ⟨v,_,_,_,_,h1,h2,h3,_⟩:=h
  exact ⟨h1,h2,h3⟩
 ·obtain ⟨v',F,d,r,ev,_,_,_,le,hd,hc,hp1,q⟩:=h
  cases ev
  refine ⟨te,hp A outer s H hr,hE d r hp1 H F H F _ (zaW le hd hc) _ fun u H' F' g p=>q u H' F' g p⟩
theorem UE {R:Str×Nat→V→Prop}:∀ (caps:List (Str×Nat)),(caps.map (·.1)).Nodup→(∀ p∈caps,∃ u,R p u)→∃ va:Str→V,∀ p∈caps,R p (va p.1)
 | [],_,_=>⟨fun _=>.non,fun _ h=>(nomatch h)⟩
 | p :: r,nd,h=>by
  obtain ⟨nd1,nd2⟩:=ζU.mp nd
  obtain ⟨va,hv⟩:=UE r nd2 fun q hq=>h q (ζr _ hq)
  obtain ⟨u,hu⟩:=h p ζj
  refine ⟨fun y=>if y=p.1 then u else va y,fun q hq=>?_⟩
  rcases ζz.mp hq with rfl | hq
  ·show R q (if q.1=q.1 then u else _)
   rw [if_pos rfl]; exact hu
  ·show R q (if q.1=p.1 then u else _)
   rw [if_neg (show ¬ q.1=p.1 from fun z=>nd1 (show p.1∈r.map (·.1) by rw [← z]; exact ζn.mpr ⟨q,hq,rfl⟩))]
   exact hv q hq
theorem ut {kk:Nat} {pre:List PyData→(PyData→PyData→Prop)→PyData→Prop} {t1:TE} {d1 d:PyData} {params:Arguments} {body:Expr} {lsc:Scope} {q:Str} {caps:List (Str×Nat)} {dc:Str→PyData} {p1:PyData→PyData→Prop} {x:Str} {te:TE}
  (h1:EvE K S false t1 Γ d1) (hc:∀ p∈caps,∃ κ,Γ[p.2]?=some (some (.fz κ (dc p.1)))) (SL:wL x (caps.map (·.1)) lsc) (hb:∀ cl pm c' ctv,xg K (kla_fn "<lambda>" q params body lsc cl pm (.ref c') ctv) [x] [])
  (hp:∀ (f c':Addr) (cl:List (Str×Addr)),(∀ y∈caps.map (·.1),(cl.lookup y).isSome=true)→∀ (A:Around) (outer:List Env) (s:Shared) (H:Hp),Room kk (A.deeper (envX q lsc s.heap.objs.size f (.ref c') cl))→PE (cxL P w K mg base (x :: caps.map (·.1)) q lsc f (.ref c') cl A outer s H) body te)
  (hE:∀ d r,p1 d r→EvE K .fresh false te (some (.fz false d) :: (caps.map (·.1)).map fun y=>some (.fz false (dc y))) r) (hpre:pre [d1] p1 d) :
  EvE K S κ (tGL t1 params body lsc q caps (spG P w K mg base (kk + 1) pre)) Γ d:=fun H0 F0 H F σ e Q qq =>
 h1 H0 F0 H F σ e _ fun v1 H1 F1 g1 r1=>by
  classical
  have e1:=e.mono g1
  obtain ⟨va,hva⟩:=UE (R:=fun p u=>σ[p.2]?=some (some u)∧Dp K F1 u (dc p.1)) caps (ζU.mp SL.nd).2 fun p hp=>by
   obtain ⟨κ2,z⟩:=hc p hp
   obtain ⟨u,z1,z2⟩:=e1.has _ _ z
   exact ⟨u,z1,yW z2⟩
  refine ⟨va,fun p hp=>(hva p hp).1,fun cl f c' pm ctv H2 kup frf hf hcd clo=>?_⟩
  have s12:Same H1 H2:=fun b o z=>by
   rcases kup b with y | ⟨y,_⟩
   ·rw [y]; exact z
   ·rw [y] at z; cases z
  let isL:Addr→Prop:=fun b=>b=f∨b=c'∨∃ y,cl.lookup y=some b
  have knL:∀ {b:Addr},isL b→∃ o,H2 b=some (knw o):=fun {b} z=>by
   rcases z with rfl | rfl | ⟨y,z⟩
   ·exact ⟨_,hf⟩
   ·obtain ⟨o,_,_,z,_⟩:=hcd; exact ⟨o,z⟩
   ·obtain ⟨o,_,z,_⟩:=(clo.cel y b z).2; exact ⟨o,z⟩
  let F2:Hp:=fun b=>if F1 b=none∧isL b then H2 b else F1 b
  have f12:Same F1 F2:=fun b o z=>by
   show (if F1 b=none∧isL b then _ else _)=_
   rw [if_neg fun c=>by rw [c.1] at z; cases z]; exact z
  have le2:Same F2 H2:=fun b o z=>by
   have z:(if F1 b=none∧isL b then H2 b else F1 b)=some o:=z
   split at z
   ·exact z
   ·exact s12 _ _ (g1.le _ _ z)
  have atL:∀ {b:Addr},isL b→F2 b=H2 b:=fun {b} hL=>by
   cases z:F1 b with
   | none=>show (if F1 b=none∧isL b then _ else _)=_; rw [if_pos ⟨z,hL⟩]
   | some o=>rw [f12 _ _ z,s12 _ _ (g1.le _ _ z)]
  have out2:∀ {b:Addr},F1 b=none→(∃ o,F2 b=some (knw o))∨F2 b=none:=fun {b} z=>by
   by_cases hL:isL b
   ·obtain ⟨o,y⟩:=knL hL
    exact .inl ⟨o,by rw [atL hL]; exact y⟩
   ·exact .inr (by show (if F1 b=none∧isL b then _ else _)=_; rw [if_neg fun c=>hL c.2]; exact z)
  have lam:LamD P w K mg base (kk + 1) p1 F2 f:=by
   refine ⟨_,x,_, "<lambda>", q,params,body,lsc,cl,pm,c',ctv,zdP (va:=va) (dc:=dc) SL (hp f c' cl fun y hy=>by obtain ⟨c,z⟩:=clo.has y hy; rw [z]; rfl) hE,hb cl pm c' ctv,by rw [atL (.inl rfl)]; exact hf,fun H' F' v d0 r0 Q0 s1 s2 hd hpp k=>?_⟩
   have at':∀ {b:Addr} {o:Obj},isL b→H2 b=some (knw o)→H' b=some (knw o):=fun {b o} hL z=>s2 _ _ (s1 _ _ (by rw [atL hL]; exact z))
   refine ⟨v,F',d0,r0,rfl,at' (.inl rfl) hf,?_,⟨clo.has,fun y b z=>?_,clo.inj⟩,s2,hd,fun y hy=>?_,hpp,k⟩
   ·obtain ⟨o,fs,t,z,z2⟩:=hcd
    exact ⟨o,fs,t,at' (.inr (.inl rfl)) z,z2⟩
   ·obtain ⟨m,o,u,z1,z2⟩:=clo.cel y b z
    exact ⟨m,o,u,at' (.inr (.inr ⟨y,z⟩)) z1,z2⟩
   ·obtain ⟨pp,hpp',rfl⟩:=ζn.mp hy
    exact yT (f12.trans s1) (hva pp hpp').2
  refine ⟨F2,[d1],d,[v1],f,p1,rfl,le2,.cons (yT f12 (yW r1)) .nil,lam,hpre,fun v H3 F3 g3 p3 H4 h4=>?_⟩
  let F4:Hp:=fun b=>if H2 b≠none∧F1 b=none then none else F3 b
  have f4:∀ {b:Addr} {o:HO},F4 b=some o→F3 b=some o∧¬ (H2 b≠none∧F1 b=none):=fun {b o} z=>by
   have z:(if H2 b≠none∧F1 b=none then none else F3 b)=some o:=z
   split at z
   ·cases z
   ·rename_i c; exact ⟨z,c⟩
  have f4':∀ {b:Addr} {o:HO},F3 b=some o→¬ (H2 b≠none∧F1 b=none)→F4 b=some o:=fun {b o} z c=>by
   show (if H2 b≠none∧F1 b=none then none else F3 b)=some o
   rw [if_neg c]; exact z
  have g4:Gr H1 F1 H4 F4:=by
   refine ⟨fun b o z=>?_,fun b o z=>f4' (g3.f _ _ (f12 _ _ z)) (fun c=>by rw [c.2] at z; cases z),fun b o z=>?_,fun b o z n=>?_⟩
   ·rcases h4 b with y | ⟨_,y,_⟩
    ·rw [y]; exact g3.h _ _ (s12 _ _ z)
    ·rw [y] at z; cases z
   ·obtain ⟨z1,z2⟩:=f4 z
    rcases h4 b with y | ⟨_,y,o',y'⟩
    ·rw [y]; exact g3.le _ _ z1
    ·exact absurd ⟨by rw [y']; simp,g1.le.free y⟩ z2
   ·show (if H2 b≠none∧F1 b=none then none else F3 b)=none
    rw [if_pos ⟨by rw [s12 _ _ z]; simp,n⟩]
  have hln:∀ a xs,LN K true .fresh H2 F3 a xs→LN K true S H0 F4 a xs:=fun a xs z=>⟨f4' z.1 fun c=>z.2 (show H2 a≠none from c.1),fun cc=>by
   obtain ⟨u,hu⟩:=e1.sd a cc
   exact z.2 (by show H2 a≠none; rw [s12 _ _ hu]; simp)⟩
  refine qq v H4 F4 (g1.trans g4) (uB (κ:=true) (fun _=>rfl) (xS (κ:=true) (κ':=true) hln (fun a xs z=>?_) p3))
  ·have tp:∀ {o:HO},F3 a=some o→(∀ ob,o≠knw ob)→F4 a=some o:=fun {o} y ne=>f4' y fun c=>by
    rcases out2 c.2 with ⟨ob,w1⟩ | w1
    ·have:=g3.f _ _ w1
     rw [y] at this; cases this
     exact ne _ rfl
    ·cases w2:H2 a with
     | none=>exact c.1 w2
     | some o2=>rw [g3.ap _ _ w2 w1] at y; cases y
   rcases z with (z | ⟨o,z⟩) | z
   ·exact .inl (.inl (tp z fun ob y=>by cases y))
   ·exact .inl (.inr ⟨o,tp z fun ob y=>by cases y⟩)
   ·exact .inr z
theorem zaL {kk:Nat} {fd:FuncData} {x:Str} 
  (hΓ:GetC Γ i (.xp φ)) (hφ:∀ F1 v,φ F1 v→v=.ref a∧(∃ nm q params body lsc cl pm c' ctv,F1 a=some (knw (kla_obj nm q params body lsc cl pm c' ctv)))∧∀ (H' F':Hp) (v:V) (Q:VK),Same F1 F'→Same F' H'→Dp K F' v d→(∀ v' H'' F'',Gr H' F' H'' F''→Rp K false .fresh H' F'' v' r→Q v' H'')→spl [v] H' Q E0)
  (h:EvE K S false t Γ d):EvE K S false (tFnL i a spl (zR t tNil)) Γ r:=fun H0 F0 H F σ e Q q=>by
 obtain ⟨v,hv,F1,s1,hf⟩:=e.has i _ hΓ.eq
 obtain ⟨rfl,⟨nm,q',params,body,lsc,cl,pm,c',ctv,ho⟩,pr⟩:=hφ F1 v hf
 refine ⟨hv,h H0 F0 H F σ e _ fun u H1 F2 g1 p1=>⟨⟨nm,q',params,body,lsc,cl,pm,c',ctv,g1.le _ _ (g1.f _ _ (s1 _ _ ho))⟩,pr H1 F2 u Q (s1.trans g1.f) g1.le (yW p1) fun v' H'' F'' g2 p2=>q v' H'' F'' (g1.trans g2) (uc (yW p2))⟩⟩
end
end PD
namespace L2
open PySem PySem.Spec PyProof.Rows PySem.W
def t5 (K:Frag) (f:Addr) (x:Str):Bool:=match K.lookup f with
 | some ⟨_,_,.func fd,_⟩=>(match fd.code with
  | .ref c=>(match (K.lookup c).bind Qn with
   | some (P,q)=>codeHdIn K c P && decide (q=x ++ ".<locals>.<lambda>")
   | none=>false)
  | _=>false)
 | _=>false
theorem uj [BEq α] [LawfulBEq α]:∀ {l:List (α×β)} {a:α} {b:β},l.lookup a=some b→(a,b)∈l
 | (x,y) :: l,a,b,h=>by
  rw [ξg] at h
  split at h
  ·rename_i e
   have:=eq_of_beq e
   cases h
   rw [this]
   exact ζj
  ·exact ζr _ (uj h)
section
variable {P:Program} {w:World} {K:ζa} {mg:Str→Option Value} {base:Heap}
theorem Fun.okL {x qual:Str} {st:Stmt} {f:Addr} {fd:FuncData} {N ps:List Str} {k:Nat} {sp:Sp} (F:Fun K x qual st f fd) (L:t5 K f qual=true) (S:zA N ps (zo st)) (len:∀ vs H Q E,sp vs H Q E→vs.length=ps.length)
  (hbody:∀ (c T:Addr) (A:Around) (outer:List Env) (s:Shared) (H:Hp) (vs:List V) (Q:VK) (E:XK),codeHdIn K c T=true→(T,qual ++ ".<locals>.<lambda>")∈yg K→Room k (A.deeper (envOfC qual (zo st) s.heap.objs.size f (.ref c)))→sp vs H Q E →
   ∃ t,PSs (cxOf CX0 P w K mg base N qual (zo st) f (.ref c) A outer s H E).nox (xB st) t∧t { nx:=fun _ H'=>Q .non H',rt:=Q } (start N vs) H):FnOk P w K mg base CX0 (k + 1) f fd ps sp:=by
 obtain ⟨oc,od,kV,doc,pm,an,cdv,ct,osl,rfl,lk,hcd⟩:=F.ex
 unfold t5 at L
 rw [lk] at L
 dsimp only at L
 split at L
 ·rename_i c
  split at L
  ·rename_i T q e
   simp only [Bool.and_eq_true,decide_eq_true_eq] at L
   obtain ⟨o,e1,e2⟩:=ξZ.mp e
   have htab:(T,qual ++ ".<locals>.<lambda>")∈yg K:=by
    rw [← L.2]
    exact ξu.mpr ⟨(c,o),uj e1,e⟩
   refine zc5 lk hcd S len fun A outer s H vs Q E hr hsp=>?_
   obtain ⟨t,h,q⟩:=hbody c T A outer s H vs Q E L.1 htab hr hsp
   exact ⟨t,h.nox,q⟩
  ·cases L
 ·cases L
end
end L2
namespace Cm
open PySem L2
structure AtL (K:ζa) (x:Str) (st:Stmt) (f:Addr) (fd:FuncData):Prop where
 a:PySem.W.nsIn K mainGlobals x=some (some (.ref f))
 F:Fun K x x st f fd
 L:t5 K f x=true
theorem Xe {K:ζa} {x:Str} {st:Stmt} {f:Addr} {oc:Value} {od an:Option Addr} {osl:Array (Option Value)} {kV doc pm cdv ct:Value} (a:PySem.W.nsIn K mainGlobals x=some (some (.ref f)))
  (l:K.lookup f=some ⟨oc,od,.func (PySem.W.fnOf x x (wg st) (xB st) (zo st) .none kV doc pm an cdv ct),osl⟩) (c:PySem.W.codeIn K cdv x=true) (k:PySem.W.keepIn K (.ref f)=true) (m:t5 K f x=true):∃ f fd,AtL K x st f fd:=⟨f,_,a,V9 l c k,m⟩
end Cm
namespace L2
open PySem
theorem zbp {K:ζa} {h:Heap} {ts:List Addr} (t:∀ P∈ts,h.get? P=some (PySem.W.tabObj #[])) (e:((yg K).all fun p=>ts.contains p.1)=true):∀ p∈yg K,h.get? p.1=some (PySem.W.tabObj #[]):=fun p hp=>t _ (by
 have:=ζ1.mp e p hp
 simpa using this)
def zc0 (x:Str) (ys:List Str) (sc:Scope):Bool:=decide (sc.kind=.function) && !sc.isCoroutine && !sc.isGenerator && decide ((x :: ys).Nodup) && decide (sc.names.lookup x=some .local) && (sc.names.all fun p=>decide (p.2≠.cell) && (decide (p.2≠.free) || decide (p.1∈ys))) && ys.all fun y=>decide (sc.names.lookup y=some .free)
theorem uS (h:zc0 x ys sc=true):wL x ys sc:=by
 unfold zc0 at h
 simp only [Bool.and_eq_true,decide_eq_true_eq,Bool.not_eq_true',List.all_eq_true,Bool.or_eq_true] at h
 obtain ⟨⟨⟨⟨⟨⟨h1,h2⟩,h3⟩,h4⟩,h5⟩,h6⟩,h7⟩:=h
 refine ⟨h1,h2,h3,h4,h5,fun y hy=>(h6 y hy).1,fun y hy=>?_,h7⟩
 rcases (h6 _ (PySem.mem_of_lookup hy)).2 with z | z
 ·exact absurd rfl z
 ·exact z
end L2
namespace PD
open PySem L2
theorem UB (le:Same F H) (k:zO K F vs ds) (q:∀ v H' F',Gr H F H' F'→Rp K κ .fresh H F' v d→Q v H') (hn:N.length=n) (hl:vs.length < n) (hΓ:xf n ds Γ) (hs:SetC Γ ds.length (some (.xp φ)) Γ') (hφ:φ F (.ref a))
  (h:ExS K .fresh t Γ' { nx:=fun _=>d=.none,rt:=fun x=>x=d,kr:=κ }):t { nx:=fun _ H'=>Q .non H',rt:=Q } (L2.start N (vs ++ [.ref a])) H:=by
 have l:=zO.length k
 have e0:=w8 (N:=N) le k
 rw [hn,hΓ.eq] at e0
 have e1:=e0.set (i:=ds.length) (v:=.ref a) (x:=.xp φ) ⟨F,.refl _,hφ⟩ fun _ z=>z.elim
 rw [hs.eq] at e1
 have es:(L2.start N vs).set ds.length (some (.ref a))=L2.start N (vs ++ [.ref a]):=by
  unfold L2.start
  rw [← l,List.set_append_right _ _ (by simp),List.length_map,Nat.sub_self]
  obtain ⟨m,hm⟩:∃ m,N.length - vs.length=m + 1:=⟨N.length - vs.length - 1,by omega⟩
  rw [hm,List.replicate_succ,List.set_cons_zero,ζo,ζf]
  have:N.length - (vs.length + [V.ref a].length)=m:=by show N.length - (vs.length + 1)=m; omega
  rw [this]
  simp
 rw [es] at e1
 exact h H F H F _ F e1 (.refl _) (.inl rfl) _ ⟨fun _ σ' H' F' z _ e'=>q .non H' F' e'.gr (by rw [z]; exact .non),fun x v H' F' z g p=>q v H' F' g (by rw [← (show x=d from z)]; exact p),fun _ _ _ _ z=>z.elim,fun _ _ _ _ z=>z.elim⟩
end PD
namespace L2
open PySem PySem.Spec PyProof.Rows PySem.AutoSeq1
theorem XX (l b:Addr) (xs ys:Array Value) (n n2:Nat) (dd:Option Addr) (sl:Array (Option Value)) (hs0:¬(!xs.isEmpty && Builtin.List.listTooLong (xs.size + ys.size))=true) (hs1:xs.size≤sizeLine) (hs2:xs.size + ys.size≤sizeLine + 1) :
  Meets (Builtin.«list.extend» ⟨[.ref l,.ref b],[]⟩) (fun _ R s=>s.heap.get? l=some { cls:=.type "list", data:=.seq xs n }∧s.heap.get? b=some { cls:=.type "list", dict:=dd,data:=.seq ys n2,slots:=sl }∧R (.ok (.ret Value.none)) { s with heap:=s.heap.update l (Obj.mapSeq fun x=>x ++ ys),toks:=s.toks }) :=
 .of_wp fun prog w A R s h=>by
  obtain ⟨hp,g,d,tk,os⟩:=s
  obtain ⟨hl,hb,h⟩:=h
  have f1:=AutoSeq1.idx_int
  have f2:=AutoSeq1.sub_tuple_tuple
  have f3:=AutoSeq1.sub_list_list
  have f4:=AutoSeq1.sub_tuple_list
  have f5:=AutoSeq1.sub_list_tuple
  have hz:(xs ++ ys).size≤sizeLine + 1:=by rw [Array.size_append]; exact hs2
  wp_walk using (wpAny_updateSeq hl rfl (hz:=hs1) (_hz':=hz)),wpAny_loadPart' hl,wpAny_loadPart' hb
  exact ⟨_,rfl,h⟩
section
variable {X:Cx} {K:ζa}
def Zx (K:ζa):V→List V→Hp→VK→Prop:=fun x vs H Q=>∃ l b xs zs,x=.ref l∧vs=[.ref b]∧H l=some (.lst xs)∧SqL K H b zs∧xs.length + zs.length≤sizeLine∧Q .non (upd H l (.lst (xs ++ zs)))
theorem V2:MtM X "list.extend" (Zx X.K):=by
 intro pins s σ H x vs v us Q I rx rv h
 obtain ⟨l,b,xs,zs,rfl,rfl,hH,hB,hz,q⟩:=h
 cases rx
 obtain ⟨u,rfl,ru⟩:=rv.one
 cases ru
 obtain ⟨z,its,n,r,hl,e⟩:=I.lstM hH
 obtain ⟨its2,r2,pl,_⟩:=I.list hB
 have hl2:=r2.length
 obtain ⟨⟨c,dd,dt,sl⟩,ho,hc,n2,hd⟩:=pl.isList
 simp only at hc hd
 subst hc hd
 have hsz:its.toArray.size + its2.toArray.size≤sizeLine:=by rw [ζQ,ζQ]; omega
 have hlong:¬ (!its.toArray.isEmpty && Builtin.List.listTooLong (its.toArray.size + its2.toArray.size))=true:=by
  rw [zaf hsz,Bool.and_false]
  exact ζt
 refine call_meets F.slot_list_extend ⟨_,e,rfl⟩ F.entry_list_extend (F.args_list_extend_2 _ _) (XX l b its.toArray its2.toArray n n2 dd sl hlong (by rw [ζQ]; omega) (by omega)) ⟨e,ho,?_⟩
 refine ⟨.non,_,I.lset (its':=its ++ its2) hH e (by simp) (r.append r2) ?_,rfl,q⟩
 rw [ζf]
 omega
theorem tZ (hK:X.K=K):MtM X "list.extend" (Zx K):=by subst hK; exact V2
end
end L2
namespace PD
open PySem L2
section
variable {K:ζa} {S S':Sx} {κ κ':Bool} {Γ Γ' Γ'':Ctx} {P:Post}
theorem YQ (h:GetC Γ i (.ow κ ds)) (he:EvL K S κ te Γ es) (hz:ds.length + es.length≤sizeLine) (e:SetC Γ i (some (.ow κ (ds ++ es))) Γ') (k:P.nx Γ'):ExS K S (v5 (tBM K "list" (Zx K) (tVar i) (zR te tNil))) Γ P:=fun H0 F0 H F σ B e1 bb vv D I=>by
 obtain ⟨v0,q1,a,vs,rfl,w,q5⟩:=e1.has i _ h.eq
 refine ⟨_,q1,.inl ⟨rfl,_,SqL.of w.h⟩,he H0 F0 H F σ e1 _ fun b us H1 F1 g p1 k1=>?_⟩
 have k':=zw g.f q5
 refine ⟨a,b,vs,us,rfl,rfl,g.h _ _ w.h,p1,by rw [zv.length q5,zv.length k1]; exact hz,?_⟩
 obtain rfl:=e.eq
 exact I.nx _ _ _ F1 k (bb.trans g.f) ((e1.mono g).put (y:=.ow κ (ds ++ es)) h.eq q1 (show Owns H1 (.ref a) (.ow κ ds) a from rfl) ⟨a,_,rfl,⟨zi,(w.mono g).f,w.n,w.s⟩,zv.append k' k1⟩ fun _ z=>z)
theorem X3 (h:GetC Γ i (.ow κ (ds ++ [d]))) (hij:i≠j) (e1:SetC Γ i (some (.ow κ ds)) Γ') (e2:SetC Γ' j (some (.fz κ d)) Γ'') (k:P.nx Γ''):ExS K S (tAsg (tBM0 K "list" rPop (tVar i)) (yn j)) Γ P:=fun H0 F0 H F σ B e bb vv D I=>by
 obtain ⟨v0,q1,a,vs,rfl,w,q5⟩:=e.has i _ h.eq
 have hl:=zv.length q5
 rw [ζf] at hl
 have hl:vs.length=ds.length + 1:=hl
 obtain ⟨v,hv,hr⟩:=zv.get q5 (i:=ds.length) (d:=d) (by rw [List.getElem?_append_right (ζh _),Nat.sub_self]; rfl)
 have k1:zv K κ S H0 F vs.dropLast ds:=by
  have:=zv.take ds.length q5
  rwa [List.take_append_of_le_length (ζh _),ξf,show ds.length=vs.length - 1 by omega,← List.dropLast_eq_take] at this
 refine ⟨_,q1,.inl ⟨rfl,_,SqL.of w.h⟩,a,vs,v,rfl,rfl,w.h,by rw [show vs.length - 1=ds.length by omega]; exact hv,?_⟩
 have e3:=e.put (vs:=vs.dropLast) (y:=.ow κ ds) h.eq q1 (show Owns H (.ref a) (.ow κ (ds ++ [d])) a from rfl) ⟨a,_,rfl,⟨zi,w.f,w.n,w.s⟩,k1⟩ fun _ z=>z
 rw [e1.eq] at e3
 have e4:=e3.setF (i:=j) hr
 rw [e2.eq] at e4
 exact I.nx _ _ _ F k bb e4
end
end PD
namespace L2
open PySem PySem.Spec PyProof.Rows
section
variable {X:Cx} {K:ζa}
def rAny (K:ζa):List V→Hp→VK→Prop:=fun xs H Q=>∃ p,∃ bs:List Bool,xs=[.ref p]∧SqL K H p (bs.map V.bl)∧Q (.bl (bs.any fun b=>b)) H
theorem Y7:∀ (bs:List Bool) (f:Nat→Bool),(∀ i b,bs[i]?=some b→f i=b)→(List.range bs.length).any f=bs.any fun b=>b
 | [],_,_=>rfl
 | b :: r,f,h=>by
  have ih:=Y7 r (fun i=>f (i + 1)) fun i b' hb=>h (i + 1) b' (by simpa using hb)
  rw [ζO,List.range_succ_eq_map,ξi,ξC,ξi,h 0 b rfl,← ih]
  rfl
theorem za5 (hc:X.calm=true):yq X (.builtin "any") (rAny X.K):=by
 intro pins s σ H xs us Q I r h
 obtain ⟨p,bs,rfl,hq,q⟩:=h
 obtain ⟨u,rfl,rx⟩:=xh r
 cases rx
 obtain ⟨its,r',pl,hz⟩:=I.list hq
 have e:=Xd r'
 subst e
 have hl:=pl.isList
 refine call_any_walk (wpAny_pyIter_list hl ?_)
 have hne:p≠s.heap.objs.size:=by
  obtain ⟨o,ho,_⟩:=hl
  exact ζw (ζm ho)
 refine ⟨s.heap.objs.size,_,_,_,_,_,fun i=>bs.getD i false,rfl,Walks.list (A:=X.A.in1) (I.ok.hd hc) _ p hne (bs.map Value.bool).toArray,⟨⟨_,ζy _ rfl,rfl,rfl⟩,hl.push _⟩,fun i v s Q E hP hQ=>?_,fun h' tk hk=>?_⟩
 ·have hP':(bs.map Value.bool)[i]?=some v:=by simpa using hP
  rw [ζs] at hP'
  cases eb:bs[i]? with
  | none=>rw [eb] at hP'; cases hP'
  | some b =>
   rw [eb] at hP'
   cases hP'
   have:bs.getD i false=b:=by rw [ζd,eb]; rfl
   have hQ':Q (bs.getD i false) s:=hQ
   rw [this] at hQ'
   exact wpAny_truthy_bool hQ'
 ·have e:(List.range (bs.map Value.bool).toArray.size).any (fun i=>bs.getD i false)=bs.any fun b=>b:=by
   rw [ζQ,ζb]
   exact Y7 bs _ fun i b hb=>by rw [ζd,hb]; rfl
  rw [e]
  exact ⟨.bl _,H,I.kept fun b o eb=>hk b o (by simpa using Nat.ne_of_lt (Heap.lt_size eb)) (Heap.get?_push_of_some _ eb),rfl,q⟩
theorem xR (hK:X.K=K) (hc:X.calm=true):yq X (.builtin "any") (rAny K):=by subst hK; exact za5 hc
end
end L2
namespace PD
open PySem L2
section
variable {K:ζa} {S S':Sx} {κ κ':Bool} {Γ Γ' Γ'':Ctx} {P:Post} {E:XK}
theorem tM {ta:TE} {bs:List Bool} (h:EvL K S false ta Γ (bs.map .bool)):EvE K S κ (tCB (rAny K) (zR ta tNil)) Γ (.bool (bs.any fun b=>b)):=fun H0 F0 H F σ e Q q =>
 h H0 F0 H F σ e _ fun a vs H1 F1 g1 p1 k1=>by
  cases w4 (zP k1)
  exact ⟨a,bs,rfl,p1,q _ H1 F1 g1 (.bl _)⟩
end
end PD
namespace L2
open PySem PySem.Spec PyProof.Rows
section
variable {X:Cx} {K:ζa}
def zcV:List V→Hp→VK→Prop:=fun xs H Q=>∃ m n:Int,xs=[.int m,.int n]∧∀ l,H l=none→Q (.ref l) (upd H l (.rng m n))
theorem Qc:yq X (.type "range") zcV:=by
 intro pins s σ H xs us Q I r h
 obtain ⟨m,n,rfl,q⟩:=h
 obtain ⟨u,w,rfl,rx,ry⟩:=zes r
 obtain ⟨t,rfl⟩:=rx
 obtain ⟨t',rfl⟩:=ry
 exact call_range_2 ⟨.ref s.heap.objs.size,_,I.laid (t':=s.toks + 1) (fun b u e=>ζi _ e) (ζh _) (show yj X.prog X.w _ _ _ (.rng m n) from ⟨_,_,_,ζy _ rfl⟩),rfl,q _ (I.hok.fresh (ζh _))⟩
def YC:List V→Hp→VK→Prop:=fun xs H Q=>∃ (p:Addr) (a b:Int),xs=[.ref p]∧H p=some (.rng a b)∧-1000000≤a∧a≤1000000∧-1000000≤b∧b≤1000000∧∀ l,H l=none→Q (.ref l) (upd H l (.lst ((List.range (b - a).toNat).map fun i:Nat=>V.int (a + (i:Int)))))
theorem Ys (hc:X.calm=true):yq X (.type "list") YC:=by
 intro pins s σ H xs us Q I r h
 obtain ⟨p,a,b,rfl,hp,a0,a1,b0,b1,q⟩:=h
 obtain ⟨u,rfl,rx⟩:=xh r
 cases rx
 obtain ⟨t,u,v,ho⟩:∃ t u v,s.heap.get? p=some { cls:=.type "range", data:=.fields #[.int a t,.int b u,.int 1 v] }:=I.hok p _ hp
 have rs:Builtin.Range.rangeSize a b 1=((b - a).toNat:Int):=by
  rw [rangeSize_one]
  split <;> omega
 generalize hn:(b - a).toNat=n at rs q
 refine call_list_range (n:=n) (I.ok.hd hc) ho ?_ rs (by omega) fun h' tk acc' c' hk hS hacc=>?_
 ·exact small_one (by omega) (by omega) (by omega) (by omega)
 ·have hl:acc'.toList.length=n:=by rw [ζ3]; exact hacc.1
  refine ⟨.ref s.heap.objs.size,_,I.laid (t':=tk) hk (ζh _) (show yj X.prog X.w _ h' _ (.lst ((List.range n).map fun i:Nat=>V.int (a + (i:Int)))) from ⟨by rw [ζb,ζu,sizeLine_eq]; omega,acc'.toList,c',Vals.ofGet _ _ (by rw [ζb,ζu,hl]) fun i x u h1 h2=>?_,hS⟩),rfl,q _ (I.hok.fresh (ζh _))⟩
  have hi:i < n:=by
   have:=(ζe.mp h2).1
   omega
  rw [ζs,ζ2 hi] at h1
  cases h1
  obtain ⟨t',rfl⟩:=hacc.2 i u (by rw [← ξm]; exact h2)
  exact ⟨t',by rw [Int.mul_one]⟩
end
end L2
namespace PD
open PySem L2
section
variable {K:ζa} {S S':Sx} {κ κ':Bool} {Γ Γ' Γ'':Ctx} {P:Post}
theorem X4 (h:EvA K S false t Γ [.int a,.int b]) (a0:-1000000≤a) (a1:a≤1000000) (b0:-1000000≤b) (b1:b≤1000000):EvO K S κ (tCB YC (zR (tCB zcV t) tNil)) Γ ((List.range (b - a).toNat).map fun i:Nat=>.int (a + (i:Int))):=fun H0 F0 H F σ e Q q =>
 h H0 F0 H F σ e _ fun vs H1 F1 g1 p1=>by
  cases zX (ns:=[a,b]) (zP p1)
  refine ⟨a,b,rfl,fun p hp=>⟨p,a,b,rfl,zi,a0,a1,b0,b1,fun l hl=>?_⟩⟩
  have g2:=g1.trans (.newO g1.le hp (.rng a b))
  have hr:zv K κ S H0 F1 ((List.range (b - a).toNat).map fun i:Nat=>V.int (a + (i:Int))) ((List.range (b - a).toNat).map fun i:Nat=>.int (a + (i:Int))):=by
   have:=ug (K:=K) (κ:=κ) (S:=S) (H0:=H0) (F:=F1) ((List.range (b - a).toNat).map fun i:Nat=>a + (i:Int))
   rw [ζM,ζM] at this
   exact this
  exact q l _ _ F1 (g2.trans (.newO g2.le hl _)) (g2.h.free hl) zi (g2.le.free hl) hr
end
end PD
namespace L2
open PySem PySem.Spec PyProof.Rows PySem.Calls
section
variable {κ:Type} [DecidableEq κ]
def valV (kvs:List (κ×V)) (k:κ):Option V:=(kvs.find? fun kv=>decide (kv.1=k)).map (·.2)
def putK (kvs:List (κ×V)) (k:κ) (v:V):List (κ×V) :=
 if (kvs.any fun kv=>decide (kv.1=k))=true then kvs.map (fun kv=>if kv.1=k then (kv.1,v) else kv) else kvs ++ [(k,v)]
theorem yH {p:κ×V} {r:List (κ×V)} {k:κ} (e:p.1=k):valV (p :: r) k=some p.2:=by simp [valV,List.find?_cons,e]
theorem yI {p:κ×V} {r:List (κ×V)} {k:κ} (e:¬ p.1=k):valV (p :: r) k=valV r k:=by simp [valV,List.find?_cons,e]
theorem uv (k:κ):∀ kvs:List (κ×V),(kvs.any fun kv=>decide (kv.1=k))=(valV kvs k).isSome
 | []=>rfl
 | p :: r=>by
  rw [ξi]
  by_cases e:p.1=k
  ·simp only [yH e,decide_eq_true e,Bool.true_or,Option.isSome_some]
  ·rw [yI e,decide_eq_false e,Bool.false_or]; exact uv k r
theorem Wm (k j:κ) (y:V):∀ kvs:List (κ×V),valV (kvs.map fun kv=>if kv.1=k then (kv.1,y) else kv) j=(valV kvs j).map fun x=>if j=k then y else x
 | []=>rfl
 | p :: r=>by
  have ih:=Wm k j y r
  rw [ζH]
  by_cases h:p.1=k
  ·rw [if_pos h]
   by_cases e:p.1=j
   ·rw [yH (p:=(p.1,y)) e,yH e,ξ7,if_pos (e.symm.trans h)]
   ·rw [yI (p:=(p.1,y)) e,yI e,ih]
  ·rw [if_neg h]
   by_cases e:p.1=j
   ·rw [yH (p:=p) e,yH e,ξ7,if_neg (fun z=>h (e.trans z))]
   ·rw [yI (p:=p) e,yI e,ih]
theorem Yw (k j:κ) (y:V):∀ kvs:List (κ×V),valV kvs k=none→valV (kvs ++ [(k,y)]) j=if j=k then some y else valV kvs j
 | [],_=>by
  by_cases e:k=j
  ·rw [if_pos e.symm]; exact yH (p:=(k,y)) e
  ·rw [if_neg (fun z=>e z.symm)]; exact yI (p:=(k,y)) e
 | p :: r,hn=>by
  rw [List.cons_append]
  have hk:¬ p.1=k:=fun z=>by rw [yH z] at hn; cases hn
  rw [yI hk] at hn
  have ih:=Yw k j y r hn
  by_cases e:p.1=j
  ·rw [yH e,yH e,if_neg (fun z=>hk (e.trans z))]
  ·rw [yI e,yI e,ih]
theorem Wl (kvs:List (κ×V)) (k j:κ) (y:V):valV (putK kvs k y) j=if j=k then some y else valV kvs j:=by
 unfold putK
 by_cases a:(kvs.any fun kv=>decide (kv.1=k))=true
 ·rw [if_pos a,Wm]
  rw [uv] at a
  by_cases e:j=k
  ·obtain ⟨x,hx⟩:=ζX.mp a
   rw [if_pos e,e,hx,ξ7,if_pos rfl]
  ·rw [if_neg e]
   cases valV kvs j with
   | none=>rfl
   | some x=>rw [ξ7,if_neg e]
 ·rw [if_neg a]
  refine Yw k j y kvs ?_
  rw [uv] at a
  cases q:valV kvs k with
  | none=>rfl
  | some x=>rw [q] at a; exact (a rfl).elim
theorem xD (kvs:List (κ×V)) (k:κ) (v:V):(putK kvs k v).length≤kvs.length + 1:=by
 unfold putK
 split
 ·rw [ζb]; omega
 ·rw [ζf,ζO,List.length_nil]; omega
theorem RelO.isSome_eq (r:RelO o u):o.isSome=u.isSome:=by
 cases o with
 | none=>cases u with
  | none=>rfl
  | some _=>exact (show False from r).elim
 | some _=>cases u with
  | none=>exact (show False from r).elim
  | some _=>rfl
theorem RelO.getD (r:RelO o u) (rd:RelV d d'):RelV (o.getD d) (u.getD d'):=by
 cases o with
 | none=>cases u with
  | none=>exact rd
  | some _=>exact (show False from r).elim
 | some _=>cases u with
  | none=>exact (show False from r).elim
  | some _=>exact r
theorem KV.val {kvs:List (κ×V)} {vs:List (κ×Value)} (r:KV kvs vs) (k:κ):RelO (valV kvs k) (valueAt vs k):=by
 unfold KV at r
 induction r with
 | nil=>exact True.intro
 | @cons p q ps qs h t ih =>
  obtain ⟨h1,h2⟩:=h
  by_cases e:p.1=k
  ·have e':q.1=k:=h1.symm.trans e
   have b:valueAt (q :: qs) k=some q.2:=by simp [valueAt,List.find?_cons,e']
   rw [yH e,b]; exact h2
  ·have e':¬ q.1=k:=fun z=>e (h1.trans z)
   have b:valueAt (q :: qs) k=valueAt qs k:=by simp [valueAt,List.find?_cons,e']
   rw [yI e,b]; exact ih
theorem KV.any (r:KV kvs vs) (k:κ):(kvs.any fun kv=>decide (kv.1=k))=vs.any fun kv=>decide (kv.1=k):=by
 unfold KV at r
 induction r with
 | nil=>rfl
 | cons h t ih=>rw [ξi,ξi,ih,h.1]
theorem KV.repl (r:KV kvs vs) (k:κ) (ry:RelV y u) :
  KV (kvs.map fun kv=>if kv.1=k then (kv.1,y) else kv) (vs.map fun kv=>if kv.1=k then (kv.1,u) else kv):=by
 unfold KV at r ⊢
 induction r with
 | nil=>exact .nil
 | @cons p q ps qs h t ih =>
  rw [ζH,ζH]
  refine .cons ?_ ih
  obtain ⟨h1,h2⟩:=h
  by_cases e:p.1=k
  ·rw [if_pos e,if_pos (h1.symm.trans e)]; exact ⟨h1,ry⟩
  ·rw [if_neg e,if_neg (fun z=>e (h1.trans z))]; exact ⟨h1,h2⟩
theorem KV.put (r:KV kvs vs) (k:κ) (ry:RelV y u):KV (putK kvs k y) (stored vs k u):=by
 unfold putK stored
 rw [r.any k]
 by_cases e:(vs.any fun kv=>decide (kv.1=k))=true
 ·rw [if_pos e,if_pos e]; exact r.repl k ry
 ·rw [if_neg e,if_neg e]; exact Paired.snoc r ⟨rfl,ry⟩
theorem KV.length (r:KV kvs vs):kvs.length=vs.length:=Paired.length r
end
theorem ZR (r:RelV (kV k) u):(yi P w).is k u=true:=by
 cases k with
 | inl i=>obtain ⟨t,e⟩:=(show ∃ t,u=Value.int i t from r); subst e; exact WZ P w i t
 | inr x=>obtain ⟨t,e⟩:=(show ∃ t,u=Value.str x t from r); subst e; exact WY P w x t
theorem YM:∀ {ks:List Key} {us:List Value},Vals (ks.map kV) us→ItemsAre (yi P w) ks us
 | [],_,r=>by rw [List.map_nil] at r; cases r; exact .nil
 | k :: ks,_,r=>by
  rw [ζH] at r
  cases r with
  | cons h t=>exact .cons (ZR h) (YM t)
abbrev KT (H:Hp):List (List Key×V)→List (List Key×Addr×Value)→Prop:=Paired fun p q=>p.1=q.1∧Zb H q.2.1 (p.1.map kV)∧RelV p.2 q.2.2
theorem KT.val {H:Hp} {kvs:List (List Key×V)} {xs:List (List Key×Addr×Value)} (r:KT H kvs xs) (k:List Key):RelO (valV kvs k) ((atKey xs k).map (·.2)):=by
 induction r with
 | nil=>exact True.intro
 | @cons p q ps qs h t ih =>
  obtain ⟨h1,_,h2⟩:=h
  by_cases e:p.1=k
  ·have e':q.1=k:=h1.symm.trans e
   have b:atKey (q :: qs) k=some q.2:=by simp [atKey,List.find?_cons,e']
   rw [yH e,b]; exact h2
  ·have e':¬ q.1=k:=fun z=>e (h1.trans z)
   have b:atKey (q :: qs) k=atKey qs k:=by simp [atKey,List.find?_cons,e']
   rw [yI e,b]; exact ih
theorem KT.repl (r:KT H kvs xs) (k:List Key) (ry:RelV y u) :
  KT H (kvs.map fun kv=>if kv.1=k then (kv.1,y) else kv) (xs.map (putAt k u)):=by
 induction r with
 | nil=>exact .nil
 | @cons p q ps qs h t ih =>
  rw [ζH,ζH]
  refine .cons ?_ ih
  obtain ⟨h1,h2,h3⟩:=h
  unfold putAt
  by_cases e:p.1=k
  ·rw [if_pos e,if_pos (h1.symm.trans e)]; exact ⟨h1,h2,ry⟩
  ·rw [if_neg e,if_neg (fun z=>e (h1.trans z))]; exact ⟨h1,h2,h3⟩
theorem KT.put (r:KT H kvs xs) (k:List Key) (hb:Zb H b (k.map kV)) (ry:RelV y u) :
  KT H (putK kvs k y) (storedH xs k b u):=by
 have e:(kvs.any fun kv=>decide (kv.1=k))=(atKey xs k).isSome:=by
  rw [uv,(r.val k).isSome_eq,Option.isSome_map]
 unfold putK storedH
 rw [e]
 by_cases q:(atKey xs k).isSome=true
 ·rw [if_pos q,if_pos q]; exact r.repl k ry
 ·rw [if_neg q,if_neg q]; exact Paired.snoc r ⟨rfl,hb,ry⟩
theorem KT.keeps (r:KT H kvs xs) (ht:∀ b ys,Zb H b ys→Zb H' b ys):KT H' kvs xs :=
 Paired.mapP r fun _ _ z=>⟨z.1,ht _ _ z.2.1,z.2.2⟩
section
variable {P:Program} {w:World} {H:Hp} {h:Heap} {a:Addr}
theorem QM (ok:HOk P w H h) (e:Rd H a u):yj P w H h a u:=e.ok ok
theorem t9 (ok:HOk P w H h) (e:Rd H a (.dK kvs)):kvs.length≤sizeLine∧(a == sysModules)=false∧∃ vs,KV kvs vs∧h.DictOf (yi P w) a vs :=
 show yj P w H h a (.dK kvs) from QM ok e
theorem zeI (ok:HOk P w H h) (e:H a=some (.dK kvs)):kvs.length≤sizeLine∧(a == sysModules)=false∧∃ vs,KV kvs vs∧h.DictOf (yi P w) a vs:=t9 ok (.inl e)
theorem Zr (ok:HOk P w H h) (e:Rd H a (.tup ys)):Zb H a ys:=by
 rcases e with e | ⟨o,e⟩
 ·exact .inl e
 ·obtain ⟨h0,_,its,r,ob,h1,h2,n,h3⟩:=(show yj P w H h a (.frz o (.tup ys)) from ok a _ e)
  rw [h0] at h1
  cases h1
  exact .inr ⟨o,fun v z=>(by rw [h3] at z; cases z),e⟩
theorem Zb.rd (e:Zb H a ys):Rd H a (.tup ys):=e.imp id fun ⟨o,_,q⟩=>⟨o,q⟩
theorem wY (ok:HOk P w H h) (e:Rd H a (.tup (ks.map kV))):(tupleKind (yi P w)).is h ks a:=by
 obtain ⟨_,its,r,o,h1,h2,n,h3⟩:=(show yj P w H h a (.tup (ks.map kV)) from QM ok e)
 exact ⟨o,its.toArray,n,h1,h2,h3,by simpa using YM r⟩
theorem t8 (ok:HOk P w H h) (e:Rd H a (.dT kvs)):kvs.length≤sizeLine∧(a == sysModules)=false ∧
  ∃ xs,KT H kvs xs∧h.DictOfH (tupleKind (yi P w)) a xs:=by
 obtain ⟨z,y,xs,r,o,es,ep,h1,h2,h3,h4,h5⟩:=(show yj P w H h a (.dT kvs) from QM ok e)
 refine ⟨z,y,xs,r,o,es,ep,h1,h2,h3,h4,fun x hx=>?_,h5⟩
 have all:∀ {l:List (List Key×V)} {m:List (List Key×Addr×Value)},KT H l m→∀ x∈m,(tupleKind (yi P w)).is h x.1 x.2.1:=by
  intro l m q
  induction q with
  | nil=>intro x hx; exact nomatch hx
  | @cons p q ps qs hq t ih =>
   intro x hx
   rcases ζz.mp hx with e | hx
   ·subst e
    exact wY ok (by rw [← hq.1]; exact hq.2.1.rd)
   ·exact ih x hx
 exact all r x hx
theorem zaT (ok:HOk P w H h) (e:H a=some (.dT kvs)):kvs.length≤sizeLine∧(a == sysModules)=false ∧
  ∃ xs,KT H kvs xs∧h.DictOfH (tupleKind (yi P w)) a xs:=t8 ok (.inl e)
end
def DGet (H:Hp) (a:Addr) (y:V) (r:Option V):Prop :=
 (∃ kvs k,Rd H a (.dK kvs)∧y=kV k∧r=valV kvs k)∨∃ kvs k b,Rd H a (.dT kvs)∧y=.ref b∧Rd H b (.tup (k.map kV))∧r=valV kvs k
def DPut (H:Hp) (a:Addr) (y v:V) (H':Hp):Prop :=
 (∃ kvs k,H a=some (.dK kvs)∧y=kV k∧kvs.length < sizeLine∧H'=upd H a (.dK (putK kvs k v))) ∨
 ∃ kvs k b,H a=some (.dT kvs)∧y=.ref b∧Rd H b (.tup (k.map kV))∧kvs.length < sizeLine∧H'=upd H a (.dT (putK kvs k v))
theorem DGet.k {H:Hp} {a:Addr} {kvs:List (Key×V)} {k:Key} (e:H a=some (.dK kvs)):DGet H a (kV k) (valV kvs k):=.inl ⟨kvs,k,.inl e,rfl,rfl⟩
theorem DGet.t {H:Hp} {a b:Addr} {kvs:List (List Key×V)} {k:List Key} (e:H a=some (.dT kvs)) (eb:Rd H b (.tup (k.map kV))):DGet H a (.ref b) (valV kvs k):=.inr ⟨kvs,k,b,.inl e,rfl,eb,rfl⟩
theorem DPut.k {H:Hp} {a:Addr} {kvs:List (Key×V)} {k:Key} {v:V} (e:H a=some (.dK kvs)) (hl:kvs.length < sizeLine):DPut H a (kV k) v (upd H a (.dK (putK kvs k v))):=.inl ⟨kvs,k,e,rfl,hl,rfl⟩
section
variable {X:Cx} {pins:List (Addr×Obj)} {σ:St} {H:Hp} {s:Shared} {a:Addr} {y v:V} {u r:Value} {o:Option V} {A:Around} {E:Value→Shared→Prop}
theorem Inv.big (I:Inv X pins σ H s):sysModules < s.heap.objs.size:=by
 have h:mainGlobals < s.heap.objs.size:=(I.mod.glob.keeps I.bk).lt
 exact Nat.lt_trans (by decide) h
theorem Qb (hu:A.units + 1 < cLine) (I:Inv X pins σ H s) (g:DGet H a y (some v)) (ry:RelV y u) (h:∀ w' s',Inv X pins σ H s'→RelV v w'→Q w' s') :
  wpAny (model X.prog X.w) A (getItem (.ref a) u) Q E s:=by
 rcases g with ⟨kvs,k,e,ey,l⟩ | ⟨kvs,k,b,e,ey,eb,l⟩
 ·subst ey
  obtain ⟨z,hd,vs,rel,dd⟩:=t9 I.hok e
  obtain ⟨w',hw,rw'⟩:=RelO.some_of (v:=v) (o:=valueAt vs k) (by rw [l]; exact rel.val k)
  exact wpAny_getItem_of (ZR ry) dd.mapOf hw (h w' _ (I.tok _) rw')
 ·subst ey
  cases (show u=Value.ref b from ry)
  obtain ⟨z,hd,xs,rel,dd⟩:=t8 I.hok e
  obtain ⟨w',hw,rw'⟩:=RelO.some_of (v:=v) (o:=(atKey xs k).map (·.2)) (by rw [l]; exact rel.val k)
  obtain ⟨p,hp,hp2⟩:=ξ3.mp hw
  refine wpAny_getItem_heap (tupleKind_room_in1 hu) (wY I.hok eb) dd hp ?_
  rw [hp2]
  exact h w' _ (I.tok _) rw'
theorem d_in (hu:A.units + 1 < cLine) (I:Inv X pins σ H s) (g:DGet H a y o) (ry:RelV y u) (h:∀ s',Inv X pins σ H s'→Q (.bool o.isSome) s') :
  wpAny (model X.prog X.w) A (compareOp .In u (.ref a)) Q E s:=by
 rcases g with ⟨kvs,k,e,ey,l⟩ | ⟨kvs,k,b,e,ey,eb,l⟩
 ·subst ey
  obtain ⟨z,hd,vs,rel,dd⟩:=t9 I.hok e
  refine wpAny_in_of (ZR ry) hd dd.mapOf ?_
  rw [← (rel.val k).isSome_eq,← l]
  exact h _ (I.tok _)
 ·subst ey
  cases (show u=Value.ref b from ry)
  obtain ⟨z,hd,xs,rel,dd⟩:=t8 I.hok e
  refine wpAny_in_heap (tupleKind_room_in1 hu) (wY I.hok eb) hd dd ?_
  have q:=(rel.val k).isSome_eq
  rw [Option.isSome_map] at q
  rw [← q,← l]
  exact h _ (I.tok _)
theorem zcA (hu:A.units + 1 < cLine) (I:Inv X pins σ H s) (g:DGet H a y o) (ry:RelV y u) (h:∀ s',Inv X pins σ H s'→Q (.bool (!o.isSome)) s') :
  wpAny (model X.prog X.w) A (compareOp .NotIn u (.ref a)) Q E s:=by
 rcases g with ⟨kvs,k,e,ey,l⟩ | ⟨kvs,k,b,e,ey,eb,l⟩
 ·subst ey
  obtain ⟨z,hd,vs,rel,dd⟩:=t9 I.hok e
  refine wpAny_notIn_of (ZR ry) hd dd.mapOf ?_
  rw [← (rel.val k).isSome_eq,← l]
  exact h _ (I.tok _)
 ·subst ey
  cases (show u=Value.ref b from ry)
  obtain ⟨z,hd,xs,rel,dd⟩:=t8 I.hok e
  refine wpAny_notIn_heap (tupleKind_room_in1 hu) (wY I.hok eb) hd dd ?_
  have q:=(rel.val k).isSome_eq
  rw [Option.isSome_map] at q
  rw [← q,← l]
  exact h _ (I.tok _)
theorem Zp {t':Nat} (I:Inv X pins σ H s) (mu:Mut (H a)) (hs:Heap.SameBut a s.heap h') (he:∃ q,h'.get? a=some q) (new:yj X.prog X.w (upd H a ob) h' a ob) :
  Inv X pins σ (upd H a ob) { s with heap:=h',toks:=t' } :=
 I.write (x:=a) (e:=a) mu (.inl rfl) (fun b q hb z=>(hs.2 b hb).trans z) he new
theorem zd6 (z:kvs.length≤sizeLine) (hd:(a == sysModules)=false) (rel:KV kvs vs) (dd:h'.DictOf (yi P w) a vs) :
  yj P w H' h' a (.dK kvs):=⟨z,hd,vs,rel,dd⟩
theorem Qa (hu:A.units + 1 < cLine) (I:Inv X pins σ H s) (g:DPut H a y v H') (ry:RelV y u) (rv:RelV v r) (h:∀ s',Inv X pins σ H' s'→Q () s') :
  wpAny (model X.prog X.w) A (setItem (.ref a) u r) Q E s:=by
 rcases g with ⟨kvs,k,e,ey,l,eH⟩ | ⟨kvs,k,b,e,ey,eb,l,eH⟩
 ·subst ey eH
  obtain ⟨z,hd,vs,rel,dd⟩:=zeI I.hok e
  have hz:vs.length≤sizeLine:=by rw [← rel.length]; exact z
  have hl:(putK kvs k v).length≤sizeLine:=by have:=xD kvs k v; omega
  refine wpAny_setItem_pairs (hsz:=hz) (ZR ry) dd fun h' dd' hs=>h _ ?_
  have he:∃ q,h'.get? a=some q:=let ⟨q,_,_,hq,_⟩:=dd'; ⟨q,hq⟩
  exact Zp I (by rw [e]; exact True.intro) hs he (zd6 hl hd (rel.put k rv) dd')
 ·subst ey eH
  cases (show u=Value.ref b from ry)
  obtain ⟨z,hd,xs,rel,dd⟩:=zaT I.hok e
  have hz:xs.length≤sizeLine:=by rw [← Paired.length rel]; exact z
  have hl:(putK kvs k v).length≤sizeLine:=by have:=xD kvs k v; omega
  refine wpAny_setItem_heap (hsz:=hz) (tupleKind_room_in1 hu) (wY I.hok eb) dd fun h' dd' hs=>h _ ?_
  obtain ⟨q,es,ep,hq,h2,h3,h4,_,h5⟩:=dd'
  refine Zp I (by rw [e]; exact True.intro) hs ⟨q,hq⟩ ⟨hl,hd,_,(rel.put k (Zr I.hok eb) rv).keeps fun c ys ec=>?_,q,es,ep,hq,h2,h3,h4,h5⟩
  exact ec.imp (fun y=>by rw [zp (YI y e (fun z=>nomatch z))]; exact y) fun ⟨o,n,y⟩=>⟨o,n,by rw [zp (YI y e (fun z=>nomatch z))]; exact y⟩
end
section
variable {X:Cx} {pins:List (Addr×Obj)} {σ:St} {H:Hp} {s:Shared} {a:Addr} {kvs:List (Key×V)} {k:Key} {u:Value} {A:Around} {E:Value→Shared→Prop}
end
def NoSl (i:Expr):Prop:=∀ ov iv,subscripted i false ov iv=operate [ov,iv] (getItem ov iv)
theorem zbq {prog:Program} {w:World} {A:Around} {E:Value→Shared→Prop} {s:Shared} {env:Env} {value slice:Expr} {pos:Pos} {T id:String} {Q:Value→Shared→Prop}
  (hl:typeLookup (.type T) "__getitem__" = pure (some (.builtin id))) (hs:NoSl slice)
  (h:wpAny (model prog w) A (eval value env) (fun o s₁=>wpAny (model prog w) A (eval slice env) (fun i s₂=>s₂.TypeIs o T∧wpAny (model prog w) A (getItem o i) Q E s₂) E s₁) E s) :
  wpAny (model prog w) A (eval (.Subscript value slice pos) env) Q E s:=by
 refine Subscript_ (wpAny_mono h (fun o s₁ h₁=>wpAny_mono h₁ (fun i s₂ h₂=>?_) fun _ _ x=>x) fun _ _ x=>x)
 obtain ⟨hT,h₂⟩:=h₂
 unfold subscriptTail
 refine wpAny_bind ?_
 rw [getitemInPython_of_ne hT.not_modules]
 refine wpAny_bind (wpAny_specialOf hT hl ?_)
 have fin:wpAny (model prog w) A (subscripted slice false o i) (fun r s₃=>wpAny (model prog w) A (letTemporaryGo value o r >>= fun _=>pure r) Q E s₃) E s₂:=by
  rw [hs o i]
  exact wpAny_operating (wpAny_mono h₂ (fun r s₃ h₃=>wpAny_bind (wpAny_letTemporaryGo (wpAny_pure h₃))) fun _ _ x=>x)
 first
  | exact wpAny_pure (wpAny_bind fin)
  | exact wpAny_bind (wpAny_pure (wpAny_bind fin))
  | exact wpAny_bind fin
theorem Vf (I:Inv X pins σ H s) (g:DGet H a y o):s.TypeIs (.ref a) "dict" := by
 rcases g with ⟨kvs,k,e,_,_⟩ | ⟨kvs,k,b,e,_,_,_⟩
 ·obtain ⟨_,_,vs,_,dd⟩:=t9 I.hok e
  exact dd.typeIs
 ·obtain ⟨_,_,xs,_,dd⟩:=t8 I.hok e
  exact dd.typeIs
def Ux (td ty:TE):TE:=fun σ H Q=>td σ H fun x H1=>ty σ H1 fun y H2=>∃ a v,x=.ref a∧DGet H2 a y (some v)∧Q v H2
def tDIn (ty td:TE):TE:=fun σ H Q=>ty σ H fun y H1=>td σ H1 fun x H2=>∃ a o,x=.ref a∧DGet H2 a y o∧Q (.bl o.isSome) H2
def Xh (ty td:TE):TE:=fun σ H Q=>ty σ H fun y H1=>td σ H1 fun x H2=>∃ a o,x=.ref a∧DGet H2 a y o∧Q (.bl (!o.isSome)) H2
def zcU (td ty tv:TE):TS:=fun D σ H=>tv σ H fun v H1=>td σ H1 fun x H2=>ty σ H2 fun y H3=>∃ a H4,x=.ref a∧DPut H3 a y v H4∧D.nx σ H4
section
variable {X:Cx} {o i e value:Expr} {pos pos' tpos:Pos} {td ty tv:TE}
theorem XF (hu:X.A.units + 1 < cLine) (ho:PE X o td) (hi:PE X i ty) (hs:NoSl i):PE X (.Subscript o i pos) (Ux td ty):=by
 intro pins s σ H Q I h
 refine zbq PySem.F.slot_dict_getitem.lookup hs (thn (ho pins s σ H _ I h) fun u s1 ⟨x,H1,I1,rx,q1⟩=>thn (hi pins s1 σ H1 _ I1 q1) fun iv s2 ⟨y,H2,I2,ry,a,v,ex,g,q2⟩=>?_)
 subst ex
 obtain rfl:u=Value.ref a:=rx
 exact ⟨Vf I2 g,Qb hu I2 g ry fun w' s3 I3 rw'=>⟨v,H2,I3,rw',q2⟩⟩
theorem zdA (hu:X.A.units + 1 < cLine) (hi:PE X i ty) (ho:PE X o td):PC X .In i o (tDIn ty td):=by
 intro pins s σ H Q I h
 refine thn (hi pins s σ H _ I h) fun iv s1 ⟨y,H1,I1,ry,q1⟩=>thn (ho pins s1 σ H1 _ I1 q1) fun u s2 ⟨x,H2,I2,rx,a,ov,ex,g,q2⟩=>?_
 subst ex
 obtain rfl:u=Value.ref a:=rx
 exact d_in hu I2 g ry fun s3 I3=>⟨.bl ov.isSome,H2,I3,rfl,q2⟩
theorem YF (hu:X.A.units + 1 < cLine) (hi:PE X i ty) (ho:PE X o td):PC X .NotIn i o (Xh ty td):=by
 intro pins s σ H Q I h
 refine thn (hi pins s σ H _ I h) fun iv s1 ⟨y,H1,I1,ry,q1⟩=>thn (ho pins s1 σ H1 _ I1 q1) fun u s2 ⟨x,H2,I2,rx,a,ov,ex,g,q2⟩=>?_
 subst ex
 obtain rfl:u=Value.ref a:=rx
 exact zcA hu I2 g ry fun s3 I3=>⟨.bl (!ov.isSome),H2,I3,rfl,q2⟩
theorem zbF (hu:X.A.units + 1 < cLine) (ho:PE X o td) (hi:PE X i ty) (hv:PE X value tv) (hs:swapsWith value (some (.Subscript o i pos')) pos.line X.env=pure false) :
  PS X (.Assign [.Subscript o i pos'] value pos) (zcU td ty tv):=by
 intro pins s σ H D I h
 refine wpAny_Assign_Subscript (thn (hv pins s σ H _ I h) fun r s1 ⟨v,H1,I1,rv,q1⟩=>thn (ho pins s1 σ H1 _ I1 q1) fun u s2 ⟨x,H2,I2,rx,q2⟩=>thn (hi pins s2 σ H2 _ I2 q2) fun iv s3 ⟨y,H3,I3,ry,a,H4,ex,g,q3⟩=>?_) hs
 subst ex
 obtain rfl:u=Value.ref a:=rx
 exact Qa hu I3 g ry rv fun s4 I4=>⟨σ,H4,I4,q3⟩
end
theorem zaV (h:Heap) (hb:sysModules < h.objs.size):yj P w H (h.push { cls:=.type "dict", data:=.dict #[] }) h.objs.size (.dK []) :=
 ⟨ζL _,beq_eq_false_iff_ne.mpr (Ne.symm (ζw hb)),[],.nil,Heap.DictOf.new h⟩
theorem zaU (h:Heap) (hb:sysModules < h.objs.size):yj P w H (h.push { cls:=.type "dict", data:=.dict #[] }) h.objs.size (.dT []) :=
 ⟨ζL _,beq_eq_false_iff_ne.mpr (Ne.symm (ζw hb)),[],.nil,_,#[],0,ζy _ rfl,⟨rfl,rfl,rfl⟩,rfl,rfl,ξc⟩
def Qs:TE:=fun _ H Q=>∀ p,H p=none→Q (.ref p) (upd H p (.dK []))
section
variable {X:Cx} {pos:Pos}
theorem Q3:PE X (.Dict [] [] pos) Qs:=fun pins s σ H Q I h =>
 wpAny_Dict_empty ⟨.ref s.heap.objs.size,_,I.laid (a:=s.heap.objs.size) (o:=.dK []) (t':=s.toks) (fun _ _ q=>ζi _ q) (ζh _) (zaV s.heap I.big),rfl,h _ (I.hok.fresh (ζh _))⟩
end
def Vu:List (TE×TE)→St→Hp→(List (V×V)→Hp→Prop)→Prop
 | [],_,H,Q=>Q [] H
 | (tk,tv) :: r,σ,H,Q=>tk σ H fun x H1=>tv σ H1 fun y H2=>Vu r σ H2 fun ps H3=>Q ((x,y) :: ps) H3
abbrev VV:List (V×V)→List (Value×Value)→Prop:=Paired fun p q=>RelV p.1 q.1∧RelV p.2 q.2
def PPs (X:Cx) (pos:Pos) (keys:List (Option Expr)) (values:List Expr) (trs:List (TE×TE)):Prop :=
 ∀ (pins:List (Addr×Obj)) (s:Shared) (σ:St) (H:Hp) (Q:List (V×V)→Hp→Prop),Inv X pins σ H s→Vu trs σ H Q →
  wpAny (model X.prog X.w) X.A (evalPairs (pairTrees keys values X.env pos)) (fun vs s'=>∃ ps H',Inv X pins σ H' s'∧VV ps vs∧Q ps H') X.xe s
theorem zbI:PPs X pos [] [] []:=fun pins s σ H Q I h=>pairTrees_nil_walk ⟨[],H,I,.nil,h⟩
theorem QV (hk:PE X k tk) (hv:PE X v tv) (hr:PPs X pos ks vs trs) :
  PPs X pos (some k :: ks) (v :: vs) ((tk,tv) :: trs):=fun pins s σ H Q I h =>
 pairTrees_cons_walk (thn (hk pins s σ H _ I h) fun u s1 ⟨x,H1,I1,rx,q1⟩=>thn (hv pins s1 σ H1 _ I1 q1) fun w2 s2 ⟨y,H2,I2,ry,q2⟩ =>
  thn (hr pins s2 σ H2 _ I2 q2) fun ws s3 ⟨ps,H3,I3,rel,q3⟩=>⟨(x,y) :: ps,H3,I3,.cons ⟨rx,ry⟩ rel,q3⟩)
structure M1 (X:Cx) (o:Expr) (m:Str) (apos:Pos) (e:Expr) (cpos:Pos):Prop where
 base:attributeBase o m X.env (eval o X.env)=eval o X.env
 few:((backTo cpos (starEach [e] X.env)).all (fun x=>!x.1) && (backToKw cpos (keywordEach [] X.env)).all (fun x=>x.1.isSome)
  && decide (([e]:List Expr).length + ([]:List Keyword).length + (if ([]:List Keyword).isEmpty then 0 else 1) < 30))=true
 line:(apos.endLine == cpos.line)=true
 trees:backTo cpos (starEach [e] X.env)=[(false,eval e X.env)]
structure M2 (X:Cx) (o:Expr) (m:Str) (apos:Pos) (e f:Expr) (cpos:Pos):Prop where
 base:attributeBase o m X.env (eval o X.env)=eval o X.env
 few:((backTo cpos (starEach [e,f] X.env)).all (fun x=>!x.1) && (backToKw cpos (keywordEach [] X.env)).all (fun x=>x.1.isSome)
  && decide (([e,f]:List Expr).length + ([]:List Keyword).length + (if ([]:List Keyword).isEmpty then 0 else 1) < 30))=true
 line:(apos.endLine == cpos.line)=true
 trees:backTo cpos (starEach [e,f] X.env)=[(false,eval e X.env),(false,eval f X.env)]
def IsD (H:Hp) (a:Addr):Prop:=(∃ kvs,Rd H a (.dK kvs))∨∃ kvs,Rd H a (.dT kvs)
theorem V8 (I:Inv X pins σ H s) (d:IsD H a) :
  s.TypeIs (.ref a) "dict" ∧ (∀ b,Value.ref a=.ref b→∃ ob,s.heap.get? b=some ob∧ob.dict=none)∧(a == sysModules)=false:=by
 rcases d with ⟨kvs,e⟩ | ⟨kvs,e⟩
 ·obtain ⟨_,hd,vs,_,dd⟩:=t9 I.hok e
  refine ⟨dd.typeIs,fun b q=>?_,hd⟩
  cases q
  obtain ⟨ob,_,_,h1,h2,_⟩:=dd
  exact ⟨ob,h1,h2.2.1⟩
 ·obtain ⟨_,hd,xs,_,dd⟩:=t8 I.hok e
  refine ⟨dd.typeIs,fun b q=>?_,hd⟩
  cases q
  obtain ⟨ob,_,_,h1,h2,_⟩:=dd
  exact ⟨ob,h1,h2.2.1⟩
section
variable {X:Cx} {pins:List (Addr×Obj)} {σ:St} {H:Hp} {s:Shared} {a:Addr} {y d:V} {u r:Value} {o:Option V} {A:Around} {E:Value→Shared→Prop}
theorem zd8 (hu:A.units + 1 < cLine) (I:Inv X pins σ H s) (g:DGet H a y o) (ry:RelV y u) (h:∀ w' s',Inv X pins σ H s'→RelV (o.getD .non) w'→Q w' s') :
  wpAny (model X.prog X.w) A (call (.builtin "dict.get") [.ref a,u]) Q E s:=by
 rcases g with ⟨kvs,k,e,ey,l⟩ | ⟨kvs,k,b,e,ey,eb,l⟩
 ·subst ey
  obtain ⟨z,hd,vs,rel,dd⟩:=t9 I.hok e
  refine call_meetsIn ξk dd.typeIs ξG (PySem.F.args_dict_get_2 _ _) (meets_dict_get (yi X.prog X.w) a (ZR ry) hd) ⟨_,dd.mapOf,h _ _ (I.tok _) ?_⟩
  rw [l]
  exact (rel.val k).getD rfl
 ·subst ey
  cases (show u=Value.ref b from ry)
  obtain ⟨z,hd,xs,rel,dd⟩:=t8 I.hok e
  refine call_meetsIn ξk dd.typeIs ξG (PySem.F.args_dict_get_2 _ _) (meetsH_dict_get (tupleKind (yi X.prog X.w)) a b hd) ⟨tupleKind_room_in1 hu,k,xs,wY I.hok eb,dd,h _ _ (I.tok _) ?_⟩
  rw [l]
  exact (rel.val k).getD rfl
theorem zd7 (hu:A.units + 1 < cLine) (I:Inv X pins σ H s) (g:DGet H a y o) (ry:RelV y u) (rd:RelV d r) (h:∀ w' s',Inv X pins σ H s'→RelV (o.getD d) w'→Q w' s') :
  wpAny (model X.prog X.w) A (call (.builtin "dict.get") [.ref a,u,r]) Q E s:=by
 rcases g with ⟨kvs,k,e,ey,l⟩ | ⟨kvs,k,b,e,ey,eb,l⟩
 ·subst ey
  obtain ⟨z,hd,vs,rel,dd⟩:=t9 I.hok e
  refine call_meetsIn ξk dd.typeIs ξG (PySem.F.args_dict_get_3 _ _ _) (meets_dict_get_default (yi X.prog X.w) a (ZR ry) hd r) ⟨_,dd.mapOf,h _ _ (I.tok _) ?_⟩
  rw [l]
  exact (rel.val k).getD rd
 ·subst ey
  cases (show u=Value.ref b from ry)
  obtain ⟨z,hd,xs,rel,dd⟩:=t8 I.hok e
  refine call_meetsIn ξk dd.typeIs ξG (PySem.F.args_dict_get_3 _ _ _) (meetsH_dict_get_default (tupleKind (yi X.prog X.w)) a b hd r) ⟨tupleKind_room_in1 hu,k,xs,wY I.hok eb,dd,h _ _ (I.tok _) ?_⟩
  rw [l]
  exact (rel.val k).getD rd
end
def Qu (td ty:TE):TE:=fun σ H Q=>td σ H fun x H1=>∃ a,x=.ref a∧IsD H1 a∧ty σ H1 fun y H2=>∃ o,DGet H2 a y o∧Q (o.getD .non) H2
def Qt (td ty tx:TE):TE:=fun σ H Q=>td σ H fun x H1=>∃ a,x=.ref a∧IsD H1 a∧ty σ H1 fun y H2=>tx σ H2 fun z H3=>∃ o,DGet H3 a y o∧Q (o.getD z) H3
section
variable {X:Cx} {o e f:Expr} {apos cpos:Pos} {td ty tx:TE}
theorem Q6 (hu:X.A.units + 1 < cLine) (ho:PE X o td) (he:PE X e ty) (m:M1 X o "get" apos e cpos):PE X (.Call (.Attribute o "get" apos) [e] [] cpos) (Qu td ty):=by
 intro pins s σ H Q I h
 refine wpAny_Call_method m.base m.few m.line ξY ξk PySem.F.type_dict_get (thn (ho pins s σ H _ I h) fun u s1 ⟨x,H1,I1,rx,a,ex,d,q1⟩=>?_)
 subst ex
 obtain rfl:u=Value.ref a:=rx
 obtain ⟨t1,t2,_⟩:=V8 I1 d
 refine ⟨t1,t2,?_⟩
 rw [m.trees]
 refine Calls.callWith_builtin rfl (Calls.evalArgs_plain (Calls.spliced_cons (thn (he pins s1 σ H1 _ I1 q1) fun iv s2 ⟨y,H2,I2,ry,ov,g,q2⟩=>Calls.spliced_nil ?_)))
 exact zd8 hu I2 g ry fun w' s3 I3 rw'=>⟨_,H2,I3,rw',q2⟩
theorem Q5 (hu:X.A.units + 1 < cLine) (ho:PE X o td) (he:PE X e ty) (hf:PE X f tx) (m:M2 X o "get" apos e f cpos):PE X (.Call (.Attribute o "get" apos) [e,f] [] cpos) (Qt td ty tx):=by
 intro pins s σ H Q I h
 refine wpAny_Call_method m.base m.few m.line ξY ξk PySem.F.type_dict_get (thn (ho pins s σ H _ I h) fun u s1 ⟨x,H1,I1,rx,a,ex,d,q1⟩=>?_)
 subst ex
 obtain rfl:u=Value.ref a:=rx
 obtain ⟨t1,t2,_⟩:=V8 I1 d
 refine ⟨t1,t2,?_⟩
 rw [m.trees]
 refine Calls.callWith_builtin rfl (Calls.evalArgs_plain (Calls.spliced_cons (thn (he pins s1 σ H1 _ I1 q1) fun iv s2 ⟨y,H2,I2,ry,q2⟩ =>
  Calls.spliced_cons (thn (hf pins s2 σ H2 _ I2 q2) fun fv s3 ⟨z,H3,I3,rz,ov,g,q3⟩=>Calls.spliced_nil ?_))))
 exact zd7 hu I3 g ry rz fun w' s4 I4 rw'=>⟨_,H3,I4,rw',q3⟩
end
section
variable {X:Cx} {pins:List (Addr×Obj)} {σ:St} {H:Hp} {s:Shared} {a:Addr} {kvs:List (Key×V)} {A:Around} {E:Value→Shared→Prop}
end
section
variable {X:Cx} {pins:List (Addr×Obj)} {σ:St} {H:Hp} {s:Shared} {a:Addr} {y:V} {u:Value} {A:Around} {E:Value→Shared→Prop}
end
end L2
namespace PD
open PySem L2
section
variable {K:ζa} {S S':Sx} {κ κ':Bool} {Γ Γ' Γ'':Ctx} {P:Post} {E:XK}
abbrev DTab:=List (Key×V)
def dGet (m:DTab) (k:Int):Option V:=valV m (.inl k)
def dPut (m:DTab) (k:Int) (v:V):DTab:=putK m (.inl k) v
theorem za1 (k:Int):dGet [] k=none:=rfl
theorem za0 (m:DTab) (k j:Int) (v:V):dGet (dPut m k v) j=if j=k then some v else dGet m j:=by
 unfold dGet dPut
 rw [Wl]
 by_cases h:j=k
 ·rw [if_pos h,if_pos (by rw [h])]
 ·rw [if_neg h,if_neg (fun z=>h (Sum.inl.inj z))]
theorem zaZ (m:DTab) (k:Int) (v:V):(dPut m k v).length≤m.length + 1:=xD m _ v
def toV:PyData→Option V
 | .int i=>some (.int i)
 | .bool b=>some (.bl b)
 | _=>none
theorem zdm (p:Rp K κ S H0 F v d) (h:toV d=some w):v=w:=by
 cases d with
 | int i=>cases ym p; exact ζI h
 | bool b=>cases uC p; exact ζI h
 | _=>cases h
theorem Qm (h:toV d=some w):Rp K κ S H0 F w d:=by
 cases d with
 | int i=>cases h; exact .int i
 | bool b=>cases h; exact .bl b
 | _=>cases h
theorem zch (es:SetC Γ i (some (.od (.dK []))) Γ') (k:ExT K S S' u Γ' P):ExT K S S' (tSeq (tAsg Qs (yn i)) u) Γ P:=fun H0 F0 H F σ B e bb vv D I=>by
 refine fun p hp=>?_
 have g:Gr H F (upd H p (.dK [])) F:=.newO e.le hp _
 have e1:=(e.mono g).set (i:=i) (v:=.ref p) (x:=.od (.dK [])) ⟨p,rfl,⟨zi,e.le.free hp,e.gr.h.free hp,e.out hp⟩⟩ fun c oc j y w hj z hw o=>by
  cases (show V.ref p=.ref c from oc)
  exact e.newOwn g hp j y w z hw o
 rw [es.eq] at e1
 exact k H0 F0 _ F _ B e1 bb vv D I
theorem T8 (h:GetC Γ i (.od (.dK m))) (ha:EvE K S false ta Γ (.int k)):EvE K S κ (Xh ta (tVar i)) Γ (.bool (!(dGet m k).isSome)):=fun H0 F0 H F σ e Q q=>ha H0 F0 H F σ e _ fun v H1 F1 g1 p1=>by
 cases ym p1
 obtain ⟨v0,q1,a,rfl,w⟩:=(e.mono g1).has i _ h.eq
 exact ⟨_,q1,a,_,rfl,DGet.k (k:=.inl k) w.h,q _ H1 F1 g1 (.bl _)⟩
theorem zcg (h:GetC Γ i (.od (.dK m))) (hv:EvE K S false tv Γ d) (hk:EvE K S false tk Γ (.int k)) (hw:toV d=some w) (hz:m.length < sizeLine) (es:SetC Γ i (some (.od (.dK (dPut m k w)))) Γ') (kk:P.nx Γ'):ExS K S (zcU (tVar i) tk tv) Γ P:=fun H0 F0 H F σ B e bb vv D I =>
 hv H0 F0 H F σ e _ fun v H1 F1 g1 p1=>by
  cases zdm p1 hw
  obtain ⟨v0,q1,a,rfl,o⟩:=(e.mono g1).has i _ h.eq
  refine ⟨_,q1,hk H0 F0 H1 F1 σ (e.mono g1) _ fun v2 H2 F2 g2 p2=>?_⟩
  cases ym p2
  have e2:=(e.mono g1).mono g2
  have o2:=o.mono g2
  refine ⟨a,_,rfl,DPut.k (k:=.inl k) o2.h hz,?_⟩
  have e3:=e2.putO (oo:=.dK (dPut m k w)) (y:=.od (.dK (dPut m k w))) h.eq q1 (show Owns H2 (.ref a) (.od (.dK m)) a from rfl) ⟨a,rfl,⟨zi,o2.f,o2.n,o2.s⟩⟩ fun _ z=>z
  rw [es.eq] at e3
  exact I.nx _ _ _ F2 kk ((bb.trans g1.f).trans g2.f) e3
abbrev zeo (K:ζa) (m:DTab):Hp→Hp→Hp→Hp→V→Prop:=fun H0 F0 H F v=>Gr H0 F0 H F∧HasV K .fresh H0 H F v (.od (.dK m))
abbrev Wh (K:ζa) (G:DTab→Prop):Hp→Hp→Hp→Hp→V→Prop:=fun H0 F0 H F v=>∃ m,G m∧zeo K m H0 F0 H F v
theorem T4 (h:GetC Γ i (.od (.dK m))) (hg:G m):ExM K (tRet (tVar i)) Γ (Wh K G):=fun H0 F0 H F σ e D q=>by
 obtain ⟨v,q1,w⟩:=e.has i _ h.eq
 exact ⟨_,q1,q _ H F ⟨m,hg,e.gr,w⟩⟩
def spDW (K:ζa) (pre:List PyData→(DTab→Prop)→Prop):Sp:=fun vs H Q _=>∃ F ds G,Same F H∧zO K F vs ds∧pre ds G∧∀ v H' F',Wh K G H F H' F' v→Q v H'
theorem Qx (h:∀ ds G,pre ds G→ds.length=n) (s:spDW K pre vs H Q E):vs.length=n:=by
 obtain ⟨F,ds,m,_,k,p,_⟩:=s
 rw [zO.length k]
 exact h ds m p
def dkO (m:DTab):Addr→HO:=fun _=>.dK m
theorem YN {pre:List PyData→(DTab→Prop)→Prop} {ta:TA} {ds:List PyData} {G:DTab→Prop} {i:Nat} {u:TS} {Γn:DTab→Ctx} (h:EvA K .fresh false ta Γ ds) (hp:pre ds G) (es:∀ m,SetC Γ i (some (.xn (dkO m))) (Γn m)) (k:∀ m,G m→ExT K .fresh S' u (Γn m) P) :
  ExT K .fresh S' (tSeq (tAsg (v6 (spDW K pre) [] E ta) (yn i)) u) Γ P:=fun H0 F0 H F σ B e bb vv D I =>
 h H0 F0 H F σ e _ fun vs H1 F1 g1 p1=>⟨F1,ds,G,g1.le,by rw [ζG]; exact zP p1,hp,fun v H2 F2 ⟨m,hg,g2,a,ev,w⟩=>by
  have e1:=e.mono g1
  have s2:Same F2 (upd F2 a (.dK m)):=Same.new w.f _
  have g3:Gr H1 F1 H2 (upd F2 a (.dK m)):=⟨g2.h,g2.f.trans s2,fun c o z=>by
   by_cases ec:c=a
   ·subst ec; rw [zi] at z; rw [← z]; exact w.h
   ·rw [zp ec] at z; exact g2.le _ _ z,fun c o z y=>by
   rw [zp (zB z w.n)]; exact g2.ap _ _ z y⟩
  have e2:=(e1.mono g3).set (i:=i) (v:=v) (x:=.xn (dkO m)) ⟨a,ev,zi⟩ fun _ z=>z.elim
  rw [(es m).eq] at e2
  exact k m hg H0 F0 H2 _ _ B e2 (bb.trans (g1.f.trans g3.f)) vv D I⟩
theorem zcu (h:GetC Γ i (.xn (dkO m))) (ha:EvE K S false ta Γ (.int k)):EvE K S κ (tDIn ta (tVar i)) Γ (.bool (dGet m k).isSome):=fun H0 F0 H F σ e Q q=>ha H0 F0 H F σ e _ fun v H1 F1 g1 p1=>by
 cases ym p1
 obtain ⟨v0,q1,a,rfl,w⟩:=(e.mono g1).has i _ h.eq
 exact ⟨_,q1,a,_,rfl,DGet.k (k:=.inl k) ((e.mono g1).le _ _ w),q _ H1 F1 g1 (.bl _)⟩
theorem Z1 (h:GetC Γ i (.xn (dkO m))) (ha:EvE K S false ta Γ (.int k)):EvE K S κ (Xh ta (tVar i)) Γ (.bool (!(dGet m k).isSome)):=fun H0 F0 H F σ e Q q=>ha H0 F0 H F σ e _ fun v H1 F1 g1 p1=>by
 cases ym p1
 obtain ⟨v0,q1,a,rfl,w⟩:=(e.mono g1).has i _ h.eq
 exact ⟨_,q1,a,_,rfl,DGet.k (k:=.inl k) ((e.mono g1).le _ _ w),q _ H1 F1 g1 (.bl _)⟩
theorem Vb (h:GetC Γ i (.xn (dkO m))) (ha:EvE K S false ta Γ (.int k)) (hm:dGet m k=some w) (hw:toV d=some w):EvE K S κ (Ux (tVar i) ta) Γ d:=fun H0 F0 H F σ e Q q=>by
 obtain ⟨v0,q1,a,rfl,o⟩:=e.has i _ h.eq
 refine ⟨_,q1,ha H0 F0 H F σ e _ fun v H1 F1 g1 p1=>?_⟩
 cases ym p1
 refine ⟨a,w,rfl,?_,q w H1 F1 g1 (Qm hw)⟩
 have:=DGet.k (k:=.inl k) (g1.h _ _ (e.le _ _ o))
 rwa [show valV m (.inl k)=some w from hm] at this
theorem YW (h:GetC Γ i (.xn (dkO m))) (ha:EvE K S false ta Γ (.int k)) (hd:(dGet m k=none∧d=.none)∨∃ w,dGet m k=some w∧toV d=some w):EvE K S κ (Qu (tVar i) ta) Γ d:=fun H0 F0 H F σ e Q q=>by
 obtain ⟨v0,q1,a,rfl,o⟩:=e.has i _ h.eq
 refine ⟨_,q1,a,rfl,.inl ⟨m,.inl (e.le _ _ o)⟩,ha H0 F0 H F σ e _ fun v H1 F1 g1 p1=>?_⟩
 cases ym p1
 refine ⟨_,DGet.k (k:=.inl k) (g1.h _ _ (e.le _ _ o)),?_⟩
 rcases hd with ⟨hm,rfl⟩ | ⟨w,hm,hw⟩
 ·rw [show valV m (.inl k)=none from hm]
  exact q _ H1 F1 g1 .non
 ·rw [show valV m (.inl k)=some w from hm]
  exact q _ H1 F1 g1 (Qm hw)
end
end PD
namespace So
open PySem PySem.W PyProof.Rows
section
variable {α β:Type} {lt:Nat→Nat→Bool} {n:Nat} {key:Nat→Int}
def ev (lt:Nat→Nat→Bool):KasT α→α
 | .ret a=>a
 | .ask i j k=>ev lt (k (lt i j))
theorem vV (f:α→KasT β):∀ t:KasT α,ev lt (t.bind f)=ev lt (f (ev lt t))
 | .ret _=>rfl
 | .ask i j k=>vV f (k (lt i j))
def Asks (n:Nat):KasT α→Prop
 | .ret _=>True
 | .ask i j k=>i < n∧j < n∧∀ b,Asks n (k b)
theorem vY:∀ {t:KasT α},Asks n t→(∀ a,Asks n (f a))→Asks n (t.bind f)
 | .ret a,_,h=>h a
 | .ask _ _ _,h,g=>⟨h.1,h.2.1,fun b=>vY (h.2.2 b) g⟩
theorem zcK (hc:∀ i j C,i < n→j < n→C (lt i j) s→cmp i j C s):∀ (t:KasT α),Asks n t→Q (ev lt t) s→t.kasWp cmp Q s
 | .ret _,_,h=>h
 | .ask i j k,a,h=>hc i j _ a.1 a.2.1 (zcK hc (k (lt i j)) (a.2.2 _) h)
abbrev at' (p:Array Nat) (i:Nat):Nat:=p.getD i 0
theorem Wf (h:i < p.size):p[i]?=some (at' p i):=by simp [at',h]
theorem U9 (h:p[i]?=q[j]?):at' p i=at' q j:=by
 show p.getD i 0=q.getD j 0
 rw [ξT,ξT,h]
structure PO (n:Nat) (p:Array Nat):Prop where
 z:p.size=n
 nd:p.toList.Nodup
 lt:∀ x∈p.toList,x < n
theorem PO.perm (h:PO n p) (e:q.Perm p):PO n q:=⟨e.size_eq.trans h.z,(Array.perm_iff_toList_perm.mp e).nodup_iff.mpr h.nd,fun x hx=>h.lt x ((Array.perm_iff_toList_perm.mp e).mem_iff.mp hx)⟩
theorem PO.at (h:PO n p) (i:Nat) (n0:0 < n):at' p i < n:=by
 by_cases c:i < p.size
 ·refine h.lt _ (ζk (i:=i) ?_)
  rw [ξm]
  exact Wf c
 ·show p.getD i 0 < n
  rw [ξT,Array.getElem?_eq_none (by omega)]
  exact n0
theorem PO.ne (h:PO n p) (hi:i < n) (hj:j < n) (hij:i≠j):at' p i≠at' p j:=fun e=>by
 have h1:=Wf (p:=p) (i:=i) (by rw [h.z]; exact hi)
 have h2:=Wf (p:=p) (i:=j) (by rw [h.z]; exact hj)
 rw [← e] at h2
 rw [← ξm] at h1 h2
 obtain ⟨a1,b1⟩:=ζe.mp h1
 obtain ⟨a2,b2⟩:=ζe.mp h2
 exact hij ((ξN h.nd).mp (b1.trans b2.symm))
theorem yZ (p:Array Nat) (i j:Nat):(kas_rev p i j).Perm p:=mirror_perm ..
theorem Z9 (h:PO n p) (n0:0 < n):∀ f m,Asks n (kas_asc p f m)
 | 0,_=>trivial
 | f + 1,m=>⟨h.at _ n0,h.at _ n0,fun b=>by cases b <;> first | exact trivial | exact Z9 h n0 f (m + 1)⟩
theorem Yx (h:PO n p) (n0:0 < n) (m r:Nat):Asks n (kas_tail3 m r p):=vY (Z9 (h.perm (yZ ..)) n0 _ _) fun _=>trivial
theorem vW (n0:0 < n):∀ (f:Nat) (p:Array Nat) (m q:Nat),PO n p→Asks n (kas_desc f p m q)
 | 0,_,_,_,_=>trivial
 | f + 1,p,m,q,h=>⟨h.at _ n0,h.at _ n0,fun b=>by
  cases b with
  | true =>
   show Asks n (if q > 0 then _ else _)
   split
   ·exact vW n0 f _ _ _ (h.perm (yZ ..))
   ·exact vW n0 f _ _ _ h
  | false=>exact ⟨h.at _ n0,h.at _ n0,fun d=>by cases d <;> first | exact trivial | exact vW n0 f _ _ _ h⟩⟩
def All (φ:α→Prop):KasT α→Prop
 | .ret a=>φ a
 | .ask _ _ k=>∀ b,All φ (k b)
theorem tj:∀ {t:KasT α},All φ t→(∀ a,φ a→All ψ (f a))→All ψ (t.bind f)
 | .ret a,h,g=>g a h
 | .ask _ _ _,h,g=>fun b=>tj (h b) g
theorem Z8:∀ {t:KasT α},Asks n t→All φ t→(∀ a,φ a→Asks n (f a))→Asks n (t.bind f)
 | .ret a,_,h,g=>g a h
 | .ask _ _ _,h,k,g=>⟨h.1,h.2.1,fun b=>Z8 (h.2.2 b) (k b) g⟩
theorem vH:∀ (f:Nat) (p:Array Nat) (m q:Nat),PO n p→All (fun r:Array Nat×Nat×Nat=>PO n r.1) (kas_desc f p m q)
 | 0,_,_,_,h=>h
 | f + 1,p,m,q,h=>fun b=>by
  cases b with
  | true =>
   show All _ (if q > 0 then _ else _)
   split
   ·exact vH f _ _ _ (h.perm (yZ ..))
   ·exact vH f _ _ _ h
  | false=>exact fun d=>by cases d <;> first | exact h | exact vH f _ _ _ h
theorem Yb (h:∀ a,φ a):∀ t:KasT α,All φ t
 | .ret a=>h a
 | .ask _ _ k=>fun b=>Yb h (k b)
theorem Wn (h:PO n p) (m r:Nat):All (fun r:Nat×Array Nat=>PO n r.2) (kas_tail3 m r p):=tj (Yb (φ:=fun _=>True) (fun _=>trivial) _) fun _ _=>h.perm (yZ ..)
theorem vQ (h:PO n p) (n0:0 < n) (m r:Nat):Asks n (kas_descPart m r p)∧All (fun r:Nat×Array Nat=>PO n r.2) (kas_descPart m r p):=by
 refine ⟨Z8 (vW n0 _ _ _ _ h) (vH _ _ _ _ h) fun a ha=>?_,tj (vH _ _ _ _ h) fun a ha=>?_⟩
 ·split
  ·exact Yx (ha.perm (yZ ..)) n0 _ _
  ·exact Yx ha n0 _ _
 ·split
  ·exact Wn (ha.perm (yZ ..)) _ _
  ·exact Wn ha _ _
theorem Z4 (h:PO n p) (n0:0 < n) (r:Nat):Asks n (kas_count r p)∧All (fun r:Nat×Array Nat=>PO n r.2) (kas_count r p):=by
 refine ⟨vY (Z9 h n0 _ _) fun a=>?_,tj (Yb (φ:=fun _=>True) (fun _=>trivial) _) fun a _=>?_⟩
 ·split
  ·exact trivial
  ·split
   ·exact ⟨h.at _ n0,h.at _ n0,fun b=>by cases b <;> first | exact trivial | exact (vQ (h.perm (yZ ..)) n0 _ _).1⟩
   ·exact (vQ h n0 _ _).1
 ·split
  ·exact h
  ·split
   ·exact fun b=>by cases b <;> first | exact h | exact (vQ (h.perm (yZ ..)) n0 _ _).2
   ·exact (vQ h n0 _ _).2
theorem ZD (h:PO n p) (n0:0 < n) (k:Nat):∀ f l r,Asks n (kas_place p k f l r)
 | 0,_,_=>trivial
 | f + 1,l,r=>by
  show Asks n (if l≥r then _ else _)
  split
  ·exact trivial
  ·exact ⟨h.at _ n0,h.at _ n0,fun b=>by cases b <;> first | exact ZD h n0 k f _ _⟩
theorem Vl (n0:0 < n):∀ (f:Nat) (p:Array Nat) (k:Nat),PO n p→Asks n (kas_bin f p k)
 | 0,_,_,_=>trivial
 | f + 1,p,k,h=>vY (ZD h n0 k _ _ _) fun l=>Vl n0 f _ _ (h.perm (bubble_perm ..))
theorem uF (n:Nat):PO n (List.toArray (List.range n)):=⟨by simp,List.nodup_range,fun x hx=>List.mem_range.mp hx⟩
theorem Tm (n0:0 < n):Asks n (kas_sort n):=Z8 (Z4 (uF n) n0 n).1 (Z4 (uF n) n0 n).2 fun a ha=>by
 split
 ·exact Vl n0 _ _ _ ha
 ·exact trivial
end
section
variable {n:Nat} {key:Nat→Int}
def ltK (key:Nat→Int) (i j:Nat):Bool:=decide (key i < key j)
theorem ZP (h:key a < key b):ltK key a b=true:=decide_eq_true h
theorem zan (h:¬ key a < key b):¬ ltK key a b=true:=by unfold ltK; rw [decide_eq_false h]; simp
structure Inj (n:Nat) (key:Nat→Int):Prop where
 i:∀ i j,i < n→j < n→key i=key j→i=j
def Up (key:Nat→Int) (p:Array Nat) (k:Nat):Prop:=∀ i j,i < j→j < k→key (at' p i) < key (at' p j)
def Dn (key:Nat→Int) (p:Array Nat) (k:Nat):Prop:=∀ i j,i < j→j < k→key (at' p j) < key (at' p i)
theorem PO.kne (h:PO n p) (hi:Inj n key) (h1:i < n) (h2:j < n) (h3:i≠j):key (at' p i)≠key (at' p j):=fun e=>h.ne h1 h2 h3 (hi.i _ _ (h.at _ (by omega)) (h.at _ (by omega)) e)
theorem Um (h:PO n p) (hi:Inj n key):∀ f m,1≤m→m + f≤n→Up key p m→m≤ev (ltK key) (kas_asc p f m)∧ev (ltK key) (kas_asc p f m)≤m + f∧Up key p (ev (ltK key) (kas_asc p f m))∧(ev (ltK key) (kas_asc p f m) < m + f→key (at' p (ev (ltK key) (kas_asc p f m))) < key (at' p (ev (ltK key) (kas_asc p f m) - 1)))
 | 0,m,_,_,u=>⟨ζh _,ζh _,u,fun z=>absurd z (ζS _)⟩
 | f + 1,m,m1,ml,u=>by
  have e:ev (ltK key) (kas_asc p (f + 1) m)=ev (ltK key) (if ltK key (at' p m) (at' p (m - 1))=true then .ret m else kas_asc p f (m + 1)):=rfl
  rw [e]
  by_cases c:key (at' p m) < key (at' p (m - 1))
  ·rw [if_pos (ZP c)]
   exact ⟨ζh _,by show m≤_; omega,u,fun _=>c⟩
  ·rw [if_neg (zan c)]
   have ne:=h.kne hi (i:=m - 1) (j:=m) (by omega) (by omega) (by omega)
   have ih:=Um h hi f (m + 1) (by omega) (by omega) fun i j ij jm=>by
    by_cases y:j=m
    ·subst y
     by_cases x:i=j - 1
     ·subst x; omega
     ·have:=u i (j - 1) (by omega) (by omega)
      omega
    ·exact u i j ij (by omega)
   refine ⟨by omega,by omega,ih.2.2.1,fun z=>ih.2.2.2 (by omega)⟩
theorem U3 (h:PO n p) (hi:Inj n key):∀ f m,1≤m→m + f≤n→Dn key p m→∃ r,ev (ltK key) (kas_desc f p m 0)=(p,r,0)∧m≤r∧r≤m + f∧Dn key p r
 | 0,m,_,_,u=>⟨m,rfl,ζh _,ζh _,u⟩
 | f + 1,m,m1,ml,u=>by
  have e:ev (ltK key) (kas_desc (f + 1) p m 0)=ev (ltK key) (if ltK key (at' p m) (at' p (m - 1))=true then kas_desc f p (m + 1) 0 else .ask (at' p (m - 1)) (at' p m) fun d=>if d=true then .ret (p,m,0) else kas_desc f p (m + 1) (0 + 1)):=rfl
  rw [e]
  have ne:=h.kne hi (i:=m - 1) (j:=m) (by omega) (by omega) (by omega)
  by_cases c:key (at' p m) < key (at' p (m - 1))
  ·rw [if_pos (ZP c)]
   obtain ⟨r,h1,h2,h3,h4⟩:=U3 h hi f (m + 1) (by omega) (by omega) fun i j ij jm=>by
    by_cases y:j=m
    ·subst y
     by_cases x:i=j - 1
     ·subst x; omega
     ·have:=u i (j - 1) (by omega) (by omega)
      omega
    ·exact u i j ij (by omega)
   exact ⟨r,h1,by omega,by omega,h4⟩
  ·rw [if_neg (zan c)]
   refine ⟨m,?_,ζh _,by omega,u⟩
   show ev (ltK key) (if ltK key (at' p (m - 1)) (at' p m)=true then .ret (p,m,0) else _)=_
   rw [if_pos (ZP (by omega))]
   rfl
theorem QL (hm:m≤p.size) (hk:k < m):at' (kas_rev p 0 m) k=at' p (m - 1 - k):=by
 refine U9 ?_
 show (mirror p 0 m ((m - 0) / 2))[k]?=_
 rw [getElem?_mirror_all hm,if_pos ⟨ζL _,hk⟩,Nat.zero_add]
theorem zdq (hm:m≤p.size) (u:Dn key p m):Up key (kas_rev p 0 m) m:=fun i j ij jm=>by
 rw [QL hm (by omega),QL hm jm]
 exact u _ _ (by omega) (by omega)
structure CR (n:Nat) (key:Nat→Int) (r:Nat×Array Nat):Prop where
 p:PO n r.2
 u:Up key r.2 r.1
 l:r.1≤n
 o:1≤r.1
theorem zbo (h:PO n p) (hi:Inj n key) (m1:1≤m) (ml:m≤n) (u:Dn key p m):CR n key (ev (ltK key) (kas_tail3 m n p)):=by
 have hr:=h.perm (yZ p 0 m)
 have a:=Um hr hi (n - m) m m1 (by omega) (zdq (by rw [h.z]; exact ml) u)
 unfold kas_tail3
 rw [vV]
 exact ⟨hr,a.2.2.1,by have:=a.2.1; show ev _ _≤n; omega,by show 1≤ev _ _; omega⟩
theorem za2 (h:PO n p) (hi:Inj n key) (n1:1≤n):CR n key (ev (ltK key) (kas_count n p)):=by
 have a:=Um h hi (n - 1) 1 (ζh _) (by omega) (fun i j ij jm=>absurd jm (by omega))
 unfold kas_count
 rw [vV]
 generalize ev (ltK key) (kas_asc p (n - 1) 1)=m at a
 by_cases c:m=n
 ·rw [if_pos (by simp [c])]
  exact ⟨h,a.2.2.1,by show m≤n; omega,a.1⟩
 ·rw [if_neg (by simpa using c)]
  by_cases d:m > 1
  ·rw [if_pos d]
   have:key (at' p 0) < key (at' p (m - 1)):=a.2.2.1 0 (m - 1) (by omega) (by omega)
   show CR n key (ev (ltK key) (if ltK key (at' p 0) (at' p (m - 1))=true then .ret (m,p) else _))
   rw [if_pos (ZP this)]
   exact ⟨h,a.2.2.1,by show m≤n; omega,a.1⟩
  ·rw [if_neg d]
   obtain rfl:m=1:=by omega
   have lt1:=a.2.2.2 (by omega)
   unfold kas_descPart
   rw [vV]
   obtain ⟨r,h1,h2,h3,h4⟩:=U3 h hi (n - (1 + 1)) (1 + 1) (by omega) (by omega) fun i j ij jm=>by
    obtain rfl:j=1:=by omega
    obtain rfl:i=0:=by omega
    exact lt1
   rw [h1]
   show CR n key (ev (ltK key) (if 0 > 0 then _ else kas_tail3 r n p))
   rw [if_neg (ζS 0)]
   exact zbo h hi (by omega) (by omega) h4
structure PL (key:Nat→Int) (p:Array Nat) (k l:Nat):Prop where
 c:l≤k
 a:∀ i,i < l→key (at' p i) < key (at' p k)
 b:∀ i,l≤i→i < k→key (at' p k) < key (at' p i)
theorem ZC (h:PO n p) (hi:Inj n key) (kn:k < n) (u:Up key p k):∀ f l r,r - l≤f→l≤r→r≤k→(∀ i,i < l→key (at' p i) < key (at' p k))→(∀ i,r≤i→i < k→key (at' p k) < key (at' p i))→PL key p k (ev (ltK key) (kas_place p k f l r))
 | 0,l,r,hf,lr,rk,ha,hb=>⟨by show l≤k; omega,ha,fun i (h1:l≤i) h2=>hb i (by omega) h2⟩
 | f + 1,l,r,hf,lr,rk,ha,hb=>by
  show PL key p k (ev (ltK key) (if l≥r then _ else _))
  by_cases c:l≥r
  ·rw [if_pos c]
   exact ⟨by show l≤k; omega,ha,fun i (h1:l≤i) h2=>hb i (by omega) h2⟩
  ·rw [if_neg c]
   show PL key p k (ev (ltK key) (if ltK key (at' p k) (at' p ((l + r) / 2))=true then _ else _))
   have ne:=h.kne hi (i:=k) (j:=(l + r) / 2) (by omega) (by omega) (by omega)
   by_cases d:key (at' p k) < key (at' p ((l + r) / 2))
   ·rw [if_pos (ZP d)]
    refine ZC h hi kn u f l _ (by omega) (by omega) (by omega) ha fun i h1 h2=>?_
    by_cases y:i=(l + r) / 2
    ·rw [y]; exact d
    ·have:=u ((l + r) / 2) i (by omega) h2
     omega
   ·rw [if_neg (zan d)]
    refine ZC h hi kn u f _ r (by omega) (by omega) rk (fun i h1=>?_) hb
    by_cases y:i=(l + r) / 2
    ·rw [y]; omega
    ·have:=u i ((l + r) / 2) (by omega) (by omega)
     omega
theorem za8 (hk:k < p.size) (hl:l≤k) (j:Nat):at' (bubble p k (k - l)) j=if j=l then at' p k else if l < j∧j≤k then at' p (j - 1) else at' p j:=by
 have:=getElem?_bubble hk (k - l) (by omega) j
 rw [show k - (k - l)=l by omega] at this
 by_cases c:j=l
 ·rw [if_pos c] at this ⊢
  exact U9 this
 ·rw [if_neg c] at this ⊢
  by_cases d:l < j∧j≤k
  ·rw [if_pos d] at this ⊢
   exact U9 this
  ·rw [if_neg d] at this ⊢
   exact U9 this
theorem zef (hk:k < p.size) (u:Up key p k) (h:PL key p k l):Up key (bubble p k (k - l)) (k + 1):=fun i j ij jk=>by
 have hl:=h.c
 rw [za8 hk hl i,za8 hk hl j]
 by_cases c:i=l
 ·rw [if_pos c,if_neg (by omega),if_pos (by omega)]
  exact h.b _ (by omega) (by omega)
 ·rw [if_neg c]
  by_cases d:l < i∧i≤k
  ·rw [if_pos d,if_neg (by omega),if_pos (by omega)]
   exact u _ _ (by omega) (by omega)
  ·rw [if_neg d]
   by_cases e:j=l
   ·rw [if_pos e]
    exact h.a i (by omega)
   ·rw [if_neg e]
    by_cases f:l < j∧j≤k
    ·rw [if_pos f]
     by_cases g:j - 1=i
     ·omega
     ·exact u _ _ (by omega) (by omega)
    ·rw [if_neg f]
     exact u _ _ ij (by omega)
theorem zbc (hi:Inj n key):∀ (f:Nat) (p:Array Nat) (k:Nat),PO n p→k + f≤n→Up key p k→PO n (ev (ltK key) (kas_bin f p k))∧Up key (ev (ltK key) (kas_bin f p k)) (k + f)
 | 0,_,_,h,_,u=>⟨h,u⟩
 | f + 1,p,k,h,hk,u=>by
  have pl:=ZC h hi (k:=k) (by omega) u k 0 k (by omega) (ζL _) (ζh _) (fun i z=>absurd z (ζY i)) fun i h1 h2=>absurd h2 (by omega)
  have e:ev (ltK key) (kas_bin (f + 1) p k)=ev (ltK key) (kas_bin f (bubble p k (k - ev (ltK key) (kas_place p k k 0 k))) (k + 1)):=vV _ _
  rw [e]
  have:=zbc hi f _ (k + 1) (h.perm (bubble_perm p k (k - ev (ltK key) (kas_place p k k 0 k)))) (by omega) (zef (by rw [h.z]; omega) u pl)
  rw [show k + (f + 1)=k + 1 + f by omega]
  exact this
theorem zbt (hi:Inj n key) (n1:1≤n):PO n (ev (ltK key) (kas_sort n))∧Up key (ev (ltK key) (kas_sort n)) n:=by
 have c:=za2 (uF n) hi n1
 unfold kas_sort
 rw [vV]
 generalize ev (ltK key) (kas_count n (List.toArray (List.range n)))=r at c
 by_cases d:r.1 < n
 ·rw [if_pos d]
  have m:=c.o
  have:=zbc hi (n - max r.1 1) r.2 (max r.1 1) c.p (by omega) (by rw [Nat.max_eq_left m]; exact c.u)
  rw [show max r.1 1 + (n - max r.1 1)=n by omega] at this
  exact this
 ·rw [if_neg d]
  have:=c.l
  exact ⟨c.p,by rw [show n=r.1 by omega]; exact c.u⟩
end
end So
namespace L2
open PySem PySem.Spec PySem.W PyProof.Rows
inductive Prs (h:Heap):List Value→List (Int×Int)→Prop
 | nil:Prs h [] []
 | cons {a:Addr} {o:Obj} {n:Nat} {x y:Int} {t u:Tok} {vs:List Value} {ps:List (Int×Int)}:h.get? a=some o→o.cls=.type "tuple" → o.data=.seq #[.int x t,.int y u] n→Prs h vs ps→Prs h (.ref a :: vs) ((x,y) :: ps)
theorem Prs.keep (k:∀ b o,h.get? b=some o→o.cls=.type "tuple" → h'.get? b=some o):∀ {vs:List Value} {ps:List (Int×Int)},Prs h vs ps→Prs h' vs ps
 | _,_,.nil=>.nil
 | _,_,.cons h1 h2 h3 r=>.cons (k _ _ h1 h2) h2 h3 (r.keep k)
theorem Prs.len:∀ {vs:List Value} {ps:List (Int×Int)},Prs h vs ps→vs.length=ps.length
 | _,_,.nil=>rfl
 | _,_,.cons _ _ _ r=>congrArg (· + 1) r.len
theorem Prs.get:∀ {vs:List Value} {ps:List (Int×Int)} {i:Nat},Prs h vs ps→i < vs.length→∃ a o n t u,vs.getD i .none=.ref a∧h.get? a=some o∧o.data=.seq #[.int (ps.getD i (0,0)).1 t,.int (ps.getD i (0,0)).2 u] n
 | _,_,_,.nil,hi=>absurd hi (ζY _)
 | _,_,0,.cons h1 _ h3 _,_=>⟨_,_,_,_,_,rfl,h1,h3⟩
 | _,_,i + 1,.cons _ _ _ r,hi=>r.get (i:=i) (ξH hi)
theorem Prs.tups:∀ {vs:List Value} {ps:List (Int×Int)},Prs h vs ps→∃ fs,KatTups h vs fs∧fs.length=vs.length∧∀ v∈fs,∃ x t,v=.int x t
 | _,_,.nil=>⟨[],.nil,rfl,fun _ z=>by cases z⟩
 | _,_,.cons h1 h2 h3 r=>by
  obtain ⟨fs,t,l,e⟩:=r.tups
  exact ⟨_ :: fs,.cons h1 h2 h3 rfl t,congrArg (· + 1) l,ζB.mpr ⟨⟨_,_,rfl⟩,e⟩⟩
def pk (q:Int×Int):Int:=q.1 * 1000 + q.2
def pkAt (ps:List (Int×Int)) (i:Nat):Int:=pk (ps.getD i (0,0))
structure vK (ps:List (Int×Int)):Prop where
 s:∀ q∈ps,0≤q.2∧q.2 < 1000
theorem vK.at (h:vK ps) (hi:i < ps.length):0≤(ps.getD i (0,0)).2∧(ps.getD i (0,0)).2 < 1000:=by
 rw [ζd,ζp hi]
 exact h.s _ (ξM hi)
theorem zew (h1:0≤b∧b < 1000) (h2:0≤d∧d < 1000):pk (a,b) < pk (c,d)↔a < c∨a=c∧b < d:=by
 unfold pk
 show a * 1000 + b < c * 1000 + d↔_
 omega
section
variable {prog:Program} {w:World} {A:Around} {E:Value→Shared→Prop} {s:Shared} {vs:List Value} {ps:List (Int×Int)}
theorem zbH (T:Prs s.heap vs ps) (sm:vK ps) (hi:i < vs.length) (hj:j < vs.length) (h:C (So.ltK (pkAt ps) i j) s):kas_ask prog w A (tuples' true) vs i j C s:=by
 obtain ⟨a,o,n,t,u,e1,e2,e3⟩:=T.get hi
 obtain ⟨a',o',n',t',u',f1,f2,f3⟩:=T.get hj
 have s1:=sm.at (i:=i) (by rw [← T.len]; exact hi)
 have s2:=sm.at (i:=j) (by rw [← T.len]; exact hj)
 unfold So.ltK pkAt at h
 unfold kas_ask
 rw [e1,f1]
 generalize ps.getD i (0,0)=q at *
 generalize ps.getD j (0,0)=r at *
 obtain ⟨q1,q2⟩:=q
 obtain ⟨r1,r2⟩:=r
 have lx:=zew (a:=q1) (c:=r1) s1 s2
 refine kat_lt e2 e3 f2 f3 (kat_cons (wpAny_eqBool_int ?_))
 by_cases c:q1=r1
 ·rw [show (q1 == r1)=true by simp [c]]
  refine kat_yes (kat_cons (wpAny_eqBool_int ?_))
  by_cases d:q2=r2
  ·rw [show (q2 == r2)=true by simp [d]]
   refine kat_yes (kat_nil ?_)
   rw [decide_eq_false (by rw [lx]; omega)] at h
   exact h
  ·rw [show (q2 == r2)=false by simp [d]]
   refine kat_no (kat_one _ _ (wpAny_lt_int (show C _ s from ?_)))
   rw [show decide (pk (q1,q2) < pk (r1,r2))=decide (q2 < r2) from decide_eq_decide.mpr (by rw [lx]; omega)] at h
   exact h
 ·rw [show (q1 == r1)=false by simp [c]]
  refine kat_no (oneLt_int ?_)
  rw [show decide (pk (q1,q2) < pk (r1,r2))=decide (q1 < r1) from decide_eq_decide.mpr (by rw [lx]; omega)] at h
  exact h
theorem zdw (sm:vK ps) (nd:ps.Nodup):So.Inj ps.length (pkAt ps):=⟨fun i j hi hj e=>by
 have s1:=sm.at hi
 have s2:=sm.at hj
 unfold pkAt pk at e
 have e':ps.getD i (0,0)=ps.getD j (0,0):=Prod.ext (by omega) (by omega)
 rw [ζd,ζd,ζp hi,ζp hj] at e'
 exact (ξN nd).mp e'⟩
def outP (vs:List Value) (p:Array Nat):Array Value:=List.toArray (p.toList.map fun i=>vs.getD i .none)
theorem TN (ho:s.heap.get? a=some (seqObj "list" vs.toArray n)) (T:Prs s.heap vs ps) (sm:vK ps) (nd:ps.Nodup) (h64:vs.length < 64)
  (fin:∀ p:Array Nat,So.PO vs.length p→So.Up (pkAt ps) p vs.length→P (.done (.ret .none)) { s with heap:=sortedHeap s.heap a vs (outP vs p) }):wpAny (model prog w) A (Builtin.«list.sort» ⟨[.ref a],[]⟩) P E s:=by
 have hla:=ζm ho
 rw [list_sort_plain]
 refine wpAny_bind (listItems_at ho rfl (wpAny_bind (listUpdate_at ho rfl ?_)))
 obtain ⟨ep,he⟩:∃ ep,(s.heap.update a (Obj.mapSeq fun _=>#[])).get? a=some (seqObj "list" #[] ep):=⟨_,get?_update_seq ho _⟩
 refine wpAny_bind (seqEpoch_at he rfl (wpAny_bind (wpAny_newTuple (wpAny_bind (wpAny_newList (wpAny_holding ?_))))))
 generalize hH:((s.heap.update a (Obj.mapSeq fun _=>#[])).push (seqObj "tuple" vs.toArray 0)).push (seqObj "list" #[] 0)=H
 have hHa:H.get? a=some (seqObj "list" #[] ep):=by
  rw [← hH,Heap.get?_push_ne _ _ _ (by rw [size_push',Heap.size_update]; exact ζw (ξj hla))]
  rw [Heap.get?_push_ne _ _ _ (by rw [Heap.size_update]; exact ζw hla)]
  exact he
 have T':Prs H vs ps:=T.keep fun b o z hc=>by
  have hb:b≠a:=by
   rintro rfl
   rw [ho] at z
   cases z
   have hc:Value.type "list" = Value.type "tuple" := hc
   injection hc with hc
   exact absurd hc (by decide)
  rw [← hH]
  refine ζi _ (ζi _ ?_)
  rw [Heap.get?_update_ne _ _ _ _ hb]
  exact z
 have sh:∀ out,sortedHeap s.heap a vs out=H.update a (Obj.mapSeq fun _=>out):=fun out=>by rw [← hH]; rfl
 show wpAny (model prog w) A _ P E { s with heap:=H }
 dsimp only
 have hsz:vs.toArray.size=vs.length:=by simp
 by_cases h2:vs.toArray.size < 2
 ·rw [if_pos h2,if_pos h2]
  refine wpAny_bind (wpAny_pure ?_)
  rw [StateT.run_pure]
  refine wpAny_bind (wpAny_pure ?_)
  dsimp only
  have ov:(Array.map (fun x:Keyed=>x.2) (vs.toArray.zip vs.toArray))=outP vs (List.toArray (List.range vs.length)):=by
   unfold outP
   match vs,h2 with
   | [],_=>simp
   | [v],_=>simp
   | _ :: _ :: _,h2=>exact absurd h2 (by simp)
  refine wpAny_bind (seqEpoch_at hHa rfl (wpAny_bind (listUpdate_at hHa rfl ?_ (hsz2:=?_))))
  ·simp only [bne_self_eq_false,Bool.false_eq_true,if_false]
   refine wpAny_pure ?_
   have:=fin _ (So.uF vs.length) fun i j h1 h3=>absurd h3 (by omega)
   rw [sh,← ov] at this
   exact this
  ·show (Array.map (fun x:Keyed=>x.2) (vs.toArray.zip vs.toArray)).size≤_
   rw [ov]
   unfold outP
   simp [sizeLine_eq]
   omega
 ·rw [if_neg h2,if_neg h2]
  obtain ⟨fs,t,fl,fi⟩:=T'.tups
  have kd:wpAny (model prog w) A (keyKind' vs.toArray) (fun κ s'=>κ=tuples' true∧s'={ s with heap:=H }) (fun _ _=>False) { s with heap:=H } :=
   kat_kind (T:=.type "int") t (by omega) (fun v hv=>by
    obtain ⟨x,tk,rfl⟩:=fi v hv
    exact Looks.of_pure rfl) (by decide) ⟨rfl,rfl⟩
  refine wpAny_bind (wpAny_mono kd (fun κ s0 hk=>?_) fun _ _ z=>z.elim)
  obtain ⟨rfl,rfl⟩:=hk
  have ru:=kat_run (prog:=prog) (w:=w) (A:=A) (E:=E) (s:={ s with heap:=H }) (κ:=tuples' true) (vs:=vs) (ks:=vs) (Q:=fun st' s'=>s'={ s with heap:=H }∧failedOf st'=none∧∃ p,arrOf st'=p.map (kas_item (vs.toArray.zip vs.toArray))∧So.PO vs.length p∧So.Up (pkAt ps) p vs.length) (G:=fun p s'=>s'={ s with heap:=H }∧p=So.ev (So.ltK (pkAt ps)) (kas_sort vs.length)) rfl (by omega) h64 (fun p st' s' _ b1 b2 ⟨b3,b4⟩=>by
    have so:=So.zbt (n:=vs.length) (by rw [T.len]; exact zdw sm nd) (by omega)
    rw [← b4] at so
    exact ⟨b3,b2,p,b1,so.1,so.2⟩) (So.zcK (n:=vs.length) (lt:=So.ltK (pkAt ps)) (fun i j C h1 h2 hC=>zbH T' sm h1 h2 hC) _ (So.Tm (by omega)) ⟨rfl,rfl⟩)
  refine wpAny_bind (wpAny_mono ru ?_ fun _ _ e=>e)
  rintro ⟨⟨⟩,st⟩ s' ⟨rfl,hf,p,har,po,up⟩
  dsimp only
  have ov:(arrOf st).map (fun x:Keyed=>x.2)=outP vs p:=kat_snds rfl har
  refine wpAny_bind (seqEpoch_at hHa rfl (wpAny_bind (listUpdate_at hHa rfl ?_ (hsz2:=?_))))
  ·rw [hf]
   simp only [bne_self_eq_false,Bool.false_eq_true,if_false]
   refine wpAny_pure ?_
   have:=fin p po up
   rw [sh,← ov] at this
   exact this
  ·show ((arrOf st).map (fun x:Keyed=>x.2)).size≤_
   rw [ov]
   unfold outP
   have:=po.z
   simp [sizeLine_eq]
   omega
theorem Vx (hl:s.heap.IsList l vs.toArray) (T:Prs s.heap vs ps) (sm:vK ps) (nd:ps.Nodup) (h64:vs.length < 64)
  (fin:∀ p:Array Nat,So.PO vs.length p→So.Up (pkAt ps) p vs.length→Q (.ref (s.heap.objs.size + 1)) { s with heap:=sortedAll s.heap vs (outP vs p) }):wpAny (model prog w) A (call (.builtin "sorted") [.ref l]) Q E s:=by
 refine Calls.call_function_entry kind_sorted plain_sorted entry_sorted (args_sorted1 _) ?_
 unfold Builtin.«sorted»
 refine wpAny_bind (m:=checkCount "sorted" 1 1 _) (wpAny_pure (wpAny_bind (collect_list hl (wpAny_bind (wpAny_newList ?_)))))
 generalize hH:(s.heap.push (seqObj "list" #[] 0)).update s.heap.objs.size (Obj.mapSeq (· ++ vs.toArray))=H
 have hsz:H.objs.size=s.heap.objs.size + 1:=by rw [← hH,Heap.size_update,size_push']
 have hoL:(H.push (seqObj "list" vs.toArray 0)).get? (s.heap.objs.size + 1)=some (seqObj "list" vs.toArray 0):=by
  rw [← hsz]
  exact ζy _ rfl
 have T':Prs (H.push (seqObj "list" vs.toArray 0)) vs ps:=T.keep fun b o z _=>by
  have hb:=ζm z
  refine ζi _ ?_
  rw [← hH,Heap.get?_update_ne _ _ _ _ (ζw hb)]
  exact ζi _ z
 show wpAny _ _ _ _ _ { s with heap:=H.push (seqObj "list" vs.toArray 0) }
 rw [hsz]
 refine wpAny_bind (wpAny_holding (wpAny_call_entry slot_list_sort ⟨_,hoL,rfl⟩ entry_list_sort (TN (s:={ s with heap:=H.push (seqObj "list" vs.toArray 0) }) hoL T' sm nd h64 fun p po up=>⟨_,rfl,?_⟩) (args_list_sort _)))
 have:=fin p po up
 unfold sortedAll at this
 rw [hH] at this
 exact wpAny_pure ⟨_,rfl,this⟩
end
inductive PsV (K:ζa) (H:Hp):List V→List (Int×Int)→Prop
 | nil:PsV K H [] []
 | cons {a:Addr} {x y:Int} {ws:List V} {ps:List (Int×Int)}:SqT K H a [.int x,.int y]→PsV K H ws ps→PsV K H (.ref a :: ws) ((x,y) :: ps)
theorem PsV.len {K:ζa} {H:Hp}:∀ {ws:List V} {ps:List (Int×Int)},PsV K H ws ps→ws.length=ps.length
 | _,_,.nil=>rfl
 | _,_,.cons _ r=>congrArg (· + 1) r.len
theorem QU (I:Inv X pins σ H s):∀ {ws:List V} {ps:List (Int×Int)} {its:List Value},PsV X.K H ws ps→Vals ws its→Prs s.heap its ps
 | _,_,_,.nil,.nil=>.nil
 | _,_,_,.cons h r,.cons rx rs=>by
  cases rx
  obtain ⟨js,v,⟨o,e1,e2,n,e3⟩,_⟩:=I.tuple h
  cases v with
  | cons r1 v =>
   cases v with
   | cons r2 v =>
    cases v
    obtain ⟨t,rfl⟩:=r1
    obtain ⟨u,rfl⟩:=r2
    exact .cons e1 e2 e3 (QU I r rs)
theorem Uu:∀ {ws:List V} {its:List Value} {i:Nat},Vals ws its→i < ws.length→RelV (ws.getD i .non) (its.getD i .none)
 | _,_,_,.nil,h=>absurd h (ζY _)
 | _,_,0,.cons r _,_=>r
 | _,_,i + 1,.cons _ t,h=>Uu (i:=i) t (ξH h)
theorem Yu (v:Vals ws its):∀ l:List Nat,(∀ i∈l,i < ws.length)→Vals (l.map fun i=>ws.getD i .non) (l.map fun i=>its.getD i .none)
 | [],_=>.nil
 | i :: l,h=>.cons (Uu v (h i ζj)) (Yu v l fun j hj=>h j (ζr _ hj))
def Zw (K:ζa):List V→Hp→VK→Prop:=fun xs H Q=>∃ p ws ps,xs=[.ref p]∧SqL K H p ws∧PsV K H ws ps∧vK ps∧ps.Nodup∧ws.length < 64∧∀ q,So.PO ws.length q→So.Up (pkAt ps) q ws.length→∀ l,H l=none→Q (.ref l) (upd H l (.lst (q.toList.map fun i=>ws.getD i .non)))
section
variable {X:Cx} {K:ζa}
theorem Wc:yq X (.builtin "sorted") (Zw X.K):=by
 intro pins s σ H xs us Q I r h
 obtain ⟨p,ws,ps,rfl,hq,pv,sm,nd,h64,q⟩:=h
 obtain ⟨u,rfl,rx⟩:=xh r
 cases rx
 obtain ⟨its,r',pl,hz⟩:=I.list hq
 have hl:=r'.length
 refine Vx (vs:=its) pl.isList (QU I pv r') sm nd (by omega) fun y po up=>?_
 rw [← hl] at po up
 obtain ⟨c,hc⟩:=sortedAll_at s.heap its (outP its y)
 have vy:=Yu r' y.toList po.lt
 have yl:(y.toList.map fun i=>ws.getD i V.non).length≤sizeLine:=by
  rw [ζb,ζ3,po.z]
  exact hz
 exact ⟨.ref (s.heap.objs.size + 1),_,I.laid (t':=s.toks) (fun _ _=>sortedAll_old) (ξw _) (show yj X.prog X.w _ _ _ (.lst (y.toList.map fun i=>ws.getD i V.non)) from ⟨yl,_,c,vy,hc⟩),rfl,q y po up _ (I.hok.fresh (ξw _))⟩
theorem Yr (hK:X.K=K):yq X (.builtin "sorted") (Zw K):=by subst hK; exact Wc
end
end L2
namespace PD
open PySem L2
def prD (q:Int×Int):PyData:=.tuple [.int q.1,.int q.2]
def srtP (ps:List (Int×Int)):List (Int×Int):=ps.mergeSort fun a b=>decide (pk a≤pk b)
theorem Yz (ps:List (Int×Int)):(srtP ps).Perm ps:=List.mergeSort_perm ps _
theorem tQ (ps:List (Int×Int)):(srtP ps).Pairwise fun a b=>pk a≤pk b:=by
 have:=List.pairwise_mergeSort (le:=fun a b:Int×Int=>decide (pk a≤pk b)) (fun a b c h1 h2=>by simp at *; omega) (fun a b=>by simp; omega) ps
 exact this.imp fun h=>by simpa using h
theorem wU:∀ {a b:List (Int×Int)},vK a→a.Perm b→(a.Pairwise fun x y=>pk x≤pk y)→(b.Pairwise fun x y=>pk x≤pk y)→a=b
 | [],b,_,p,_,_=>p.nil_eq
 | x :: r,[],_,p,_,_=>absurd p.length_eq (by simp)
 | x :: r,y :: t,sm,p,h1,h2=>by
  have a1:=ξl.mp h1
  have a2:=ξl.mp h2
  have hx:x∈y :: t:=p.mem_iff.mp ζj
  have hy:y∈x :: r:=p.mem_iff.mpr ζj
  have s1:=sm.s x ζj
  have s2:=sm.s y hy
  have e:x=y:=by
   rcases ζz.mp hx with e | hx
   ·exact e
   ·rcases ζz.mp hy with e | hy
    ·exact e.symm
    ·have q1:=a2.1 x hx
     have q2:=a1.1 y hy
     unfold pk at q1 q2
     exact Prod.ext (by omega) (by omega)
  subst e
  rw [wU ⟨fun q hq=>sm.s q (ζr _ hq)⟩ p.cons_inv a1.2 a2.2]
theorem QX (d:α) (l:List α):(List.range l.length).map (fun i=>l.getD i d)=l:=by
 refine List.ext_getElem (by simp) fun i h1 h2=>?_
 rw [List.getElem_map,List.getElem_range,ζd,ζp h2]
 rfl
theorem zbZ {l:List Nat} {n:Nat} (nd:l.Nodup) (lt:∀ x∈l,x < n) (hl:l.length=n):l.Perm (List.range n):=by
 refine (List.perm_ext_iff_of_nodup nd ξK).mpr fun x=>⟨fun h=>ζD.mpr (lt x h),fun h=>?_⟩
 have hx:=ζD.mp h
 by_cases c:x∈l
 ·exact c
 ·exfalso
  have cnt:∀ (m:Nat) (l:List Nat),l.Nodup→(∀ x∈l,x < m)→l.length≤m:=fun m=>by
   induction m with
   | zero=>intro l _ h; cases l with
    | nil=>exact ζh _
    | cons a t=>exact absurd (h a ζj) (ζY _)
   | succ m ih =>
    intro l nd h
    have e:=ih (l.erase m) (nd.erase m) fun x hx=>by
     have h1:=h x (List.mem_of_mem_erase hx)
     have h2:x≠m:=fun z=>by subst z; exact (List.Nodup.not_mem_erase nd) hx
     omega
    have:=List.length_erase (a:=m) (l:=l)
    split at this <;> omega
  have:=cnt n (x :: l) (ζU.mpr ⟨c,nd⟩) fun y hy=>by
   rcases ζz.mp hy with rfl | hy
   ·exact hx
   ·exact lt y hy
  have:l.length + 1≤n:=this
  omega
theorem Tv {ps:List (Int×Int)} {y:Array Nat} (sm:vK ps) (po:So.PO ps.length y) (up:So.Up (pkAt ps) y ps.length):(y.toList.map fun i=>ps.getD i (0,0))=srtP ps:=by
 have pm:(y.toList.map fun i=>ps.getD i (0,0)).Perm ps:=by
  have:=(zbZ po.nd po.lt (by rw [ζ3]; exact po.z)).map fun i=>ps.getD i ((0:Int),(0:Int))
  rwa [QX] at this
 refine wU ⟨fun q hq=>sm.s q (pm.mem_iff.mp hq)⟩ (pm.trans (Yz ps).symm) ?_ (tQ ps)
 rw [List.pairwise_iff_getElem]
 intro i j hi hj ij
 rw [ζb,ζ3,po.z] at hi hj
 rw [List.getElem_map,List.getElem_map]
 have h:=up i j ij hj
 have e1:So.at' y i=y.toList[i]'(by rw [Array.length_toList,po.z]; exact hi):=by simp [So.at',po.z,hi]
 have e2:So.at' y j=y.toList[j]'(by rw [Array.length_toList,po.z]; exact hj):=by simp [So.at',po.z,hj]
 rw [e1,e2] at h
 exact Int.le_of_lt h
section
variable {K:ζa} {S S':Sx} {κ κ':Bool} {Γ Γ':Ctx}
theorem QF:∀ {vs:List V} {ps:List (Int×Int)},zv K κ S H0 F vs (ps.map prD)→PsV K F vs ps
 | _,[],.nil=>.nil
 | _,q :: ps,.cons h t=>by
  obtain ⟨a,xs,rfl,h1,h2⟩:=uf h
  cases h2 with
  | cons r1 h2 =>
   cases h2 with
   | cons r2 h2 =>
    cases h2
    cases ym r1
    cases ym r2
    exact .cons h1 (QF t)
theorem WL (s:Same F H):∀ {vs:List V} {ps:List (Int×Int)},PsV K F vs ps→PsV K H vs ps
 | _,_,.nil=>.nil
 | _,_,.cons h t=>.cons (Same.seqT s h) (WL s t)
theorem QS:∀ {vs:List V} {ps:List (Int×Int)} {i:Nat},PsV K F vs ps→i < vs.length→Dp K F (vs.getD i .non) (prD (ps.getD i (0,0)))
 | _,_,_,.nil,h=>absurd h (ζY _)
 | _,_,0,.cons h _,_=>.tup h (.cons (.int _) (.cons (.int _) .nil))
 | _,_,i + 1,.cons _ t,h=>QS (i:=i) t (ξH h)
theorem WM (h:PsV K F vs ps):∀ l:List Nat,(∀ i∈l,i < vs.length)→zO K F (l.map fun i=>vs.getD i .non) ((l.map fun i=>ps.getD i (0,0)).map prD)
 | [],_=>.nil
 | i :: l,g=>.cons (QS h (g i ζj)) (WM h l fun j hj=>g j (ζr _ hj))
theorem Va (h:EvL K S false ta Γ (ps.map prD)) (sm:vK ps) (nd:ps.Nodup) (h64:ps.length < 64):EvO K S κ (tCB (Zw K) (zR ta tNil)) Γ ((srtP ps).map prD):=fun H0 F0 H F σ e Q q =>
 h H0 F0 H F σ e _ fun a vs H1 F1 g1 p1 k1=>by
  have pv:=QF k1
  have vl:=pv.len
  refine ⟨a,vs,ps,rfl,p1,WL g1.le pv,sm,nd,by omega,fun y po up l hp=>?_⟩
  have pk':=WM pv y.toList po.lt
  rw [vl] at po up
  rw [Tv sm po up] at pk'
  refine q l _ _ F1 (g1.trans (.newO g1.le hp _)) (g1.h.free hp) zi (g1.le.free hp) (x6 (fun d hd=>?_) pk')
  obtain ⟨z,_,rfl⟩:=ζn.mp hd
  rfl
end
end PD
namespace Dsp
inductive Anc (pa:Nat→Nat→Prop):Nat→Nat→Prop
 | refl (v:Nat):Anc pa v v
 | step {a b c:Nat}:pa a b→Anc pa b c→Anc pa a c
def Hi (pa:Nat→Nat→Prop) (Z:Nat→Prop) (v:Nat):Prop:=∃ z,Z z∧Anc pa v z
inductive Bb (pa:Nat→Nat→Prop) (Z:Nat→Prop) (x:Nat):Nat→Bool→Prop
 | start:Bb pa Z x x false
 | up {v u:Nat} {w:Bool}:Bb pa Z x v w→pa u v→(w=true↔Z v)→Bb pa Z x u false
 | down {v u:Nat} {w:Bool}:Bb pa Z x v w→pa v u→¬ Z v→Bb pa Z x u true
def Cd (pa:Nat→Nat→Prop) (Z:Nat→Prop) (t v u:Nat):Prop:=(pa t v∧pa u v→Hi pa Z v)∧(¬ (pa t v∧pa u v)→¬ Z v)
def Adj (pa:Nat→Nat→Prop) (a b:Nat):Prop:=pa a b∨pa b a
def Ok (pa:Nat→Nat→Prop) (Z:Nat→Prop):List Nat→Prop
 | []=>True
 | u :: r=>match r with
  | []=>True
  | v :: s=>Adj pa v u∧(∀ t,s.head?=some t→Cd pa Z t v u)∧Ok pa Z r
section
variable {pa:Nat→Nat→Prop} {Z:Nat→Prop} {x y:Nat} {rk:Nat→Nat}
theorem yh:Ok pa Z (u :: v :: s)↔Adj pa v u∧(∀ t,s.head?=some t→Cd pa Z t v u)∧Ok pa Z (v :: s):=by
 rw [Ok]
theorem XN:Ok pa Z [u]:=by rw [Ok]; trivial
theorem Ok.tail (h:Ok pa Z (u :: r)):Ok pa Z r:=by
 cases r with
 | nil=>rw [Ok]; trivial
 | cons v s=>exact (yh.mp h).2.2
theorem Ok.suf:∀ {A:List Nat},Ok pa Z (A ++ B)→Ok pa Z B
 | [],h=>h
 | _ :: A,h=>Ok.suf (A:=A) (Ok.tail h)
theorem Ok.pre:∀ {A:List Nat},Ok pa Z (A ++ B)→Ok pa Z A
 | [],_=>by rw [Ok]; trivial
 | [u],_=>XN
 | u :: v :: s,h=>by
  have h':=yh.mp h
  refine yh.mpr ⟨h'.1,fun t ht=>h'.2.1 t ?_,Ok.pre (A:=v :: s) h'.2.2⟩
  cases s with
  | nil=>cases ht
  | cons c s=>exact ht
theorem Ok.at (hT:T.head?=some t):∀ {A:List Nat},Ok pa Z (A ++ v :: T)→A.getLast?=some a→Cd pa Z t v a
 | [],_,e=>by cases e
 | [b],h,e=>by cases e; exact (yh.mp h).2.1 t hT
 | b :: c :: A,h,e=>Ok.at hT (A:=c :: A) (Ok.tail h) (by rw [List.getLast?_cons_cons] at e; exact e)
theorem Ok.splice (hD:Ok pa Z (v :: D)):∀ {A:List Nat},Ok pa Z (A ++ v :: B)→(∀ a d,A.getLast?=some a→D.head?=some d→Cd pa Z d v a)→Ok pa Z (A ++ v :: D)
 | [],_,_=>hD
 | [b],h,j=>yh.mpr ⟨(yh.mp h).1,fun t ht=>j b t rfl ht,hD⟩
 | b :: c :: A,h,j=>by
  have h':=(yh (s:=A ++ v :: B)).mp h
  have ih:=Ok.splice hD (A:=c :: A) h'.2.2 fun a d ha hd=>j a d (by rw [List.getLast?_cons_cons]; exact ha) hd
  refine (yh (s:=A ++ v :: D)).mpr ⟨h'.1,fun t ht=>h'.2.1 t ?_,ih⟩
  cases A with
  | nil=>exact ht
  | cons e A=>exact ht
theorem Hi.up (h:Hi pa Z b) (p:pa a b):Hi pa Z a:=let ⟨z,hz,q⟩:=h; ⟨z,hz,.step p q⟩
theorem U2 (dag:∀ a b,pa a b→rk a < rk b):∀ (rest:List Nat) (s0 s1 e:Nat),Ok pa Z (s0 :: s1 :: rest)→pa s0 s1→(s1 :: rest).getLast?=some e→Hi pa Z s0∨rk s0 < rk e
 | [],s0,s1,e,_,p,he=>by cases he; exact .inr (dag _ _ p)
 | s2 :: rest,s0,s1,e,h,p,he=>by
  obtain ⟨_,h2,h3⟩:=yh.mp h
  by_cases c:pa s2 s1
  ·exact .inl (Hi.up ((h2 s2 rfl).1 ⟨c,p⟩) p)
  ·have q:pa s1 s2:=by
    rcases (yh.mp h3).1 with q | q
    ·exact absurd q c
    ·exact q
   rcases U2 dag rest s1 s2 e h3 q (by rw [List.getLast?_cons_cons] at he; exact he) with z | z
   ·exact .inl (Hi.up z p)
   ·have:=dag _ _ p
    exact .inr (by omega)
theorem zcN:∀ {l:List Nat},¬ l.Nodup→∃ A v B D,l=A ++ v :: (B ++ v :: D)
 | [],h=>absurd ξc h
 | a :: r,h=>by
  by_cases c:a∈r
  ·obtain ⟨B,D,rfl⟩:=List.append_of_mem c
   exact ⟨[],a,B,D,rfl⟩
  ·obtain ⟨A,v,B,D,rfl⟩:=zcN (l:=r) fun z=>h (ζU.mpr ⟨c,z⟩)
   exact ⟨a :: A,v,B,D,rfl⟩
theorem zbw (dag:∀ a b,pa a b→rk a < rk b) (h:Ok pa Z (A ++ v :: (B ++ v :: D))):Ok pa Z (A ++ v :: D):=by
 have hS:Ok pa Z (v :: (B ++ v :: D)):=h.suf
 have hD:Ok pa Z (v :: D):=Ok.suf (A:=v :: B) hS
 refine Ok.splice hD h fun a d ha hd=>?_
 obtain ⟨t,ht⟩:∃ t,(B ++ v :: D).head?=some t:=by cases B with
  | nil=>exact ⟨_,rfl⟩
  | cons b B=>exact ⟨_,rfl⟩
 have c1:Cd pa Z t v a:=Ok.at ht h ha
 have adj:Adj pa t v:=by
  cases B with
  | nil=>cases ht; exact (yh.mp hS).1
  | cons b B=>cases ht; exact (yh.mp hS).1
 refine ⟨fun hc=>?_,fun hc=>?_⟩
 ·by_cases q:pa t v
  ·exact c1.1 ⟨q,hc.2⟩
  ·have q2:pa v t:=adj.resolve_left q
   have hP:Ok pa Z (v :: (B ++ [v])):=by
    refine Ok.pre (B:=D) ?_
    rw [List.cons_append,ξa]
    exact hS
   obtain ⟨s,hs⟩:∃ s,B ++ [v]=t :: s:=by cases B with
    | nil=>cases ht; exact ⟨[],rfl⟩
    | cons b B=>cases ht; exact ⟨B ++ [v],rfl⟩
   rw [hs] at hP
   rcases U2 dag s v t v hP q2 (by rw [← hs,List.getLast?_append]; rfl) with z | z
   ·exact z
   ·omega
 ·by_cases q:pa t v∧pa a v
  ·have nd:¬ pa d v:=fun z=>hc ⟨z,q.2⟩
   obtain ⟨k,hk⟩:∃ k,(A ++ v :: B).getLast?=some k:=by
    cases e:(A ++ v :: B).getLast? with
    | none=>rw [List.getLast?_eq_none_iff] at e; cases A <;> cases e
    | some k=>exact ⟨k,rfl⟩
   have c2:Cd pa Z d v k:=Ok.at (A:=A ++ v :: B) hd (by rw [ξa]; exact h) hk
   exact c2.2 fun z=>nd z.1
  ·exact c1.2 q
theorem Qz (dag:∀ a b,pa a b→rk a < rk b):∀ (n:Nat) (l:List Nat),l.length≤n→Ok pa Z l→∃ l',Ok pa Z l'∧l'.Nodup∧l'.head?=l.head?∧l'.getLast?=l.getLast?
 | 0,l,hl,h=>⟨l,h,by rw [ξh.mp (Nat.le_zero.mp hl)]; exact ξc,rfl,rfl⟩
 | n + 1,l,hl,h=>by
  by_cases nd:l.Nodup
  ·exact ⟨l,h,nd,rfl,rfl⟩
  ·obtain ⟨A,v,B,D,rfl⟩:=zcN nd
   obtain ⟨l',h1,h2,h3,h4⟩:=Qz dag n (A ++ v :: D) (by simp only [List.length_append,List.length_cons] at hl ⊢; omega) (zbw dag h)
   refine ⟨l',h1,h2,h3.trans ?_,h4.trans ?_⟩
   ·cases A <;> rfl
   ·rw [List.getLast?_append,List.getLast?_append,List.getLast?_cons,List.getLast?_cons,List.getLast?_append,List.getLast?_cons]
    rfl
theorem zeg (ha:Anc pa v z) (hz:Z z):Bb pa Z x v true→¬ Z v→Bb pa Z x v false:=by
 induction ha with
 | refl v=>exact fun _ n=>absurd hz n
 | step p _ ih =>
  rename_i a b c _
  intro h n
  have hb:Bb pa Z x b true:=.down h p n
  by_cases q:Z b
  ·exact .up hb p ⟨fun _=>q,fun _=>rfl⟩
  ·exact .up (ih hz hb q) p ⟨fun e=>(by cases e),fun e=>absurd e q⟩
theorem zdb (dag:∀ a b,pa a b→rk a < rk b) (hx:¬ Z x):∀ (r:List Nat) (v:Nat),Ok pa Z (v :: r)→(v :: r).getLast?=some x→(r=[]∧Bb pa Z x v false)∨∃ t s,r=t :: s∧((pa t v∧Bb pa Z x v true)∨(pa v t∧Bb pa Z x v false))
 | [],v,_,e=>by cases e; exact .inl ⟨rfl,.start⟩
 | t :: s,v,h,e=>by
  have as:∀ {a b:Nat},pa a b→¬ pa b a:=fun p q=>by have:=dag _ _ p; have:=dag _ _ q; omega
  obtain ⟨h1,h2,h3⟩:=yh.mp h
  refine .inr ⟨t,s,rfl,?_⟩
  rcases zdb dag hx s t h3 (by rw [List.getLast?_cons_cons] at e; exact e) with ⟨rfl,b⟩ | ⟨q,s',rfl,b⟩
  ·rw [List.getLast?_cons_cons] at e
   cases e
   rcases h1 with p | p
   ·exact .inl ⟨p,.down b p hx⟩
   ·exact .inr ⟨p,.up b p ⟨fun e=>(by cases e),fun e=>absurd e hx⟩⟩
  ·have c:=h2 q rfl
   rcases b with ⟨pq,b⟩ | ⟨pq,b⟩
   ·rcases h1 with p | p
    ·exact .inl ⟨p,.down b p (c.2 fun z=>as p z.2)⟩
    ·refine .inr ⟨p,?_⟩
     by_cases zt:Z t
     ·exact .up b p ⟨fun _=>zt,fun _=>rfl⟩
     ·obtain ⟨z,hz,ha⟩:=c.1 ⟨pq,p⟩
      exact .up (zeg ha hz b zt) p ⟨fun e=>(by cases e),fun e=>absurd e zt⟩
   ·have nz:¬ Z t:=c.2 fun z=>as pq z.1
    rcases h1 with p | p
    ·exact .inl ⟨p,.down b p nz⟩
    ·exact .inr ⟨p,.up b p ⟨fun e=>(by cases e),fun e=>absurd e nz⟩⟩
theorem zeC (dag:∀ a b,pa a b→rk a < rk b) (b:Bb pa Z x v w):∃ r,Ok pa Z (v :: r)∧(v :: r).getLast?=some x∧(w=true→∃ t s,r=t :: s∧pa t v)∧(w=false→r=[]∨∃ t s,r=t :: s∧pa v t):=by
 have as:∀ {a b:Nat},pa a b→¬ pa b a:=fun p q=>by have:=dag _ _ p; have:=dag _ _ q; omega
 induction b with
 | start=>exact ⟨[],XN,rfl,fun e=>(by cases e),fun _=>.inl rfl⟩
 | up _ p hw ih =>
  rename_i v u w _
  obtain ⟨r,h1,h2,h3,h4⟩:=ih
  refine ⟨v :: r,yh.mpr ⟨.inr p,fun t ht=>?_,h1⟩,by rw [List.getLast?_cons_cons]; exact h2,fun e=>(by cases e),fun _=>.inr ⟨v,r,rfl,p⟩⟩
  cases r with
  | nil=>cases ht
  | cons t' s =>
   cases ht
   cases w with
   | true =>
    obtain ⟨_,_,e,q⟩:=h3 rfl
    cases e
    exact ⟨fun _=>⟨v,hw.mp rfl,.refl v⟩,fun c=>absurd ⟨q,p⟩ c⟩
   | false =>
    rcases h4 rfl with e | ⟨_,_,e,q⟩
    ·cases e
    ·cases e
     exact ⟨fun c=>absurd c.1 (as q),fun _ z=>by have:=hw.mpr z; cases this⟩
 | down _ p nz ih =>
  rename_i v u w _
  obtain ⟨r,h1,h2,h3,h4⟩:=ih
  exact ⟨v :: r,yh.mpr ⟨.inl p,fun t ht=>⟨fun c=>absurd c.2 (as p),fun _=>nz⟩,h1⟩,by rw [List.getLast?_cons_cons]; exact h2,fun _=>⟨v,r,rfl,p⟩,fun e=>(by cases e)⟩
theorem vp (dag:∀ a b,pa a b→rk a < rk b) (hx:¬ Z x):(∃ w,Bb pa Z x y w)↔∃ l,Ok pa Z l∧l.Nodup∧l.head?=some y∧l.getLast?=some x:=by
 constructor
 ·rintro ⟨w,b⟩
  obtain ⟨r,h1,h2,_⟩:=zeC dag b
  obtain ⟨l',a1,a2,a3,a4⟩:=Qz dag _ _ (ζh _) h1
  exact ⟨l',a1,a2,a3,a4.trans h2⟩
 ·rintro ⟨l,h1,_,h3,h4⟩
  cases l with
  | nil=>cases h3
  | cons v r =>
   cases h3
   rcases zdb dag hx r _ h1 h4 with ⟨_,b⟩ | ⟨_,_,_,⟨_,b⟩ | ⟨_,b⟩⟩
   ·exact ⟨_,b⟩
   ·exact ⟨_,b⟩
   ·exact ⟨_,b⟩
theorem Cd.sy (h:Cd pa Z t v u):Cd pa Z u v t:=⟨fun c=>h.1 ⟨c.2,c.1⟩,fun c=>h.2 fun z=>c ⟨z.2,z.1⟩⟩
theorem Anc.trans (h:Anc pa a b) (k:Anc pa b c):Anc pa a c:=by
 induction h with
 | refl _=>exact k
 | step p _ ih=>exact .step p (ih k)
end
end Dsp
namespace PD
open PySem L2
section
variable {K:ζa} {S S':Sx} {κ κ':Bool} {Γ Γ' Γ'' Γ3 Γ4:Ctx} {P:Post}
theorem eg4 (e1:SetC Γ i (some (.fz κ x)) Γ') (e2:SetC Γ' j (some (.fz κ y)) Γ'') (e3:SetC Γ'' m (some (.fz κ z)) Γ3) (e4:SetC Γ3 l (some (.fz κ t)) Γ4) (h:k Γ4):ExG K S κ (gTup K 4 (uT (yn i) (uT (yn j) (uT (yn m) (uT (yn l) gNil))))) [i,j,m,l] (.tuple [x,y,z,t]) Γ k:=fun H0 F0 H F σ v e p Q q=>by
 obtain rfl:=e1.eq
 obtain rfl:=e2.eq
 obtain rfl:=e3.eq
 obtain rfl:=e4.eq
 obtain ⟨a,vs,rfl,h1,h2⟩:=uf p
 cases h2 with
 | cons px h2=>cases h2 with
  | cons py h2=>cases h2 with
   | cons pz h2=>cases h2 with
    | cons pt h2 =>
     cases h2
     refine ⟨a,_,rfl,Same.seqT e.le h1,rfl,_,_,rfl,_,_,rfl,_,_,rfl,_,_,rfl,rfl,?_⟩
     refine q _ _ H F h (.refl e.le) ((((e.setF px).setF py).setF pz).setF pt) (by simp) fun n hn=>?_
     rw [List.getElem?_set_ne (by intro z; exact hn (by simp [z])),List.getElem?_set_ne (by intro z; exact hn (by simp [z])),List.getElem?_set_ne (by intro z; exact hn (by simp [z])),List.getElem?_set_ne (by intro z; exact hn (by simp [z]))]
theorem zaH (ha:EvE K S κ ta Γ a) (hb:EvE K S κ tb Γ b) (hc:EvE K S κ tc Γ c) (hd:EvG K S κ td Γ G):EvG K S κ (tTup (zR ta (zR tb (zR tc (zR td tNil))))) Γ (fun d=>∃ x,G x∧d=.tuple [a,b,c,x]):=fun H0 F0 H F σ e Q q =>
 ha H0 F0 H F σ e _ fun va H1 F1 g1 p1=>hb H0 F0 H1 F1 σ (e.mono g1) _ fun vb H2 F2 g2 p2=>hc H0 F0 H2 F2 σ ((e.mono g1).mono g2) _ fun vc H3 F3 g3 p3=>hd H0 F0 H3 F3 σ (((e.mono g1).mono g2).mono g3) _ fun x vd H4 F4 hx g4 p4 =>
  ⟨by show 4≤sizeLine; decide,fun p hp=>q _ _ _ (upd F4 p (.tup [va,vb,vc,vd])) ⟨x,hx,rfl⟩ ((((g1.trans g2).trans g3).trans g4).trans (.new g4.le hp _)) (.tup (SqT.of zi) (zw (Same.new (g4.le.free hp) _) (.cons (yA ((g2.f.trans g3.f).trans g4.f) p1) (.cons (yA (g3.f.trans g4.f) p2) (.cons (yA g4.f p3) (.cons p4 .nil))))))⟩
end
end PD
namespace L2
open PySem PySem.Spec PyProof.Rows
def Cx.blkC (X:Cx) (y:Str) (N:List Str) (scope:Scope) (cl:List (Str×Addr)) (C:Addr) (s:Shared) (H:Hp) (fp:List Addr):Cx :=
 { X.blk N scope ((y,C + 1) :: cl) C s H fp with fn:=fun z=>z == y }
structure vZ (X:Cx) (y:Str) (N:List Str) (scope:Scope) (cl:List (Str×Addr)) (js:List (Option Nat)):Prop where
 clos:closureFor scope X.env=pure cl
 lay:∀ (n:Nat) (acc:List (Str×Addr)),cellsFrom n scope.names acc=(y,n) :: acc
 own:∀ z∈scope.names,z.2=.cell→z.1=y
 look:scope.names.lookup y=some .cell
 ny:¬ ∃ c,cl.lookup y=some c
 kind:scope.kind=.function
 names:∀ y∈scope.names,y.2=.local→scope.names.lookup y.1=some .local
 cells:∀ p∈cl,X.env.cells.lookup p.1=some p.2
 has:∀ y∈scope.names,y.2=.free→(cl.lookup y.1).isSome=true
 len:js.length=N.length
 cap:∀ (i j:Nat),js[i]?=some (some j)→∃ x,N[i]?=some x∧X.N[j]?=some x∧scope.names.lookup x=some .free∧(X.env.scope.names.lookup x=some .cell∨X.env.scope.names.lookup x=some .free)
theorem v7 {env:Env}:∀ {names:List (Str×NameKind)} {x:Str},
  ((names.map fun (n,k)=>if (k == NameKind.free && env.scope.kind == .function && env.kindOf n == some .cell) then (n,NameKind.cell) else (n,k)).lookup x=some .cell ∨
   (names.map fun (n,k)=>if (k == NameKind.free && env.scope.kind == .function && env.kindOf n == some .cell) then (n,NameKind.cell) else (n,k)).lookup x=some .free)→∃ y∈names,y.1=x∧(y.2=.free∨y.2=.cell)
 | [],_,h=>by simp at h
 | (n,k) :: r,x,h=>by
  have ih:=@v7 env r x
  have h':List.lookup x ((if (k == NameKind.free && env.scope.kind == .function && env.kindOf n == some .cell)=true then (n,NameKind.cell) else (n,k)) :: (r.map fun (n,k)=>if (k == NameKind.free && env.scope.kind == .function && env.kindOf n == some .cell) then (n,NameKind.cell) else (n,k)))=some .cell ∨
   List.lookup x ((if (k == NameKind.free && env.scope.kind == .function && env.kindOf n == some .cell)=true then (n,NameKind.cell) else (n,k)) :: (r.map fun (n,k)=>if (k == NameKind.free && env.scope.kind == .function && env.kindOf n == some .cell) then (n,NameKind.cell) else (n,k)))=some .free:=h
  cases hx:x == n with
  | true =>
   have e:x=n:=by simpa using hx
   subst e
   by_cases hcc:(k == NameKind.free && env.scope.kind == .function && env.kindOf x == some .cell)=true
   ·have kf:k=.free:=by
     cases k <;> first | rfl | (simp at hcc)
    exact ⟨(x,k),ζj,rfl,.inl kf⟩
   ·rw [if_neg hcc] at h'
    simp only [List.lookup_cons,hx] at h'
    rcases h' with q | q
    ·cases q; exact ⟨(x,.cell),ζj,rfl,.inr rfl⟩
    ·cases q; exact ⟨(x,.free),ζj,rfl,.inl rfl⟩
  | false =>
   by_cases hcc:(k == NameKind.free && env.scope.kind == .function && env.kindOf n == some .cell)=true
   ·rw [if_pos hcc] at h'
    simp only [List.lookup_cons,hx] at h'
    obtain ⟨y,hy,e⟩:=ih h'
    exact ⟨y,ζr _ hy,e⟩
   ·rw [if_neg hcc] at h'
    simp only [List.lookup_cons,hx] at h'
    obtain ⟨y,hy,e⟩:=ih h'
    exact ⟨y,ζr _ hy,e⟩
theorem V0 (lay:∀ (n:Nat) (acc:List (Str×Addr)),cellsFrom n scope.names acc=(y,n) :: acc)
  (hQ:∀ h',h'.Ns s.heap.objs.size (fun _=>none)→h'.IsCell (s.heap.objs.size + 1) none→(∀ b o,s.heap.get? b=some o→h'.get? b=some o) →
   Q (newEnv scope s.heap.objs.size globals ((y,s.heap.objs.size + 1) :: cl) qual none .none (some env) builtinsNs) { s with heap:=h' }) :
  wpAny M A (newFunctionEnv scope globals cl [] qual none .none (some env)) Q E s:=by
 simp only [newFunctionEnv,Option.isSome_some,if_true]
 refine wpAny_bind (wpAny_alloc ?_)
 refine wpAny_bind (wpAny_layCells _ (fun name kind cells=>by cases hkc:kind == NameKind.cell <;> simp [hkc]) _ _ _ _ ?_)
 have sz:({ s with heap:=s.heap.push { cls:=.type "dict", data:=.dict #[] } }:Shared).heap.objs.size=s.heap.objs.size + 1:=ξE ..
 have ok:=cellsFrom_ok scope.names (s.heap.push { cls:=.type "dict", data:=.dict #[] }) (s.heap.objs.size + 1) [] ⟨fun _ _ hm=>(nomatch hm),List.Pairwise.nil⟩ (by rw [ξE]; exact ζh _)
 rw [ξE,lay] at ok
 rw [sz,lay,List.forIn_nil]
 refine wpAny_bind (wpAny_pure (wpAny_pure (hQ _ ?_ ?_ ?_)))
 ·exact (Heap.Ns.new s.heap (.type "dict")).keeps (pushCells_keeps _ _)
 ·exact (ok.empty y _ ζj).1
 ·exact fun b o e=>pushCells_keeps _ _ b o (ζi _ e)
section
variable {X:Cx} {y:Str} {N:List Str} {scope:Scope} {cl:List (Str×Addr)} {js:List (Option Nat)} {pins:List (Addr×Obj)} {σ:St} {H:Hp} {s:Shared} {fp:List Addr}
theorem xt (h:((y,C) :: cl).lookup x=some c):(x=y∧c=C)∨(x≠y∧cl.lookup x=some c):=by
 rw [ξg] at h
 cases hx:x == y with
 | true=>rw [hx] at h; cases h; exact .inl ⟨by simpa using hx,rfl⟩
 | false=>rw [hx] at h; exact .inr ⟨by simpa using hx,h⟩
theorem UP (h:x≠y):((y,C) :: cl).lookup x=cl.lookup x:=by
 rw [ξg]
 have:(x == y)=false:=by simpa using h
 rw [this]
theorem Uk (K:vZ X y N scope cl js) (I:Inv X pins σ H s) (hf:∀ b∈fp,FpOk X pins H b) (hlt:∀ b∈fp,b < s.heap.objs.size) {h1:Heap} {m1:Str→Option Value} {tk:Nat} (hn:h1.Ns s.heap.objs.size m1)
  (hcy:h1.IsCell (s.heap.objs.size + 1) none) (hk:∀ b o,s.heap.get? b=some o→h1.get? b=some o) :
  Inv (X.blkC y N scope cl s.heap.objs.size s H fp) [] (capt js σ) H { s with heap:=h1,toks:=tk }:=by
 have bigC:∀ b∈fp,b≠s.heap.objs.size:=fun b hb=>ζw (hlt b hb)
 have celt:∀ x c,cl.lookup x=some c→c < s.heap.objs.size:=fun x c e=>by
  obtain ⟨v,q⟩:=I.cell x c (K.cells (x,c) (PySem.mem_of_lookup e))
  exact q.lt
 have noy:∀ c,cl.lookup y≠some c:=fun c e=>by
  exact K.ny ⟨c,e⟩
 have hcl:∀ x c,cl.lookup x=some c→X.env.cells.lookup x=some c:=fun x c e=>K.cells (x,c) (PySem.mem_of_lookup e)
 refine ⟨⟨I.ok.mod,K.kind,I.ok.glob,I.ok.blt,ζh _,fun x z c e1 e2=>?_,fun x hx=>?_,fun x c z e=>?_,I.ok.hd,I.ok.frames,.inl rfl,fun b hb=>⟨bigC b hb,fun x c e=>?_⟩,
  I.bs,Nat.le_trans I.ok.bsz I.sz,fun b o e hb=>?_,fun b hb z=>?_,I.stack,I.stkFree,I.ok.tb.un I.base⟩,rfl,I.bare,Un.kept hk,⟨m1,hn,fun i x v e1 e2 e3=>?_⟩,fun x c e=>?_,I.hok.fresh (Nat.le_refl _),fun x c e=>?_,fun p hp=>absurd (show p∈([]:List (Addr×Obj)) from hp) (by simp),I.hok.kept hk,?_⟩
 ·rcases xt e1 with ⟨q1,q2⟩ | ⟨n1,f1⟩ <;> rcases xt e2 with ⟨q3,q4⟩ | ⟨n2,f2⟩
  ·exact q1.trans q3.symm
  ·rw [q2] at f2
   exact absurd (celt z _ f2) (Nat.not_lt.mpr (ξw _))
  ·rw [q4] at f1
   exact absurd (celt x _ f1) (Nat.not_lt.mpr (ξw _))
  ·exact I.ok.inj x z c (hcl x c f1) (hcl z c f2)
 ·obtain ⟨z,hz,e1,e2 | e2⟩:=v7 hx
  ·have q:=K.has z hz e2
   rw [e1] at q
   obtain ⟨c,hc⟩:=ζX.mp q
   have ne:x≠y:=fun e=>by
    have:=K.names
    rw [e] at hc
    exact noy c hc
   exact ⟨c,by show ((y,s.heap.objs.size + 1) :: cl).lookup x=some c; rw [UP ne]; exact hc⟩
  ·have e:=K.own z hz e2
   rw [e1] at e
   refine ⟨s.heap.objs.size + 1,?_⟩
   show ((y,s.heap.objs.size + 1) :: cl).lookup x=_
   rw [e,ξg,beq_self_eq_true]
 ·have z:(x == y)=true:=z
  rcases xt e with ⟨_,rfl⟩ | ⟨n,_⟩
  ·show s.heap.objs.size≤s.heap.objs.size + 1; omega
  ·exact absurd (by simpa using z) n
 ·rcases xt e with ⟨_,rfl⟩ | ⟨n,e⟩
  ·exact fun z=>absurd (z ▸ hlt b hb) (Nat.not_lt.mpr (ξw _))
  ·exact (hf b hb).2.2.2.2.1 x c (hcl x c e)
 ·rcases (hf b hb).2.2.2.1 with z | z
  ·exact I.ok.noex b o e z
  ·exact absurd (ζA (ζm e) (ζV I.ok.bsz z)) (ζS _)
 ·rcases ζz.mp (I.stkSub b z) with q | q
  ·exact (hf b hb).2.1 q
  ·exact (hf b hb).2.2.1 q
 ·
  have hi:(capt js σ)[i]?=some (some v):=e2
  unfold capt at hi
  rw [ζs] at hi
  cases ej:js[i]? with
  | none=>rw [ej] at hi; cases hi
  | some o =>
   rw [ej] at hi
   cases o with
   | none=>cases hi
   | some j =>
    obtain ⟨y,h1',h2',h3',h4'⟩:=K.cap i j ej
    have e1':N[i]?=some x:=e1
    rw [h1'] at e1'
    cases e1'
    have hj:σ[j]?=some (some v):=by
     cases q:σ[j]? with
     | none=>have hi':(Option.join σ[j]?)=some v:=ζI hi; rw [q] at hi'; cases hi'
     | some w=>have hi':(Option.join σ[j]?)=some v:=ζI hi; rw [q] at hi'; cases w with
      | none=>cases hi'
      | some w=>exact congrArg some hi'
    obtain ⟨m,_,hl⟩:=I.loc
    obtain ⟨u,r,l⟩:=hl j x v h2' hj (.inr h4')
    refine ⟨u,r,.inr ⟨h4'.imp (fun z=>wO I.ok.kind h3' z) (fun z=>wN h3' z),?_⟩⟩
    rcases l with ⟨k,_⟩ | ⟨_,c,ec,hc⟩
    ·rcases h4' with h4' | h4' <;> exact absurd (k.symm.trans h4') (by intro z; cases z)
    ·obtain ⟨c',ec'⟩:=ζX.mp (K.has (x,.free) (PySem.mem_of_lookup h3') rfl)
     have e3':=hcl x c' ec'
     rw [ec] at e3'
     cases e3'
     have ne:x≠y:=fun e=>by
      rw [e,K.look] at h3'
      cases h3'
     exact ⟨c,by show ((y,s.heap.objs.size + 1) :: cl).lookup x=some c; rw [UP ne]; exact ec',hc.keeps hk⟩
 ·rcases xt e with ⟨_,rfl⟩ | ⟨_,e⟩
  ·exact ⟨none,hcy⟩
  ·obtain ⟨v,hv⟩:=I.cell x c (hcl x c e)
   exact ⟨v,hv.keeps hk⟩
 ·rcases xt e with ⟨_,rfl⟩ | ⟨n,e⟩
  ·exact .inl (I.hok.fresh (ξw _))
  ·exact (I.freeC x c (hcl x c e)).imp id fun z=>⟨(by show (x == y)=false; simpa using n),z.2⟩
 ·show (capt js σ).length=N.length
  unfold capt
  rw [ζb]
  exact K.len
theorem zbb (I:Inv X pins σ H s) (hf:∀ b∈fp,FpOk X pins H b) (J:Inv (X.blkC y N scope cl s.heap.objs.size s H fp) [] σ' H' s') (hs:Heap.SameBut s.heap.objs.size s'.heap h') :
  Inv X pins σ H' { s' with heap:=h' }:=by
 have neC:∀ b o,s.heap.get? b=some o→b≠s.heap.objs.size:=fun b o e=>ζw (ζm e)
 have u:=J.base
 have u':Un (frs X.stack) fp H H' s.heap s'.heap:=u
 refine I.call' (s':={ s' with heap:=h' }) (ch:=fp) J.os ⟨fun b o e n hb hx=>?_,fun b o e n hb hx=>?_,u'.free,fun b o e hx=>?_,u'.tups,u'.frzs,u'.tbls⟩ (fun b ob e=>?_) J.bare fun b hb=>?_
 ·exact (hs.2 b (neC b o e)).trans (u'.keep b o e n hb hx)
 ·obtain ⟨sl,q⟩:=u'.slot b o e n hb hx
  exact ⟨sl,(hs.2 b (neC b o e)).trans q⟩
 ·obtain ⟨o',q⟩:=u'.there b o e hx
  exact ⟨o',(hs.2 b (neC b o e)).trans q⟩
 ·have hfree:H' s.heap.objs.size=none:=J.free
  refine (J.hok b ob e).stay (fun c w' hc q=>(hs.2 c ?_).trans q) (fun _ q=>q) fun _ _ q=>q
  rintro rfl
  rcases hc with rfl | hc
  ·rw [hfree] at e; cases e
  ·rw [hfree] at hc; cases hc
 ·obtain ⟨f0,f1,f2,f3,f4,f5⟩:=hf b hb
  exact ⟨f3,f1,f4,f5⟩
end
section
variable {X:Cx} {y:Str} {N:List Str} {scope:Scope} {cl:List (Str×Addr)} {js:List (Option Nat)} {pins:List (Addr×Obj)} {σ:St} {H:Hp} {s:Shared}
theorem Ug {elt tg iter:Expr} {ifs:List Expr} {pos:Pos} {J:It} {fp:List Addr} {it:Addr} {tn:Nat→Heap→Prop} {g:TG} {tt:TT} {te:TE} {Q:VK} {E:Value→Shared→Prop} {RR:Value→Addr→Result→Shared→Prop}
  (hc:X.calm=true) (K:vZ X y N scope cl js) (I:Inv X pins σ H s) (T:Turn X.prog X.w X.K tg J fp it tn) (st:tn 0 s.heap) (hf:∀ b∈fp,FpOk X pins H b)
  (hg:∀ C s H fp,PG (X.blkC y N scope cl C s H fp) tg g) (ht:∀ C s H fp,PIf (X.blkC y N scope cl C s H fp) ifs tt) (he:∀ C s H fp,PE (X.blkC y N scope cl C s H fp) elt te)
  (hq:za3 J g tt te (capt js σ) Q H)
  (hRR:∀ (D:Addr) (s3 s':Shared) (H':Hp) (σ':St),Inv X pins σ (upd H D (.lst [])) s3→(∀ b∈fp,FpOk X pins (upd H D (.lst [])) b)→Inv (X.blkC y N scope cl s3.heap.objs.size s3 (upd H D (.lst [])) fp) [] σ' H' s'→Q (.ref D) H'→RR (.ref D) s3.heap.objs.size (.ok .next) s') :
  wpAny (model X.prog X.w) X.A (newList []) (fun acc s3=>wpAny (model X.prog X.w) X.A (newFunctionEnv scope X.env.globals cl [] X.env.qual none .none (some X.env)) (fun cenv s4 =>
   codeAny (model X.prog X.w) X.A (.compStart (.ListComp elt [⟨tg,iter,ifs,0⟩] scope pos) 0 (.ref it) acc { cenv with scope:=relabel scope X.env }) (RR acc cenv.locals) s4) E s3) E s:=by
 have fresh:H s.heap.objs.size=none:=I.fresh
 have lt:∀ b∈fp,b < s.heap.objs.size:=fun b hb=>by
  obtain ⟨o,e,_⟩:=T.obj _ _ st b hb
  exact ζm e
 obtain ⟨W,⟨m0,w0⟩,step⟩:=hq _ fresh
 refine wpAny_newObj_type ?_
 have I3:=I.lnew (ys:=[]) (its:=[]) (t':=s.toks) .nil (ζL _)
 have f3:∀ b∈fp,FpOk X pins (upd H s.heap.objs.size (.lst [])) b:=fun b hb=>⟨by rw [zp (ζw (lt b hb))]; exact (hf b hb).1,(hf b hb).2⟩
 generalize e3:({ s with heap:=s.heap.push { cls:=.type "list", data:=.seq ([]:List Value).toArray },toks:=s.toks }:Shared)=s3 at I3
 have st3:tn 0 s3.heap:=by
  rw [← e3]
  exact T.keep _ _ _ st fun b _ o e=>ζi _ e
 have lt3:∀ b∈fp,b < s3.heap.objs.size:=fun b hb=>by
  obtain ⟨o,e,_⟩:=T.obj _ _ st3 b hb
  exact ζm e
 refine V0 K.lay (fun h4 n4 c4 old=>?_)
 have I4:=Uk K I3 f3 lt3 (tk:=s3.toks) n4 c4 old
 have st4:tn 0 h4:=T.keep _ _ _ st3 fun b _ o e=>old b o e
 have fpB:∀ {H':Hp},(∀ b∈fp,H' b=none)→∀ b∈fp,FpOk (X.blkC y N scope cl s3.heap.objs.size s3 (upd H s.heap.objs.size (.lst [])) fp) [] H' b:=fun hn b hb =>
  ⟨hn b hb,Nat.ne_of_lt (lt3 b hb),fun z=>(List.mem_cons.mp (I3.stkSub b z)).elim (f3 b hb).2.1 (f3 b hb).2.2.1,.inl hb,fun x c e=>(xt e).elim (fun z w=>absurd (z.2 ▸ w ▸ lt3 b hb) (Nat.not_lt.mpr (Nat.le_succ _))) fun z=>(f3 b hb).2.2.2.2.1 x c (K.cells (x,c) (PySem.mem_of_lookup z.2)),fun p hp=>absurd (show p∈([]:List (Addr×Obj)) from hp) (by simp)⟩
 have loop:codeAny (model X.prog X.w) X.A (.compLoop (.ListComp elt [⟨tg,iter,ifs,0⟩] scope pos) 0 (.ref it) (.ref s.heap.objs.size) (compEnvC scope ((y,s3.heap.objs.size + 1) :: cl) s3.heap.objs.size X.env)) (RR (.ref s.heap.objs.size) s3.heap.objs.size)
   ({ s3 with heap:=h4,toks:=s3.toks }:Shared):=by
  refine YX (fun n s'=>∃ i ys H',Inv (X.blkC y N scope cl s3.heap.objs.size s3 (upd H s.heap.objs.size (.lst [])) fp) [] (capt js σ) H' s'∧tn i s'.heap∧(∀ b∈fp,H' b=none)∧W i n ys H') (fun _ _=>False) (fun _ _ z=>z) ?_ m0
   ⟨0,[],_,I4,st4,fun b hb=>(f3 b hb).1,w0⟩
  rintro n s5 ⟨i,ys,H5,I5,st5,fr5,w5⟩
  rcases step i n ys H5 w5 with ⟨stop,qn⟩ | ⟨go,Nn,hN,nxt⟩
  ·refine thn (T.done (X.blkC y N scope cl s3.heap.objs.size s3 (upd H s.heap.objs.size (.lst [])) fp) rfl rfl rfl hc i [] s5 (capt js σ) H5 _ I5 (fpB fr5) st5 stop) fun r s6 ⟨hr,I6⟩=>⟨fun _=>?_,fun v e=>?_⟩
   ·exact hRR _ s3 s6 H5 _ I3 f3 I6 qn
   ·rw [hr] at e; cases e
  ·refine thn (T.item (X.blkC y N scope cl s3.heap.objs.size s3 (upd H s.heap.objs.size (.lst [])) fp) rfl rfl rfl hc i [] s5 (capt js σ) H5 _ I5 (fpB fr5) st5 go) fun r s6 ⟨u,hr,h6⟩=>⟨fun e=>?_,fun v e=>?_⟩
   ·rw [hr] at e; cases e
   rw [hr] at e; cases e
   refine thn h6 fun _ s7 ⟨x,H7,I7,r7,y7,st7,fr7⟩=>?_
   have I7':=I7.pinned (fpB fr7) (T.obj _ _ st7)
   have back:∀ {σ':St} {H':Hp} {s':Shared} {i' n':Nat} {zs:List V},Inv (X.blkC y N scope cl s3.heap.objs.size s3 (upd H s.heap.objs.size (.lst [])) fp) ([] ++ tH fp s7.heap) σ' H' s'→Sub (capt js σ) σ'→W (i + 1) n' zs H' →
     ∃ i ys H',Inv (X.blkC y N scope cl s3.heap.objs.size s3 (upd H s.heap.objs.size (.lst [])) fp) [] (capt js σ) H' s'∧tn i s'.heap∧(∀ b∈fp,H' b=none)∧W i n' ys H':=fun {σ' H' s' i' n' zs} I' sb w'=>by
    refine ⟨i + 1,zs,H',(I'.unpinned).weak sb.1 sb.2,T.keep _ _ _ st7 fun b hb o e=>(I'.pin (b,o) (ζg _ (ζg _ (xr hb e)))).1,fun b hb=>?_,w'⟩
    obtain ⟨o,e,_⟩:=T.obj _ _ st7 b hb
    exact (I'.pin (b,o) (ζg _ (ζg _ (xr hb e)))).2.1
   refine thn (hg _ _ _ _ _ s7 (capt js σ) H7 x _ _ I7' r7 (nxt x H7 y7)) fun _ s8 ⟨σ8,H8,I8,sb8,q8⟩=>?_
   refine thn (ht _ _ _ _ _ s8 σ8 H8 _ I8 q8) fun ok s9 ⟨H9,I9,q9⟩=>⟨fun e=>?_,fun e=>?_⟩
   ·rw [e,if_neg ζt] at q9
    obtain ⟨m',hm,w'⟩:=hN _ _ q9
    exact ⟨m',hm,back (i':=0) I9 sb8 w'⟩
   ·rw [e,if_pos rfl] at q9
    refine thn (he _ _ _ _ _ s9 σ8 H9 _ I9 q9) fun xv sa ⟨v,Ha,Ia,ra,qa,za,nn⟩=>?_
    obtain ⟨m',hm,w'⟩:=hN _ _ nn
    refine thn (yf (X:=X.blkC y N scope cl s3.heap.objs.size s3 (upd H s.heap.objs.size (.lst [])) fp) _ sa σ8 Ha (.ref s.heap.objs.size) [v] (.ref s.heap.objs.size) [xv] (fun y H'=>H'=upd Ha s.heap.objs.size (.lst (ys ++ [v]))) Ia rfl (.cons ra .nil) ⟨_,ys,v,rfl,rfl,qa,za,rfl⟩) fun y sb ⟨z,Hb,Ib,_,eb⟩=>?_
    rw [eb] at Ib
    exact ⟨m',hm,back (i':=0) Ib sb8 w'⟩
 exact codeAny_compStart_list loop (T.self _ 0 _ _ _ st4 loop)
theorem Q7 (hc:X.calm=true) (K:vZ X y N scope cl js) (hi:PI X tg iter wi)
  (hg:∀ C s H fp,PG (X.blkC y N scope cl C s H fp) tg g) (ht:∀ C s H fp,PIf (X.blkC y N scope cl C s H fp) ifs tt) (he:∀ C s H fp,PE (X.blkC y N scope cl C s H fp) elt te)
  (hs:∀ x,foldedSetIterable iter X.env x=pure x:=by intro _; rfl):PE X (.ListComp elt [⟨tg,iter,ifs,0⟩] scope pos) (ve js wi g tt te):=by
 intro pins s σ H Q I h
 rw [eval_ListComp]
 refine wpAny_comprehension_free (use:=none) rfl hs K.clos K.kind K.names (thn (hi pins s σ H _ I h) fun v s1 h1=>thn h1 fun itv s2 h2=>?_)
 obtain ⟨it,fp,tn,J,H2,e,I2,T,st2,f2,hq⟩:=h2
 subst e
 refine Ug (RR:=fun acc C=>compPost (model X.prog X.w) X.A X.xe none (EP X pins σ Q) acc C) hc K I2 T st2 f2 hg ht he hq ?_
 intro D s3 s' H' σ' I3 f3 J' q
 obtain ⟨m,hn,_⟩:=J'.loc
 exact ⟨m,hn,fun h'' hs''=>⟨.ref D,H',zbb I3 f3 J' hs'',rfl,q⟩⟩
end
theorem vZ.of (clos:closureFor scope X.env=pure cl) (lay:∀ (n:Nat) (acc:List (Str×Addr)),cellsFrom n scope.names acc=(y,n) :: acc) (own:(scope.names.all fun z=>z.2 != .cell || z.1 == y)=true) (look:scope.names.lookup y=some .cell) (ny:cl.lookup y=none) (kind:scope.kind=.function)
  (nm:(scope.names.all fun y=>y.2 != .local || (scope.names.lookup y.1 == some .local))=true) (cells:∀ p∈cl,X.env.cells.lookup p.1=some p.2) (has:(scope.names.all fun y=>y.2 != .free || (cl.lookup y.1).isSome)=true)
  (len:js.length=N.length) (cap:((js.zip N).all fun p=>match p.1 with | none=>true | some j=>(X.N[j]? == some p.2) && (scope.names.lookup p.2 == some .free) && (X.env.scope.names.lookup p.2 == some .cell || X.env.scope.names.lookup p.2 == some .free))=true):vZ X y N scope cl js:=by
 rw [ζ1] at own nm has cap
 refine ⟨clos,lay,fun z hz e=>?_,look,fun ⟨c,e⟩=>(by rw [ny] at e; cases e),kind,fun y hy e=>?_,cells,fun y hy e=>?_,len,fun i j e=>?_⟩
 ·have q:=own z hz
  rw [e] at q
  simpa using q
 ·have q:=nm y hy
  rw [e] at q
  simpa using q
 ·have q:=has y hy
  rw [e] at q
  simpa using q
 ·have hi:i < js.length:=(ζe.mp e).1
  have hx:N[i]?=some (N[i]'(by omega)):=ζp (by omega)
  have hz:(js.zip N)[i]?=some (some j,N[i]'(by omega)):=by
   rw [List.getElem?_zip_eq_some]
   exact ⟨e,hx⟩
  have q:=cap _ (ζk hz)
  simp only [Bool.and_eq_true,Bool.or_eq_true,beq_iff_eq] at q
  exact ⟨_,hx,q.1.1,q.1.2,q.2⟩
end L2
namespace L2
open PySem PySem.Spec PyProof.Rows PySem.Calls
def VZ (o:Obj):Bool:=match o.cls,o.data with
 | .type "tuple", .seq its _=>(match its.toList with
  | [.int _ _,.int _ _]=>false
  | _=>true)
 | _,_=>true
def tY (K:ζa):Bool:=K.all fun p=>VZ p.2
theorem zbX {K:ζa} (h:tY K=true) {a:Addr} {o:Obj} (e:K.lookup a=some o):VZ o=true:=ζ1.mp h (a,o) (uj e)
theorem zdf {K:ζa} (nt:tY K=true) {H:Hp} {a:Addr} {i j:Int} (h:SqT K H a [.int i,.int j]):Rd H a (.tup [.int i,.int j]):=by
 rcases h with h | ⟨o,its,n,e,h1,h2,_,h3⟩
 ·exact h
 ·have np:=zbX nt e
  exfalso
  cases hl:its.toList with
  | nil=>rw [hl] at h3; cases h3
  | cons u r =>
   rw [hl] at h3
   cases h3 with
   | cons ru h3 =>
    cases h3 with
    | cons rv h3 =>
     cases h3
     obtain ⟨t1,e1⟩:=ru
     obtain ⟨t2,e2⟩:=rv
     subst e1 e2
     unfold VZ at np
     rw [h1,h2] at np
     simp only [hl] at np
     cases np
abbrev pkey (i j:Int):List Key:=[.inl i,.inl j]
def Qr (tk tv:TE):TE:=fun σ H Q=>∀ p,H p=none→Vu [(tk,tv)] σ (upd H p (.dT [])) fun ps H2=>∃ x y b ks,ps=[(x,y)]∧x=.ref b∧Rd H2 b (.tup (ks.map kV))∧H2 p=some (.dT [])∧Q (.ref p) (upd H2 p (.dT [(ks,y)]))
theorem Q4 (hu:X.A.units + 1 < cLine) (hk:PE X k tk) (hv:PE X v tv):PE X (.Dict [some k] [v] pos) (Qr tk tv):=by
 intro pins s σ H Q I q
 have hn:=I.hok.fresh (ζh s.heap.objs.size)
 have I1:=I.laid (a:=s.heap.objs.size) (o:=.dT []) (h':=s.heap.push { cls:=.type "dict", data:=.dict #[] }) (t':=s.toks) (fun _ _ q=>ζi _ q) (ζh _) (zaU s.heap I.big)
 refine wpAny_Dict_any rfl rfl (fun z=>nomatch z) (by show 1≤15; decide) (thn ((QV hk hv zbI) pins _ σ _ _ I1 (q _ hn)) fun ws s2 ⟨ps,H2,I2,rel,x,y,b,ks,ep,ex,eb,e,q2⟩=>?_)
 subst ep ex
 cases rel with
 | @cons p0 q0 ps0 qs0 hr hr2 =>
  cases hr2
  obtain ⟨kv,vv⟩:=q0
  obtain ⟨r1,r2⟩:=hr
  cases (show kv=Value.ref b from r1)
  obtain ⟨z,hd,xs,rl,dd⟩:=zaT I2.hok e
  cases rl
  unfold storeAll
  rw [List.forIn_cons]
  refine wpAny_bind (wpAny_bind (wpAny_dictSet_heap (hsz:=ζL _) (knd:=tupleKind (yi X.prog X.w)) (Nat.lt_of_succ_lt hu) (wY I2.hok eb) dd fun h' dd' hs=>wpAny_pure ?_))
  show wpAny _ _ (forIn ([]:List (Value×Value)) PUnit.unit _) _ _ _
  rw [List.forIn_nil]
  refine wpAny_pure ⟨.ref s.heap.objs.size,_,?_,rfl,q2⟩
  obtain ⟨qo,es,ep,hq,h2,h3,h4,_,h5⟩:=dd'
  refine Zp I2 (by rw [e]; exact True.intro) hs ⟨qo,hq⟩ ⟨by show 1≤sizeLine; rw [sizeLine_eq]; omega,hd,_,?_,qo,es,ep,hq,h2,h3,h4,h5⟩
  refine KT.keeps (H:=H2) (KT.put (kvs:=[]) .nil ks (Zr I2.hok eb) r2) fun c ys ec=>?_
  exact ec.imp (fun y=>by rw [zp (YI y e (fun z=>nomatch z))]; exact y) fun ⟨o,n,y⟩=>⟨o,n,by rw [zp (YI y e (fun z=>nomatch z))]; exact y⟩
end L2
namespace PD
open PySem L2
section
variable {K:ζa} {S S':Sx} {κ κ':Bool} {Γ Γ' Γ'':Ctx} {P:Post}
abbrev PTab:=List (List Key×V)
def tGet (m:PTab) (i j:Int):Option V:=valV m (pkey i j)
def tPut (m:PTab) (i j:Int) (v:V):PTab:=putK m (pkey i j) v
theorem Wp (m:PTab) (i j k l:Int) (v:V):tGet (tPut m i j v) k l=if k=i∧l=j then some v else tGet m k l:=by
 unfold tGet tPut
 rw [Wl]
 by_cases c:k=i∧l=j
 ·rw [if_pos c,c.1,c.2,if_pos rfl]
 ·rw [if_neg c,if_neg fun e=>c ?_]
  injection e with e1 e2
  injection e2 with e2 _
  injection e1 with e1
  injection e2 with e2
  exact ⟨e1,e2⟩
theorem Xs (nt:tY K=true) (le:Same F H) (p:Rp K κ S H0 F v (.tuple [.int i,.int j])):∃ b,v=.ref b∧Rd H b (.tup ((pkey i j).map kV)):=by
 obtain ⟨b,vs,rfl,h1,h2⟩:=uf p
 cases h2 with
 | cons p1 h2=>cases h2 with
  | cons p2 h2 =>
   cases h2
   cases ym p1
   cases ym p2
   refine ⟨b,rfl,?_⟩
   rcases zdf nt h1 with z | ⟨o,z⟩
   ·exact .inl (le _ _ z)
   ·exact .inr ⟨o,le _ _ z⟩
theorem Qq (i j k l:Int) (v:V):tGet [(pkey i j,v)] k l=if k=i∧l=j then some v else none:=Wp [] i j k l v
end
end PD
namespace L2
open PySem PySem.Spec PyProof.Rows PySem.Calls
section
variable {prog:Program} {w:World} {κ:Type} [DecidableEq κ] {kd:HeapKind prog w κ} {A:Around} {E:Value→Shared→Prop} {s:Shared}
theorem sdH (room:kd.room A) (isk:kd.is s.heap k b) (dh:s.heap.DictOfH kd D xs) (z:xs.length≤sizeLine)
  (q1:∀ p,atKey xs k=some p→Q p.2 { s with toks:=s.toks + kd.draws k })
  (q2:atKey xs k=none→∀ h',h'.DictOfH kd D (storedH xs k b r)→Heap.SameBut D s.heap h'→Q r { s with heap:=h',toks:=s.toks + kd.draws k }) :
  wpAny (model prog w) A (dictSetDefault D (.ref b) r) Q E s:=by
 obtain ⟨ob,es,n,g,cl,dd,en,ks,nd⟩:=dh
 unfold dictSetDefault
 refine wpAny_holding (wpAny_bind (kd.pyHash room isk (wpAny_bind (wpAny_dictFind_heap (s:={ s with toks:=s.toks + kd.draws k }) room isk g dd en ks nd (fun no=>?_) fun j p hj=>?_))))
 ·have e0:=atKey_none_of_get no
  have nk:=not_mem_keys_of_get no
  have sz:es.size≤sizeLine:=by have e:=size_of_entries en; omega
  refine wpAny_bind (wpAny_rule (wpAny_bind ?_))
  refine wpAny_updateDictKeys (hz:=sz) (s:={ s with toks:=s.toks + kd.draws k }) g dd (wpAny_pure (q2 e0 _ ?_ (Heap.SameBut.update ..)))
  rw [storedH_new e0]
  refine ⟨_,_,n + 1,Heap.get?_update_self _ g (Obj.isFreed_of_dict (Obj.data_mapDictKeys dd _)),cl.mapDictKeys _,Obj.data_mapDictKeys dd _,by simp [en,entryOfKey],fun x hx=>?_,?_⟩
  ·rcases ζq.mp hx with y | y
   ·exact kd.keeps (ks x y) g dd (Heap.SameBut.update ..)
   ·cases ζc.mp y
    exact kd.keeps isk g dd (Heap.SameBut.update ..)
  ·rw [ζo,ζR]
   refine ⟨nd,by simp,fun x hx y hy q=>nk ?_⟩
   have hy:y=k:=by simpa using hy
   rw [← hy,← q]
   exact hx
 ·refine wpAny_bind (wpAny_dictEntries (s:={ s with toks:=s.toks + kd.draws k }) g dd ?_)
  rw [entry_at en j,hj]
  exact wpAny_bind (wpAny_rule (wpAny_pure (q1 p (atKey_of_get nd hj))))
theorem TL (D b:Addr) (ns:(D == sysModules)=false) (r:Value):MeetsIn prog w (Builtin.«dict.setdefault» ⟨[.ref D,.ref b,r],[]⟩) (fun A R s=>kd.room A.in1∧∃ k xs,kd.is s.heap k b∧s.heap.DictOfH kd D xs∧xs.length≤sizeLine ∧
   (∀ p,atKey xs k=some p→R (.ok (.ret p.2)) { s with toks:=s.toks + kd.draws k }) ∧
   (atKey xs k=none→∀ h',h'.DictOfH kd D (storedH xs k b r)→Heap.SameBut D s.heap h'→R (.ok (.ret r)) { s with heap:=h',toks:=s.toks + kd.draws k })) :=
 .of_wp fun A R s ⟨room,k,xs,isk,dh,z,q1,q2⟩=>by
  unfold Builtin.«dict.setdefault»
  refine wpAny_bind ?_
  unfold Builtin.Dict.keyAndDefault
  refine wpAny_bind (wpAny_notOrdered_dict dh.typeIs (wpAny_pure ?_))
  show wpAny _ _ (if (D == sysModules)=true then _ else (dictSetDefault D (.ref b) r >>= _)) _ _ s
  rw [if_neg (by rw [ns]; exact ζt)]
  exact wpAny_bind (sdH room isk dh z (fun p e=>wpAny_pure ⟨_,rfl,q1 p e⟩) fun e h' d' sb=>wpAny_pure ⟨_,rfl,q2 e h' d' sb⟩)
end
def tDSd (td ty tx:TE):TE:=fun σ H Q=>td σ H fun x H1=>∃ a,x=.ref a∧IsD H1 a∧ty σ H1 fun y H2=>tx σ H2 fun z H3=>∃ b ks kvs,y=.ref b∧Rd H3 b (.tup (ks.map kV))∧H3 a=some (.dT kvs)∧kvs.length < sizeLine ∧
 (∀ v,valV kvs ks=some v→Q v H3)∧(valV kvs ks=none→Q z (upd H3 a (.dT (putK kvs ks z))))
section
variable {X:Cx} {o e f:Expr} {apos cpos:Pos} {td ty tx:TE}
theorem zdy (hu:X.A.units + 1 < cLine) (ho:PE X o td) (he:PE X e ty) (hf:PE X f tx) (m:M2 X o "setdefault" apos e f cpos):PE X (.Call (.Attribute o "setdefault" apos) [e,f] [] cpos) (tDSd td ty tx):=by
 intro pins s σ H Q I h
 refine wpAny_Call_method m.base m.few m.line ξY PySem.F.slot_dict_setdefault PySem.F.type_dict_setdefault (thn (ho pins s σ H _ I h) fun u s1 ⟨x,H1,I1,rx,a,ex,d,q1⟩=>?_)
 subst ex
 obtain rfl:u=Value.ref a:=rx
 obtain ⟨t1,t2,_⟩:=V8 I1 d
 refine ⟨t1,t2,?_⟩
 rw [m.trees]
 refine Calls.callWith_builtin rfl (Calls.evalArgs_plain (Calls.spliced_cons (thn (he pins s1 σ H1 _ I1 q1) fun iv s2 ⟨y,H2,I2,ry,q2⟩ =>
  Calls.spliced_cons (thn (hf pins s2 σ H2 _ I2 q2) fun fv s3 ⟨z,H3,I3,rz,b,ks,kvs,ey,eb,ea,zl,p1,p2⟩=>Calls.spliced_nil ?_))))
 subst ey
 cases (show iv=Value.ref b from ry)
 obtain ⟨z',hd,xs,rel,dd⟩:=zaT I3.hok ea
 have hl:xs.length=kvs.length:=rel.length.symm
 refine call_meetsIn PySem.F.slot_dict_setdefault dd.typeIs PySem.F.entry_dict_setdefault (PySem.F.args_dict_setdefault_3 _ _ _) (TL (kd:=tupleKind (yi X.prog X.w)) a b hd fv) ⟨tupleKind_room_in1 hu,ks,xs,wY I3.hok eb,dd,by omega,fun p e=>?_,fun e h' d' sb=>?_⟩
 ·have rv:=rel.val ks
  rw [e] at rv
  cases hv:valV kvs ks with
  | none=>rw [hv] at rv; exact rv.elim
  | some v =>
   rw [hv] at rv
   exact ⟨v,H3,I3.tok _,rv,p1 v hv⟩
 ·have rv:=rel.val ks
  rw [e] at rv
  cases hv:valV kvs ks with
  | some v=>rw [hv] at rv; exact rv.elim
  | none =>
   obtain ⟨qo,es,ep,hq,h2,h3,h4,_,h5⟩:=d'
   refine ⟨z,upd H3 a (.dT (putK kvs ks z)),?_,rz,p2 hv⟩
   refine Zp I3 (by rw [ea]; exact True.intro) sb ⟨qo,hq⟩ ⟨by have:=xD kvs ks z; omega,hd,_,?_,qo,es,ep,hq,h2,h3,h4,h5⟩
   refine KT.keeps (H:=H3) (KT.put rel ks (Zr I3.hok eb) rz) fun c ys ec=>?_
   exact ec.imp (fun y=>by rw [zp (YI y ea (fun z=>nomatch z))]; exact y) fun ⟨o,n,y⟩=>⟨o,n,by rw [zp (YI y ea (fun z=>nomatch z))]; exact y⟩
end
end L2
namespace PD
open PySem L2
section
variable {K:ζa} {S S':Sx} {κ κ':Bool} {Γ Γ' Γ'':Ctx} {P:Post} {E:XK}
theorem DEnv.putNO (e:DEnv K S H0 F0 H F σ Γ) (h:Γ[i]?=some (some x)) (ha:σ[i]?=some (some v)) (ho:Owns H v x a)
  (k:HasV K S H0 (upd H a oo) F v y) (ko:∀ c,Owns (upd H a oo) v y c→Owns H v x c∨c=b) (nb:∀ (j:Nat) (f:DV) (u:V),Γ[j]?=some (some f)→σ[j]?=some (some u)→¬ Owns H u f b):DEnv K S H0 F0 (upd H a oo) F σ (Γ.set i (some y)):=by
 obtain ⟨v',q1,q2⟩:=e.has i x h
 rw [ha] at q1
 cases q1
 obtain ⟨ws,w⟩:=q2.owns ho
 have hs:Same F (upd H a oo):=fun b u z=>by
  have:b≠a:=by rintro rfl; rw [w.f] at z; cases z
  rw [zp this]; exact e.le _ _ z
 have li:=(ζe.mp h).1
 have far:∀ {j:Nat} {f:DV} {u:V},j≠i→Γ[j]?=some (some f)→σ[j]?=some (some u)→¬ Owns H u f a:=fun {j f u} hj z r o=>hj (e.ne j i f x u v a z h r ha o ho)
 refine ⟨⟨fun b u z=>?_,e.gr.f,hs,e.gr.ap⟩,e.l0,fun b c=>?_,e.s0,by simp [e.len],fun j f z=>?_,fun j k' x1 y1 v1 w1 c g1 g2 g3 g4 o1 o2=>?_⟩
 ·rw [zp (zB z w.n)]; exact e.gr.h _ _ z
 ·obtain ⟨o,q⟩:=e.sd b c
  by_cases hb:b=a
  ·subst hb; exact ⟨_,zi⟩
  ·exact ⟨o,by rw [zp hb]; exact q⟩
 ·by_cases hj:j=i
  ·subst hj
   rw [ζv li] at z
   cases z
   exact ⟨_,ha,k⟩
  ·rw [ζC (Ne.symm hj)] at z
   obtain ⟨u,r1,r2⟩:=e.has j f z
   exact ⟨u,r1,r2.other (far hj z r1)⟩
 ·have bk:∀ {j:Nat} {f:DV} {u:V},(Γ.set i (some y))[j]?=some (some f)→σ[j]?=some (some u)→Owns (upd H a oo) u f c→(∃ g,Γ[j]?=some (some g)∧Owns H u g c)∨(j=i∧c=b):=fun {j f u} z r o=>by
   by_cases hj:j=i
   ·subst hj
    rw [ζv li] at z
    cases z
    rw [ha] at r
    cases r
    rcases ko c o with o | o
    ·exact .inl ⟨x,h,o⟩
    ·exact .inr ⟨rfl,o⟩
   ·rw [ζC (Ne.symm hj)] at z
    obtain ⟨u',r1,r2⟩:=e.has j f z
    rw [r] at r1
    cases r1
    exact .inl ⟨f,z,o.other r2 (far hj z r)⟩
  rcases bk g1 g3 o1 with ⟨f1,z1,w1'⟩ | ⟨j1,c1⟩
  ·rcases bk g2 g4 o2 with ⟨f2,z2,w2'⟩ | ⟨j2,c2⟩
   ·exact e.ne j k' f1 f2 v1 w1 c z1 z2 g3 g4 w1' w2'
   ·subst c2
    exact absurd w1' (nb j f1 v1 z1 g3)
  ·rcases bk g2 g4 o2 with ⟨f2,z2,w2'⟩ | ⟨j2,c2⟩
   ·subst c1
    exact absurd w2' (nb k' f2 w1 z2 g4)
   ·rw [j1,j2]
abbrev LTab:=Int→Int→Option (Bool×List PyData)
def LTab.put (T:LTab) (i j:Int) (e:Bool×List PyData):LTab:=fun k l=>if k=i∧l=j then some e else T k l
def LTab.frz (T:LTab) (i j:Int):LTab:=fun k l=>if k=i∧l=j then (T i j).map (fun e=>(false,e.2)) else T k l
def LTab.at (T:LTab) (i j:Int):List PyData:=match T i j with | some e=>e.2 | none=>[]
theorem LTab.put_eq (T:LTab) (i j:Int) (e:Bool×List PyData):T.put i j e i j=some e:=if_pos ⟨rfl,rfl⟩
theorem LTab.put_ne {T:LTab} {i j k l:Int} {e:Bool×List PyData} (h:¬ (k=i∧l=j)):T.put i j e k l=T k l:=if_neg h
theorem LTab.frz_ne {T:LTab} {i j k l:Int} (h:¬ (k=i∧l=j)):T.frz i j k l=T k l:=if_neg h
def adP (T:LTab) (H:Hp) (v:V) (a:Addr):Prop:=v=.ref a∨∃ p tab i j ds,v=.ref p∧H p=some (.dT tab)∧T i j=some (true,ds)∧tGet tab i j=some (.ref a)
def EnP (K:ζa) (S:Sx) (H0 H F:Hp) (b:Addr):Bool×List PyData→Prop
 | (true,ds)=>∃ us,H b=some (.lst us)∧zv K true S H0 F us ds
 | (false,ds)=>Rp K true S H0 F (.ref b) (.list ds)
structure LtOk (K:ζa) (T:LTab) (n:Nat) (S:Sx) (H0 H F:Hp) (p:Addr) (tab:PTab):Prop where
 h:H p=some (.dT tab)
 l:tab.length≤n
 no:∀ i j,T i j=none→tGet tab i j=none
 en:∀ i j e,T i j=some e→∃ b,tGet tab i j=some (.ref b)∧EnP K S H0 H F b e
 ap:∀ i j k l d1 d2 b,T i j=some (true,d1)→T k l=some (true,d2)→tGet tab i j=some (.ref b)→tGet tab k l=some (.ref b)→k=i∧l=j
def psP (K:ζa) (T:LTab) (n:Nat):Sx→Hp→Hp→Hp→V→Prop:=fun S H0 H F v=>∃ p tab,v=.ref p∧LtOk K T n S H0 H F p tab
theorem EnP.mono (h:EnP K S H0 H F b e) (s:Same F F') (q:e.1=true→H' b=H b):EnP K S H0 H' F' b e:=by
 obtain ⟨fl,ds⟩:=e
 cases fl with
 | true =>
  obtain ⟨us,h1,h2⟩:=h
  exact ⟨us,by rw [q rfl]; exact h1,zw s h2⟩
 | false=>exact yA s h
theorem gokP (K:ζa) (T:LTab) (n:Nat):GOk (adP T) (psP K T n):=by
 refine ⟨fun H H' v c a=>⟨fun z=>?_,fun z=>?_⟩,fun S H0 H H' F F' v c s ⟨p,tab,ev,o⟩=>⟨p,tab,ev,?_⟩⟩
 ·rcases z with z | ⟨p,tab,i,j,ds,ev,hp,hT,hg⟩
  ·exact .inl z
  ·rw [c p (.inl ev)] at hp
   exact .inr ⟨p,tab,i,j,ds,ev,hp,hT,hg⟩
 ·rcases z with z | ⟨p,tab,i,j,ds,ev,hp,hT,hg⟩
  ·exact .inl z
  ·rw [← c p (.inl ev)] at hp
   exact .inr ⟨p,tab,i,j,ds,ev,hp,hT,hg⟩
 ·refine ⟨by rw [c p (.inl ev)]; exact o.h,o.l,o.no,fun i j e he=>?_,o.ap⟩
  obtain ⟨b,hb,he'⟩:=o.en i j e he
  refine ⟨b,hb,he'.mono s fun q=>c b (.inr ⟨p,tab,i,j,e.2,ev,o.h,?_,hb⟩)⟩
  rw [he,← q]
abbrev pT (K:ζa) (T:LTab) (n:Nat):DV:=.og (adP T) (psP K T n)
theorem zcm (nt:tY K=true) {i:Nat} {tk tv:TE} {u:TS} {k l:Int} {ds:List PyData} (hk:EvE K S false tk Γ (.tuple [.int k,.int l])) (hv:EvO K S true tv Γ ds) (es:SetC Γ i (some (pT K (LTab.put (fun _ _=>none) k l (true,ds)) 1)) Γ') (kk:ExT K S S' u Γ' P):ExT K S S' (tSeq (tAsg (Qr tk tv) (yn i)) u) Γ P:=fun H0 F0 H F σ B e bb vv D I=>by
 refine fun p hp=>?_
 have g0:Gr H F (upd H p (.dT [])) F:=.newO e.le hp _
 refine hk H0 F0 _ F σ (e.mono g0) _ fun v1 H1 F1 g1 p1=>hv H0 F0 H1 F1 σ ((e.mono g0).mono g1) _ fun b us H2 F2 g2 hb hb2 fb kb=>?_
 obtain ⟨c,rfl,eb⟩:=Xs nt g2.le (yA g2.f p1)
 have hH2:H2 p=some (.dT []):=g2.h _ _ (g1.h _ _ zi)
 have hF2:F2 p=none:=g2.ap p _ (g1.h _ _ zi) (g1.ap p _ zi (e.le.free hp))
 refine ⟨_,_,c,pkey k l,rfl,rfl,eb,hH2,?_⟩
 have g:Gr H F (upd H2 p (.dT [(pkey k l,.ref b)])) F2:=by
  refine ⟨fun c o z=>?_,g1.f.trans g2.f,fun c o z=>?_,fun c o z y=>?_⟩
  ·have ne:c≠p:=zB z hp
   rw [zp ne]
   exact g2.h _ _ (g1.h _ _ (by rw [zp ne]; exact z))
  ·have ne:c≠p:=fun q=>by rw [q,hF2] at z; cases z
   rw [zp ne]
   exact g2.le _ _ z
  ·have ne:c≠p:=zB z hp
   have z1:upd H p (.dT []) c=some o:=by rw [zp ne]; exact z
   exact g2.ap c _ (g1.h _ _ z1) (g1.ap c _ z1 y)
 have nbp:b≠p:=by rintro rfl; rw [g1.h _ _ zi] at hb; cases hb
 have hb0:H b=none:=by
  cases q:H b with
  | none=>rfl
  | some o =>
   have:upd H p (.dT []) b=some o:=by rw [zp nbp]; exact q
   rw [g1.h _ _ this] at hb
   cases hb
 have tg:∀ i' j':Int,tGet [(pkey k l,.ref b)] i' j'=if i'=k∧j'=l then some (.ref b) else none:=fun i' j'=>Qq k l i' j' _
 have lt:LtOk K (LTab.put (fun _ _=>none) k l (true,ds)) 1 S H0 (upd H2 p (.dT [(pkey k l,.ref b)])) F2 p [(pkey k l,.ref b)]:=by
  refine ⟨zi,ζh _,fun i' j' z=>?_,fun i' j' e' z=>?_,fun i1 j1 i2 j2 d1 d2 b' z1 z2 _ _=>?_⟩
  ·rw [tg]
   by_cases q:i'=k∧j'=l
   ·rw [q.1,q.2,LTab.put_eq] at z
    cases z
   ·exact if_neg q
  ·by_cases q:i'=k∧j'=l
   ·rw [q.1,q.2,LTab.put_eq] at z
    cases z
    refine ⟨b,by rw [tg,if_pos q],us,by rw [zp nbp]; exact hb2,kb⟩
   ·rw [LTab.put_ne q] at z
    cases z
  ·have q1:i1=k∧j1=l:=Classical.byContradiction fun q=>by rw [LTab.put_ne q] at z1; cases z1
   have q2:i2=k∧j2=l:=Classical.byContradiction fun q=>by rw [LTab.put_ne q] at z2; cases z2
   exact ⟨q2.1.trans q1.1.symm,q2.2.trans q1.2.symm⟩
 have pl:∀ {c:Addr},adP (LTab.put (fun _ _=>none) k l (true,ds)) (upd H2 p (.dT [(pkey k l,.ref b)])) (.ref p) c→c=p∨c=b:=fun {c} z=>by
  rcases z with z | ⟨q,tab,i',j',ds',ev,hq,_,hg⟩
  ·cases z; exact .inl rfl
  ·cases ev
   rw [zi] at hq
   cases hq
   rw [tg] at hg
   split at hg
   ·cases hg; exact .inr rfl
   ·cases hg
 have e1:=(e.mono g).set (i:=i) (v:=.ref p) (x:=pT K (LTab.put (fun _ _=>none) k l (true,ds)) 1) ⟨gokP K _ _,fun c z=>by
  rcases pl z with rfl | rfl
  ·exact ⟨_,⟨zi,hF2,e.gr.h.free hp,e.out hp⟩⟩
  ·exact ⟨_,⟨by rw [zp nbp]; exact hb2,fb,e.gr.h.free hb0,e.out hb0⟩⟩,p,_,rfl,lt⟩ fun c oc j y w hj z hw o=>by
  rcases pl oc with rfl | rfl
  ·exact e.newOwn g hp j y w z hw o
  ·exact e.newOwn g hb0 j y w z hw o
 rw [es.eq] at e1
 exact kk H0 F0 _ F2 _ B e1 (bb.trans (g1.f.trans g2.f)) vv D I
theorem Xk {α:Type} {l:List α} {i:Nat} {x:α} (h:l[i]?=some x):l.set i x=l:=by
 obtain ⟨hi,rfl⟩:=ζe.mp h
 exact List.set_getElem_self hi
theorem W8 {T:LTab} {i j:Int} (h:∀ ds,T i j≠some (true,ds)):T.frz i j=T:=by
 funext k l
 unfold LTab.frz
 by_cases q:k=i∧l=j
 ·rw [if_pos q,q.1,q.2]
  cases e:T i j with
  | none=>rfl
  | some p =>
   obtain ⟨fl,ds⟩:=p
   cases fl with
   | true=>exact absurd e (h ds)
   | false=>rfl
 ·rw [if_neg q]
theorem zcn (nt:tY K=true) {T:LTab} {n i j:Nat} {tk:TE} {u:TS} {c l:Int} {Γ1 Γ2:Ctx} (h:GetC Γ i (pT K T n)) (hk:EvE K S false tk Γ (.tuple [.int c,.int l])) (es1:SetC Γ i (some (pT K (T.frz c l) n)) Γ1) (es2:SetC Γ1 j (some (.fz true (.list (T.at c l)))) Γ2) (kk:ExT K S S' u Γ2 P) :
  ExT K S S' (tSeq (tAsg (Qt (tVar i) tk (tLst tNil)) (yn j)) u) Γ P:=fun H0 F0 H F σ B e bb vv D I=>by
 obtain ⟨v0,q1,ok,own,p,tab,rfl,lt⟩:=e.has i _ h.eq
 refine ⟨_,q1,p,rfl,.inr ⟨tab,.inl lt.h⟩,hk H0 F0 H F σ e _ fun v1 H1 F1 g1 p1=>⟨ζL _,fun z hz=>?_⟩⟩
 have g2:Gr H1 F1 (upd H1 z (.lst [])) (upd F1 z (.lst [])):=.new g1.le hz _
 have e2:=(e.mono g1).mono g2
 have nz:=(e.mono g1).out hz
 obtain ⟨kb,rfl,eb⟩:=Xs nt g2.le (yA g2.f p1)
 obtain ⟨v0,q2,ok2,own2,p2,tab2,ev,lt2⟩:=e2.has i _ h.eq
 rw [q1] at q2
 cases q2
 cases ev
 refine ⟨tGet tab2 c l,DGet.t (k:=pkey c l) lt2.h eb,?_⟩
 have bb2:Same B (upd F1 z (.lst [])):=bb.trans (g1.f.trans g2.f)
 have fin:∀ (F3:Hp) (v:V),Same (upd F1 z (.lst [])) F3→DEnv K S H0 F0 (upd H1 z (.lst [])) F3 σ (Γ.set i (some (pT K (T.frz c l) n)))→Rp K true S H0 F3 v (.list (T.at c l))→u D (σ.set j (some v)) (upd H1 z (.lst [])):=fun F3 v s e3 pv=>by
  have e4:=e3.setF (i:=j) pv
  rw [es1.eq,es2.eq] at e4
  exact kk H0 F0 _ F3 _ B e4 (bb2.trans s) vv D I
 cases hT:T c l with
 | none =>
  rw [lt2.no c l hT]
  refine fin _ _ (.refl _) ?_ ?_
  ·rw [W8 fun ds q=>(by rw [hT] at q; cases q),Xk h.eq]
   exact e2
  ·unfold LTab.at
   rw [hT]
   exact .lst (LN.new nz) .nil
 | some en =>
  obtain ⟨b,hb,he⟩:=lt2.en c l _ hT
  rw [hb]
  obtain ⟨fl,ds⟩:=en
  have ea:T.at c l=ds:=by unfold LTab.at; rw [hT]
  cases fl with
  | false =>
   refine fin _ _ (.refl _) ?_ (by rw [ea]; exact he)
   rw [W8 fun ds q=>(by rw [hT] at q; cases q),Xk h.eq]
   exact e2
  | true =>
   obtain ⟨us,hu,kb'⟩:=he
   have ob:Owns (upd H1 z (.lst [])) (.ref p) (pT K T n) b:=.inr ⟨p,tab2,c,l,ds,rfl,lt2.h,hT,hb⟩
   obtain ⟨o,w⟩:=own2 b ob
   have:=w.h
   rw [hu] at this
   cases this
   have np:b≠p:=by rintro rfl; rw [lt2.h] at hu; cases hu
   have sm:Same (upd F1 z (.lst [])) (upd (upd F1 z (.lst [])) b (.lst us)):=Same.new w.f _
   have back:∀ {i' j':Int} {ds':List PyData},T.frz c l i' j'=some (true,ds')→T i' j'=some (true,ds')∧¬ (i'=c∧j'=l):=fun {i' j' ds'} q=>by
    by_cases y:i'=c∧j'=l
    ·unfold LTab.frz at q
     rw [if_pos y,hT] at q
     cases q
    ·rw [LTab.frz_ne y] at q
     exact ⟨q,y⟩
   have ko:∀ a,adP (T.frz c l) (upd H1 z (.lst [])) (.ref p) a→adP T (upd H1 z (.lst [])) (.ref p) a∧a≠b:=fun a q=>by
    rcases q with q | ⟨p',tab',i',j',ds',ev,hp,hT',hg⟩
    ·exact ⟨.inl q,by cases q; exact np.symm⟩
    ·have bk:=back hT'
     refine ⟨.inr ⟨p',tab',i',j',ds',ev,hp,bk.1,hg⟩,fun y=>bk.2 ?_⟩
     cases ev
     rw [lt2.h] at hp
     cases hp
     subst y
     exact lt2.ap c l i' j' ds ds' _ hT bk.1 hb hg
   obtain ⟨_,e3⟩:=e2.froz (y:=pT K (T.frz c l) n) h.eq q1 ob w ⟨gokP K _ _,fun a q=>by
     obtain ⟨o,w'⟩:=own2 a (ko a q).1
     exact ⟨o,w'.frz (ko a q).2⟩,p,tab2,rfl,lt2.h,lt2.l,fun i' j' q=>lt2.no i' j' (by
      by_cases y:i'=c∧j'=l
      ·unfold LTab.frz at q
       rw [if_pos y,hT] at q
       cases q
      ·rwa [LTab.frz_ne y] at q),fun i' j' e' q=>by
      by_cases y:i'=c∧j'=l
      ·unfold LTab.frz at q
       rw [if_pos y,hT] at q
       cases q
       refine ⟨b,by rw [y.1,y.2]; exact hb,?_⟩
       exact .lst (LN.new w.s) (zw sm kb')
      ·rw [LTab.frz_ne y] at q
       obtain ⟨b',hb',he'⟩:=lt2.en i' j' e' q
       exact ⟨b',hb',he'.mono sm fun _=>rfl⟩,fun i1 j1 i2 j2 d1 d2 b' z1 z2=>lt2.ap i1 j1 i2 j2 d1 d2 b' (back z1).1 (back z2).1⟩ fun a q=>(ko a q).1
   exact fin _ _ sm e3 (by rw [ea]; exact .lst (LN.new w.s) (zw sm kb'))
theorem DEnv.forget (i:Nat) (e:DEnv K S H0 F0 H F σ Γ):DEnv K S H0 F0 H F σ (Γ.set i none):=by
 have bk:∀ (j:Nat) (d:DV),(Γ.set i none)[j]?=some (some d)→Γ[j]?=some (some d):=fun j d h=>by
  by_cases hj:j=i
  ·subst hj; rw [List.getElem?_set] at h; simp at h
  ·rw [ζC (Ne.symm hj)] at h; exact h
 exact ⟨e.gr,e.l0,e.sd,e.s0,by simp [e.len],fun j d h=>e.has j d (bk j _ h),fun m n x y v w a h1 h2=>e.ne m n x y v w a (bk m _ h1) (bk n _ h2)⟩
theorem zbD {T:LTab} {i j:Int} {e f:Bool×List PyData}:(T.put i j e).put i j f=T.put i j f:=by
 funext k l
 by_cases q:k=i∧l=j
 ·rw [q.1,q.2,LTab.put_eq,LTab.put_eq]
 ·rw [LTab.put_ne q,LTab.put_ne q,LTab.put_ne q]
theorem zdY (nt:tY K=true) {T:LTab} {n i:Nat} {tk te:TE} {c l:Int} {d:PyData} {Γn:Ctx} (h:GetC Γ i (pT K T n)) (hk:EvE K S false tk Γ (.tuple [.int c,.int l])) (hT:∀ ds,T c l≠some (false,ds)) (en:SetC Γ i none Γn) (he:EvE K S true te Γn d) (hn:n < sizeLine) (hz:(T.at c l).length < sizeLine)
  (es:SetC Γ i (some (pT K (T.put c l (true,T.at c l ++ [d])) (n + 1))) Γ') (k:P.nx Γ'):ExS K S (v5 (tBM K "list" we (tDSd (tVar i) tk (tLst tNil)) (zR te tNil))) Γ P:=fun H0 F0 H F σ B e bb _ D I=>by
 obtain ⟨v0,q1,ok,own,p,tab,rfl,lt⟩:=e.has i _ h.eq
 refine ⟨_,q1,p,rfl,.inr ⟨tab,.inl lt.h⟩,hk H0 F0 H F σ e _ fun v1 H1 F1 g1 p1=>⟨ζL _,fun z hz'=>?_⟩⟩
 have g2:Gr H1 F1 (upd H1 z (.lst [])) F1:=.newO g1.le hz' _
 have e2:=(e.mono g1).mono g2
 have nz:=(e.mono g1).out hz'
 have z0:H z=none:=g1.h.free hz'
 obtain ⟨kb,rfl,eb⟩:=Xs nt g2.le p1
 obtain ⟨v0,q2,ok2,own2,p2,tab2,ev,lt2⟩:=e2.has i _ h.eq
 rw [q1] at q2
 cases q2
 cases ev
 have l2:=lt2.l
 have li:=(ζe.mp h.eq).1
 have fin:∀ (T1:LTab) (H3:Hp) (b:Addr) (tab3:PTab),DEnv K S H0 F0 H3 F1 σ (Γ.set i (some (pT K T1 (n + 1))))→T1 c l=some (true,T.at c l)→T1.put c l (true,T.at c l ++ [d])=T.put c l (true,T.at c l ++ [d])→H3 p=some (.dT tab3)→tGet tab3 c l=some (.ref b) →
   tyV K "list" (.ref b) H3∧(zR te tNil) σ H3 fun xs H4=>we (.ref b) xs H4 fun _ H5=>D.nx σ H5:=fun T1 H3 b tab3 e3 t1 tp hp3 hb3=>by
  have hg:(Γ.set i (some (pT K T1 (n + 1))))[i]?=some (some (pT K T1 (n + 1))):=ζv li
  obtain ⟨v0,q3,ok3,own3,p3,tab3',ev,lt3⟩:=e3.has i _ hg
  rw [q1] at q3
  cases q3
  cases ev
  have:=lt3.h
  rw [hp3] at this
  cases this
  obtain ⟨b',hb',us,hu,kb'⟩:=lt3.en c l _ t1
  rw [hb3] at hb'
  cases hb'
  have eN:=e3.forget i
  rw [List.set_set,en.eq] at eN
  refine ⟨.inl ⟨rfl,_,SqL.of hu⟩,he H0 F0 H3 F1 σ eN _ fun v H4 F4 g4 p4=>?_⟩
  have hu4:=g4.h _ _ hu
  have hp4:=g4.h _ _ hp3
  refine ⟨b,us,v,rfl,rfl,hu4,by rw [zv.length kb']; exact hz,?_⟩
  have e4:=e3.mono g4
  obtain ⟨v0,q4,ok4,own4,p4',tab4,ev,lt4⟩:=e4.has i _ hg
  rw [q1] at q4
  cases q4
  cases ev
  have:=lt4.h
  rw [hp4] at this
  cases this
  have ob:Owns H4 (.ref p) (pT K T1 (n + 1)) b:=.inr ⟨p,tab3,c,l,_,rfl,hp4,t1,hb3⟩
  have np:b≠p:=by rintro rfl; rw [hp4] at hu4; cases hu4
  have back:∀ {i' j':Int} {ds':List PyData},T1.put c l (true,T.at c l ++ [d]) i' j'=some (true,ds')→∃ ds0,T1 i' j'=some (true,ds0):=fun {i' j' ds'} q=>by
   by_cases y:i'=c∧j'=l
   ·rw [y.1,y.2]
    exact ⟨_,t1⟩
   ·rw [LTab.put_ne y] at q
    exact ⟨_,q⟩
  have ko:∀ a,adP (T1.put c l (true,T.at c l ++ [d])) (upd H4 b (.lst (us ++ [v]))) (.ref p) a→adP T1 H4 (.ref p) a:=fun a q=>by
   rcases q with q | ⟨p',tab',i',j',ds',ev,hp,hT',hg⟩
   ·exact .inl q
   ·cases ev
    rw [zp np.symm] at hp
    obtain ⟨ds0,t0⟩:=back hT'
    exact .inr ⟨p,tab',i',j',ds0,rfl,hp,t0,hg⟩
  have e5:=e4.put (vs:=us ++ [v]) (y:=pT K (T1.put c l (true,T.at c l ++ [d])) (n + 1)) hg q1 ob ⟨gokP K _ _,fun a q=>by
    obtain ⟨o,w⟩:=own4 a (ko a q)
    by_cases ab:a=b
    ·subst ab
     exact ⟨_,⟨zi,w.f,w.n,w.s⟩⟩
    ·exact ⟨o,w.other ab⟩,p,tab3,rfl,by rw [zp np.symm]; exact hp4,lt4.l,fun i' j' q=>lt4.no i' j' (by
     by_cases y:i'=c∧j'=l
     ·rw [y.1,y.2,LTab.put_eq] at q
      cases q
     ·rwa [LTab.put_ne y] at q),fun i' j' e' q=>by
     by_cases y:i'=c∧j'=l
     ·rw [y.1,y.2,LTab.put_eq] at q
      cases q
      exact ⟨b,by rw [y.1,y.2]; exact hb3,us ++ [v],zi,zv.append (zw g4.f kb') (.cons p4 .nil)⟩
     ·rw [LTab.put_ne y] at q
      obtain ⟨b2,hb2,he2⟩:=lt4.en i' j' e' q
      refine ⟨b2,hb2,he2.mono (.refl _) fun et=>zp fun z=>y ?_⟩
      subst z
      have q:T1 i' j'=some (true,e'.2):=by rw [q,← et]
      exact lt4.ap c l i' j' _ _ _ t1 q hb3 hb2,fun i1 j1 i2 j2 d1 d2 b' z1 z2=>by
     obtain ⟨_,w1⟩:=back z1
     obtain ⟨_,w2⟩:=back z2
     exact lt4.ap i1 j1 i2 j2 _ _ b' w1 w2⟩ ko
  rw [List.set_set,tp,es.eq] at e5
  exact I.nx _ _ _ F4 k (bb.trans (g1.f.trans g4.f)) e5
 refine ⟨kb,pkey c l,tab2,rfl,eb,lt2.h,by omega,fun v hv=>?_,fun hv=>?_⟩
 ·have hv:tGet tab2 c l=some v:=hv
  cases hTc:T c l with
  | none=>rw [lt2.no c l hTc] at hv; cases hv
  | some en' =>
   obtain ⟨fl,ds⟩:=en'
   cases fl with
   | false=>exact absurd hTc (hT ds)
   | true =>
    obtain ⟨b,hb,_⟩:=lt2.en c l _ hTc
    rw [hb] at hv
    cases hv
    have ea:T.at c l=ds:=by unfold LTab.at; rw [hTc]
    refine fin T _ b tab2 ?_ (by rw [ea]; exact hTc) rfl lt2.h hb
    have hh:HasV K S H0 (upd H1 z (.lst [])) F1 (.ref p) (pT K T (n + 1)):=⟨gokP K _ _,own2,p,tab2,rfl,lt2.h,by omega,lt2.no,lt2.en,lt2.ap⟩
    have e6:=e2.set (i:=i) hh fun a oa j y w hj zj hw o=>hj (e2.ne j i y _ w _ a zj h.eq hw q1 o oa)
    rw [Xk q1] at e6
    exact e6
 ·have hv:tGet tab2 c l=none:=hv
  have hTc:T c l=none:=by
   cases q:T c l with
   | none=>rfl
   | some en' =>
    obtain ⟨b,hb,_⟩:=lt2.en c l _ q
    rw [hv] at hb
    cases hb
  have ea:T.at c l=[]:=by unfold LTab.at; rw [hTc]
  have hz2:upd H1 z (.lst []) z=some (.lst []):=zi
  have nzp:z≠p:=fun q=>by
   have:=lt2.h
   rw [← q,hz2] at this
   cases this
  have tg:∀ i' j':Int,tGet (putK tab2 (pkey c l) (.ref z)) i' j'=if i'=c∧j'=l then some (.ref z) else tGet tab2 i' j':=fun i' j'=>Wp tab2 c l i' j' _
  have back:∀ {i' j':Int} {e':Bool×List PyData},¬ (i'=c∧j'=l)→T.put c l (true,[]) i' j'=some e'→T i' j'=some e':=fun y q=>by rwa [LTab.put_ne y] at q
  have pl:∀ a,adP (T.put c l (true,[])) (upd (upd H1 z (.lst [])) p (.dT (putK tab2 (pkey c l) (.ref z)))) (.ref p) a→adP T (upd H1 z (.lst [])) (.ref p) a∨a=z:=fun a q=>by
   rcases q with q | ⟨p',tab',i',j',ds',ev,hp,hT',hg⟩
   ·exact .inl (.inl q)
   ·cases ev
    rw [zi] at hp
    cases hp
    rw [tg] at hg
    by_cases y:i'=c∧j'=l
    ·rw [if_pos y] at hg
     cases hg
     exact .inr rfl
    ·rw [if_neg y] at hg
     exact .inl (.inr ⟨p,tab2,i',j',ds',rfl,lt2.h,back y hT',hg⟩)
  have own:∀ (j:Nat) (f:DV) (u:V),Γ[j]?=some (some f)→σ[j]?=some (some u)→¬ Owns (upd H1 z (.lst [])) u f z:=fun j f u zj hw=>e.newOwn (g1.trans g2) z0 j f u zj hw
  have old:∀ {i' j':Int} {b:Addr} {ds':List PyData},T i' j'=some (true,ds')→tGet tab2 i' j'=some (.ref b)→b≠z:=fun {i' j' b ds'} t1 hb y=>by
   subst y
   exact own i _ _ h.eq q1 (.inr ⟨p,tab2,i',j',ds',rfl,lt2.h,t1,hb⟩)
  have e7:=e2.putNO (b:=z) (a:=p) (oo:=.dT (putK tab2 (pkey c l) (.ref z))) (y:=pT K (T.put c l (true,[])) (n + 1)) h.eq q1 (.inl rfl) ⟨gokP K _ _,fun a q=>by
    rcases pl a q with q | rfl
    ·obtain ⟨o,w⟩:=own2 a q
     by_cases ap:a=p
     ·subst ap
      exact ⟨_,⟨zi,w.f,w.n,w.s⟩⟩
     ·exact ⟨o,w.other ap⟩
    ·exact ⟨_,⟨by rw [zp nzp]; exact hz2,g1.le.free hz',(e.mono g1).gr.h.free hz',nz⟩⟩,p,_,rfl,zi,by have:=xD tab2 (pkey c l) (.ref z); omega,fun i' j' q=>by
    by_cases y:i'=c∧j'=l
    ·rw [y.1,y.2,LTab.put_eq] at q
     cases q
    ·rw [LTab.put_ne y] at q
     rw [tg,if_neg y]
     exact lt2.no i' j' q,fun i' j' e' q=>by
    by_cases y:i'=c∧j'=l
    ·rw [y.1,y.2,LTab.put_eq] at q
     cases q
     exact ⟨z,by rw [tg,if_pos y],[],by rw [zp nzp]; exact hz2,.nil⟩
    ·obtain ⟨b2,hb2,he2⟩:=lt2.en i' j' e' (back y q)
     refine ⟨b2,by rw [tg,if_neg y]; exact hb2,he2.mono (.refl _) fun et=>zp ?_⟩
     rintro rfl
     obtain ⟨fl,ds'⟩:=e'
     cases et
     obtain ⟨us,hu,_⟩:=he2
     exact absurd hu (by rw [lt2.h]; exact fun z=>nomatch z),fun i1 j1 i2 j2 d1 d2 b' z1 z2 h1 h2=>by
    rw [tg] at h1 h2
    by_cases y1:i1=c∧j1=l
    ·by_cases y2:i2=c∧j2=l
     ·exact ⟨y2.1.trans y1.1.symm,y2.2.trans y1.2.symm⟩
     ·rw [if_pos y1] at h1
      cases h1
      rw [if_neg y2] at h2
      exact absurd rfl (old (back y2 z2) h2)
    ·by_cases y2:i2=c∧j2=l
     ·rw [if_pos y2] at h2
      cases h2
      rw [if_neg y1] at h1
      exact absurd rfl (old (back y1 z1) h1)
     ·rw [if_neg y1] at h1
      rw [if_neg y2] at h2
      exact lt2.ap i1 j1 i2 j2 _ _ b' (back y1 z1) (back y2 z2) h1 h2⟩ (fun a q=>pl a q) own
  exact fin _ _ z _ e7 (by rw [ea]; exact LTab.put_eq ..) zbD zi (by rw [tg,if_pos ⟨rfl,rfl⟩])
end
end PD
namespace L2
open PySem PySem.Spec PyProof.Rows PySem.SeqAt PySem.MeetsSeq PySem.MeetsSeq2 PySem.MeetsSeq3
open AutoSeq1 (wpAny_loadPart')
def zT:List Int→List Int→Bool
 | [],[]=>false
 | [],_ :: _=>true
 | _ :: _,[]=>false
 | x :: xs,y :: ys=>if x=y then zT xs ys else decide (x < y)
theorem zb4 (ns ms:List Int) (h:ns=[]∨ms=[]):zT ns ms=decide (ns.length < ms.length):=by
 rcases h with rfl | rfl
 ·cases ms <;> simp [zT]
 ·cases ns <;> simp [zT]
theorem ZS:∀ {us:List Value} {ns:List Int} {i:Nat},IntsAre us ns→(h:i < us.length)→∃ n t,us[i]?=some (.int n t)∧ns[i]?=some n
 | _,_,_,.nil,h=>absurd h (ζY _)
 | _,_,0,.cons n t _,_=>⟨n,t,rfl,rfl⟩
 | _,_,i + 1,.cons _ _ r,h=>ZS (i:=i) r (ξH h)
theorem zb2 (l b:Addr) (xs ys:Array Value) (n m:Nat) (dx dy:Option Addr) (sx sy:Array (Option Value)) (ns ms:List Int) (hx:IntsAre xs.toList ns) (hy:IntsAre ys.toList ms) :
  ∀ (k i:Nat),min xs.size ys.size - i=k→i≤min xs.size ys.size→Meets (Builtin.«list.__eq__.loop» ⟨[.ref l,.ref b,rawInt i,rawInt 0],[]⟩)
   (fun _ R s=>s.heap.get? l=some { cls:=.type "list", dict:=dx,data:=.seq xs n,slots:=sx }∧s.heap.get? b=some { cls:=.type "list", dict:=dy,data:=.seq ys m,slots:=sy } ∧
    R (.ok (.ret (.bool (zT (ns.drop i) (ms.drop i))))) s):=by
 have lx:xs.size=ns.length:=by rw [← IntsAre.length hx]; simp
 have ly:ys.size=ms.length:=by rw [← IntsAre.length hy]; simp
 intro k
 induction k with
 | zero =>
  intro i hk hi prog w A R s h
  obtain ⟨hp,g,d,tk,os⟩:=s; obtain ⟨hl,hb,h⟩:=h
  wp_walk using wpAny_loadPart' hl,wpAny_loadPart' hb
  have e:zT (ns.drop i) (ms.drop i)=decide (xs.size < ys.size):=by
   rw [zb4 _ _ (by
    rcases Nat.le_total xs.size ys.size with z | z
    ·exact .inl (List.drop_eq_nil_of_le (by omega))
    ·exact .inr (List.drop_eq_nil_of_le (by omega)))]
   rw [ζ0,ζ0]
   exact decide_eq_decide.mpr (by omega)
  rw [e] at h
  by_cases c:i < xs.size
  ·have h1:xs[((i:Nat):Int).toNat]?=some xs[i]:=by simp [c]
   have h2:ys[((i:Nat):Int).toNat]?=none:=by simp; omega
   rw [h1,h2]
   wp_walk using wpAny_loadPart' hl,wpAny_loadPart' hb
   exact h
  ·have h1:xs[((i:Nat):Int).toNat]?=none:=by simp; omega
   rw [h1]
   wp_walk using wpAny_loadPart' hl,wpAny_loadPart' hb
   exact h
 | succ k ih =>
  intro i hk hi prog w A R s h
  obtain ⟨hp,g,d,tk,os⟩:=s; obtain ⟨hl,hb,h⟩:=h
  wp_walk using wpAny_loadPart' hl,wpAny_loadPart' hb
  have c1:i < xs.size:=by omega
  have c2:i < ys.size:=by omega
  obtain ⟨x,tx,ex,gx⟩:=ZS (i:=i) hx (by simpa using c1)
  obtain ⟨y,ty,ey,gy⟩:=ZS (i:=i) hy (by simpa using c2)
  have h1:xs[((i:Nat):Int).toNat]?=some (.int x tx):=by rw [← ex]; simp
  have h2:ys[((i:Nat):Int).toNat]?=some (.int y ty):=by rw [← ey]; simp
  have hc:((i:Int) + 1)=((i + 1:Nat):Int):=by push_cast; rfl
  have d1:ns.drop i=x :: ns.drop (i + 1):=by
   obtain ⟨z,rfl⟩:=ζe.mp gx
   exact ξA z
  have d2:ms.drop i=y :: ms.drop (i + 1):=by
   obtain ⟨z,rfl⟩:=ζe.mp gy
   exact ξA z
  rw [d1,d2] at h
  rw [h1,h2]
  refine wpAny_bind (wpAny_eqBool_int ?_)
  by_cases c:x=y
  ·rw [show (x == y)=true by simp [c]]
   rw [show zT (x :: ns.drop (i + 1)) (y :: ms.drop (i + 1))=zT (ns.drop (i + 1)) (ms.drop (i + 1)) from if_pos c] at h
   wp_walk
   rw [hc]
   exact ⟨plainId_quiet plain_eq_loop _,codeAny_builtin entry_eq_loop (by
    rw [Around.under_plainId plain_eq_loop _]
    exact ih (i + 1) (by omega) (by omega) prog w A R _ ⟨hl,hb,h⟩)⟩
  ·rw [show (x == y)=false by simp [c]]
   rw [show zT (x :: ns.drop (i + 1)) (y :: ms.drop (i + 1))=decide (x < y) from if_neg c] at h
   wp_walk using wpAny_loadPart' hl,wpAny_loadPart' hb
   rw [h1,h2]
   refine wpAny_bind (wpAny_lt_int ?_)
   exact wpAny_pure h
theorem TR (l b:Addr) (xs ys:Array Value) (n m:Nat) (dx dy:Option Addr) (sx sy:Array (Option Value)) (ns ms:List Int) (hx:IntsAre xs.toList ns) (hy:IntsAre ys.toList ms):Meets (Builtin.«list.__lt__» ⟨[.ref l,.ref b],[]⟩)
   (fun _ R s=>s.heap.get? l=some { cls:=.type "list", dict:=dx,data:=.seq xs n,slots:=sx }∧s.heap.get? b=some { cls:=.type "list", dict:=dy,data:=.seq ys m,slots:=sy } ∧
    R (.ok (.ret (.bool (zT ns ms)))) s):=by
 intro prog w A R s h
 obtain ⟨hp,g,d,tk,os⟩:=s; obtain ⟨hl,hb,h⟩:=h
 have f3:=AutoSeq1.sub_list_list
 wp_walk using wpAny_loadPart' hl,wpAny_loadPart' hb
 exact ⟨plainId_quiet plain_eq_loop _,codeAny_builtin entry_eq_loop (by
  rw [Around.under_plainId plain_eq_loop _]
  exact zb2 l b xs ys n m dx dy sx sy ns ms hx hy _ 0 rfl (ζL _) prog w A R _ ⟨hl,hb,h⟩)⟩
section
variable {prog:Program} {w:World} {A:Around} {E:Value→Shared→Prop} {s:Shared}
theorem W0 (hl:s.heap.IsList l xs) (hb:s.heap.IsList b ys) (hx:IntsAre xs.toList ns) (hy:IntsAre ys.toList ms) (hu:A.units < cLine) (h:Q (.bool (zT ns ms)) s) :
  wpAny (model prog w) A (richCompare .Lt (.ref l) (.ref b)) Q E s:=by
 obtain ⟨⟨c1,d1,a1,s1⟩,o1,e1,n1,z1⟩:=id hl
 obtain ⟨⟨c2,d2,a2,s2⟩,o2,e2,n2,z2⟩:=id hb
 simp only at e1 z1 e2 z2
 subst e1 z1 e2 z2
 exact richCompare_meets_room (op:=.Lt) ⟨_,o1,rfl⟩ ⟨_,o2,rfl⟩ F.slot_list_lt F.entry_list_lt (F.args_list_lt_2 _ _) (TR l b xs ys n1 n2 d1 d2 s1 s2 ns ms hx hy)
  ⟨o1,o2,show Value.bool (zT ns ms)≠Value.notImplemented∧Q (.bool (zT ns ms)) s from ⟨(fun x=>nomatch x),h⟩⟩ hu
end
theorem QN (h:Q (.bool (decide (x < y))) s):wpAny (model prog w) A (richCompare .Lt (.int x t) (.int y u)) Q E s:=wpAny_lt_int h
def wC (a b:Int) (ns:List Int) (c d:Int) (ms:List Int):Bool:=if a=c then (if b=d then (if ns=ms then false else zT ns ms) else decide (b < d)) else decide (a < c)
theorem Vs (l b:Addr) (x1 x2 y1 y2:Int) (t1 t2 t3 t4:Tok) (u v:Value) (n m:Nat) (dx dy:Option Addr) (sx sy:Array (Option Value)) (e:Bool) (k:Bool):Meets (Builtin.«tuple.__lt__» ⟨[.ref l,.ref b],[]⟩)
   (fun A R s=>s.heap.get? l=some { cls:=.type "tuple", dict:=dx,data:=.seq #[.int x1 t1,.int x2 t2,u] n,slots:=sx }∧s.heap.get? b=some { cls:=.type "tuple", dict:=dy,data:=.seq #[.int y1 t3,.int y2 t4,v] m,slots:=sy } ∧
    EqAt A.in1 s u v e∧(∀ (prog:Program) (w:World) (E:Value→Shared→Prop) (Q:Value→Shared→Prop),Q (.bool k) s→wpAny (model prog w) A.in1 (richCompare .Lt u v) Q E s) ∧
    R (.ok (.ret (.bool (if x1=y1 then (if x2=y2 then (if e then false else k) else decide (x2 < y2)) else decide (x1 < y1))))) s) :=
 .of_wp fun prog w A R s h=>by
  obtain ⟨hp,g,d,tk,os⟩:=s; obtain ⟨hl,hb,he,hk,h⟩:=h
  have f2:=AutoSeq1.sub_tuple_tuple
  have he':∀ {E:Value→Shared→Prop} {Q:Bool→Shared→Prop},Q e ⟨hp,g,d,tk,os⟩→wpAny (model prog w) A.in1 (eqBool u v) Q E ⟨hp,g,d,tk,os⟩:=fun {E Q} z=>he prog w E Q z
  have hk':∀ {E:Value→Shared→Prop} {Q:Value→Shared→Prop},Q (.bool k) ⟨hp,g,d,tk,os⟩→wpAny (model prog w) A.in1 (richCompare .Lt u v) Q E ⟨hp,g,d,tk,os⟩:=fun {E Q} z=>hk prog w E Q z
  clear he hk
  wp_walk using wpAny_loadPart' hl,wpAny_loadPart' hb,wpAny_eqBool_int
  by_cases c:x1=y1
  ·rw [show (x1 == y1)=true by simp [c]]
   rw [if_pos c] at h
   wp_walk using wpAny_eqBool_int
   by_cases c2:x2=y2
   ·rw [show (x2 == y2)=true by simp [c2]]
    rw [if_pos c2] at h
    wp_walk using he'
    cases e with
    | true =>
     wp_walk
     exact ⟨_,rfl,h⟩
    | false =>
     wp_walk using hk'
     exact ⟨_,rfl,h⟩
   ·rw [show (x2 == y2)=false by simp [c2]]
    rw [if_neg c2] at h
    wp_walk using QN
    exact ⟨_,rfl,h⟩
  ·rw [show (x1 == y1)=false by simp [c]]
   rw [if_neg c] at h
   wp_walk using QN
   exact ⟨_,rfl,h⟩
section
variable {prog:Program} {w:World} {A:Around} {E:Value→Shared→Prop} {s:Shared}
theorem TM (hl:s.heap.IsTuple l #[.int x1 t1,.int x2 t2,u]) (hb:s.heap.IsTuple b #[.int y1 t3,.int y2 t4,v]) (hu:A.units < cLine) (he:EqAt A.in1 s u v e)
  (hk:∀ (prog:Program) (w:World) (E:Value→Shared→Prop) (Q:Value→Shared→Prop),Q (.bool k) s→wpAny (model prog w) A.in1 (richCompare .Lt u v) Q E s)
  (h:Q (.bool (if x1=y1 then (if x2=y2 then (if e then false else k) else decide (x2 < y2)) else decide (x1 < y1))) s):wpAny (model prog w) A (richCompare .Lt (.ref l) (.ref b)) Q E s:=by
 obtain ⟨⟨c1,d1,a1,s1⟩,o1,e1,n1,z1⟩:=id hl
 obtain ⟨⟨c2,d2,a2,s2⟩,o2,e2,n2,z2⟩:=id hb
 simp only at e1 z1 e2 z2
 subst e1 z1 e2 z2
 exact richCompare_meets_room (op:=.Lt) ⟨_,o1,rfl⟩ ⟨_,o2,rfl⟩ F.slot_tuple_lt F.entry_tuple_lt (F.args_tuple_lt_2 _ _) (Vs l b x1 x2 y1 y2 t1 t2 t3 t4 u v n1 n2 d1 d2 s1 s2 e k)
  ⟨o1,o2,he,hk,(show (Value.bool _≠Value.notImplemented∧Q (.bool _) s) from ⟨(fun x=>nomatch x),h⟩)⟩ hu
end
section
variable {prog:Program} {w:World} {A:Around} {R:Result→Shared→Prop} {T S l:Addr} {xs:Array Value} {bt:Nat→Nat→Bool} {h0:Heap}
def xO (T S:Addr) (h0 h:Heap):Prop:=∀ b o,b≠T→b≠S→h0.get? b=some o→h.get? b=some o
def CmpH (prog:Program) (w:World) (A:Around) (xs:Array Value) (bt:Nat→Nat→Bool) (h0:Heap) (T S:Addr):Prop :=
 ∀ i j x y (s:Shared) (Q:Value→Shared→Prop) (E:Value→Shared→Prop),xs[i]?=some x→xs[j]?=some y→xO T S h0 s.heap→Q (.bool (bt i j)) s→wpAny (model prog w) A (richCompare .Lt x y) Q E s
theorem V3 (hh:A.handled=none) (nl:l≠T) (nT:S≠T) (nS:S≠l) (hc:CmpH prog w A.in1 xs bt h0 T S) :
  ∀ (k j:Nat) (s:Shared) (y:Value) (c:Nat),xs.size - (j + 1)=k→j + 1≤xs.size→(s.heap.IsListIter T l (j + 1)∧s.heap.IsList l xs)→xs[argBest bt j]?=some y→xO T S h0 s.heap →
  s.heap.get? S=some (seqObj "list" #[y,y] c) →
  (∀ v h tk,xs[argBest bt (xs.size - 1)]?=some v→xO T S h0 h→R (.ok (.ret v)) { s with heap:=h,toks:=tk }) →
  codeAny (model prog w) A (.builtin "min.loop" ⟨[.ref T,.none,.ref S],[]⟩) R s:=by
 have W:=Walks.list (prog:=prog) (w:=w) (A:=A.in1) hh T l nl xs
 have sw:S∉[T]:=fun z=>nT (ζc.mp z)
 have sf:S∉[T,l]:=fun z=>by
  rcases ζz.mp z with z | z
  ·exact nT z
  ·exact nS (ζc.mp z)
 have nm:(toString "min" ++ toString ".loop" : String) = "min.loop" := by decide
 have kp:∀ {h h':Heap},xO T S h0 h→(∀ b o,b∉[T]→h.get? b=some o→h'.get? b=some o)→xO T S h0 h':=fun k1 k2 b o n1 n2 e=>k2 b o (fun z=>n1 (ζc.mp z)) (k1 b o n1 n2 e)
 have ku:∀ {h:Heap} (f:Obj→Obj),xO T S h0 h→xO T S h0 (h.update S f):=fun f k1 b o n1 n2 e=>(ξz _ _ (Ne.symm n2)).trans (k1 b o n1 n2 e)
 intro k
 induction k with
 | zero =>
  intro j s y c hk hj st hy kb hS hR
  have hin:j + 1=xs.size:=by omega
  rw [hin] at st
  refine codeAny_builtin F.entry_min_loop ?_
  rw [Around.under_plainId F.plain_min_loop _]
  refine wpAny_bind (m:=seqItems? (.ref S)) (wpAny_seqItems hS rfl ?_)
  refine wpAny_bind (m:=tryCatch (pyNext (.ref T)) _) (wpAny_tryCatch (W.done s _ _ st fun h' tk k2=>?_))
  refine wpAny_bind (m:=updateSeq S (fun _=>#[])) ?_
  refine wpAny_updateSeq (k2 S _ sw hS) rfl (wpAny_bind (wpAny_letGo (wpAny_pure ?_)))
  exact hR y _ tk (by rw [← hin]; exact hy) (ku _ (kp kb k2))
 | succ k ih =>
  intro j s y c hk hj st hy kb hS hR
  have hlt:j + 1 < xs.size:=by omega
  refine codeAny_builtin F.entry_min_loop ?_
  rw [Around.under_plainId F.plain_min_loop _]
  refine wpAny_bind (m:=seqItems? (.ref S)) (wpAny_seqItems hS rfl ?_)
  refine wpAny_bind (m:=tryCatch (pyNext (.ref T)) _) (wpAny_tryCatch (W.item (j + 1) s _ _ hlt st fun v h' tk hv st' k2=>?_))
  have hS':=k2 S _ sw hS
  refine wpAny_bind (m:=tryCatch (holding [v,v] (richCompare .Lt v y >>= _)) _) (wpAny_tryCatch (wpAny_holding (wpAny_bind (hc (j + 1) (argBest bt j) v y _ _ _ hv hy (kp kb k2) ?_))))
  refine wpAny_bind (wpAny_holding (wpAny_truthy_bool ?_))
  refine wpAny_bind (wpAny_letGo (wpAny_pure ?_))
  cases hb:bt (j + 1) (argBest bt j) with
  | true =>
   simp only [if_true]
   refine wpAny_bind (wpAny_updateSeq hS' rfl (wpAny_bind (wpAny_letGo ?_)))
   rw [nm]
   have fr:=W.frame _ _ (h'.update S (Obj.mapSeq fun _=>#[v,v])) st' fun b hbf o e=>(ξz _ _ (fun z:S=b=>sf (z ▸ hbf))).trans e
   exact wpAny_pure ⟨plainId_quiet F.plain_min_loop _,ih (j + 1) _ v _ (by omega) hlt fr (by simp only [argBest,hb,if_true]; exact hv) (ku _ (kp kb k2)) (Heap.get?_update_self _ hS' rfl) fun v' h'' t' hv' k3=>hR v' h'' t' hv' k3⟩
  | false =>
   simp only [Bool.false_eq_true,if_false]
   refine wpAny_bind (wpAny_letGo ?_)
   rw [nm]
   exact wpAny_pure ⟨plainId_quiet F.plain_min_loop _,ih (j + 1) _ y c (by omega) hlt st' (by simp only [argBest,hb,Bool.false_eq_true,if_false]; exact hy) (kp kb k2) hS' fun v' h'' t' hv' k3=>hR v' h'' t' hv' k3⟩
theorem V5 (hh:A.handled=none) (nl:l≠T) (nT:S≠T) (nS:S≠l) (hc:CmpH prog w A.in1 xs bt h0 T S) (hn:0 < xs.size) (st:s.heap.IsListIter T l 0∧s.heap.IsList l xs) (kb:xO T S h0 s.heap) (hS:s.heap.get? S=some (seqObj "list" #[] c))
  (hR:∀ v h tk,xs[argBest bt (xs.size - 1)]?=some v→xO T S h0 h→R (.ok (.ret v)) { s with heap:=h,toks:=tk }) :
  codeAny (model prog w) A (.builtin "min.loop" ⟨[.ref T,.none,.ref S],[]⟩) R s:=by
 have W:=Walks.list (prog:=prog) (w:=w) (A:=A.in1) hh T l nl xs
 have sw:S∉[T]:=fun z=>nT (ζc.mp z)
 have sf:S∉[T,l]:=fun z=>by
  rcases ζz.mp z with z | z
  ·exact nT z
  ·exact nS (ζc.mp z)
 have nm:(toString "min" ++ toString ".loop" : String) = "min.loop" := by decide
 refine codeAny_builtin F.entry_min_loop ?_
 rw [Around.under_plainId F.plain_min_loop _]
 refine wpAny_bind (m:=seqItems? (.ref S)) (wpAny_seqItems hS rfl ?_)
 refine wpAny_bind (m:=tryCatch (pyNext (.ref T)) _) (wpAny_tryCatch (W.item 0 s _ _ hn st fun v h' tk hv st' k2=>?_))
 have hS':=k2 S _ sw hS
 refine wpAny_bind (m:=updateSeq S (fun _=>#[v,v])) (wpAny_updateSeq hS' rfl ?_)
 rw [nm]
 have fr:=W.frame _ _ (h'.update S (Obj.mapSeq fun _=>#[v,v])) st' fun b hbf o e=>(ξz _ _ (fun z:S=b=>sf (z ▸ hbf))).trans e
 refine wpAny_pure ⟨plainId_quiet F.plain_min_loop _,V3 hh nl nT nS hc _ 0 _ v _ rfl hn fr hv (fun b o n1 n2 e=>?_) (Heap.get?_update_self _ hS' rfl) fun v' h'' t' hv' k3=>hR v' h'' t' hv' k3⟩
 exact (ξz _ _ (Ne.symm n2)).trans (k2 b o (fun z=>n1 (ζc.mp z)) (kb b o n1 n2 e))
end
section
variable {prog:Program} {w:World} {A:Around} {E:Value→Shared→Prop} {s:Shared}
def IsLs (h:Heap) (v:Value) (ns:List Int):Prop:=∃ a ys,v=.ref a∧h.IsList a ys∧IntsAre ys.toList ns
theorem IsLs.keep (x:IsLs h v ns) (k:∀ b o,h.get? b=some o→h'.get? b=some o):IsLs h' v ns:=by
 obtain ⟨a,ys,rfl,⟨o,e,r⟩,i⟩:=x
 exact ⟨a,ys,rfl,⟨o,k _ _ e,r⟩,i⟩
theorem TH {l:Addr} {xs:Array Value} {nss:List (List Int)} {Q:Value→Shared→Prop} (hh:A.handled=none) (hu:A.units + 1 < cLine) (hl:s.heap.IsList l xs) (hx:∀ (i:Nat) v,xs[i]?=some v→IsLs s.heap v (nss.getD i [])) (hn:0 < xs.size)
  (h:∀ v h' tk,xs[argBest (fun i j=>zT (nss.getD i []) (nss.getD j [])) (xs.size - 1)]?=some v→(∀ b o,s.heap.get? b=some o→h'.get? b=some o)→Q v { s with heap:=h',toks:=tk }) :
  wpAny (model prog w) A (call (.builtin "min") [.ref l]) Q E s:=by
 have nm:(toString "min" ++ toString ".loop" : String) = "min.loop" := by decide
 refine call_function_tree F.kind_min F.plain_min F.entry_min (F.args_min1 _) ?_
 refine wpAny_bind (m:=Builtin.Builtins.bindParams "min" ["key", "default"] 0 ⟨[],[]⟩) (wpAny_of_eq (a:=[none,none]) rfl ?_)
 refine wpAny_bind (wpAny_pure ?_)
 have hlt:l < s.heap.objs.size:=by obtain ⟨_,e,_⟩:=hl; exact ζm e
 refine wpAny_bind (wpAny_pyIter_list hl ?_)
 refine wpAny_bind (wpAny_newObj_type ?_)
 rw [nm]
 generalize hI:({ cls:=.type "list_iterator", data:=.fields #[.ref l,.int 0 0] }:Obj)=it
 have hT:(s.heap.push it).get? s.heap.objs.size=some it:=ζy _ (by rw [← hI]; rfl)
 have sz:(s.heap.push it).objs.size=s.heap.objs.size + 1:=ξE ..
 have old:∀ b o,s.heap.get? b=some o→∀ o2,((s.heap.push it).push o2).get? b=some o:=fun b o e o2=>ζi _ (ζi _ e)
 refine wpAny_pure ⟨plainId_quiet F.plain_min_loop _,V5 (h0:=s.heap) (bt:=fun i j=>zT (nss.getD i []) (nss.getD j [])) (T:=s.heap.objs.size) (l:=l) (xs:=xs) hh (ζw hlt) (by rw [sz]; exact ξv (ζ5 _)) (by rw [sz]; exact ξv (ξj hlt)) (fun i j x y s1 Q1 E1 e1 e2 kb q=>?_) hn ⟨⟨it,ζi _ hT,by rw [← hI],by rw [← hI]; rfl⟩,?_⟩ (fun b o _ _ e=>old b o e _) (ζy _ rfl) fun v h' tk hv kb=>h v h' tk hv fun b o e=>kb b o ?_ ?_ e⟩
 ·have n1:∀ {b o},s.heap.get? b=some o→s1.heap.get? b=some o:=fun {b o} e=>kb b o (ζw (ζm e)) (by rw [sz]; exact ζw (ξj (ζm e))) e
  obtain ⟨a1,y1,rfl,l1,i1⟩:=(hx i x e1).keep fun b o e=>n1 e
  obtain ⟨a2,y2,rfl,l2,i2⟩:=(hx j y e2).keep fun b o e=>n1 e
  exact W0 l1 l2 i1 i2 hu q
 ·obtain ⟨o,e,r⟩:=hl
  exact ⟨o,old l o e _,r⟩
 ·exact ζw (ζm e)
 ·rw [sz]
  exact ζw (ξj (ζm e))
end
end L2
namespace L2
open PySem PySem.Spec PyProof.Rows
theorem Zl:∀ a:List Int,zT a a=false
 | []=>rfl
 | x :: a=>by unfold zT; rw [if_pos rfl]; exact Zl a
theorem tK:∀ {a b c:List Int},zT a b=true→zT b c=true→zT a c=true
 | [],[],_,h,_=>by unfold zT at h; cases h
 | [],_ :: _,[],_,h=>by unfold zT at h; cases h
 | [],_ :: _,_ :: _,_,_=>by unfold zT; rfl
 | _ :: _,[],_,h,_=>by unfold zT at h; cases h
 | _ :: _,_ :: _,[],_,h=>by unfold zT at h; cases h
 | x :: a,y :: b,z :: c,h1,h2=>by
  unfold zT at h1 h2 ⊢
  by_cases e1:x=y
  ·rw [if_pos e1] at h1
   subst e1
   by_cases e2:x=z
   ·rw [if_pos e2] at h2 ⊢
    exact tK h1 h2
   ·rw [if_neg e2] at h2 ⊢
    exact h2
  ·rw [if_neg e1] at h1
   have h1:=of_decide_eq_true h1
   by_cases e2:y=z
   ·subst e2
    rw [if_neg e1]
    exact decide_eq_true h1
   ·rw [if_neg e2] at h2
    have h2:=of_decide_eq_true h2
    rw [if_neg (by omega)]
    exact decide_eq_true (by omega)
theorem UQ:∀ {a b:List Int},a≠b→zT a b=true∨zT b a=true
 | [],[],h=>absurd rfl h
 | [],_ :: _,_=>.inl (by unfold zT; rfl)
 | _ :: _,[],_=>.inr (by unfold zT; rfl)
 | x :: a,y :: b,h=>by
  unfold zT
  by_cases e:x=y
  ·rw [if_pos e,if_pos e.symm]
   exact UQ fun z=>h (by rw [e,z])
  ·rw [if_neg e,if_neg fun z=>e z.symm]
   rcases Int.lt_or_gt_of_ne e with z | z
   ·exact .inl (decide_eq_true z)
   ·exact .inr (decide_eq_true z)
def minL (nss:List (List Int)):List Int:=nss.getD (argBest (fun i j=>zT (nss.getD i []) (nss.getD j [])) (nss.length - 1)) []
theorem Ya (bt:Nat→Nat→Bool):∀ k,argBest bt k≤k
 | 0=>ζh _
 | k + 1=>by
  have:=Ya bt k
  unfold argBest
  split <;> omega
theorem wB (f:Nat→List Int):∀ k i,i≤k→zT (f i) (f (argBest (fun i j=>zT (f i) (f j)) k))=false
 | 0,i,h=>by
  obtain rfl:i=0:=by omega
  exact Zl _
 | k + 1,i,h=>by
  unfold argBest
  cases c:zT (f (k + 1)) (f (argBest (fun i j=>zT (f i) (f j)) k)) with
  | true =>
   rw [if_pos rfl]
   by_cases e:i=k + 1
   ·rw [e]; exact Zl _
   ·refine ξb.mpr fun z=>?_
    have:=wB f k i (by omega)
    rw [tK z c] at this
    cases this
  | false =>
   rw [if_neg (by simp)]
   by_cases e:i=k + 1
   ·rw [e]; exact c
   ·exact wB f k i (by omega)
theorem zah (h:nss≠[]):minL nss∈nss:=by
 have l:=ζZ.mpr h
 have:=Ya (fun i j=>zT (nss.getD i []) (nss.getD j [])) (nss.length - 1)
 unfold minL
 rw [ζd,ζp (by omega)]
 exact ξM _
theorem V4 (h:ns∈nss):zT ns (minL nss)=false:=by
 obtain ⟨i,hi,rfl⟩:=ξo.mp h
 have:=wB (fun i=>nss.getD i []) (nss.length - 1) i (by omega)
 rw [ζd,ζp hi] at this
 exact this
def QQ (K:ζa):R2:=fun x y H Q=>∃ a b ns c d ms,Dp K H x (.tuple [.int a,.int b,.list (ns.map .int)])∧Dp K H y (.tuple [.int c,.int d,.list (ms.map .int)])∧Q (.bl (wC a b ns c d ms)) H
def QP (K:ζa):List V→Hp→VK→Prop:=fun xs H Q=>∃ p ws,∃ nss:List (List Int),xs=[.ref p]∧SqL K H p ws∧ws.length=nss.length∧0 < nss.length∧(∀ (i:Nat) v,ws[i]?=some v→∃ a,v=.ref a∧SqL K H a ((nss.getD i []).map V.int)) ∧
 ∀ v,ws[argBest (fun i j=>zT (nss.getD i []) (nss.getD j [])) (nss.length - 1)]?=some v→Q v H
theorem xP:∀ {ws:List V} {its:List Value} {i:Nat} {u:Value},Vals ws its→its[i]?=some u→∃ v,ws[i]?=some v∧RelV v u
 | _,_,_,_,.nil,h=>by cases h
 | _,_,0,_,.cons r _,h=>by cases h; exact ⟨_,rfl,r⟩
 | _,_,i + 1,_,.cons _ t,h=>xP (i:=i) t (by simpa using h)
section
variable {X:Cx} {K:ζa}
theorem Qd (hc:X.calm=true) (hu:X.A.units + 1 < cLine):yq X (.builtin "min") (QP X.K):=by
 intro pins s σ H xs us Q I r h
 obtain ⟨p,ws,nss,rfl,hq,hl,h0,ha,q⟩:=h
 obtain ⟨u,rfl,rx⟩:=xh r
 cases rx
 obtain ⟨its,r',pl,hz⟩:=I.list hq
 have hl':=r'.length
 refine TH (nss:=nss) (I.ok.hd hc) hu pl.isList (fun i v hv=>?_) (by simp; omega) fun v h' tk hv hk=>?_
 ·obtain ⟨y,hy,ry⟩:=xP (u:=v) r' (by simpa using hv)
  obtain ⟨a,rfl,sq⟩:=ha i y hy
  cases ry
  obtain ⟨js,rj,pj,_⟩:=I.list sq
  exact ⟨a,js.toArray,rfl,pj.isList,by simpa using x0 rj⟩
 ·have e:its.toArray.size - 1=nss.length - 1:=by simp; omega
  rw [e] at hv
  obtain ⟨y,hy,ry⟩:=xP (u:=v) r' (by simpa using hv)
  exact ⟨y,H,I.kept hk,ry,q y hy⟩
theorem Uh (hK:X.K=K) (hc:X.calm=true) (hu:X.A.units + 1 < cLine):yq X (.builtin "min") (QP K):=by subst hK; exact Qd hc hu
end
end L2
namespace PD
open PySem L2
section
variable {K:ζa} {S S':Sx} {κ κ':Bool} {Γ Γ' Γ'':Ctx} {P:Post}
theorem W4:∀ {ns ms:List Int},ns.map V.int=ms.map V.int→ns=ms
 | [],[],_=>rfl
 | [],_ :: _,h=>by cases h
 | _ :: _,[],h=>by cases h
 | x :: ns,y :: ms,h=>by
  rw [ζH,ζH] at h
  injection h with h1 h2
  injection h1 with h1
  rw [h1,W4 h2]
theorem zcb (hr:Room k A):A.units + 65 < cLine:=by have:=hr.un; omega
theorem Uv {H:Hp} {x:V} {a b:Int} {ns:List Int} (h:Dp K H x (.tuple [.int a,.int b,.list (ns.map .int)])):∃ p l,x=.ref p∧SqT K H p [.int a,.int b,.ref l]∧SqL K H l (ns.map V.int):=by
 obtain ⟨p,vs,rfl,h1,h2⟩:=zd4 h
 cases h2 with
 | cons p1 h2=>cases h2 with
  | cons p2 h2=>cases h2 with
   | cons p3 h2 =>
    cases h2
    cases wA p1
    cases wA p2
    obtain ⟨l,us,rfl,h3,h4⟩:=zd5 p3
    cases zX h4
    exact ⟨p,l,rfl,h1,h3⟩
theorem zdE (hu:X.A.units + 65 < cLine):OpR X (compareOp .Lt) (QQ X.K):=by
 intro pins s σ H x y v u Q I rx ry h
 obtain ⟨a,b,ns,c,d,ms,h1,h2,q⟩:=h
 obtain ⟨p1,l1,rfl,t1,s1⟩:=Uv h1
 obtain ⟨p2,l2,rfl,t2,s2⟩:=Uv h2
 cases rx
 cases ry
 obtain ⟨i1,v1,T1,_⟩:=I.tuple t1
 obtain ⟨i2,v2,T2,_⟩:=I.tuple t2
 obtain ⟨j1,w1,P1,_⟩:=I.list s1
 obtain ⟨j2,w2,P2,_⟩:=I.list s2
 have n1:=x0 w1
 have n2:=x0 w2
 cases v1 with
 | cons r1 v1=>cases v1 with
  | cons r2 v1=>cases v1 with
   | cons r3 v1 =>
    cases v1
    cases v2 with
    | cons q1 v2=>cases v2 with
     | cons q2 v2=>cases v2 with
      | cons q3 v2 =>
       cases v2
       obtain ⟨k1,rfl⟩:=r1
       obtain ⟨k2,rfl⟩:=r2
       cases r3
       obtain ⟨k3,rfl⟩:=q1
       obtain ⟨k4,rfl⟩:=q2
       cases q3
       have he:PySem.SeqAt.EqAt X.A.in1 s (.ref l1) (.ref l2) (decide (ns=ms)):=by
        by_cases e:l1=l2
        ·subst e
         have:=I.list_inj s1 s2
         have en:ns=ms:=W4 this
         rw [decide_eq_true en]
         exact PySem.SeqAt.EqAt.same _
        ·refine PySem.SeqAt.EqAt.of_refs e fun prog w E Q hq=>?_
         obtain ⟨as,ra⟩:=Dp.reads I (.lst s1 (w6 ns)) (u:=.ref l1) rfl
         obtain ⟨bs,rb⟩:=Dp.reads I (.lst s2 (w6 ms)) (u:=.ref l2) rfl
         exact PyProof.Rows.eq_dataH ra rb (Cm.tR ns) (Cm.tR ms) (by show X.A.units + 1 + 64 < cLine; omega) (by rw [Ud]; exact hq)
       refine TM T1 T2 (by omega) he (fun prog w E Q hq=>W0 P1.isList P2.isList (by simpa using n1) (by simpa using n2) (by show X.A.units + 1 < cLine; omega) hq) ⟨.bl _,H,I,rfl,?_⟩
       have e:(if a=c then (if b=d then (if decide (ns=ms)=true then false else zT ns ms) else decide (b < d)) else decide (a < c))=wC a b ns c d ms:=by
        unfold wC
        simp only [decide_eq_true_eq]
       rw [e]
       exact q
theorem zbP (hK:X.K=K) (hu:X.A.units + 65 < cLine):OpR X (compareOp .Lt) (QQ K):=by subst hK; exact zdE hu
theorem zd1 (ha:EvE K S false ta Γ (.tuple [.int a,.int b,.list (ns.map .int)])) (hb:EvE K S false tb Γ (.tuple [.int c,.int d,.list (ms.map .int)])):EvE K S κ (tOp (QQ K) ta tb) Γ (.bool (wC a b ns c d ms)):=fun H0 F0 H F σ e Q q =>
 ha H0 F0 H F σ e _ fun v H1 F1 g1 p1=>hb H0 F0 H1 F1 σ (e.mono g1) _ fun w H2 F2 g2 p2 =>
  ⟨a,b,ns,c,d,ms,yT g2.le (yW (yA g2.f p1)),yT g2.le (yW p2),q _ H2 F2 (g1.trans g2) (.bl _)⟩
theorem zcs (ha:EvL K S κ ta Γ (nss.map fun ns=>.list (ns.map .int))) (h0:nss≠[]):EvE K S κ (tCB (QP K) (zR ta tNil)) Γ (.list ((minL nss).map .int)):=fun H0 F0 H F σ e Q q =>
 ha H0 F0 H F σ e _ fun a vs H1 F1 g1 h1 p1=>by
  have hl:=zv.length p1
  rw [ζb] at hl
  have l0:=ζZ.mpr h0
  refine ⟨a,vs,nss,rfl,h1,hl,l0,fun i v hv=>?_,fun v hv=>?_⟩
  ·obtain ⟨d,hd,r⟩:=zv.get' p1 hv
   rw [ζs] at hd
   cases hn:nss[i]? with
   | none=>rw [hn] at hd; cases hd
   | some ns =>
    rw [hn] at hd
    cases hd
    obtain ⟨b,us,rfl,h2,h3⟩:=tE r
    cases zX (zP h3)
    refine ⟨b,rfl,?_⟩
    rw [ζd,hn]
    exact g1.le.seq h2.sq
  ·obtain ⟨d,hd,r⟩:=zv.get' p1 hv
   rw [ζs] at hd
   refine q v H1 F1 g1 ?_
   unfold minL
   rw [ζd]
   cases hn:nss[argBest (fun i j=>zT (nss.getD i []) (nss.getD j [])) (nss.length - 1)]? with
   | none=>rw [hn] at hd; cases hd
   | some ns =>
    rw [hn] at hd
    cases hd
    exact r
end
end PD
namespace Dsp
variable {pa:Nat→Nat→Prop} {Z:Nat→Prop} {rk:Nat→Nat} {q:Nat→Nat→Nat→Bool} {x y:Nat}
def vv (q:Nat→Nat→Nat→Bool):Option Nat→Nat→Option Nat→Nat
 | some a,v,some b=>if q a v b=true then 1 else 0
 | _,_,_=>0
def vc (q:Nat→Nat→Nat→Bool):List Nat→Nat
 | a :: v :: l=>vv q (some a) v l.head? + vc q (v :: l)
 | _=>0
def Wy (pa:Nat→Nat→Prop) (Z:Nat→Prop):Nat→List Nat→Prop
 | v,[]=>Z v
 | v,d :: T=>¬ Z v∧pa v d∧Wy pa Z d T
section
variable (dag:∀ a b,pa a b→rk a < rk b) (hq:∀ a v b,q a v b=true↔pa a v∧pa b v)
include dag hq
end
end Dsp
namespace L2
open PySem PySem.Spec PyProof.Rows
def mxL (ns:List Int):Int:=ns.getD (argBest (fun i j=>decide (ns.getD i 0 > ns.getD j 0)) (ns.length - 1)) 0
def mnL (ns:List Int):Int:=ns.getD (argBest (fun i j=>decide (ns.getD i 0 < ns.getD j 0)) (ns.length - 1)) 0
theorem vJ (bt:Nat→Nat→Bool):∀ k,argBest bt k≤k
 | 0=>ζh _
 | k + 1=>by
  have:=vJ bt k
  unfold argBest
  split <;> omega
theorem vU {ns:List Int} {i:Nat} (h:i < ns.length):ns.getD i 0∈ns:=by
 rw [ζd,ζp h]
 exact ξM _
theorem zb0 {ns:List Int} (h:ns≠[]):mxL ns∈ns:=by
 have l:=ζZ.mpr h
 have:=vJ (fun i j=>decide (ns.getD i 0 > ns.getD j 0)) (ns.length - 1)
 exact vU (by omega)
theorem zb1 {ns:List Int} (h:ns≠[]):mnL ns∈ns:=by
 have l:=ζZ.mpr h
 have:=vJ (fun i j=>decide (ns.getD i 0 < ns.getD j 0)) (ns.length - 1)
 exact vU (by omega)
section
variable {X:Cx} {K:ζa}
def Zy (K:ζa) (f:List Int→Int):List V→Hp→VK→Prop:=fun xs H Q=>∃ p,∃ ns:List Int,xs=[.ref p]∧SqL K H p (ns.map V.int)∧ns≠[]∧Q (.int (f ns)) H
theorem Qf (hc:X.calm=true):yq X (.builtin "max") (Zy X.K mxL):=by
 intro pins s σ H xs us Q I r h
 obtain ⟨p,ns,rfl,hq,h0,q⟩:=h
 obtain ⟨u,rfl,rx⟩:=xh r
 cases rx
 obtain ⟨its,r',pl,hz⟩:=I.list hq
 have hl:=pl.isList
 have hi:=r'.length
 rw [ζb] at hi
 refine call_max_walk (wpAny_pyIter_list hl ?_)
 have hne:p≠s.heap.objs.size:=by
  obtain ⟨o,ho,_⟩:=hl
  exact ζw (ζm ho)
 have val:∀ (i:Nat) (v:Value),its.toArray[i]?=some v→∃ t,v=.int (ns.getD i 0) t:=fun i v hv=>by
  obtain ⟨y,hy,ry⟩:=xP (u:=v) r' (by simpa using hv)
  rw [ζs] at hy
  cases e:ns[i]? with
  | none=>rw [e] at hy; cases hy
  | some n =>
   rw [e] at hy
   cases hy
   obtain ⟨t,rfl⟩:=ry
   exact ⟨t,by rw [ζd,e]; rfl⟩
 have l0:=ζZ.mpr h0
 refine ⟨s.heap.objs.size,_,_,_,_,_,_,rfl,Walks.list (A:=X.A.in1) (I.ok.hd hc) _ p hne its.toArray,⟨⟨_,ζy _ rfl,rfl,rfl⟩,hl.push _⟩,?_,?_,CmpOf.ints_gt (fun i=>ns.getD i 0) val,fun v h' tk hP hk=>?_⟩
 ·intro b hb
  simp at hb
  rw [ξE]
  rcases hb with rfl | rfl
  ·exact ζ5 _
  ·obtain ⟨o,ho,_⟩:=hl
   exact ξj (ζm ho)
 ·simp; omega
 ·obtain ⟨t,rfl⟩:=val _ v hP
  refine ⟨.int _,H,I.kept fun b o eb=>hk b o (by simpa using Nat.ne_of_lt (Heap.lt_size eb)) (Heap.get?_push_of_some _ eb),⟨t,rfl⟩,?_⟩
  have e:its.toArray.size - 1=ns.length - 1:=by simp; omega
  rw [e]
  exact q
theorem Qe (hc:X.calm=true):yq X (.builtin "min") (Zy X.K mnL):=by
 intro pins s σ H xs us Q I r h
 obtain ⟨p,ns,rfl,hq,h0,q⟩:=h
 obtain ⟨u,rfl,rx⟩:=xh r
 cases rx
 obtain ⟨its,r',pl,hz⟩:=I.list hq
 have hl:=pl.isList
 have hi:=r'.length
 rw [ζb] at hi
 refine call_min_walk (wpAny_pyIter_list hl ?_)
 have hne:p≠s.heap.objs.size:=by
  obtain ⟨o,ho,_⟩:=hl
  exact ζw (ζm ho)
 have val:∀ (i:Nat) (v:Value),its.toArray[i]?=some v→∃ t,v=.int (ns.getD i 0) t:=fun i v hv=>by
  obtain ⟨y,hy,ry⟩:=xP (u:=v) r' (by simpa using hv)
  rw [ζs] at hy
  cases e:ns[i]? with
  | none=>rw [e] at hy; cases hy
  | some n =>
   rw [e] at hy
   cases hy
   obtain ⟨t,rfl⟩:=ry
   exact ⟨t,by rw [ζd,e]; rfl⟩
 have l0:=ζZ.mpr h0
 refine ⟨s.heap.objs.size,_,_,_,_,_,_,rfl,Walks.list (A:=X.A.in1) (I.ok.hd hc) _ p hne its.toArray,⟨⟨_,ζy _ rfl,rfl,rfl⟩,hl.push _⟩,?_,?_,CmpOf.ints_lt (fun i=>ns.getD i 0) val,fun v h' tk hP hk=>?_⟩
 ·intro b hb
  simp at hb
  rw [ξE]
  rcases hb with rfl | rfl
  ·exact ζ5 _
  ·obtain ⟨o,ho,_⟩:=hl
   exact ξj (ζm ho)
 ·simp; omega
 ·obtain ⟨t,rfl⟩:=val _ v hP
  refine ⟨.int _,H,I.kept fun b o eb=>hk b o (by simpa using Nat.ne_of_lt (Heap.lt_size eb)) (Heap.get?_push_of_some _ eb),⟨t,rfl⟩,?_⟩
  have e:its.toArray.size - 1=ns.length - 1:=by simp; omega
  rw [e]
  exact q
theorem Uj (hK:X.K=K) (hc:X.calm=true):yq X (.builtin "max") (Zy K mxL):=by subst hK; exact Qf hc
theorem Ui (hK:X.K=K) (hc:X.calm=true):yq X (.builtin "min") (Zy K mnL):=by subst hK; exact Qe hc
end
end L2
namespace PD
open PySem L2
section
variable {K:ζa} {S S':Sx} {κ κ':Bool} {Γ Γ' Γ'':Ctx} {P:Post}
theorem Vd (h:EvL K S false ta Γ (ns.map .int)) (h0:ns≠[]):EvE K S κ (tCB (Zy K f) (zR ta tNil)) Γ (.int (f ns)):=fun H0 F0 H F σ e Q q =>
 h H0 F0 H F σ e _ fun a vs H1 F1 g1 p1 k1=>by
  cases zX (zP k1)
  exact ⟨a,ns,rfl,p1,h0,q _ H1 F1 g1 (.int _)⟩
end
end PD
namespace L2
open PySem PySem.Spec PyProof.Rows PySem.Calls PySem.W
section
variable {prog:Program} {w:World} {A:Around} {l q I S:Addr} {n:Nat} {Pv:Nat→Value→Prop} {R:Result→Shared→Prop}
theorem TJ (kf:Nat→Int) (J:Shared→Prop) (hh:A.handled=none) (hl:∀ s,J s→∃ vs:List Value,s.heap.IsList l vs.toArray∧vs.length=n∧∀ i v,vs[i]?=some v→Pv i v) (hlI:l≠I) (hSI:S≠I)
  (hJ:∀ s h' tk it,it=I∨it=S→J s→(∀ b o,b≠it→s.heap.get? b=some o→h'.get? b=some o)→J { s with heap:=h',toks:=tk })
  (turn:∀ (i:Nat) (v:Value),Pv i v→∀ s oI oS,J s→s.heap.get? I=some oI→s.heap.get? S=some oS→(∀ v,oI.data≠.cell v)→(∀ v,oS.data≠.cell v) →
   wpAny (model prog w) A.in1 (call (.ref q) [v]) (fun u s'=>∃ t,u=.int (kf i) t∧J s'∧s'.heap.get? I=some oI∧s'.heap.get? S=some oS) (fun _ _=>False) s)
  (hR:∀ i v s',Pv i v→(∀ j,j < n→kf i≤kf j∧(j < i→kf i < kf j))→J s'→R (.ok (.ret v)) s') :
  ∀ (r j i:Nat) (s:Shared) (vb:Value) (tb:Tok) (c:Nat),n - (j + 1)=r→j + 1≤n→J s→s.heap.get? S=some (seqObj "list" #[vb,.int (kf i) tb] c)→s.heap.IsListIter I l (j + 1)→Pv i vb→i≤j →
   (∀ j',j'≤j→kf i≤kf j'∧(j' < i→kf i < kf j'))→codeAny (model prog w) A (.builtin "min.loop" ⟨[.ref I,.ref q,.ref S],[]⟩) R s:=by
 have hname:(toString "min" ++ toString ".loop" : String) = "min.loop" := by decide
 intro r
 induction r with
 | zero =>
  intro j i s vb tb c hr hj Js hS hit hvb hij hbest
  have hin:j + 1=n:=by omega
  obtain ⟨vs,hvl,hvn,hvP⟩:=hl s Js
  have W:=Walks.list (prog:=prog) (w:=w) (A:=A.in1) hh I l hlI vs.toArray
  have hsz:vs.toArray.size=n:=(ζQ ..).trans hvn
  refine codeAny_builtin ξ2 ?_
  rw [Around.under_plainId ζ8 _]
  show wpAny _ A.in1 (seqItems? (.ref S) >>= _) _ _ _
  refine wpAny_bind (wpAny_seqItems hS rfl ?_)
  show wpAny _ A.in1 (tryCatch (pyNext (.ref I)) _ >>= _) _ _ _
  refine wpAny_bind (wpAny_tryCatch (W.done _ _ _ ⟨by rw [hsz,← hin]; exact hit,hvl⟩ fun h' tk' hk'=>?_))
  have hS':=hk' S _ (by simpa using hSI) hS
  have J1:J { s with heap:=h',toks:=tk' }:=hJ s h' tk' I (.inl rfl) Js fun b o n1 z=>hk' b o (by simpa using n1) z
  have s1:=Heap.SameBut.update h' S (Obj.mapSeq fun _=>(#[]:Array Value))
  show wpAny _ A.in1 (updateSeq S (fun _=>#[]) >>= _) _ _ _
  refine wpAny_bind ?_
  refine wpAny_updateSeq hS' rfl (wpAny_bind (wpAny_letGo (wpAny_pure ?_)))
  exact hR i vb _ hvb (fun j' hj'=>hbest j' (by omega)) (hJ _ _ _ S (.inr rfl) J1 fun b o n2 z=>(s1.2 b n2).trans z)
 | succ r ih =>
  intro j i s vb tb c hr hj Js hS hit hvb hij hbest
  have hlt:j + 1 < n:=by omega
  obtain ⟨vs,hvl,hvn,hvP⟩:=hl s Js
  have W:=Walks.list (prog:=prog) (w:=w) (A:=A.in1) hh I l hlI vs.toArray
  have hsz:vs.toArray.size=n:=(ζQ ..).trans hvn
  refine codeAny_builtin ξ2 ?_
  rw [Around.under_plainId ζ8 _]
  show wpAny _ A.in1 (seqItems? (.ref S) >>= _) _ _ _
  refine wpAny_bind (wpAny_seqItems hS rfl ?_)
  show wpAny _ A.in1 (tryCatch (pyNext (.ref I)) _ >>= _) _ _ _
  refine wpAny_bind (wpAny_tryCatch (W.item (j + 1) _ _ _ (by rw [hsz]; exact hlt) ⟨hit,hvl⟩ fun v h' tk' hP hst' hk'=>?_))
  have hv:Pv (j + 1) v:=hvP _ _ (by simpa using hP)
  obtain ⟨oI',hoI',hoc,hod⟩:=id hst'.1
  have hS':=hk' S _ (by simpa using hSI) hS
  have J1:J { s with heap:=h',toks:=tk' }:=hJ s h' tk' I (.inl rfl) Js fun b o n1 z=>hk' b o (by simpa using n1) z
  show wpAny _ A.in1 (tryCatch (holding [v] (call (.ref q) [v])) _ >>= _) _ _ _
  refine wpAny_bind (wpAny_tryCatch (wpAny_holding (wpAny_mono (turn (j + 1) v hv _ _ _ J1 hoI' hS' (fun v z=>by rw [hod] at z; cases z) fun v z=>by cases z) (fun x s'' he=>?_) fun _ _ hF=>hF.elim)))
  obtain ⟨t2,rfl,J2,nI2,nS2⟩:=he
  have hit2:s''.heap.IsListIter I l (j + 1 + 1):=⟨oI',nI2,hoc,hod⟩
  show wpAny _ A.in1 (tryCatch (holding [v,.int (kf (j + 1)) t2] (richCompare .Lt (.int (kf (j + 1)) t2) (.int (kf i) tb) >>= _)) _ >>= _) _ _ _
  refine wpAny_bind (wpAny_tryCatch (wpAny_holding (wpAny_bind (CmpOf.ints_lt (prog:=prog) (w:=w) (A:=A.in1) (P:=fun i v=>∃ t,v=.int (kf i) t) kf (fun i v h=>h) (j + 1) i _ _ _ _ _ ⟨t2,rfl⟩ ⟨tb,rfl⟩ ?_))))
  refine wpAny_bind (wpAny_holding (wpAny_truthy_bool ?_))
  refine wpAny_bind (wpAny_letGo (wpAny_pure ?_))
  by_cases hb':kf (j + 1) < kf i
  ·have s1:=Heap.SameBut.update s''.heap S (Obj.mapSeq fun _=>#[v,.int (kf (j + 1)) t2])
   have hc2:=get?_update_seq nS2 fun _=>#[v,.int (kf (j + 1)) t2]
   simp only [hb',decide_true,if_true]
   refine wpAny_bind ?_
   refine wpAny_updateSeq nS2 rfl (wpAny_bind (wpAny_letGo ?_))
   rw [hname]
   refine wpAny_pure ⟨plainId_quiet ζ8 _,ih (j + 1) (j + 1) _ v t2 _ (by omega) hlt (hJ _ _ _ S (.inr rfl) J2 fun b o n2 z=>(s1.2 b n2).trans z) hc2 ⟨oI',(s1.2 I hSI.symm).trans nI2,hoc,hod⟩ hv (ζh _) fun j' hj'=>?_⟩
   by_cases e:j'=j + 1
   ·subst e
    exact ⟨by omega,fun _=>by omega⟩
   ·have hb1:=hbest j' (by omega)
    have hb2:=hb1.1
    exact ⟨by omega,fun _=>by omega⟩
  ·simp only [hb',decide_false,Bool.false_eq_true,if_false]
   refine wpAny_bind (wpAny_letGo ?_)
   rw [hname]
   refine wpAny_pure ⟨plainId_quiet ζ8 _,ih (j + 1) i _ vb tb c (by omega) hlt (hJ _ _ _ S (.inr rfl) J2 fun b o _ z=>z) nS2 hit2 hvb (by omega) fun j' hj'=>?_⟩
   by_cases e:j'=j + 1
   ·subst e
    exact ⟨by omega,fun _=>by omega⟩
   ·exact hbest j' (by omega)
end
section
variable {prog:Program} {w:World} {A:Around} {E:Value→Shared→Prop} {s:Shared} {l q:Addr} {n:Nat} {Pv:Nat→Value→Prop} {vs:List Value} {Q:Value→Shared→Prop}
theorem minK (kf:Nat→Int) (J:Shared→Prop) (hh:A.handled=none) (hl:∀ s,J s→∃ vs:List Value,s.heap.IsList l vs.toArray∧vs.length=n∧∀ i v,vs[i]?=some v→Pv i v) (hne:0 < n) (h0:s.heap.IsList l vs.toArray)
  (hst:∀ h',(∀ b o,s.heap.get? b=some o→h'.get? b=some o)→s.heap.objs.size + 1 < h'.objs.size→J { s with heap:=h' })
  (hJ:∀ s1 h' tk it,it=s.heap.objs.size∨it=s.heap.objs.size + 1→J s1→(∀ b o,b≠it→s1.heap.get? b=some o→h'.get? b=some o)→J { s1 with heap:=h',toks:=tk })
  (turn:∀ (i:Nat) (v:Value),Pv i v→∀ s1 oI oS,J s1→s1.heap.get? s.heap.objs.size=some oI→s1.heap.get? (s.heap.objs.size + 1)=some oS→(∀ v,oI.data≠.cell v)→(∀ v,oS.data≠.cell v) →
   wpAny (model prog w) A.in1 (call (.ref q) [v]) (fun u s'=>∃ t,u=.int (kf i) t∧J s'∧s'.heap.get? s.heap.objs.size=some oI∧s'.heap.get? (s.heap.objs.size + 1)=some oS) (fun _ _=>False) s1)
  (hQ:∀ i v s',Pv i v→(∀ j,j < n→kf i≤kf j∧(j < i→kf i < kf j))→J s'→Q v s') :
  wpAny (model prog w) A (call (.builtin "min") [.ref l] [(Str.ofString "key", .ref q)]) Q E s:=by
 have hname:(toString "min" ++ toString ".loop" : String) = "min.loop" := by decide
 obtain ⟨ol,hol,_⟩:=id h0
 have hll:l < s.heap.objs.size:=ζm hol
 refine kmk_tree PySem.F.kind_min PySem.F.plain_min PySem.F.entry_min (kmk_min_key _ _) ?_
 show wpAny _ A.in1 (Builtin.Builtins.bindParams "min" ["key", "default"] 0 ⟨[],[(Str.ofString "key", .ref q)]⟩ >>= _) _ _ s
 refine wpAny_bind (wpAny_of_eq (show Builtin.Builtins.bindParams "min" ["key", "default"] 0 ⟨[],[(Str.ofString "key", .ref q)]⟩=pure [some (.ref q),none] from rfl) ?_)
 refine wpAny_bind (wpAny_pure ?_)
 refine wpAny_bind (wpAny_pyIter_list h0 ?_)
 refine wpAny_bind (wpAny_newList ?_ (ζL _))
 rw [hname]
 have hS:(s.heap.push { cls:=.type "list_iterator", data:=.fields #[.ref l,.int 0 0] }).objs.size=s.heap.objs.size + 1:=size_push' ..
 have hlI:l≠s.heap.objs.size:=ζw hll
 have hSI:s.heap.objs.size + 1≠s.heap.objs.size:=ξv (ζ5 _)
 refine wpAny_pure ⟨plainId_quiet ζ8 _,?_⟩
 have gI:((s.heap.push { cls:=.type "list_iterator", data:=.fields #[.ref l,.int 0 0] }).push (seqObj "list" #[] 0)).get? s.heap.objs.size=some { cls:=.type "list_iterator", data:=.fields #[.ref l,.int 0 0] } :=
  ζi _ (ζy _ rfl)
 have gS:((s.heap.push { cls:=.type "list_iterator", data:=.fields #[.ref l,.int 0 0] }).push (seqObj "list" #[] 0)).get? (s.heap.objs.size + 1)=some (seqObj "list" #[] 0):=by rw [← hS]; exact ζy _ rfl
 have J0:J { s with heap:=(s.heap.push { cls:=.type "list_iterator", data:=.fields #[.ref l,.int 0 0] }).push (seqObj "list" #[] 0) }:=hst _ (fun b o z=>ζi _ (ζi _ z)) (by rw [size_push',hS]; exact ζ5 _)
 obtain ⟨vs,hvl,hvn,hvP⟩:=hl _ J0
 have W:=Walks.list (prog:=prog) (w:=w) (A:=A.in1) hh s.heap.objs.size l hlI vs.toArray
 have hsz:vs.toArray.size=n:=(ζQ ..).trans hvn
 rw [hS]
 refine codeAny_builtin ξ2 ?_
 rw [Around.under_plainId ζ8 _]
 show wpAny _ A.in1 (seqItems? (.ref _) >>= _) _ _ _
 refine wpAny_bind (wpAny_seqItems gS rfl ?_)
 show wpAny _ A.in1 (tryCatch (pyNext (.ref s.heap.objs.size)) _ >>= _) _ _ _
 refine wpAny_bind (wpAny_tryCatch (W.item 0 _ _ _ (by rw [hsz]; exact hne) ⟨⟨_,gI,rfl,rfl⟩,hvl⟩ fun v h' tk' hP hst' hk'=>?_))
 have hv:Pv 0 v:=hvP _ _ (by simpa using hP)
 obtain ⟨oI',hoI',hoc,hod⟩:=id hst'.1
 have gS':=hk' _ _ (by simpa using hSI) gS
 have J1:=hJ _ h' tk' _ (.inl rfl) J0 fun b o n1 z=>hk' b o (by simpa using n1) z
 show wpAny _ A.in1 (tryCatch (holding [v] (call (.ref q) [v])) _ >>= _) _ _ _
 refine wpAny_bind (wpAny_tryCatch (wpAny_holding (wpAny_mono (turn 0 v hv _ _ _ J1 hoI' gS' (fun v z=>by rw [hod] at z; cases z) fun v z=>by cases z) (fun x s'' he=>?_) fun _ _ hF=>hF.elim)))
 obtain ⟨t2,rfl,J2,nI2,nS2⟩:=he
 have s1:=Heap.SameBut.update s''.heap (s.heap.objs.size + 1) (Obj.mapSeq fun _=>#[v,.int (kf 0) t2])
 have hc2:=get?_update_seq nS2 fun _=>#[v,.int (kf 0) t2]
 show wpAny _ A.in1 (updateSeq (s.heap.objs.size + 1) (fun _=>#[v,.int (kf 0) t2]) >>= _) _ _ _
 refine wpAny_bind ?_
 refine wpAny_updateSeq nS2 rfl ?_
 rw [hname]
 refine wpAny_pure ⟨plainId_quiet ζ8 _,TJ kf J hh hl hlI hSI hJ turn (fun i v s' h1 h2 h3=>hQ i v s' h1 h2 h3) _ 0 0 _ v t2 _ rfl hne (hJ _ _ _ _ (.inr rfl) J2 fun b o n2 z=>(s1.2 b n2).trans z) hc2 ⟨oI',(s1.2 _ hSI.symm).trans nI2,hoc,hod⟩ hv (ζh _) fun j' hj'=>?_⟩
 have e:j'=0:=by omega
 subst e
 exact ⟨by omega,fun h=>absurd h (ζS _)⟩
end
end L2
namespace L2
open PySem PySem.Spec PyProof.Rows PySem.W
section
variable {X:Cx} {pins:List (Addr×Obj)} {σ:St} {Ha:Hp} {s:Shared} {f c':Addr} {x q:Str} {kk:Nat} {params:Arguments} {body:Expr} {lsc:Scope} {clos:List (Str×Addr)} {caps:List (Str×Nat)} {va:Str→V} {pm ctv:Value} {spl:Sp} {fd:FuncData}
theorem zau (I2:Inv X pins σ Ha s) (F:FnOk X.prog X.w X.K X.mg X.base CX0 kk f fd [x] spl) (hb:xg X.K fd [x] []) (hr:Room kk X.A.in1) (hva:∀ p∈caps,σ[p.2]?=some (some (va p.1)))
  (hN:∀ p∈caps,X.N[p.2]?=some p.1∧X.env.scope.names.lookup p.1=some .cell) (hk1:∀ p∈clos,p.1∈caps.map (·.1)∧X.env.cells.lookup p.1=some p.2) (hk2:∀ p∈caps,(clos.lookup p.1).isSome=true) (hfn:∀ y,X.fn y=true)
  (rv:RelV v u) (hsp:∀ H2:Hp,(∀ b o,Ha b=some o→H2 b=some o)→w9 H2 (caps.map (·.1)) va clos→spl [v] H2 (fun v' H3=>v'=r∧H3=H2) E0) :
  wpAny (model X.prog X.w) X.A.in1 (call (.ref f) [u]) (fun u' s'=>RelV r u'∧Inv X pins σ Ha s') (fun _ _=>False) s:=by
 have cel:∀ y b,(y,b)∈clos→Ha b=none∧X.env.cells.lookup y=some b∧y∈caps.map (·.1)∧∃ o u,s.heap.get? b=some o∧o.data=.cell (some u)∧RelV (va y) u:=fun y b hy=>by
  obtain ⟨m1,m2⟩:=hk1 (y,b) hy
  obtain ⟨pp,hp,e1⟩:=ζn.mp m1
  have e1:pp.1=y:=e1
  have n:=hN pp hp
  have vv:=hva pp hp
  rw [e1] at n vv
  have fr:Ha b=none:=(I2.freeC y b m2).elim (fun z=>z) fun z=>by rw [hfn y] at z; cases z.1
  obtain ⟨m,hn,hl⟩:=id I2.loc
  obtain ⟨u,ru,lk⟩:=hl pp.2 y (va y) n.1 vv (.inr (.inl n.2))
  refine ⟨fr,m2,m1,?_⟩
  rcases lk with ⟨z,_⟩ | ⟨_,b2,z2,o,z3,z4⟩
  ·have z':X.env.scope.names.lookup y=some .local:=z
   rw [n.2] at z'; cases z'
  ·rw [m2] at z2; cases z2
   exact ⟨o,u,z3,z4,ru⟩
 let cs:List Addr:=clos.map (·.2)
 have inC:∀ {b:Addr},b∈cs→∃ y,(y,b)∈clos:=fun {b} hb=>by
  obtain ⟨⟨y,b'⟩,h1,h2⟩:=ζn.mp hb
  have:b'=b:=h2
  subst this
  exact ⟨y,h1⟩
 have frC:∀ {b:Addr},b∈cs→Ha b=none:=fun hb=>let ⟨y,hy⟩:=inC hb; (cel y _ hy).1
 let H2:Hp:=fun b=>if b∈cs then (s.heap.get? b).map knw else Ha b
 have h2n:∀ {b:Addr},b∉cs→H2 b=Ha b:=fun hb=>if_neg hb
 have h2c:∀ {b:Addr},b∈cs→∃ y o u,(y,b)∈clos∧s.heap.get? b=some o∧H2 b=some (knw o)∧o.data=.cell (some u)∧RelV (va y) u:=fun {b} hb=>by
  obtain ⟨y,hy⟩:=inC hb
  obtain ⟨_,_,_,o,u,z1,z2,z3⟩:=cel y b hy
  exact ⟨y,o,u,hy,z1,by show (if b∈cs then _ else _)=_; rw [if_pos hb,z1]; rfl,z2,z3⟩
 have nC:∀ {b:Addr} {x:HO},Ha b=some x→b∉cs:=fun {b x} hx hb=>by rw [frC hb] at hx; cases hx
 have keep2:∀ {b:Addr} {x:HO},Ha b=some x→H2 b=some x:=fun hx=>by rw [h2n (nC hx)]; exact hx
 have hok2:HOk X.prog X.w H2 s.heap:=fun b x hx=>by
  by_cases hb:b∈cs
  ·obtain ⟨_,o,u,_,z1,z2,_⟩:=h2c hb
   rw [z2] at hx; cases hx
   exact ZQ z1
  ·rw [h2n hb] at hx
   exact (I2.hok b x hx).stay (fun _ _ _ z=>z) (fun _ z=>keep2 z) (fun _ _ z=>keep2 z) fun _ _ _ z _=>keep2 z
 have big:∀ {b:Addr},b∈cs→X.s₀.heap.objs.size≤b∧b≠X.env.locals:=fun {b} hb=>by
  obtain ⟨y,hy⟩:=inC hb
  obtain ⟨_,m2,_⟩:=cel y b hy
  exact ⟨I2.ok.cab y b (hfn y) m2,I2.cne y b m2⟩
 have e0:Env0 X.prog X.w X.K X.mg X.base X.A X.stack s H2:=by
  have e:=I2.env0
  refine ⟨e.frames,e.mod,fun b o z=>⟨(e.bs b o z).1,?_⟩,e.bsz,e.funs,fun b hb=>?_,hok2,e.bare,fun p hp=>?_⟩
  ·rw [h2n fun hb=>absurd (ζA (ζm (I2.ok.bs b o z).1) (big hb).1) (ζS _)]
   exact (e.bs b o z).2
  ·rw [h2n fun hc=>?_]
   ·exact e.frf b hb
   ·rcases ζz.mp (I2.stkSub b hb) with z | z
    ·exact (big hc).2 z
    ·obtain ⟨_,o,ho,_⟩:=I2.ok.funs.mem z
     exact absurd (ζA (ζm ho) (big hc).1) (ζS _)
  ·obtain ⟨t,m,z⟩:=e.tb p hp
   exact ⟨t,m,keep2 z⟩
 have lkm:∀ {y:Str} {b:Addr},clos.lookup y=some b→(y,b)∈clos:=fun e=>PySem.mem_of_lookup e
 have clo:w9 H2 (caps.map (·.1)) va clos:=by
  refine ⟨fun y hy=>?_,fun y b hy=>?_,fun y z b hy hz=>?_⟩
  ·obtain ⟨pp,hp,e1⟩:=ζn.mp hy
   have e1:pp.1=y:=e1
   have:=hk2 pp hp
   rw [e1] at this
   exact ζX.mp this
  ·obtain ⟨_,_,m1,o,u,z1,z2,z3⟩:=cel y b (lkm hy)
   have hb:b∈cs:=ζn.mpr ⟨(y,b),lkm hy,rfl⟩
   refine ⟨m1,o,u,?_,z2,z3⟩
   show (if b∈cs then _ else _)=_
   rw [if_pos hb,z1]; rfl
  ·exact I2.ok.inj y z b (cel y b (lkm hy)).2.1 (cel z b (lkm hz)).2.1
 have sq:=hsp H2 (fun b o z=>keep2 z) clo
 have bt:=hb s [u] I2.kIn (by rfl)
 rw [ζG] at bt
 refine wpAny_call (codeAny_mono (F.run X.A.in1 X.stack s H2 ⟨[u],[]⟩ [u] [v] _ _ hr e0.in1 bt (.cons rv .nil) sq) fun rs s3 hq3=>?_)
 cases rs with
 | error e'=>exact False.elim hq3
 | ok fl =>
  cases fl with
  | next=>exact False.elim hq3
  | brk=>exact False.elim hq3
  | cont=>exact False.elim hq3
  | ret u' =>
   obtain ⟨v',H3,os,bare,un,hok3,rv',rfl,rfl⟩:=hq3
   refine ⟨rv',?_⟩
   have un4:Un (frs X.stack) [] Ha Ha s.heap s3.heap:=by
    refine ⟨fun b o z n hb _=>?_,fun b o z n hb _=>?_,fun b o z n _=>n,fun b o z hx=>un.there b o z hx,fun b xs z=>z,fun b o u z=>z,fun b ps' z=>⟨#[],by rw [z]; simp⟩⟩
    ·by_cases hc:b∈cs
     ·obtain ⟨_,o',_,_,y1,y2,_⟩:=h2c hc
      rw [z] at y1; cases y1
      exact (hok3 b _ y2).1
     ·exact un.keep b o z (by rw [h2n hc]; exact n) hb (by simp)
    ·by_cases hc:b∈cs
     ·obtain ⟨_,o',_,_,y1,y2,_⟩:=h2c hc
      rw [z] at y1; cases y1
      exact ⟨o.slots,(hok3 b _ y2).1⟩
     ·exact un.slot b o z (by rw [h2n hc]; exact n) hb (by simp)
   have hok4:HOk X.prog X.w Ha s3.heap:=fun b x hx=>by
    have hb:b∉cs:=nC hx
    have nc3:∀ {d:Addr} {y:HO},H2 d=some y→(∀ o u,y≠.frz o u)→Ha d=some y:=fun {d y} hd' hn=>by
     by_cases hc:d∈cs
     ·obtain ⟨_,o,_,_,_,z,_⟩:=h2c hc
      rw [hd'] at z; cases z
      exact absurd rfl (hn _ _)
     ·rw [h2n hc] at hd'; exact hd'
    refine (hok3 b x (keep2 hx)).stay (fun _ _ _ z=>z) (fun d z=>nc3 z fun _ _ y=>by cases y) (fun d xs z=>nc3 z fun _ _ y=>by cases y) fun d o' u' z nd=>?_
    by_cases hc:d∈cs
    ·obtain ⟨_,o,u2,_,_,y,y2,_⟩:=h2c hc
     rw [z] at y; cases y
     exact absurd y2 (nd _)
    ·rw [h2n hc] at z; exact z
   exact I2.call' os un4 hok4 bare (ch:=[]) (fun _ z=>nomatch z)
end
def FstK (kf:Int→Int) (ns:List Int) (i:Nat):Prop:=i < ns.length∧∀ j,j < ns.length→kf (ns.getD i 0)≤kf (ns.getD j 0)∧(j < i→kf (ns.getD i 0) < kf (ns.getD j 0))
theorem FstK.one (a:FstK kf ns i) (b:FstK kf ns j):i=j:=by
 have h1:=a.2 j b.1
 have h2:=b.2 i a.1
 omega
theorem zcd (kf:Int→Int) (h:ns≠[]):∃ i,FstK kf ns i:=by
 have:∀ k,k < ns.length→∃ i,i≤k∧∀ j,j≤k→kf (ns.getD i 0)≤kf (ns.getD j 0)∧(j < i→kf (ns.getD i 0) < kf (ns.getD j 0)):=by
  intro k
  induction k with
  | zero=>exact fun _=>⟨0,ζh _,fun j hj=>by rw [show j=0 by omega]; exact ⟨Int.le_refl _,fun z=>absurd z (ζS _)⟩⟩
  | succ k ih =>
   intro hk
   obtain ⟨i,hi,hb⟩:=ih (by omega)
   by_cases c:kf (ns.getD (k + 1) 0) < kf (ns.getD i 0)
   ·refine ⟨k + 1,ζh _,fun j hj=>?_⟩
    by_cases e:j=k + 1
    ·rw [e]; exact ⟨Int.le_refl _,fun z=>absurd z (ζS _)⟩
    ·have:=(hb j (by omega)).1
     exact ⟨by omega,fun _=>by omega⟩
   ·refine ⟨i,by omega,fun j hj=>?_⟩
    by_cases e:j=k + 1
    ·rw [e]; exact ⟨by omega,fun z=>by omega⟩
    ·exact hb j (by omega)
 have l:=ζZ.mpr h
 obtain ⟨i,hi,hb⟩:=this (ns.length - 1) (by omega)
 exact ⟨i,by omega,fun j hj=>hb j (by omega)⟩
open Classical in
noncomputable def mnK (kf:Int→Int) (ns:List Int):Int:=if h:∃ i,FstK kf ns i then ns.getD h.choose 0 else 0
theorem zag (h:FstK kf ns i):ns.getD i 0=mnK kf ns:=by
 unfold mnK
 have e:∃ i,FstK kf ns i:=⟨i,h⟩
 rw [dif_pos e,h.one e.choose_spec]
theorem ZN {kf:Int→Int} {ns:List Int} (h:ns≠[]):mnK kf ns∈ns∧∀ n∈ns,kf (mnK kf ns)≤kf n:=by
 obtain ⟨i,hi⟩:=zcd kf h
 rw [← zag hi]
 refine ⟨vU hi.1,fun n hn=>?_⟩
 obtain ⟨j,hj,rfl⟩:=ξo.mp hn
 have:=(hi.2 j hj).1
 rw [ζd (l:=ns) (i:=j),ζp hj] at this
 exact this
def tML (P:Program) (w:World) (K:Frag) (mg:Str→Option Value) (base:Heap) (kk:Nat) (ta:TA) (x:Str) (params:Arguments) (body:Expr) (lsc:Scope) (q:Str) (caps:List (Str×Nat)):TE:=fun σ H Q=>ta σ H fun vs H1=>∃ va:Str→V,(∀ p∈caps,σ[p.2]?=some (some (va p.1))) ∧
 ∃ (p:Addr) (ns:List Int) (kf:Int→Int),vs=[.ref p]∧SqL K H1 p (ns.map V.int)∧ns≠[] ∧
 (∀ (cl:List (Str×Addr)) (f c':Addr) (pm ctv:Value),(∀ y∈caps.map (·.1),(cl.lookup y).isSome=true)→∃ spl:Sp,FnOk P w K mg base CX0 kk f (kla_fn "<lambda>" q params body lsc cl pm (.ref c') ctv) [x] spl∧xg K (kla_fn "<lambda>" q params body lsc cl pm (.ref c') ctv) [x] [] ∧
  ∀ n∈ns,∀ H2:Hp,(∀ b o,H1 b=some o→H2 b=some o)→H2 f=some (knw (kla_obj "<lambda>" q params body lsc cl pm c' ctv))→Yd H2 c' q→w9 H2 (caps.map (·.1)) va cl→spl [.int n] H2 (fun v' H3=>v'=.int (kf n)∧H3=H2) E0) ∧
 ∀ H4:Hp,Tf H1 H4→Q (.int (mnK kf ns)) H4
section
variable {X:Cx} {kk:Nat} {p pos lpos kp:Pos} {e:Expr} {ta:TA} {x:Str} {params:Arguments} {body:Expr} {lsc:Scope} {q:Str} {c T:Addr} {clos:List (Str×Addr)} {caps:List (Str×Nat)}
theorem Tw (hr:Room (kk + 1) X.A) (hg:Gl X "min") (hm:X.mg "min" = none) (ha:PA X [e] ta) (hcode:X.env.code=.ref c) (hhd:codeHdIn X.K c T=true) (htab:(T,q)∈yg X.K) (hq:X.env.qual ++ "<lambda>" = q)
  (hcl:closureFor lsc X.env=pure clos) (hdef:defaultsOf params X.env=([],[])) (hN:∀ p∈caps,X.N[p.2]?=some p.1∧X.env.scope.names.lookup p.1=some .cell) (hk1:∀ p∈clos,p.1∈caps.map (·.1)∧X.env.cells.lookup p.1=some p.2) (hk2:∀ p∈caps,(clos.lookup p.1).isSome=true) (hfn:∀ y,X.fn y=true)
  (he:backTo pos (starEach (e :: []) X.env)=(false,eval e X.env) :: backTo pos (starEach [] X.env):=by rfl) (hpl:(backTo pos (starEach (e :: []) X.env)).any (·.1)=false:=by rfl) :
  PE X (.Call (.Name "min" p) [e] [⟨some "key", .Lambda params body lsc lpos,kp⟩] pos) (tML X.prog X.w X.K X.mg X.base kk ta x params body lsc q caps):=by
 intro pins s σ H Q I h
 refine wpAny_Call_Name_kw (uk (u:=.builtin "min") I hg hm (by decide +kernel) ?_)
 refine callWith_kw (id := "min") (thn (ha pos pins s σ H _ I h) fun us s1 ⟨vs,H1,I1,r1,q1⟩=>kws_cons (W2 I1 hcode hhd htab hq hcl hdef fun s2 Ha f c' pm ctv I2 up frf hf hcd=>kws_nil ?_)) he hpl
 obtain ⟨va,hva,a,ns,kf,rfl,hsq,hne,hF,hQ⟩:=q1
 obtain ⟨u,rfl,rx⟩:=xh r1
 cases rx
 have s12:∀ b o,H1 b=some o→Ha b=some o:=fun b o z=>by
  rcases up b with y | ⟨y,_⟩
  ·rw [y]; exact z
  ·rw [y] at z; cases z
 have hsq2:SqL X.K Ha a (ns.map V.int):=Same.seq s12 hsq
 obtain ⟨its,r',pl,hz⟩:=I2.list hsq2
 obtain ⟨spl,F,hb,hsp⟩:=hF clos f c' pm ctv fun y hy=>by
  obtain ⟨pp,h1,rfl⟩:=ζn.mp hy
  exact hk2 pp h1
 have fI:Ha s2.heap.objs.size=none:=I2.hok.fresh (ζh _)
 have fS:Ha (s2.heap.objs.size + 1)=none:=I2.hok.fresh (ξw _)
 have oI:=I2.fpOk (ζh _) fI
 have oS:=I2.fpOk (ξw _) fS
 have gt:∀ {its:List Value} {i:Nat} {v:Value},Vals (ns.map V.int) its→its[i]?=some v→∃ t,v=.int (ns.getD i 0) t∧i < ns.length:=fun {its i v} r' hv=>by
  obtain ⟨y,hy,ry⟩:=xP r' hv
  rw [ζs] at hy
  cases hn:ns[i]? with
  | none=>rw [hn] at hy; cases hy
  | some n =>
   rw [hn] at hy
   cases hy
   obtain ⟨t,rfl⟩:=ry
   refine ⟨t,?_,?_⟩
   ·rw [ζd,hn]; rfl
   ·exact (ζe.mp hn).1
 refine minK (vs:=its) (n:=ns.length) (Pv:=fun i v=>∃ t,v=.int (ns.getD i 0) t∧i < ns.length) (fun i=>kf (ns.getD i 0)) (fun s'=>Inv X pins σ Ha s') hr.hd (fun s' J=>?_) (ζZ.mpr hne) pl.isList (fun h' hk _=>I2.kept (t':=s2.toks) hk) (fun s3 h' tk it hit J hk=>?_) (fun i v hv s3 o1 o2 J g1 g2 n1 n2=>?_) fun i v s' hv hbest J=>?_
 ·obtain ⟨its2,r2,pl2,_⟩:=J.list hsq2
  exact ⟨its2,pl2.isList,by have:=r2.length; rw [ζb] at this; exact this.symm,fun i v hv=>gt r2 hv⟩
 ·rcases hit with rfl | rfl
  ·exact J.turned hk oI.1 oI.2.1 oI.2.2.2.1 oI.2.2.2.2.1 oI.2.2.2.2.2
  ·exact J.turned hk oS.1 oS.2.1 oS.2.2.2.1 oS.2.2.2.2.1 oS.2.2.2.2.2
 ·obtain ⟨t,rfl,hlt⟩:=hv
  have J':Inv X (pins ++ [(s2.heap.objs.size,o1),(s2.heap.objs.size + 1,o2)]) σ Ha s3:=J.pins_of fun p hp=>by
   rcases ζq.mp hp with z | z
   ·exact J.pin p (ζg _ z)
   ·rcases ζz.mp z with rfl | z
    ·exact ⟨g1,oI.1,oI.2.1,oI.2.2.1,n1⟩
    ·cases ζc.mp z
     exact ⟨g2,oS.1,oS.2.1,oS.2.2.1,n2⟩
  refine wpAny_mono (zau J' F hb hr.in1 hva hN hk1 hk2 hfn (v:=.int (ns.getD i 0)) (r:=.int (kf (ns.getD i 0))) ⟨t,rfl⟩ fun H2 le clo=>hsp _ (vU hlt) H2 (fun b o z=>le b o (s12 b o z)) (le _ _ hf) ?_ clo) (fun u' s' z=>?_) fun _ _ z=>z
  ·obtain ⟨o,fs,t,z1,z2,z3⟩:=hcd
   exact ⟨o,fs,t,le _ _ z1,z2,z3⟩
  ·obtain ⟨⟨t',rfl⟩,J2⟩:=z
   exact ⟨t',rfl,J2.unpinned,(J2.pin _ (ζg _ (ζg _ (.head _)))).1,(J2.pin _ (ζg _ (ζg _ (.tail _ (.head _))))).1⟩
 ·obtain ⟨t,rfl,hlt⟩:=hv
  exact ⟨.int (mnK kf ns),Ha,J,⟨t,by rw [zag (i:=i) ⟨hlt,hbest⟩]⟩,hQ Ha up⟩
end
end L2
namespace PD
open PySem L2 PySem.W
section
variable {P:Program} {w:World} {K:ζa} {mg:Str→Option Value} {base:Heap} {S:Sx} {κ:Bool} {Γ:Ctx}
theorem T6 (h1:EvL K S false t1 Γ (ns.map .int)) (h0:ns≠[]) (hd:GetC Γ i (.xn (dkO m))) (hk:∀ n∈ns,dGet m n=some (.int (kf n)))
  (SL:wL x [y] lsc) (hb:∀ cl pm c' ctv,xg K (kla_fn "<lambda>" q params body lsc cl pm (.ref c') ctv) [x] [])
  (hp:∀ (f c':Addr) (cl:List (Str×Addr)),(∀ z∈[y],(cl.lookup z).isSome=true)→∀ (A:Around) (outer:List Env) (s:Shared) (H:Hp),Room kk (A.deeper (envX q lsc s.heap.objs.size f (.ref c') cl))→PE (cxL P w K mg base [x,y] q lsc f (.ref c') cl A outer s H) body (Ux (tVar 1) (tVar 0))) :
  EvE K S κ (tML P w K mg base (kk + 1) (zR t1 tNil) x params body lsc q [(y,i)]) Γ (.int (mnK kf ns)):=fun H0 F0 H F σ e Q qq =>
 h1 H0 F0 H F σ e _ fun a vs H1 F1 g1 p1 k1=>by
  cases zX (zP k1)
  obtain ⟨u,hu,b,rfl,ho⟩:=e.has i _ hd.eq
  have ho1:H1 b=some (.dK m):=g1.h _ _ (e.le _ _ ho)
  refine ⟨fun _=>.ref b,fun p hp=>by cases ζc.mp hp; exact hu,a,ns,kf,rfl,p1,h0,fun cl f c' pm ctv hcl=>⟨fun vs H2 Q _=>∃ n,vs=[.int n]∧n∈ns∧H2 f=some (knw (kla_obj "<lambda>" q params body lsc cl pm c' ctv))∧Yd H2 c' q∧w9 H2 [y] (fun _=>.ref b) cl∧H2 b=some (.dK m)∧Q (.int (kf n)) H2,?_,hb cl pm c' ctv,fun n hn H2 le hf hcd clo=>⟨n,rfl,hn,hf,hcd,clo,le _ _ ho1,rfl,rfl⟩⟩,fun H4 up=>?_⟩
  ·refine zat (va:=fun _=>.ref b) SL (fun vs H2 Q E h=>?_) (fun vs H2 Q E h=>?_) fun A outer s H2 v Q E hr h=>?_
   ·obtain ⟨n,rfl,_⟩:=h
    rfl
   ·obtain ⟨n,_,_,z1,z2,z3,_⟩:=h
    exact ⟨z1,z2,z3⟩
   ·obtain ⟨n,ev,hn,_,_,_,hb2,hq⟩:=h
    cases ev
    refine ⟨_,hp f c' cl hcl A outer s H2 hr,_,rfl,_,rfl,b,_,rfl,?_,hq⟩
    have:=DGet.k (k:=.inl n) hb2
    rwa [show valV m (.inl n)=some (.int (kf n)) from hk n hn] at this
  ·refine qq _ H4 F1 (g1.trans ⟨fun b o z=>?_,.refl _,fun b o z=>?_,fun b o z n=>n⟩) (.int _)
   ·rcases up b with y | ⟨y,_⟩
    ·rw [y]; exact z
    ·rw [y] at z; cases z
   ·rcases up b with y | ⟨y,_⟩
    ·rw [y]; exact g1.le _ _ z
    ·rw [g1.le _ _ z] at y; cases y
end
end PD
namespace PD
open PySem L2
section
variable {K:ζa} {S S':Sx} {κ:Bool} {Γ Γ':Ctx} {P:Post}
theorem zci (hi:GetC Γ i (.tn (.tuple (d0 :: .list ds1 :: rest)))) (hj:GetC Γ j (.fz κ' (.int m))) (hz:ds1.length < sizeLine) (hm:SpC Γ Γ') (ho:OneT Γ) (k:P.nx Γ') :
  ExT K (.spoil T) .fresh (v5 (tBM K "list" we (tOp (rIxT K) (tVar i) (tC (.int 1))) (zR (tVar j) tNil))) Γ P:=fun H0 F0 H F σ B e bb v0 D I=>by
 have hi:=hi.eq
 obtain ⟨w,hw,T',eT,p⟩:=e.has i _ hi
 cases eT
 obtain ⟨x,hx',px⟩:=e.has j _ hj.eq
 obtain ⟨t,vs,rfl,ht,hk⟩:=uf p
 cases hk with
 | cons h0 hk' =>
  cases hk' with
  | cons hx hk'' =>
   obtain ⟨a,us,rfl,hl1,hk1⟩:=tE hx
   have Tn:∀ {b:Addr},¬ Sx.has (.spoil fun a=>¬ T a) (fun _=>none) b→T b:=fun c=>Classical.byContradiction fun z=>c (.inr z)
   have Ta:=Tn hl1.2
   have ha:=e.le _ _ hl1.1
   have htH:=Same.seqT e.le ht
   refine ⟨_,hw,t,_,1,_,rfl,rfl,htH,atI1,.inl ⟨rfl,_,SqL.of ha⟩,_,hx',a,us,x,rfl,rfl,ha,by rw [zv.length hk1]; exact hz,?_⟩
   refine yr (K:=K) (S:=.fresh) k H0 F0 _ _ σ B (e.spoilt (fun d o hd hq=>?_) hm ho fun m es d us' h1 _ _=>?_) (Ul bb (zbe v0)) (.inl rfl) D I
   ·have n1:d≠a:=by
     rintro rfl
     rcases hq with hq | hq
     ·rw [ha] at hd; cases hd; cases hq
     ·exact hq Ta
    rw [zp n1]
    exact hd
   ·have:=ho m i _ _ h1 hi
    subst this
    rw [hi] at h1
    cases h1
end
end PD
open PySem L2 PD
local macro_rules | `(tactic| walk_at"comp_ok")=>`(tactic| (refine vM.of (by with_unfolding_all rfl) (by decide +kernel) rfl (by decide +kernel) ?_ (by with_unfolding_all rfl) rfl (by with_unfolding_all rfl); (repeat (with_unfolding_all refine List.forall_mem_cons.mpr ⟨by with_unfolding_all rfl,?_⟩)); exact List.forall_mem_nil _))
local macro_rules | `(tactic| walk_at"comp_okC")=>`(tactic| (refine vZ.of (by with_unfolding_all rfl) (fun _ _=>by with_unfolding_all rfl) (by decide +kernel) rfl rfl rfl (by decide +kernel) ?_ (by with_unfolding_all rfl) rfl (by with_unfolding_all rfl); (repeat (with_unfolding_all refine List.forall_mem_cons.mpr ⟨by with_unfolding_all rfl,?_⟩)); exact List.forall_mem_nil _))
local macro_rules | `(tactic| walk_at"comp_lam")=>`(tactic| exact vM.lam (by assumption) (by decide +kernel) rfl (by decide +kernel) (by decide +kernel) rfl (by with_unfolding_all rfl))
local macro_rules | `(tactic| walk_at"gc")=>`(tactic| ((repeat ((with_reducible apply GetC.succ))) ; (with_reducible exact GetC.zero)))
local macro_rules | `(tactic| walk_at"sc")=>`(tactic| ((repeat ((with_reducible apply SetC.succ))) ; (with_reducible exact SetC.zero)))
local macro_rules | `(tactic| walk_at"st")=>`(tactic| ((repeat (first | (with_reducible apply xf.got) | ((with_reducible apply xf.no)))) ; (with_reducible exact xf.z)))
local macro_rules | `(tactic| walk_at"cc")=>`(tactic| ((repeat (first | (with_reducible apply xK.no) | ((with_reducible apply xK.got) ; focus walk_at"gc"))); (with_reducible exact xK.nil)))
local macro_rules | `(tactic| walk_at"mk")=>`(tactic| ((repeat (first | ((with_reducible apply wm.got); focus (first | exact MkD.fz | exact MkD.ow | exact MkD.im rfl | exact MkD.ox)) | (with_reducible apply wm.no))); (with_reducible exact wm.nil)))
local macro_rules | `(tactic| walk_at"sp")=>`(tactic| ((repeat (first | ((with_reducible apply SpC.got); focus (first | exact SpD.fz | exact SpD.ow | exact SpD.im rfl | exact SpD.ox | exact SpD.tn)) | (with_reducible apply SpC.no))); (with_reducible exact SpC.nil)))
local macro_rules | `(tactic| walk_at"sd")=>`(tactic| first | ((with_reducible apply asm) ; assumption) | decide | omega | skip)
local macro_rules | `(tactic| walk_at"ln")=>`(tactic| (simp only [List.length_cons,List.length_nil]; decide))
local macro_rules | `(tactic| walk_at"ev")=>`(tactic| first
 | (with_reducible exact xI)
 | (with_reducible exact zaI)
 | (with_reducible exact zeG)
 | (with_reducible exact ZX)
 | (with_reducible exact zaP)
 | (with_reducible exact zC)
 | (with_reducible exact X8)
 | ((with_reducible apply asm) ; (with_reducible assumption))
 | ((with_reducible apply evv) ; walk_at"gc"; decide)
 | ((with_reducible apply evi) ; walk_at"gc"; rfl)
 | ((with_reducible apply evtn) ; walk_at"gc"; done)
 | ((with_reducible apply evw) ; walk_at"gc"; decide)
 | ((with_reducible apply wx) <;> walk_at"ev")
 | ((with_reducible apply ZW) <;> walk_at"ev")
 | ((with_reducible apply YV) <;> walk_at"ev")
 | ((with_reducible apply ev_le) <;> walk_at"ev")
 | ((with_reducible apply t7) <;> walk_at"ev")
 | ((with_reducible apply zc7) <;> walk_at"ev")
 | ((with_reducible apply X6) <;> walk_at"ev")
 | ((with_reducible apply uX) <;> walk_at"ev")
 | ((with_reducible apply ev_fdivB) <;> walk_at"ev")
 | ((with_reducible apply xH) <;> walk_at"ev")
 | ((with_reducible apply ev_pow) <;> walk_at"ev")
 | ((with_reducible apply uo) <;> walk_at"ev")
 | ((with_reducible refine' tL (EvE.toD (κ:=false) ?_)) <;> walk_at"ev")
 | ((with_reducible refine' X5 (EvE.toD (κ:=false) ?_)) <;> walk_at"ev")
 | ((with_reducible apply zI) <;> walk_at"ev")
 | ((with_reducible apply yP) <;> walk_at"ev")
 | ((with_reducible apply ur) <;> walk_at"ev" <;> done)
 | ((with_reducible apply vG) <;> walk_at"ev" <;> done)
 | ((with_reducible apply ev_eqB) <;> walk_at"ev" <;> done)
 | ((with_reducible apply ev_neB) <;> walk_at"ev" <;> done)
 | ((with_reducible apply zaM) <;> walk_at"ev" <;> done)
 | ((with_reducible apply zaJ) <;> walk_at"ev" <;> done)
 | ((with_reducible apply Ub) <;> (try (with_reducible intro _)) <;> walk_at"ev")
 | ((with_reducible apply zc6) <;> (try (with_reducible intro _)) <;> walk_at"ev")
 | ((with_reducible apply ZY) <;> walk_at"ev")
 | ((with_reducible apply zq) <;> walk_at"ev")
 | ((with_reducible apply et_B) <;> walk_at"ev")
 | ((with_reducible apply xu) <;> (try (with_reducible intro _)) <;> walk_at"ev")
 | ((with_reducible apply yG) <;> (try (with_reducible intro _)) <;> walk_at"ev")
 | ((with_reducible apply xJ) <;> walk_at"ev")
 | ((with_reducible apply zg) <;> walk_at"ev")
 | ((with_reducible apply ww) <;> walk_at"ev")
 | ((with_reducible apply EvO.toE) ; ((with_reducible apply zZ)) <;> walk_at"ev")
 | ((with_reducible apply zZ) <;> walk_at"ev")
 | ((with_reducible apply yb) <;> walk_at"ev" <;> done)
 | ((with_reducible apply uW) <;> walk_at"ev")
 | ((with_reducible apply EvO.toE) ; ((with_reducible apply x5)) <;> walk_at"ev")
 | ((with_reducible apply x5) <;> walk_at"ev")
 | ((with_reducible apply ev_abs) <;> walk_at"ev")
 | ((with_reducible apply uY) <;> walk_at"ev")
 | ((with_reducible apply EvO.toE) ; ((with_reducible apply xQ)) <;> walk_at"ev")
 | ((with_reducible apply xQ) <;> walk_at"ev")
 | ((with_reducible apply EvO.toE) ; ((with_reducible apply wZ)) <;> walk_at"ev")
 | ((with_reducible apply wZ) <;> walk_at"ev")
 | ((with_reducible apply EvO.toE) ; ((with_reducible apply evo_rep)) <;> walk_at"ev")
 | ((with_reducible apply evo_rep) <;> walk_at"ev")
 | ((with_reducible apply EvO.toE) ; ((with_reducible apply evo_listRev)) <;> walk_at"ev")
 | ((with_reducible apply evo_listRev) <;> walk_at"ev")
 | ((with_reducible refine' ZZ (EvE.toD (κ:=false) ?_) ?_) <;> walk_at"ev")
 | ((with_reducible apply zk) <;> walk_at"ev")
 | ((with_reducible apply Vc) <;> walk_at"ev")
 | ((with_reducible apply zaG) ; walk_at"ev"; done)
 | ((with_reducible apply evl_opts) ; walk_at"ev"; done)
 | ((with_reducible apply EvE.toL) ; walk_at"ev"; done)
 | ((with_reducible apply EvO.toL) ; walk_at"ev"; done)
 | (with_reducible apply isE)
 | (with_reducible apply isL)
 | (with_reducible apply isT)
 | (with_reducible apply isA)
 | (with_reducible apply isO)
 | (with_reducible apply isD)
 | (with_reducible apply isI)
 | (with_reducible exact atI0)
 | (with_reducible exact atI1)
 | ((with_reducible apply asm) ; (with_reducible assumption))
 | ((with_reducible apply zdQ) ; with_unfolding_all rfl)
 | (simp only [List.length_cons,List.length_nil]; decide)
 | decide
 | omega
 | skip)
local macro_rules | `(tactic| walk_at"go")=>`(tactic| repeat (first
 | ((with_reducible apply exo (te:=tLst tNil) true) ; (focus (walk_at"ev"; done)); (focus walk_at"sc"))
 | ((with_reducible apply exs true) ; (focus (walk_at"ev"; done)); (focus walk_at"sc"))
 | ((with_reducible apply exs false) ; (focus (walk_at"ev"; done)); (focus walk_at"sc"))
 | ((with_reducible apply exa) ; (focus walk_at"gc"); (focus (walk_at"ev"; done)); (focus walk_at"sc"); (focus (walk_at"sd"; done)))
 | (with_reducible apply exn)))
local macro_rules | `(tactic| walk_at"run")=>`(tactic| (apply zbz; assumption; assumption; assumption; assumption; focus walk_at"st"))
local macro_rules | `(tactic| walk_at"ot")=>`(tactic| first | exact UG (Nat.le_refl 1) | exact UG (Nat.zero_le 1))
local macro_rules | `(tactic| walk_at"sv")=>`(tactic| ((repeat (first | (with_reducible apply xc.got) | ((with_reducible apply xc.no)))) ; (with_reducible exact xc.z)))
local macro_rules | `(tactic| walk_at"runv")=>`(tactic| (apply QD; assumption; assumption; assumption; assumption; focus walk_at"sv"))
namespace L2
open PySem PySem.Spec PyProof.Rows
theorem pF (C:zz X.prog X.w X.K X.mg X.base CX0 x ps k sp) (hr:Room m X.A) (ha:PA X (e :: es) t) (h:k≤m:=by decide) (hg:Gl X x:=by rfl) (hdb:(x == ("__debug__" : Str))=false:=by decide) (he:starEach (e :: es) X.env=(false,eval e X.env) :: starEach es X.env:=by rfl) (hpl:(backTo pos (starEach es X.env)).any (·.1)=false:=by rfl):PE X (.Call (.Name x p) (e :: es) [] pos) (v6 sp [] E0 t):=zez C (hr.mono h) hg zcZ ha hdb he hpl
theorem pB {X:Cx} {id:String} {r:List V→Hp→VK→Prop} {x:Str} {e:Expr} {es:List Expr} {t:TA} {p pos:Pos} (hc:yq X (.builtin id) r) (hm:X.mg x=none) (ha:PA X (e :: es) t) (hg:Gl X x:=by rfl) (hv:bootBuiltins x=some (.builtin id):=by decide +kernel) (hn:x ≠ "__name__" := by decide) (hdb:(x == ("__debug__" : Str))=false:=by decide) (he:starEach (e :: es) X.env=(false,eval e X.env) :: starEach es X.env:=by rfl) (hpl:(backTo pos (starEach es X.env)).any (·.1)=false:=by rfl):PE X (.Call (.Name x p) (e :: es) [] pos) (tCB r t):=Q8 hc hg hm hv ha hn hdb he hpl
theorem pY (hc:yq X (.type T) r) (hm:X.mg x=none) (ha:PA X (e :: es) t) (hg:Gl X x:=by rfl) (hv:bootBuiltins x=some (.type T):=by decide +kernel) (hn:x ≠ "__name__" := by decide) (hdb:(x == ("__debug__" : Str))=false:=by decide) (he:starEach (e :: es) X.env=(false,eval e X.env) :: starEach es X.env:=by rfl) (hpl:(backTo pos (starEach es X.env)).any (·.1)=false:=by rfl):PE X (.Call (.Name x p) (e :: es) [] pos) (tCB r t):=Tx hc hg hm hv ha hn hdb he hpl
theorem pS (hN:X.N.Nodup) (he:PE X e te) (hi:X.N[i]?=some x:=by rfl) (hx:Loc X.env.scope x:=by first | exact .inl rfl | exact .inr rfl) (hs:swapsWith e (some (.Name x pos')) pos.line X.env=pure false:=by rfl) (hf:X.fn x=true∨X.env.scope.names.lookup x=some .local:=by first | exact .inl rfl | exact .inr rfl | assumption):PS X (.Assign [.Name x pos'] e pos) (tAsg te (yn i)):=zdu hN hi hx he hs hf
theorem pN (hN:X.N.Nodup) (hi:X.N[i]?=some x:=by rfl) (hx:Loc X.env.scope x:=by first | exact .inl rfl | exact .inr rfl) (hf:X.fn x=true∨X.env.scope.names.lookup x=some .local:=by first | exact .inl rfl | exact .inr rfl | assumption):PG X (.Name x pos) (yn i):=zbL hN hi hx hf
theorem pX (hr:IxR X r) (ha:PE X a ta) (hb:PE X b tb) (hs:Te b:=by exact fun _ _=>rfl):PE X (.Subscript a b pos) (tOp r ta tb):=zey hr ha hb hs
end L2
namespace K55
open PySem L2 PD Cm
def top (i:Nat):Stmt:=PySem.Challenge.pw_causebook_k55_why_not.main.body.getD i (.Pass ⟨0,0,0,0⟩)
structure Bs (mg:Str→Option Value):Prop where
 len:mg "len" = none
 set:mg "set" = none
 range:mg "range" = none
 list:mg "list" = none
 sorted:mg "sorted" = none
 enumerate:mg "enumerate" = none
 min:mg "min" = none
 isinstance:mg "isinstance" = none
 all:mg "all" = none
 int:mg "int" = none
 bool:mg "bool" = none
 any:mg "any" = none
 max:mg "max" = none
 tuple:mg "tuple" = none
 str:mg "str" = none
structure Cs (K:ζa) (mg:Str→Option Value) (τa τb:Tok):Prop where
 n_AGAINST:mg "AGAINST" = some (.int 0 τa)
 n_ALONG:mg "ALONG" = some (.int 1 τb)
 nt:tY K=true
section
variable {P:Program} {w:World} {K:ζa} {mg:Str→Option Value} {base:Heap} {f:Addr} {fd:FuncData} {τa τb:Tok}
theorem zD:200000 < sizeLine:=by decide
abbrev nl (ks:List Nat):PyData:=.list (ks.map fun k:Nat=>.int (k:Int))
theorem xY (ks:List Nat):∀ d∈ks.map (fun k:Nat=>PyData.int (k:Int)),imm d=true:=fun d hd=>by
 obtain ⟨n,_,rfl⟩:=ζn.mp hd
 rfl
abbrev nls (cs:List (List Nat)):PyData:=.list (cs.map nl)
def zl (ks:List Nat):List Int:=ks.map fun k:Nat=>(k:Int)
theorem ya (ks:List Nat):nl ks=il (zl ks):=by
 unfold zl
 show PyData.list _=.list _
 rw [ζM]
 rfl
theorem Ur (ks:List Nat):(srt (zl ks))=zl ((srt (zl ks)).map Int.toNat):=by
 unfold zl
 rw [ζM]
 refine ((ξB fun x hx=>?_).trans (List.map_id _)).symm
 obtain ⟨k,_,rfl⟩:=ζn.mp ((uw _).mem_iff.mp hx)
 rfl
def srtN (cs:List Nat):List Nat:=(srt (zl cs)).map Int.toNat
theorem xl (cs:List Nat):(srtN cs).Perm cs:=by
 have pr:(zl (srtN cs)).Perm (zl cs):=by
  unfold srtN
  rw [← Ur]
  exact uw _
 have:=pr.map Int.toNat
 unfold zl at this
 rw [ζM,ζM] at this
 have e:(Int.toNat∘fun k:Nat=>(k:Int))=id:=by funext k; rfl
 rw [e,List.map_id,List.map_id] at this
 exact this
theorem zcD (g:α→PyData) (xs:List α) (k:Nat):cutD (xs.map g) none (some (k:Int))=(xs.take k).map g:=by
 unfold cutD
 rw [HT.Xr]
 show ((xs.map g).drop 0).take (min k (xs.map g).length - 0)=_
 rw [List.drop_zero,Nat.sub_zero,ζb,← List.map_take]
 congr 1
 rcases Nat.le_total k xs.length with h | h
 ·rw [Nat.min_eq_left h]
 ·rw [Nat.min_eq_right h,ζW (ζh _),ζW h]
theorem zQ {α:Type} {l:List α} {k:Nat} {d:α} (h:k < l.length):l[k]?=some (l.getD k d):=by
 rw [ζd,ζp h]
 rfl
def unN:PyData→List Nat
 | .list ds=>ds.map fun d=>match d with | .int i=>i.toNat | _=>0
 | _=>[]
theorem tu (cs:List Nat):unN (nl cs)=cs:=by
 show (cs.map fun k:Nat=>PyData.int (k:Int)).map _=cs
 rw [ζM]
 exact List.map_id' _
theorem zV {k:Nat}:decide ((k:Int)∈zl r)=decide (k∈r):=by
 unfold zl
 by_cases h:k∈r
 ·rw [decide_eq_true h,decide_eq_true (ζn.mpr ⟨k,h,rfl⟩)]
 ·rw [decide_eq_false h,decide_eq_false fun z=>?_]
  obtain ⟨j,hj,e⟩:=ζn.mp z
  have:j=k:=by omega
  exact h (this ▸ hj)
theorem tD (h:cs.Nodup):(srtN cs).Pairwise (· < ·):=by
 have h1:(srtN cs).Nodup:=(xl cs).nodup_iff.mpr h
 have h2:(srtN cs).Pairwise (·≤·):=by
  have:=Zs (zl cs)
  unfold srtN
  rw [ξI]
  refine this.imp fun {a b} hab=>?_
  omega
 rw [List.nodup_iff_pairwise_ne] at h1
 exact (h1.and h2).imp fun {a b} z=>by omega
def kD (ks:List Nat):List PyData:=ks.map fun k:Nat=>.int (k:Int)
theorem zaw (ks:List Nat):(kD ks).length=ks.length:=ζb ..
theorem Qw (ks:List Nat):(srt (zl ks)).map PyData.int=kD (srtN ks):=by
 have:=Ur ks
 have e:(srt (zl ks)).map PyData.int=(zl (srtN ks)).map PyData.int:=congrArg (List.map PyData.int) this
 rw [e]
 show (List.map _ (srtN ks)).map PyData.int=_
 rw [ζM]
 rfl
def effF (cs:List (List Nat)) (k:Nat):List Nat:=(List.range cs.length).filter fun o=>decide (k∈cs.getD o [])
def yY (ds:List PyData) (d:PyData):Prop:=∃ (cs:List (List Nat)) (k:Nat),ds=[nls cs,.int k]∧cs.length≤1000∧d=nl (effF cs k)
theorem VF:zA ["causes", "k"] ["causes", "k"] (zo (top 2)):={}
theorem VW (F:Fun K "effects" "effects" (top 2) f fd) (B:Bs mg) (Z:Cs K mg τa τb)  : FnOk P w K mg base CX0 1 f fd ["causes", "k"] (spD K true yY):=by
 have sc:=VF
 refine F.ok sc (fun vs H Q E h=>zH (fun _ _⟨_,_,e,_⟩=>by rw [e];rfl) h) (fun cdv A outer s H vs Q E hr h=>?_)
 obtain ⟨Fh,ds,d,le,dp,p,q⟩:=h
 refine ⟨_,(zf (zy (yc rfl (N:=["other", "k", "causes"]) (js:=[none,some 1,some 0]) (by walk_at"comp_ok") (yw rfl B.range (zb (pB (zm (K:=K) rfl) B.len (zb (pv 0) zd)) zd)) (fun _ _ _ _=>(pN (i:=0) (show υN ["other", "k", "causes"] by decide +kernel))) (fun _ _ _ _=>(yS (zr (zG (K:=K) rfl) (pv 1) (pX (zu (K:=K) rfl) (pv 2) (pv 0)) (rfl)))) (fun _ _ _ _=>(pv 0))))),?_⟩
 have hN:=sc.n 2
 obtain ⟨cs,k,rfl,hl,rfl⟩:=p
 have big:=zD
 have el:(((cs.map nl).length:Nat):Int)=(cs.length:Int):=by rw [ζb]
 walk_at"run"
 refine zM true (EvO.toE (YS (is:=[0]) (n:=cs.length) (fun o=>.int (o:Int)) (fun o=>decide (k∈cs.getD o [])) (zg (EvE.eq (yb (ds:=cs.map nl) (by walk_at"ev")) (congrArg PyData.int el)) zC) (by omega) (by walk_at"cc") rfl (by decide) ?_)) rfl (.inl ⟨rfl,rfl⟩)
 intro o ho
 have a1:atI (cs.map nl) (o:Int)=some (nl (cs.getD o [])):=yt (zQ ho)
 refine egn (by walk_at"sc") ⟨EvT.eq (zq (zW (neg:=false) (i:=(k:Int)) (ns:=zl (cs.getD o [])) (by walk_at"ev") (EvE.toL (EvE.eq (zI (κ:=false) (ds:=cs.map nl) (by walk_at"ev") (by walk_at"ev") a1) (ya _))))) ?_,fun _=>by walk_at"ev"⟩
 show decide _=_
 exact zV
theorem yO {x y:Nat} (h:PyData.int (x:Int)=.int (y:Int)):x=y:=Int.ofNat.inj (PyData.int.inj h)
structure ShOk (n:Nat) (cs:List (List Nat)):Prop where
 l:cs.length=n
 e:∀ r∈cs,(∀ x∈r,x < n)∧r.length≤60
theorem ShOk.at {n:Nat} {cs:List (List Nat)} (h:ShOk n cs) {k:Nat} (hk:k < n):cs[k]?=some (cs.getD k [])∧(∀ x∈cs.getD k [],x < n)∧(cs.getD k []).length≤60:=by
 have z:cs[k]?=some (cs.getD k []):=zQ (by rw [h.l]; exact hk)
 have:=h.e _ (ζk z)
 exact ⟨z,this.1,this.2⟩
theorem Ua (h:EvL K S κ t Γ a) (e:a=b):EvL K S κ t Γ b:=e ▸ h
inductive Rch (nx:Nat→List Nat) (sm:List Nat):Nat→Prop
 | base {x:Nat}:x∈sm→Rch nx sm x
 | step {x y:Nat}:Rch nx sm x→y∈nx x→Rch nx sm y
open Classical in
noncomputable def rchL (n:Nat) (nx:Nat→List Nat) (sm:List Nat):List Nat:=(List.range n).filter fun x=>decide (Rch nx sm x)
theorem Tt (n:Nat) (nx:Nat→List Nat) (sm:List Nat):(rchL n nx sm).Pairwise (· < ·):=List.Pairwise.sublist ξr ξ4
theorem zY:x∈rchL n nx sm↔x < n∧Rch nx sm x:=by
 unfold rchL
 rw [ζl,ζD]
 simp
structure NxOk (n:Nat) (nx:Nat→List Nat):Prop where
 n12:n≤24
 lt:∀ x,x < n→∀ y∈nx x,y < n
 l:∀ x,x < n→(nx x).length≤80
structure SmOk (n:Nat) (sm:List Nat):Prop where
 lt:∀ x∈sm,x < n
 l:sm.length≤80
theorem Rch.lt (h:NxOk n nx) (hs:SmOk n sm) (r:Rch nx sm x):x < n:=by
 induction r with
 | base z=>exact hs.lt _ z
 | step _ z ih=>exact h.lt _ ih _ z
theorem vq (n:Nat) (nx:Nat→List Nat) (sm:List Nat):(rchL n nx sm).length≤n:=by
 have:=ζE (fun x=>@decide (Rch nx sm x) (Classical.propDecidable _)) (List.range n)
 rwa [ζu] at this
theorem WD:∀ {a b:List Nat},a.Pairwise (· < ·)→b.Pairwise (· < ·)→(∀ x,x∈a↔x∈b)→a=b
 | [],[],_,_,_=>rfl
 | [],y :: b,_,_,h=>by have:=(h y).mpr ζj; cases this
 | x :: a,[],_,_,h=>by have:=(h x).mp ζj; cases this
 | x :: a,y :: b,ha,hb,h=>by
  obtain ⟨a1,a2⟩:=ξl.mp ha
  obtain ⟨b1,b2⟩:=ξl.mp hb
  have e:x=y:=by
   rcases ζz.mp ((h x).mp ζj) with z | z
   ·exact z
   ·rcases ζz.mp ((h y).mpr ζj) with w | w
    ·exact w.symm
    ·have:=b1 x z
     have:=a1 y w
     omega
  subst e
  refine congrArg (x :: ·) (WD a2 b2 fun z=>⟨fun hz=>?_,fun hz=>?_⟩)
  ·rcases ζz.mp ((h z).mp (ζr _ hz)) with w | w
   ·subst w
    have:=a1 z hz
    omega
   ·exact w
  ·rcases ζz.mp ((h z).mpr (ζr _ hz)) with w | w
   ·subst w
    have:=b1 z hz
    omega
   ·exact w
theorem yV:∀ (n:Nat) (l:List Nat),l.Nodup→(∀ x∈l,x < n)→l.length≤n
 | 0,[],_,_=>ζh _
 | 0,x :: l,_,h=>absurd (h x ζj) (ζY _)
 | n + 1,l,nd,h=>by
  have e:=yV n (l.erase n) (nd.erase n) fun x hx=>by
   have h1:=h x (List.mem_of_mem_erase hx)
   have h2:x≠n:=fun z=>by subst z; exact (List.Nodup.not_mem_erase nd) hx
   omega
  have:=List.length_erase (a:=n) (l:=l)
  split at this <;> omega
structure GI (n:Nat) (nx:Nat→List Nat) (sm fo wa:List Nat):Prop where
 nd:fo.Nodup
 fl:∀ x∈fo,Rch nx sm x
 wl:∀ x∈wa,Rch nx sm x
 cl:∀ x∈fo,∀ y∈nx x,y∈fo∨y∈wa
 sm:∀ x∈sm,x∈fo∨x∈wa
 ll:wa.length≤80 + 80 * fo.length
theorem GI.old {n:Nat} {nx:Nat→List Nat} {sm fo wa:List Nat} {k:Nat} (h:GI n nx sm fo (wa ++ [k])) (hk:k∈fo):GI n nx sm fo wa:=by
 have out:∀ {x:Nat},x∈fo∨x∈wa ++ [k]→x∈fo∨x∈wa:=fun {x} z=>by
  rcases z with z | z
  ·exact .inl z
  ·rcases ζq.mp z with z | z
   ·exact .inr z
   ·rw [ζc.mp z]; exact .inl hk
 have l:=h.ll
 rw [ζf] at l
 exact ⟨h.nd,h.fl,fun x hx=>h.wl x (ζF _ hx),fun x hx y hy=>out (h.cl x hx y hy),fun x hx=>out (h.sm x hx),by omega⟩
theorem GI.new {n:Nat} {nx:Nat→List Nat} {sm fo wa:List Nat} {k:Nat} (h:GI n nx sm fo (wa ++ [k])) (hl:(nx k).length≤80) (hk:k∉fo):GI n nx sm (fo ++ [k]) (wa ++ nx k):=by
 have rk:=h.wl k (ζg _ (ζc.mpr rfl))
 have out:∀ {x:Nat},x∈fo∨x∈wa ++ [k]→x∈fo ++ [k]∨x∈wa ++ nx k:=fun {x} z=>by
  rcases z with z | z
  ·exact .inl (ζF _ z)
  ·rcases ζq.mp z with z | z
   ·exact .inr (ζF _ z)
   ·exact .inl (ζg _ z)
 have l:=h.ll
 rw [ζf] at l
 have l:wa.length + 1≤_:=l
 refine ⟨?_,fun x hx=>?_,fun x hx=>?_,fun x hx y hy=>?_,fun x hx=>out (h.sm x hx),?_⟩
 ·rw [ζR]
  exact ⟨h.nd,by simp,fun a ha b hb=>by rw [List.mem_singleton.mp hb]; rintro rfl; exact hk ha⟩
 ·rcases ζq.mp hx with hx | hx
  ·exact h.fl x hx
  ·rw [ζc.mp hx]; exact rk
 ·rcases ζq.mp hx with hx | hx
  ·exact h.wl x (ζF _ hx)
  ·exact .step rk hx
 ·rcases ζq.mp hx with hx | hx
  ·exact out (h.cl x hx y hy)
  ·rw [ζc.mp hx] at hy
   exact .inr (ζg _ hy)
 ·rw [ζf,ζf]
  show _≤80 + 80 * (fo.length + 1)
  omega
theorem GI.end {n:Nat} {nx:Nat→List Nat} {sm fo:List Nat} (no:NxOk n nx) (so:SmOk n sm) (h:GI n nx sm fo []):srtN fo=rchL n nx sm:=by
 refine WD (tD h.nd) (Tt n nx sm) fun x=>?_
 rw [(xl fo).mem_iff,zY]
 refine ⟨fun z=>⟨(h.fl x z).lt no so,h.fl x z⟩,fun z=>?_⟩
 have cl:∀ {y:Nat},y∈fo∨y∈([]:List Nat)→y∈fo:=fun z=>z.elim (fun z=>z) fun z=>nomatch z
 have r:=z.2
 clear z
 induction r with
 | base z=>exact cl (h.sm _ z)
 | step _ z ih=>exact cl (h.cl _ ih _ z)
def cP (c:Nat):Int×Int:=(((c / 2:Nat):Int),((c % 2:Nat):Int))
def cD (c:Nat):PyData:=.tuple [.int ((c / 2:Nat):Int),.int ((c % 2:Nat):Int)]
abbrev pl (cs:List Nat):PyData:=.list (cs.map cD)
theorem za7 (c:Nat):low (cD c)=true:=rfl
theorem zcF (cs:List Nat):∀ e∈cs.map cD,low e=true:=fun e he=>by
 obtain ⟨c,_,rfl⟩:=ζn.mp he
 exact za7 c
theorem QW (cs:List Nat):∀ d∈cs.map cD,imm d=true:=fun d hd=>by
 obtain ⟨c,_,rfl⟩:=ζn.mp hd
 rfl
theorem zed (h:cD a=cD b):a=b:=by
 injection h with h
 injection h with h1 h2
 injection h2 with h2 _
 injection h1 with h1
 injection h2 with h2
 omega
theorem zee (a b:Nat):PyData.eqv (cD a) (cD b)=decide (a=b):=by
 have e:PyData.eqv (cD a) (cD b)=((((a / 2:Nat):Int) == ((b / 2:Nat):Int)) && (((a % 2:Nat):Int) == ((b % 2:Nat):Int))):=by
  unfold cD
  simp [PyData.eqv,PyData.eqvAll]
 rw [e]
 by_cases c:a=b
 ·subst c
  rw [decide_eq_true rfl]
  simp
 ·rw [decide_eq_false c]
  refine ξb.mpr fun z=>c ?_
  have z:=(ξP _ _).mp z
  have z1:=eq_of_beq z.1
  have z2:=eq_of_beq z.2
  omega
theorem zel (cs:List Nat) (k:Nat):((cs.map cD).any fun e=>PyData.eqv e (cD k))=decide (k∈cs):=by
 induction cs with
 | nil=>rfl
 | cons x r ih =>
  rw [ζH,ξi,ih,zee]
  by_cases h:x=k
  ·subst h
   rw [decide_eq_true rfl,decide_eq_true ζj]
   rfl
  ·rw [decide_eq_false h]
   refine (Bool.false_or _).trans (decide_eq_decide.mpr ⟨ζr _,fun z=>?_⟩)
   rcases ζz.mp z with z | z
   ·exact absurd z.symm h
   ·exact z
theorem U7 (cs:List Nat):cs.map cD=(cs.map cP).map prD:=by rw [ζM]; rfl
theorem Vk (cs:List Nat):vK (cs.map cP):=⟨fun q hq=>by
 obtain ⟨c,_,rfl⟩:=ζn.mp hq
 show 0≤((c % 2:Nat):Int)∧((c % 2:Nat):Int) < 1000
 omega⟩
theorem zec (h:cP a=cP b):a=b:=by
 have h1:((a / 2:Nat):Int)=((b / 2:Nat):Int):=congrArg Prod.fst h
 have h2:((a % 2:Nat):Int)=((b % 2:Nat):Int):=congrArg Prod.snd h
 omega
theorem zeK {cs:List Nat} (h:cs.Nodup):(cs.map cP).Nodup:=ξI.mpr (h.imp fun z e=>z (zec e))
theorem zdj (nd:cs.Nodup):srtP (cs.map cP)=(srtN cs).map cP:=by
 refine (wU (Vk (srtN cs)) (((xl cs).map cP).trans (Yz _).symm) ?_ (tQ _)).symm
 rw [ξI]
 refine (tD nd).imp fun {a b} h=>?_
 show ((a / 2:Nat):Int) * 1000 + ((a % 2:Nat):Int)≤((b / 2:Nat):Int) * 1000 + ((b % 2:Nat):Int)
 omega
theorem Uq (r:List Nat) (k:Nat):(zl (r ++ [k])).map PyData.int=(zl r).map PyData.int ++ [.int (k:Int)]:=by
 unfold zl
 rw [ζo,ζo]
 rfl
theorem zdc (r t:List Nat):(zl (r ++ t)).map PyData.int=(zl r).map PyData.int ++ (t.map fun k:Nat=>.int (k:Int)):=by
 unfold zl
 rw [ζo,ζo,ζM (l:=t)]
 rfl
theorem tm (r:List Nat):(zl r).length=r.length:=ζb ..
def gI (n:Nat) (nx:Nat→List Nat):PyData→PyData→Prop:=fun d r=>∃ k:Nat,k < n∧d=.int (k:Int)∧r=nl (nx k)
def gP (n:Nat) (nx:Nat→List Nat):PyData→PyData→Prop:=fun d r=>∃ k:Nat,k < n∧d=cD k∧r=pl (nx k)
def Yl (ds:List PyData) (p1:PyData→PyData→Prop) (d:PyData):Prop:=∃ (n:Nat) (nx:Nat→List Nat) (sm:List Nat),ds=[nl sm]∧NxOk n nx∧SmOk n sm∧p1=gI n nx∧d=nl (rchL n nx sm)
def Yk (ds:List PyData) (p1:PyData→PyData→Prop) (d:PyData):Prop:=∃ (n:Nat) (nx:Nat→List Nat) (sm:List Nat),ds=[pl sm]∧NxOk n nx∧SmOk n sm∧p1=gP n nx∧d=pl (rchL n nx sm)
def y6 (ds:List PyData) (p1:PyData→PyData→Prop) (d:PyData):Prop:=Yl ds p1 d∨Yk ds p1 d
theorem XY (ds:List PyData) (p1:PyData→PyData→Prop) (d:PyData) (h:y6 ds p1 d):ds.length=1:=by rcases h with ⟨a,b,c,rfl,_⟩ | ⟨a,b,c,rfl,_⟩ <;> rfl
theorem WB:zA ["some", "nexts", "found", "waiting", "k"] ["some", "nexts"] (zo (top 5)):={}
theorem WW (F:Fun K "gathered" "gathered" (top 5) f fd) (B:Bs mg) (Z:Cs K mg τa τb)  : FnOk P w K mg base CX0 4 f fd ["some", "nexts"] (spG P w K mg base 3 y6):=by
 have sc:=WB
 refine F.ok sc (fun vs H Q E h=>zbs XY h) (fun cdv A outer s H vs Q E hr h=>?_)
 obtain ⟨Fh,ds,d,us,a,p1,rfl,le,dp,lam,p,q⟩:=h
 obtain ⟨fdL,xL,splL,nmL,qL,pL,bL,lL,clL,pmL,cL,ctL,FL,hbL,haL,prL⟩:=lam
 rcases p with p | p
 ·obtain ⟨n,nx,sm,rfl,no,so,rfl,rfl⟩:=p
  refine ⟨_,(ze (pS (i:=2) sc.nd (zU zd))
   (ze (pS (i:=3) sc.nd (pY (yR (K:=K) rfl) B.list (zb (pv 0) zd)))
   (ze (vt PassesOwn.never (zr ZK (pB (zm (K:=K) rfl) B.len (zb (pv 3) zd)) zh (zF _)) (ze (pS (i:=4) sc.nd (XG (K:=K) rfl ζx ξ6 ξ5 V1 (pv 3)))
   (zf (ye (zr (yd (K:=K) rfl) (pv 4) (pv 2) (rfl)) (ze (yB (yN (K:=K) rfl ζx ζK ζJ yf (pv 2) (zb (pv 4) zd)))
   (zf (yB (yN (K:=K) rfl ζx PySem.F.slot_list_extend PySem.F.type_list_extend (tZ (K:=K) rfl) (pv 3) (zb (Q2 1 FL hbL (hr.mono (by decide)) (zb (pv 4) zd)) zd))))) zL))))
   (zf (zy (pB (u8 (K:=K) rfl) B.sorted (zb (pv 2) zd))))))),?_⟩
  have big:=zD
  have n12:=no.n12
  have sl:=so.l
  have bk:xg K fdL [xL] []:=hbL
  refine UB (φ:=fun F1 v=>v=.ref a∧(∃ nm q params body lsc cl pm c' ctv,F1 a=some (knw (PySem.W.kla_obj nm q params body lsc cl pm c' ctv)))∧∀ (H' F':Hp) (v:V) (d r:PyData) (Q:VK),Same F1 F'→Same F' H'→Dp K F' v d→gI n nx d r→(∀ v' H'' F'',Gr H' F' H'' F''→Rp K false .fresh H' F'' v' r→Q v' H'')→splL [v] H' Q E0) le dp q (n:=5) rfl (by rw [zO.length dp]; show 1 < 5; decide) (by walk_at"st") (by show SetC _ 1 _ _; walk_at"sc") ⟨rfl,⟨_,_,_,_,_,_,_,_,_,haL⟩,prL⟩ ?_
  generalize hφ:(fun (F1:Hp) (v:V)=>v=.ref a∧(∃ nm q params body lsc cl pm c' ctv,F1 a=some (knw (PySem.W.kla_obj nm q params body lsc cl pm c' ctv)))∧∀ (H' F':Hp) (v:V) (d r:PyData) (Q:VK),Same F1 F'→Same F' H'→Dp K F' v d→gI n nx d r→(∀ v' H'' F'',Gr H' F' H'' F''→Rp K false .fresh H' F'' v' r→Q v' H'')→splL [v] H' Q E0)=φ
  refine exo true (ds:=(zl []).map .int) (zZ (ds:=[]) zC (by decide)) (by walk_at"sc") ?_
  refine exo true (ds:=(zl sm).map .int) (EvO.eq (x5 (EvL.imm (κ:=false) (EvE.toL (by walk_at"ev")) (xY sm))) (by unfold zl; rw [List.map_map]; rfl)) (by walk_at"sc") ?_
  refine yK (fun Γ=>∃ fo x y,GI n nx sm fo []∧Γ=[some (.fz false (nl sm)),some (.xp φ),some (.ow true ((zl fo).map .int)),x,y]) (vF (fun m Γ=>∃ (fo wa:List Nat) (x:Option DV),GI n nx sm fo wa∧m=(n - fo.length) * 81 + wa.length∧Γ=[some (.fz false (nl sm)),some (.xp φ),some (.ow true ((zl fo).map .int)),some (.ow true ((zl wa).map .int)),x]) _ ⟨[],sm,none,⟨ξc,fun _ z=>(nomatch z),fun x hx=>.base hx,fun _ z=>(nomatch z),fun x hx=>.inr hx,by omega⟩,rfl,rfl⟩ ?_) ?_
  ·rintro m Γ' ⟨fo,wa,x,gi,rfl,rfl⟩
   have fl:=yV n fo gi.nd fun x hx=>(gi.fl x hx).lt no so
   have ll:=gi.ll
   refine ⟨decide (0 < (wa.length:Int)),EvT.eq (zq (t7 (i:=(wa.length:Int)) (j:=0) (EvE.eq (yb (ds:=(zl wa).map .int) (by walk_at"ev")) (by rw [ζb,tm])) (by walk_at"ev"))) rfl,fun h=>?_,fun h=>?_⟩
   ·have h':0 < (wa.length:Int):=by simpa using h
    obtain ⟨wb,k,rfl⟩:∃ wb k,wa=wb ++ [k]:=by
     rcases ξd wa with rfl | ⟨wb,k,e⟩
     ·exact absurd h' (by simp)
     ·exact ⟨wb,k,by rw [e,ξe]⟩
    have rk:=gi.wl k (ζg _ (ζc.mpr rfl))
    have kn:=rk.lt no so
    have nl12:=no.l k kn
    rw [Uq]
    rw [ζf] at ll ⊢
    refine yK (·=[some (.fz false (nl sm)),some (.xp φ),some (.ow true ((zl fo).map .int)),some (.ow true ((zl wb).map .int)),some (.fz true (.int (k:Int)))]) (X3 (i:=3) (j:=4) (by walk_at"gc") (by decide) (by walk_at"sc") (by walk_at"sc") rfl) ?_
    rintro Γ' rfl
    refine xj (b:=!decide (k∈fo)) (EvT.eq (zq (zW (neg:=true) (i:=(k:Int)) (ns:=zl fo) (by walk_at"ev") (by walk_at"ev"))) (by show (!decide _)=_; rw [zV])) (fun c=>?_) (fun c=>?_)
    ·have c':k∉fo:=by simpa using c
     have gn:=gi.new nl12 c'
     have fn:fo.length + 1≤n:=by
      have:=yV n (fo ++ [k]) gn.nd fun x hx=>(gn.fl x hx).lt no so
      rwa [ζf] at this
     refine exa (d:=.int (k:Int)) (by walk_at"gc") (by walk_at"ev") (by walk_at"sc") (by rw [ζb,tm]; omega) ?_
     refine YQ (es:=(nx k).map fun k:Nat=>.int (k:Int)) (by walk_at"gc") (EvL.imm (κ:=false) (EvE.toL (zaL (kk:=3) (fd:=fdL) (x:=xL) (by walk_at"gc") (fun F1 v hf=>by
      rw [← hφ] at hf
      exact ⟨hf.1,hf.2.1,fun H' F' v Q s1 s2 hd kq=>hf.2.2 H' F' v _ _ Q s1 s2 hd ⟨k,kn,rfl,rfl⟩ kq⟩) (by walk_at"ev"))) (xY _)) (by rw [ζb,ζb,tm]; omega) (by walk_at"sc") ?_
     refine ⟨_,?_,fo ++ [k],wb ++ nx k,_,gn,rfl,by rw [Uq,zdc]⟩
     rw [ζf,ζf]
     show (n - (fo.length + 1)) * 81 + _ < (n - fo.length) * 81 + (wb.length + 1)
     omega
    ·have c':k∈fo:=by simpa using c
     refine yr ⟨_,?_,fo,wb,_,gi.old c',rfl,rfl⟩
     show _ < _ + (wb.length + 1)
     omega
   ·have h':¬ 0 < (wa.length:Int):=by simpa using h
    have e:wa=[]:=ξh.mp (by omega)
    subst e
    exact ⟨fo,_,_,gi,rfl⟩
  ·rintro Γ' ⟨fo,x,y,gi,rfl⟩
   have fl:=yV n fo gi.nd fun x hx=>(gi.fl x hx).lt no so
   refine zM true (EvO.toE (EvO.eq (ZU (ns:=zl fo) (by walk_at"ev") (by rw [tm]; omega)) (Qw fo))) ?_ (.inl ⟨rfl,rfl⟩)
   show PyData.list (kD (srtN fo))=_
   rw [gi.end no so]
   rfl
 ·obtain ⟨n,nx,sm,rfl,no,so,rfl,rfl⟩:=p
  refine ⟨_,(ze (pS (i:=2) sc.nd (zU zd))
   (ze (pS (i:=3) sc.nd (pY (yR (K:=K) rfl) B.list (zb (pv 0) zd)))
   (ze (vt PassesOwn.never (zr ZK (pB (zm (K:=K) rfl) B.len (zb (pv 3) zd)) zh (zF _)) (ze (pS (i:=4) sc.nd (XG (K:=K) rfl ζx ξ6 ξ5 V1 (pv 3)))
   (zf (ye (zr (ZJ (K:=K) rfl hr.units) (pv 4) (pv 2) (rfl)) (ze (yB (yN (K:=K) rfl ζx ζK ζJ yf (pv 2) (zb (pv 4) zd)))
   (zf (yB (yN (K:=K) rfl ζx PySem.F.slot_list_extend PySem.F.type_list_extend (tZ (K:=K) rfl) (pv 3) (zb (Q2 1 FL hbL (hr.mono (by decide)) (zb (pv 4) zd)) zd))))) zL))))
   (zf (zy (pB (Yr (K:=K) rfl) B.sorted (zb (pv 2) zd))))))),?_⟩
  have big:=zD
  have n12:=no.n12
  have sl:=so.l
  have bk:xg K fdL [xL] []:=hbL
  refine UB (φ:=fun F1 v=>v=.ref a∧(∃ nm q params body lsc cl pm c' ctv,F1 a=some (knw (PySem.W.kla_obj nm q params body lsc cl pm c' ctv)))∧∀ (H' F':Hp) (v:V) (d r:PyData) (Q:VK),Same F1 F'→Same F' H'→Dp K F' v d→gP n nx d r→(∀ v' H'' F'',Gr H' F' H'' F''→Rp K false .fresh H' F'' v' r→Q v' H'')→splL [v] H' Q E0) le dp q (n:=5) rfl (by rw [zO.length dp]; show 1 < 5; decide) (by walk_at"st") (by show SetC _ 1 _ _; walk_at"sc") ⟨rfl,⟨_,_,_,_,_,_,_,_,_,haL⟩,prL⟩ ?_
  generalize hφ:(fun (F1:Hp) (v:V)=>v=.ref a∧(∃ nm q params body lsc cl pm c' ctv,F1 a=some (knw (PySem.W.kla_obj nm q params body lsc cl pm c' ctv)))∧∀ (H' F':Hp) (v:V) (d r:PyData) (Q:VK),Same F1 F'→Same F' H'→Dp K F' v d→gP n nx d r→(∀ v' H'' F'',Gr H' F' H'' F''→Rp K false .fresh H' F'' v' r→Q v' H'')→splL [v] H' Q E0)=φ
  refine exo true (ds:=([]:List Nat).map cD) (zZ (ds:=[]) zC (by decide)) (by walk_at"sc") ?_
  refine exo true (ds:=sm.map cD) (x5 (EvL.imm (κ:=false) (EvE.toL (by walk_at"ev")) (QW sm))) (by walk_at"sc") ?_
  refine yK (fun Γ=>∃ fo x y,GI n nx sm fo []∧Γ=[some (.fz false (pl sm)),some (.xp φ),some (.ow true (fo.map cD)),x,y]) (vF (fun m Γ=>∃ (fo wa:List Nat) (x:Option DV),GI n nx sm fo wa∧m=(n - fo.length) * 81 + wa.length∧Γ=[some (.fz false (pl sm)),some (.xp φ),some (.ow true (fo.map cD)),some (.ow true (wa.map cD)),x]) _ ⟨[],sm,none,⟨ξc,fun _ z=>(nomatch z),fun x hx=>.base hx,fun _ z=>(nomatch z),fun x hx=>.inr hx,by omega⟩,rfl,rfl⟩ ?_) ?_
  ·rintro m Γ' ⟨fo,wa,x,gi,rfl,rfl⟩
   have fl:=yV n fo gi.nd fun x hx=>(gi.fl x hx).lt no so
   have ll:=gi.ll
   refine ⟨decide (0 < (wa.length:Int)),EvT.eq (zq (t7 (i:=(wa.length:Int)) (j:=0) (EvE.eq (yb (ds:=wa.map cD) (by walk_at"ev")) (by rw [ζb])) (by walk_at"ev"))) rfl,fun h=>?_,fun h=>?_⟩
   ·have h':0 < (wa.length:Int):=by simpa using h
    obtain ⟨wb,k,rfl⟩:∃ wb k,wa=wb ++ [k]:=by
     rcases ξd wa with rfl | ⟨wb,k,e⟩
     ·exact absurd h' (by simp)
     ·exact ⟨wb,k,by rw [e,ξe]⟩
    have rk:=gi.wl k (ζg _ (ζc.mpr rfl))
    have kn:=rk.lt no so
    have nl12:=no.l k kn
    rw [show (wb ++ [k]).map cD=wb.map cD ++ [cD k] from by rw [ζo]; rfl]
    rw [ζf] at ll ⊢
    refine yK (·=[some (.fz false (pl sm)),some (.xp φ),some (.ow true (fo.map cD)),some (.ow true (wb.map cD)),some (.fz true (cD k))]) (X3 (ds:=wb.map cD) (d:=cD k) (i:=3) (j:=4) (by walk_at"gc") (by decide) (by walk_at"sc") (by walk_at"sc") rfl) ?_
    rintro Γ' rfl
    refine xj (b:=!decide (k∈fo)) (EvT.eq (zq (zaK (neg:=true) (d:=cD k) (ds:=fo.map cD) (by walk_at"ev") (by walk_at"ev") (za7 k) (zcF fo))) (by show (!List.any _ _)=_; rw [zel])) (fun c=>?_) (fun c=>?_)
    ·have c':k∉fo:=by simpa using c
     have gn:=gi.new nl12 c'
     have fn:fo.length + 1≤n:=by
      have:=yV n (fo ++ [k]) gn.nd fun x hx=>(gn.fl x hx).lt no so
      rwa [ζf] at this
     refine exa (d:=cD k) (by walk_at"gc") (by walk_at"ev") (by walk_at"sc") (by rw [ζb]; omega) ?_
     refine YQ (es:=(nx k).map cD) (by walk_at"gc") (EvL.imm (κ:=false) (EvE.toL (zaL (kk:=3) (fd:=fdL) (x:=xL) (by walk_at"gc") (fun F1 v hf=>by
      rw [← hφ] at hf
      exact ⟨hf.1,hf.2.1,fun H' F' v Q s1 s2 hd kq=>hf.2.2 H' F' v _ _ Q s1 s2 hd ⟨k,kn,rfl,rfl⟩ kq⟩) (by walk_at"ev"))) (QW _)) (by rw [ζb,ζb]; omega) (by walk_at"sc") ?_
     refine ⟨_,?_,fo ++ [k],wb ++ nx k,_,gn,rfl,by rw [ζo,ζo]; rfl⟩
     rw [ζf,ζf]
     show (n - (fo.length + 1)) * 81 + _ < (n - fo.length) * 81 + (wb.length + 1)
     omega
    ·have c':k∈fo:=by simpa using c
     refine yr ⟨_,?_,fo,wb,_,gi.old c',rfl,rfl⟩
     show _ < _ + (wb.length + 1)
     omega
   ·have h':¬ 0 < (wa.length:Int):=by simpa using h
    have e:wa=[]:=ξh.mp (by omega)
    subst e
    exact ⟨fo,_,_,gi,rfl⟩
  ·rintro Γ' ⟨fo,x,y,gi,rfl⟩
   have fl:=yV n fo gi.nd fun x hx=>(gi.fl x hx).lt no so
   refine zM true (EvO.toE (EvO.eq (Va (ps:=fo.map cP) (Ua (by walk_at"ev") (U7 fo)) (Vk fo) (zeK gi.nd) (by rw [ζb]; omega)) (by rw [zdj gi.nd,← U7]))) ?_ (.inl ⟨rfl,rfl⟩)
   show PyData.list ((srtN fo).map cD)=_
   rw [gi.end no so]
abbrev pD (p:Nat×Nat):PyData:=.tuple [.int (p.1:Int),.int (p.2:Int)]
abbrev prs (ps:List (Nat×Nat)):PyData:=.list (ps.map pD)
theorem Q9 (p:Nat×Nat):low (pD p)=true:=rfl
theorem zbG (ps:List (Nat×Nat)):∀ e∈ps.map pD,low e=true:=fun e he=>by
 obtain ⟨p,_,rfl⟩:=ζn.mp he
 exact Q9 p
theorem zdB (p q:Nat×Nat):PyData.eqv (pD p) (pD q)=decide (p=q):=by
 obtain ⟨a,b⟩:=p
 obtain ⟨c,d⟩:=q
 have e:∀ x y:Nat,((x:Int) == (y:Int))=decide (x=y):=fun x y=>by
  by_cases h:x=y
  ·rw [h,decide_eq_true rfl,beq_self_eq_true]
  ·rw [decide_eq_false h,beq_eq_false_iff_ne]
   omega
 simp [PyData.eqv,PyData.eqvAll,e]
theorem zek (ps:List (Nat×Nat)) (q:Nat×Nat):(ps.map pD).any (PyData.eqv · (pD q))=decide (q∈ps):=by
 induction ps with
 | nil=>rfl
 | cons p r ih =>
  rw [ζH,ξi,ih,zdB]
  by_cases h:p=q
  ·subst h; simp
  ·simp [h,Ne.symm h]
def woR (ps:List (Nat×Nat)) (k:Nat) (own:List Nat):List Nat:=own.filter fun c=>!decide ((c,k)∈ps)
def woF (cs:List (List Nat)) (ps:List (Nat×Nat)):List (List Nat):=cs.mapIdx fun k own=>woR ps k own
theorem Xc (h:cs[i]?=some own):(woF cs ps)[i]?=some (woR ps i own):=by
 unfold woF
 rw [ξR,h]
 rfl
theorem vO (cs:List (List Nat)) (ps:List (Nat×Nat)):(woF cs ps).length=cs.length:=ξU
def tT (ds:List PyData) (d:PyData):Prop:=∃ (cs:List (List Nat)) (ps:List (Nat×Nat)),ds=[nls cs,prs ps]∧cs.length≤1000∧(∀ r∈cs,r.length≤1000)∧d=nls (woF cs ps)
theorem zcc {cs:List (List Nat)} {i:Nat} {d:PyData} (h:((cs.map nl).mapIdx fun (i:Nat) x=>PyData.tuple [.int (i:Nat),x])[i]?=some d):∃ own,cs[i]?=some own∧d=.tuple [.int i,nl own]:=by
 rw [ξR,ζs] at h
 cases e:cs[i]? with
 | none=>rw [e] at h; cases h
 | some own =>
  rw [e] at h
  exact ⟨own,rfl,(ζI h).symm⟩
theorem Vz:zA ["causes", "pairs", "found", "k", "own"] ["causes", "pairs"] (zo (top 9)):={}
theorem VP (F:Fun K "without" "without" (top 9) f fd) (B:Bs mg) (Z:Cs K mg τa τb)  : FnOk P w K mg base CX0 1 f fd ["causes", "pairs"] (spD K true tT):=by
 have sc:=Vz
 refine F.ok sc (fun vs H Q E h=>zH (fun _ _⟨_,_,e,_⟩=>by rw [e];rfl) h) (fun cdv A outer s H vs Q E hr h=>?_)
 obtain ⟨Fh,ds,d,le,dp,p,q⟩:=h
 refine ⟨_,(ze (pS (i:=2) sc.nd (zU zd))
   (ze (yF PassesOwn.never rfl (QY (K:=K) rfl rfl B.enumerate (zb (pv 0) zd)) (XC (K:=K) (n:=2) rfl rfl (yQ (pN (i:=3) sc.nd) (yQ (pN (i:=4) sc.nd) XB))) (zf (yB (yN (K:=K) rfl ζx ζK ζJ yf (pv 2) (zb (yc rfl (N:=["c", "pairs", "k"]) (js:=[none,some 1,some 3]) (by walk_at"comp_ok") (zE (K:=K) rfl (pv 4)) (fun _ _ _ _=>(pN (i:=0) (show υN ["c", "pairs", "k"] by decide +kernel))) (fun _ _ _ _=>(yS (zr (ZJ (K:=K) rfl hr.units) (xG (zb (pv 0) (zb (pv 2) zd))) (pv 1) (rfl)))) (fun _ _ _ _=>(pv 0))) zd)))))
   (zf (zy (pv 2))))),?_⟩
 have hN:=sc.n 5
 obtain ⟨cs,ps,rfl,hl,hr,rfl⟩:=p
 have big:=zD
 walk_at"run"
 refine exo true (zZ (ds:=[]) zC (by decide)) (by walk_at"sc") ?_
 refine vi (ds:=(cs.map nl).mapIdx fun (i:Nat) x=>.tuple [.int (i:Nat),x]) false (fun i Γ=>∃ x y,Γ=[some (.fz false (nls cs)),some (.fz false (prs ps)),some (.ow true (((woF cs ps).take i).map nl)),x,y]) (zcx (by walk_at"ev")) ⟨none,none,by rw [ξJ]; rfl⟩ ?_ ?_
 ·rintro i d Γ' hd ⟨x,y,rfl⟩
  obtain ⟨own,ho,rfl⟩:=zcc hd
  have hi:=(ζe.mp ho).1
  have hw:=hr own (ζk ho)
  refine ⟨_,egt (by walk_at"sc") (by walk_at"sc") ?_⟩
  refine exa1 (d:=nl (woR ps i own)) (by walk_at"gc") (EvO.toE (yo (κ:=true) (κ':=false) (is:=[0]) (xs:=own) (fun k:Nat=>.int (k:Int)) (fun k:Nat=>.int (k:Int)) (fun c=>!decide ((c,i)∈ps)) (fun x _ y _ h=>by cases yO h; exact ⟨rfl,rfl⟩) (zN (by walk_at"ev")) (by walk_at"cc") rfl (by decide) (by omega) ?_)) (by walk_at"sc") (by rw [ζb,ζ7,vO]; omega) ?_
  ·intro c hc
   refine egn (by walk_at"sc") ⟨EvT.eq (zq (zaK (neg:=true) (d:=pD (c,i)) (ds:=ps.map pD) (by walk_at"ev") (EvE.toL (by walk_at"ev")) (Q9 _) (zbG ps))) ?_,fun _=>by walk_at"ev"⟩
   show (!(ps.map pD).any _)=_
   rw [zek]
  ·refine ⟨some (.fz false (.int i)),some (.fz false (nl own)),?_⟩
   rw [take_succ (Xc ho),ζo]
   rfl
 ·rintro Γ' ⟨x,y,rfl⟩
  rw [ξU,ζb,ζW (by rw [vO]; exact ζh _)]
  exact exro (by walk_at"gc") rfl (.inl ⟨rfl,rfl⟩)
theorem zdd (a b:List Nat):((zl a).any fun k=>decide (k∈zl b))=a.any fun k=>decide (k∈b):=by
 unfold zl
 rw [ξC]
 refine congrArg (fun f=>List.any a f) (funext fun k=>?_)
 exact zV
def ZA (ds:List PyData) (d:PyData):Prop:=∃ a b:List Nat,ds=[nl a,nl b]∧a.length + b.length < 2000∧d=.bool (a.any fun k=>decide (k∈b))
theorem zby:zA ["some", "others"] ["some", "others"] (zo (top 1)):={}
theorem zbV (F:Fun K "meet" "meet" (top 1) f fd) (B:Bs mg) (Z:Cs K mg τa τb)  : FnOk P w K mg base CX0 1 f fd ["some", "others"] (spD K true ZA):=by
 have sc:=zby
 refine F.ok sc (fun vs H Q E h=>zH (fun _ _⟨_,_,e,_⟩=>by rw [e];rfl) h) (fun cdv A outer s H vs Q E hr h=>?_)
 obtain ⟨Fh,ds,d,le,dp,p,q⟩:=h
 refine ⟨_,(zf (zy (yy ZK (pB (Qg (b:=w.params.followText "set-order")) B.len (zb (zJ (zbR rfl rfl) (pY (YZ (K:=K) rfl rfl rfl) B.set (zb (pv 0) zd)) (pY (YZ (K:=K) rfl rfl rfl) B.set (zb (pv 1) zd))) zd)) zh (zF _)))),?_⟩
 have hN:=sc.n 2
 obtain ⟨a,b,rfl,hl,rfl⟩:=p
 walk_at"run"
 refine zM true (EvE.eq (t7 (T7 (ns:=zl a) (ms:=zl b) (EvE.toL (EvE.eq (κ:=false) (by walk_at"ev") (ya a))) (EvE.toL (EvE.eq (κ:=false) (by walk_at"ev") (ya b))) (by rw [tm,tm]; exact hl)) (by walk_at"ev")) ?_) rfl (.inl ⟨rfl,rfl⟩)
 rw [zam,zdd]
def upC (cs:List (List Nat)) (k:Nat):List Nat:=(cs.getD k []).map fun c=>2 * c
def dnC (cs:List (List Nat)) (k:Nat):List Nat:=(effF cs k).map fun e=>2 * e + 1
def stC (cs:List (List Nat)) (kn:List Nat) (c:Nat):List Nat:=if c / 2∈kn then (if c % 2=1 then upC cs (c / 2) else []) else (if c % 2=1 then dnC cs (c / 2) else upC cs (c / 2) ++ dnC cs (c / 2))
def vx (ds:List PyData) (d:PyData):Prop:=∃ (n:Nat) (cs:List (List Nat)) (kn:List Nat) (c:Nat),ds=[nls cs,nl kn,cD c]∧ShOk n cs∧n≤12∧c / 2 < n∧d=pl (stC cs kn c)
theorem Yf:zA ["causes", "known", "pair", "k", "way", "ups", "downs"] ["causes", "known", "pair"] (zo (top 13)):={}
theorem Ym (F:Fun K "steps_from" "steps_from" (top 13) f fd) (B:Bs mg) (Z:Cs K mg τa τb) (c_effects:zz P w K mg base CX0 "effects" ["causes", "k"] 1 (spD K true yY)):FnOk P w K mg base CX0 2 f fd ["causes", "known", "pair"] (spD K true vx):=by
 have sc:=Yf
 refine F.ok sc (fun vs H Q E h=>zH (fun _ _⟨_,_,_,_,e,_⟩=>by rw [e];rfl) h) (fun cdv A outer s H vs Q E hr h=>?_)
 obtain ⟨Fh,ds,d,le,dp,p,q⟩:=h
 refine ⟨_,(ze (pS (i:=3) sc.nd (pX (yE (K:=K) rfl) (pv 2) zh))
   (ze (pS (i:=4) sc.nd (pX (yE (K:=K) rfl) (pv 2) zh))
   (ze (yU (i:=5) rfl sc.nd rfl rfl (N:=["c"]) (js:=[none]) (by walk_at"comp_ok") (zE (K:=K) rfl (pX (zu (K:=K) rfl) (pv 0) (pv 3))) (fun _ _ _ _=>(pN (i:=0) (show υN ["c"] by decide +kernel))) (fun _ _ _ _=>yx) (fun _ _ _ _=>(xG (zb (pv 0) (zb (uL (v:=.int 0) rfl Z.n_AGAINST ⟨_,rfl⟩) zd)))))
   (ze (yU (i:=6) rfl sc.nd rfl rfl (N:=["e"]) (js:=[none]) (by walk_at"comp_ok") (zE (K:=K) rfl (pF c_effects hr (zb (pv 0) (zb (pv 3) zd)))) (fun _ _ _ _=>(pN (i:=0) (show υN ["e"] by decide +kernel))) (fun _ _ _ _=>yx) (fun _ _ _ _=>(xG (zb (pv 0) (zb (uL (v:=.int 1) rfl Z.n_ALONG ⟨_,rfl⟩) zd)))))
   (ze (ye (zr (zG (K:=K) rfl) (pv 3) (pv 1) (rfl)) (zf (zy (ZH (zr uP (pv 4) (uL (v:=.int 1) rfl Z.n_ALONG ⟨_,rfl⟩) (zF _)) (pv 5) (zU zd)))) zL)
   (zf (zy (ZH (zr uP (pv 4) (uL (v:=.int 1) rfl Z.n_ALONG ⟨_,rfl⟩) (zF _)) (pv 6) (zJ (wI (K:=K) rfl) (pv 5) (pv 6)))))))))),?_⟩
 have hN:=sc.n 7
 obtain ⟨n,cs,kn,c,rfl,ok,n12,hc,rfl⟩:=p
 have big:=zD
 have A:=ok.at hc
 have A2:=A.2.2
 have cl:=ok.l
 have ak:atI (cs.map nl) ((c / 2:Nat):Int)=some (nl (cs.getD (c / 2) [])):=yt A.1
 have el:(effF cs (c / 2)).length≤12:=by
  have:=ζE (fun o=>decide (c / 2∈cs.getD o [])) (List.range cs.length)
  rw [ζu] at this
  unfold effF
  omega
 walk_at"run"
 refine exs false (d:=.int ((c / 2:Nat):Int)) (yP (κ:=false) (ds:=[.int ((c / 2:Nat):Int),.int ((c % 2:Nat):Int)]) (i:=0) (EvE.eq (a:=cD c) (by walk_at"ev") rfl) (by walk_at"ev") rfl) (by walk_at"sc") ?_
 refine exs false (d:=.int ((c % 2:Nat):Int)) (yP (κ:=false) (ds:=[.int ((c / 2:Nat):Int),.int ((c % 2:Nat):Int)]) (i:=1) (EvE.eq (a:=cD c) (by walk_at"ev") rfl) (by walk_at"ev") rfl) (by walk_at"sc") ?_
 have tw:∀ k:Nat,2 * k / 2=k∧2 * k % 2=0∧(2 * k + 1) / 2=k∧(2 * k + 1) % 2=1:=fun k=>by omega
 have d0:∀ k:Nat,PyData.tuple [.int (k:Int),.int 0]=cD (2 * k):=fun k=>by unfold cD; rw [(tw k).1,(tw k).2.1]; rfl
 have d1:∀ k:Nat,PyData.tuple [.int (k:Int),.int 1]=cD (2 * k + 1):=fun k=>by unfold cD; rw [(tw k).2.2.1,(tw k).2.2.2]; rfl
 refine exs true (d:=pl (upC cs (c / 2))) (EvO.toE (EvO.eq (yp (κ:=true) (is:=[0]) (xs:=cs.getD (c / 2) []) false (fun k:Nat=>.int (k:Int)) (fun k=>cD (2 * k)) (fun x _ y _ h=>by cases yO h; rfl) (zN (zI (κ:=false) (by walk_at"ev") (by walk_at"ev") ak)) (by walk_at"cc") rfl (by decide) (by omega) ?_) (by unfold upC; rw [List.map_map]; rfl))) (by walk_at"sc") ?_
 ·intro k hk
  exact egn (by walk_at"sc") (EvE.eq (ww (ds:=[.int (k:Int),.int 0]) (by walk_at"ev") (by show 2≤_; omega)) (d0 k))
 refine exs true (d:=pl (dnC cs (c / 2))) (EvO.toE (EvO.eq (yp (κ:=true) (is:=[0]) (xs:=effF cs (c / 2)) false (fun k:Nat=>.int (k:Int)) (fun k=>cD (2 * k + 1)) (fun x _ y _ h=>by cases yO h; rfl) (zN (zk (by walk_at"ev") ⟨cs,c / 2,rfl,by omega,rfl⟩)) (by walk_at"cc") rfl (by decide) (by omega) ?_) (by unfold dnC; rw [List.map_map]; rfl))) (by walk_at"sc") ?_
 ·intro k hk
  exact egn (by walk_at"sc") (EvE.eq (ww (ds:=[.int (k:Int),.int 1]) (by walk_at"ev") (by show 2≤_; omega)) (d1 k))
 have ul:(upC cs (c / 2)).length≤60:=by unfold upC; rw [List.length_map]; exact A2
 have dl:(dnC cs (c / 2)).length≤12:=by unfold dnC; rw [List.length_map]; exact el
 unfold stC
 generalize upC cs (c / 2)=up at ul
 generalize dnC cs (c / 2)=dn at dl
 generalize c / 2=k
 refine vE (b:=decide (k∈kn)) (EvT.eq (zq (zW (neg:=false) (i:=(k:Int)) (ns:=zl kn) (by walk_at"ev") (EvE.toL (EvE.eq (κ:=false) (by walk_at"ev") (ya _))))) zV) (fun h=>?_) (fun h=>?_)
 ·rw [if_pos (of_decide_eq_true h)]
  refine exrs true (X7 (b:=decide (((c % 2:Nat):Int)=1)) (zq (ur (by walk_at"ev") (by walk_at"ev"))) (fun z=>?_) (fun z=>?_)) rfl (.inl ⟨rfl,rfl⟩)
  ·rw [if_pos (by have:=of_decide_eq_true z; omega)]
   walk_at"ev"
  ·rw [if_neg (by have:=of_decide_eq_false z; omega)]
   exact EvO.toE (zZ (ds:=[]) zC (by decide))
 ·refine exn ?_
  rw [if_neg (of_decide_eq_false h)]
  refine zM true (X7 (b:=decide (((c % 2:Nat):Int)=1)) (zq (ur (by walk_at"ev") (by walk_at"ev"))) (fun z=>?_) (fun z=>?_)) rfl (.inl ⟨rfl,rfl⟩)
  ·rw [if_pos (by have:=of_decide_eq_true z; omega)]
   walk_at"ev"
  ·rw [if_neg (by have:=of_decide_eq_false z; omega)]
   exact EvO.toE (EvO.eq (wZ (xs:=up.map cD) (ys:=dn.map cD) (by walk_at"ev") (by walk_at"ev") (by rw [ζb,ζb]; omega)) (by rw [ζo]))
theorem zcS (ok:ShOk n cs) (n12:n≤12) (kn:List Nat):NxOk (2 * n) (stC cs kn):=by
 have up:∀ x,x < 2 * n→∀ y∈upC cs (x / 2),y < 2 * n:=fun x hx y hy=>by
  obtain ⟨c,hc,rfl⟩:=ζn.mp hy
  have:=(ok.at (k:=x / 2) (by omega)).2.1 c hc
  omega
 have dn:∀ x,∀ y∈dnC cs (x / 2),y < 2 * n:=fun x y hy=>by
  obtain ⟨e,he,rfl⟩:=ζn.mp hy
  have:=ζD.mp (ζl.mp he).1
  rw [ok.l] at this
  omega
 refine ⟨by omega,fun x hx y hy=>?_,fun x hx=>?_⟩
 ·unfold stC at hy
  split at hy
  ·split at hy
   ·exact up x hx y hy
   ·cases hy
  ·split at hy
   ·exact dn x y hy
   ·rcases ζq.mp hy with hy | hy
    ·exact up x hx y hy
    ·exact dn x y hy
 ·have a:=(ok.at (k:=x / 2) (by omega)).2.2
  have c:(dnC cs (x / 2)).length≤12:=by
   have b:=ζE (fun o=>decide (x / 2∈cs.getD o [])) (List.range cs.length)
   rw [ζu] at b
   have:=ok.l
   unfold dnC effF
   rw [ζb]
   omega
  have d:(upC cs (x / 2)).length≤60:=by
   unfold upC
   rw [ζb]
   exact a
  unfold stC
  split
  ·split
   ·omega
   ·exact ζL _
  ·split
   ·omega
   ·rw [ζf]
    omega
def YD (ds:List PyData) (d:PyData):Prop:=∃ (n:Nat) (cs:List (List Nat)) (x:Nat) (kn:List Nat),ds=[nls cs,.int x,nl kn]∧ShOk n cs∧n≤12∧x < n∧d=pl (rchL (2 * n) (stC cs kn) [2 * x])
theorem QA:zA ["causes", "x", "known"] ["causes", "x", "known"] (zo (top 14)):={}
theorem zab (F:Fun K "reach" "reach" (top 14) f fd) (L:t5 K f "reach" = true) (B:Bs mg) (Z:Cs K mg τa τb) (c_gathered:zz P w K mg base CX0 "gathered" ["some", "nexts"] 4 (spG P w K mg base 3 y6)) (c_steps_from:zz P w K mg base CX0 "steps_from" ["causes", "known", "pair"] 2 (spD K true vx)):FnOk P w K mg base CX0 5 f fd ["causes", "x", "known"] (spD K true YD):=by
 have sc:=QA
 refine F.okL L sc (fun vs H Q E h=>zH (fun _ _⟨_,_,_,_,e,_⟩=>by rw [e];rfl) h) (fun c T A outer s H vs Q E hhd htab hr h=>?_)
 obtain ⟨Fh,ds,d,le,dp,p,q⟩:=h
 refine ⟨_,(zf (zy (ui (caps:=[("causes", 0),("known", 2)]) c_gathered (hr.mono (by decide)) rfl (zU (zb (xG (zb (pv 1) (zb (uL (v:=.int 0) rfl Z.n_AGAINST ⟨_,rfl⟩) zd))) zd)) rfl hhd htab rfl rfl rfl (ζB.mpr ⟨⟨rfl,rfl⟩,(ζB.mpr ⟨⟨rfl,rfl⟩,(fun _ z=>nomatch z)⟩)⟩) (ζB.mpr ⟨⟨by first | exact .head _ | exact .tail _ (.head _) | exact .tail _ (.tail _ (.head _)) | exact .tail _ (.tail _ (.tail _ (.head _))),rfl⟩,(ζB.mpr ⟨⟨by first | exact .head _ | exact .tail _ (.head _) | exact .tail _ (.tail _ (.head _)) | exact .tail _ (.tail _ (.tail _ (.head _))),rfl⟩,(fun _ z=>nomatch z)⟩)⟩) (ζB.mpr ⟨rfl,(ζB.mpr ⟨rfl,(fun _ z=>nomatch z)⟩)⟩) (fun _=>rfl)))),?_⟩
 have hN:=sc.n 3
 obtain ⟨n,cs,x,kn,rfl,ok,n12,hx,rfl⟩:=p
 have big:=zD
 obtain ⟨dc,e1,e2⟩:∃ dc:Str→PyData,dc "causes" = nls cs∧dc "known" = nl kn:=⟨fun y=>if y = "causes" then nls cs else nl kn,if_pos rfl,if_neg (by decide)⟩
 have d0:PyData.tuple [.int (x:Int),.int 0]=cD (2 * x):=by unfold cD; rw [show 2 * x / 2=x by omega,show 2 * x % 2=0 by omega]; rfl
 walk_at"run"
 refine zM true (ut (P:=P) (w:=w) (mg:=mg) (base:=base) (kk:=2) (x := "pair") (dc:=dc) (p1:=gP (2 * n) (stC cs kn)) (d1:=pl [2 * x]) (EvO.toE (zZ (ds:=[cD (2 * x)]) (zg (EvE.eq (ww (ds:=[.int (x:Int),.int 0]) (by walk_at"ev") (by show 2≤_; omega)) d0) zC) (by show 1≤sizeLine; omega))) (ζB.mpr ⟨⟨false,by show _=some (some (DV.fz false (dc "causes"))); rw [e1]; rfl⟩,ζB.mpr ⟨⟨false,by show _=some (some (DV.fz false (dc "known"))); rw [e2]; rfl⟩,fun _ z=>nomatch z⟩⟩) (uS (by decide +kernel)) (fun cl pm c' ctv=>xg.all fun us hl=>match us,hl with | [_],_=>rfl) (fun _ _ _ hcl _ _ _ _ hr=>(pF c_steps_from hr (zb (pv 1) (zb (pv 2) (zb (pv 0) zd))))) (fun d r h=>?_) (.inr ⟨2 * n,stC cs kn,[2 * x],rfl,zcS ok n12 kn,⟨fun z hz=>by rw [ζc.mp hz]; omega,by show 1≤80; decide⟩,rfl,rfl⟩)) rfl (.inl ⟨rfl,rfl⟩)
 obtain ⟨k,kn',rfl,rfl⟩:=h
 show EvE K .fresh false _ [some (.fz false (cD k)),some (.fz false (dc "causes")),some (.fz false (dc "known"))] _
 rw [e1,e2]
 exact zk (by walk_at"ev") ⟨n,cs,kn,k,rfl,ok,n12,by omega,rfl⟩
theorem zai:b∈upC cs k↔b % 2=0∧b / 2∈cs.getD k []:=by
 unfold upC
 rw [ζn]
 constructor
 ·rintro ⟨c,hc,rfl⟩
  rw [show 2 * c / 2=c by omega]
  exact ⟨by omega,hc⟩
 ·rintro ⟨h1,h2⟩
  exact ⟨b / 2,h2,by omega⟩
theorem zal (ok:ShOk n cs) (hb:b / 2 < n):b∈dnC cs k↔b % 2=1∧k∈cs.getD (b / 2) []:=by
 unfold dnC effF
 rw [ζn]
 constructor
 ·rintro ⟨c,hc,rfl⟩
  rw [show (2 * c + 1) / 2=c by omega]
  exact ⟨by omega,of_decide_eq_true (ζl.mp hc).2⟩
 ·rintro ⟨h1,h2⟩
  exact ⟨b / 2,ζl.mpr ⟨ζD.mpr (by rw [ok.l]; exact hb),decide_eq_true h2⟩,by omega⟩
theorem V6 (ok:ShOk n cs) (hb:b / 2 < n):(b % 2=0→(b∈stC cs kn a↔b / 2∈cs.getD (a / 2) []∧(a % 2=1↔a / 2∈kn)))∧(b % 2=1→(b∈stC cs kn a↔a / 2∈cs.getD (b / 2) []∧a / 2∉kn)):=by
 unfold stC
 by_cases c:a / 2∈kn
 ·rw [if_pos c]
  by_cases d:a % 2=1
  ·rw [if_pos d,zai]
   exact ⟨fun z=>⟨fun y=>⟨y.2,fun _=>c,fun _=>d⟩,fun y=>⟨z,y.1⟩⟩,fun z=>⟨fun y=>by omega,fun y=>absurd c y.2⟩⟩
  ·rw [if_neg d]
   exact ⟨fun z=>⟨fun y=>(by cases y),fun y=>absurd (y.2.mpr c) d⟩,fun z=>⟨fun y=>(by cases y),fun y=>absurd c y.2⟩⟩
 ·rw [if_neg c]
  by_cases d:a % 2=1
  ·rw [if_pos d,zal ok hb]
   exact ⟨fun z=>⟨fun y=>by omega,fun y=>absurd (y.2.mp d) c⟩,fun z=>⟨fun y=>⟨y.2,c⟩,fun y=>⟨z,y.1⟩⟩⟩
  ·rw [if_neg d,ζq,zai,zal ok hb]
   refine ⟨fun z=>⟨fun y=>⟨?_,fun w=>absurd w d,fun w=>absurd w c⟩,fun y=>.inl ⟨z,y.1⟩⟩,fun z=>⟨fun y=>⟨?_,c⟩,fun y=>.inr ⟨z,y.1⟩⟩⟩
   ·rcases y with y | y
    ·exact y.2
    ·omega
   ·rcases y with y | y
    ·omega
    ·exact y.2
def cauF (cs:List (List Nat)) (k:Nat):List Nat:=cs.getD k []
theorem zeb (h:ShOk n cs) (n12:n≤12):NxOk n (cauF cs):=⟨by omega,fun x hx y hy=>(h.at hx).2.1 y hy,fun x hx=>ζV (h.at hx).2.2 (by decide)⟩
theorem Ue (h:ShOk n cs) (n12:n≤12):NxOk n (effF cs):=⟨by omega,fun x hx y hy=>by
 have:=ζD.mp (ζl.mp hy).1
 rw [h.l] at this
 exact this,fun x hx=>by
 have:=ζE (fun o=>decide (x∈cs.getD o [])) (List.range cs.length)
 rw [ζu] at this
 have e:=h.l
 show (List.filter (fun o=>decide (x∈cs.getD o [])) (List.range cs.length)).length≤80
 omega⟩
theorem y9 (h:ShOk n cs):y∈effF cs x↔y < n∧x∈cauF cs y:=by
 unfold effF cauF
 rw [ζl,ζD,h.l]
 simp
theorem VO (h:k < n):SmOk n [k]:=⟨fun x hx=>by rw [ζc.mp hx]; exact h,by show 1≤80; decide⟩
def YE (ds:List PyData) (d:PyData):Prop:=∃ (n:Nat) (cs:List (List Nat)) (sm:List Nat),ds=[nls cs,nl sm]∧ShOk n cs∧n≤12∧SmOk n sm∧d=nl (rchL n (cauF cs) sm)
theorem QB:zA ["causes", "some"] ["causes", "some"] (zo (top 3)):={}
theorem zad (F:Fun K "above" "above" (top 3) f fd) (L:t5 K f "above" = true) (B:Bs mg) (Z:Cs K mg τa τb) (c_gathered:zz P w K mg base CX0 "gathered" ["some", "nexts"] 4 (spG P w K mg base 3 y6)):FnOk P w K mg base CX0 5 f fd ["causes", "some"] (spD K true YE):=by
 have sc:=QB
 refine F.okL L sc (fun vs H Q E h=>zH (fun _ _⟨_,_,_,e,_⟩=>by rw [e];rfl) h) (fun c T A outer s H vs Q E hhd htab hr h=>?_)
 obtain ⟨Fh,ds,d,le,dp,p,q⟩:=h
 refine ⟨_,(zf (zy (ui (caps:=[("causes", 0)]) c_gathered (hr.mono (by decide)) rfl (pv 1) rfl hhd htab rfl rfl rfl (ζB.mpr ⟨⟨rfl,rfl⟩,(fun _ z=>nomatch z)⟩) (ζB.mpr ⟨⟨by first | exact .head _ | exact .tail _ (.head _) | exact .tail _ (.tail _ (.head _)) | exact .tail _ (.tail _ (.tail _ (.head _))),rfl⟩,(fun _ z=>nomatch z)⟩) (ζB.mpr ⟨rfl,(fun _ z=>nomatch z)⟩) (fun _=>rfl)))),?_⟩
 have hN:=sc.n 2
 obtain ⟨n,cs,sm,rfl,ok,n12,so,rfl⟩:=p
 walk_at"run"
 refine zM true (ut (P:=P) (w:=w) (mg:=mg) (base:=base) (kk:=2) (x := "k") (dc:=fun _=>nls cs) (p1:=gI n (cauF cs)) (by walk_at"ev") (ζB.mpr ⟨⟨_,rfl⟩,fun _ z=>nomatch z⟩) (uS (by decide +kernel)) (fun cl pm c' ctv=>xg.all fun us hl=>match us,hl with | [_],_=>rfl) (fun _ _ _ hcl _ _ _ _ hr=>(pX (zu (K:=K) rfl) (pv 1) (pv 0))) (fun d r h=>?_) (.inl ⟨n,cauF cs,sm,rfl,zeb ok n12,so,rfl,rfl⟩)) rfl (.inl ⟨rfl,rfl⟩)
 obtain ⟨k,kn,rfl,rfl⟩:=h
 have ak:atI (cs.map nl) (k:Int)=some (nl (cs.getD k [])):=yt (zQ (by rw [ok.l]; exact kn))
 show EvE K .fresh false _ [some (.fz false (.int k)),some (.fz false (nls cs))] _
 exact zI (κ:=false) (by walk_at"ev") (by walk_at"ev") ak
def vB (ds:List PyData) (d:PyData):Prop:=∃ (n:Nat) (cs:List (List Nat)) (sm:List Nat),ds=[nls cs,nl sm]∧ShOk n cs∧n≤12∧SmOk n sm∧d=nl (rchL n (effF cs) sm)
theorem VG:zA ["causes", "some"] ["causes", "some"] (zo (top 4)):={}
theorem VX (F:Fun K "beneath" "beneath" (top 4) f fd) (L:t5 K f "beneath" = true) (B:Bs mg) (Z:Cs K mg τa τb) (c_gathered:zz P w K mg base CX0 "gathered" ["some", "nexts"] 4 (spG P w K mg base 3 y6)) (c_effects:zz P w K mg base CX0 "effects" ["causes", "k"] 1 (spD K true yY)):FnOk P w K mg base CX0 5 f fd ["causes", "some"] (spD K true vB):=by
 have sc:=VG
 refine F.okL L sc (fun vs H Q E h=>zH (fun _ _⟨_,_,_,e,_⟩=>by rw [e];rfl) h) (fun c T A outer s H vs Q E hhd htab hr h=>?_)
 obtain ⟨Fh,ds,d,le,dp,p,q⟩:=h
 refine ⟨_,(zf (zy (ui (caps:=[("causes", 0)]) c_gathered (hr.mono (by decide)) rfl (pv 1) rfl hhd htab rfl rfl rfl (ζB.mpr ⟨⟨rfl,rfl⟩,(fun _ z=>nomatch z)⟩) (ζB.mpr ⟨⟨by first | exact .head _ | exact .tail _ (.head _) | exact .tail _ (.tail _ (.head _)) | exact .tail _ (.tail _ (.tail _ (.head _))),rfl⟩,(fun _ z=>nomatch z)⟩) (ζB.mpr ⟨rfl,(fun _ z=>nomatch z)⟩) (fun _=>rfl)))),?_⟩
 have hN:=sc.n 2
 obtain ⟨n,cs,sm,rfl,ok,n12,so,rfl⟩:=p
 have cl:=ok.l
 walk_at"run"
 refine zM true (ut (P:=P) (w:=w) (mg:=mg) (base:=base) (kk:=2) (x := "k") (dc:=fun _=>nls cs) (p1:=gI n (effF cs)) (by walk_at"ev") (ζB.mpr ⟨⟨_,rfl⟩,fun _ z=>nomatch z⟩) (uS (by decide +kernel)) (fun cl pm c' ctv=>xg.all fun us hl=>match us,hl with | [_],_=>rfl) (fun _ _ _ hcl _ _ _ _ hr=>(pF c_effects hr (zb (pv 1) (zb (pv 0) zd)))) (fun d r h=>?_) (.inl ⟨n,effF cs,sm,rfl,Ue ok n12,so,rfl,rfl⟩)) rfl (.inl ⟨rfl,rfl⟩)
 obtain ⟨k,kn,rfl,rfl⟩:=h
 show EvE K .fresh false _ [some (.fz false (.int k)),some (.fz false (nls cs))] _
 exact zk (by walk_at"ev") ⟨cs,k,rfl,by omega,rfl⟩
noncomputable def onW (n:Nat) (cs:List (List Nat)) (x y:Nat):List Nat:=(rchL n (effF cs) [x]).filter fun k=>decide (k∈rchL n (cauF cs) [y]) && !decide (k=x)
theorem vS:k∈onW n cs x y↔k∈rchL n (effF cs) [x]∧k∈rchL n (cauF cs) [y]∧k≠x:=by
 unfold onW
 rw [ζl]
 simp
theorem zbT (n:Nat) (cs:List (List Nat)) (x y:Nat):(onW n cs x y).length≤n:=ζV (ζE _ _) (vq ..)
def vz (ds:List PyData) (d:PyData):Prop:=∃ (n:Nat) (cs:List (List Nat)) (x y:Nat),ds=[nls cs,.int x,.int y]∧ShOk n cs∧n≤12∧x < n∧y < n∧d=nl (onW n cs x y)
theorem VB:zA ["causes", "x", "y", "over_y"] ["causes", "x", "y"] (zo (top 27)):={}
theorem VR (F:Fun K "on_ways" "on_ways" (top 27) f fd) (B:Bs mg) (Z:Cs K mg τa τb) (c_above:zz P w K mg base CX0 "above" ["causes", "some"] 5 (spD K true YE)) (c_beneath:zz P w K mg base CX0 "beneath" ["causes", "some"] 5 (spD K true vB)):FnOk P w K mg base CX0 6 f fd ["causes", "x", "y"] (spD K true vz):=by
 have sc:=VB
 refine F.ok sc (fun vs H Q E h=>zH (fun _ _⟨_,_,_,_,e,_⟩=>by rw [e];rfl) h) (fun cdv A outer s H vs Q E hr h=>?_)
 obtain ⟨Fh,ds,d,le,dp,p,q⟩:=h
 refine ⟨_,(ze (pS (i:=3) sc.nd (pF c_above hr (zb (pv 0) (zb (zU (zb (pv 2) zd)) zd))))
   (zf (zy (yc rfl (N:=["k", "over_y", "x"]) (js:=[none,some 3,some 1]) (by walk_at"comp_ok") (zE (K:=K) rfl (pF c_beneath hr (zb (pv 0) (zb (zU (zb (pv 1) zd)) zd)))) (fun _ _ _ _=>(pN (i:=0) (show υN ["k", "over_y", "x"] by decide +kernel))) (fun _ _ _ _=>(yS (PW.pt (xE (zr (zG (K:=K) rfl) (pv 0) (pv 1) (rfl)) (xy (zr vg (pv 0) (pv 2) (zF _))))))) (fun _ _ _ _=>(pv 0)))))),?_⟩
 have hN:=sc.n 4
 obtain ⟨n,cs,x,y,rfl,ok,n12,hx,hy,rfl⟩:=p
 have big:=zD
 walk_at"run"
 refine exs true (d:=nl (rchL n (cauF cs) [y])) (zk (ds:=[nls cs,.list [.int (y:Int)]]) (by walk_at"ev") ⟨n,cs,[y],rfl,ok,n12,VO hy,rfl⟩) (by walk_at"sc") ?_
 have rl:=vq n (effF cs) [x]
 refine zM true (EvO.toE (yo (κ:=true) (is:=[0]) (xs:=rchL n (effF cs) [x]) false (fun k:Nat=>.int (k:Int)) (fun k:Nat=>.int (k:Int)) (fun k=>decide (k∈rchL n (cauF cs) [y]) && !decide (k=x)) (fun x _ y _ h=>by cases yO h; exact ⟨rfl,rfl⟩) (zN (zk (ds:=[nls cs,.list [.int (x:Int)]]) (d:=nl (rchL n (effF cs) [x])) (by walk_at"ev") ⟨n,cs,[x],rfl,ok,n12,VO hx,rfl⟩)) (by walk_at"cc") rfl (by decide) (by omega) ?_)) rfl (.inl ⟨rfl,rfl⟩)
 intro k hk
 exact egn (by walk_at"sc") ⟨xu (EvT.eq (zq (zW (neg:=false) (i:=(k:Int)) (ns:=zl (rchL n (cauF cs) [y])) (by walk_at"ev") (EvE.toL (EvE.eq (κ:=false) (by walk_at"ev") (ya _))))) zV) fun _=>EvT.eq (zq (vG (i:=(k:Int)) (j:=(x:Int)) (by walk_at"ev") (by walk_at"ev"))) (by rw [show decide ((k:Int)=(x:Int))=decide (k=x) from decide_eq_decide.mpr ⟨fun h=>by omega,fun h=>by omega⟩]),fun _=>by walk_at"ev"⟩
noncomputable def cutP (n:Nat) (cs:List (List Nat)) (x y:Nat):List (Nat×Nat):=(onW n cs x y).map fun k=>(x,k)
noncomputable def cutC (n:Nat) (cs:List (List Nat)) (x y:Nat):List (List Nat):=woF cs (cutP n cs x y)
def wv (ds:List PyData) (d:PyData):Prop:=∃ (n:Nat) (cs:List (List Nat)) (x y:Nat),ds=[nls cs,.int x,.int y]∧ShOk n cs∧n≤12∧x < n∧y < n∧d=nls (cutC n cs x y)
theorem Xq:zA ["causes", "x", "y"] ["causes", "x", "y"] (zo (top 28)):={}
theorem XT (F:Fun K "cut_shape" "cut_shape" (top 28) f fd) (B:Bs mg) (Z:Cs K mg τa τb) (c_without:zz P w K mg base CX0 "without" ["causes", "pairs"] 1 (spD K true tT)) (c_on_ways:zz P w K mg base CX0 "on_ways" ["causes", "x", "y"] 6 (spD K true vz)):FnOk P w K mg base CX0 7 f fd ["causes", "x", "y"] (spD K true wv):=by
 have sc:=Xq
 refine F.ok sc (fun vs H Q E h=>zH (fun _ _⟨_,_,_,_,e,_⟩=>by rw [e];rfl) h) (fun cdv A outer s H vs Q E hr h=>?_)
 obtain ⟨Fh,ds,d,le,dp,p,q⟩:=h
 refine ⟨_,(zf (zy (pF c_without hr (zb (pv 0) (zb (yc rfl (N:=["k", "x"]) (js:=[none,some 1]) (by walk_at"comp_ok") (zE (K:=K) rfl (pF c_on_ways hr (zb (pv 0) (zb (pv 1) (zb (pv 2) zd))))) (fun _ _ _ _=>(pN (i:=0) (show υN ["k", "x"] by decide +kernel))) (fun _ _ _ _=>yx) (fun _ _ _ _=>(xG (zb (pv 1) (zb (pv 0) zd))))) zd))))),?_⟩
 have hN:=sc.n 3
 obtain ⟨n,cs,x,y,rfl,ok,n12,hx,hy,rfl⟩:=p
 have big:=zD
 have cl:=ok.l
 have ol:=zbT n cs x y
 walk_at"run"
 refine zM true (zk (ds:=[nls cs,prs (cutP n cs x y)]) (zg (by walk_at"ev") (zg (EvE.eq (EvO.toE (yp (κ:=false) (is:=[0]) (xs:=onW n cs x y) false (fun k:Nat=>.int (k:Int)) (fun k=>pD (x,k)) (fun a _ b _ h=>by cases yO h; rfl) (zN (zk (d:=nl (onW n cs x y)) (by walk_at"ev") ⟨n,cs,x,y,rfl,ok,n12,hx,hy,rfl⟩)) (by walk_at"cc") rfl (by decide) (by omega) ?_)) (by unfold cutP; rw [prs,List.map_map]; rfl)) zC)) ⟨cs,cutP n cs x y,rfl,by omega,fun r hr=>by have:=(ok.e r hr).2; omega,rfl⟩) rfl (.inl ⟨rfl,rfl⟩)
 intro k hk
 exact egn (by walk_at"sc") (by walk_at"ev")
theorem zcL (ok:ShOk n cs) (ps:List (Nat×Nat)):ShOk n (woF cs ps):=⟨by rw [vO]; exact ok.l,fun r hr=>by
 obtain ⟨i,hi⟩:=ξy.mp hr
 have il:i < cs.length:=by have:=(ζe.mp hi).1; rwa [vO] at this
 have z:cs[i]?=some (cs.getD i []):=zQ il
 rw [Xc z] at hi
 cases hi
 have e:=ok.e _ (ζk z)
 refine ⟨fun x hx=>e.1 x ?_,ζV ?_ e.2⟩
 ·unfold woR at hx
  exact (ζl.mp hx).1
 ·unfold woR
  exact ζE _ _⟩
noncomputable def unW (n:Nat) (cs:List (List Nat)) (x y:Nat):List Nat:=rchL n (effF cs) (onW n cs x y)
abbrev paC (cs:List (List Nat)) (c v:Nat):Prop:=c∈cs.getD v []
abbrev InL (l:List Nat) (v:Nat):Prop:=v∈l
theorem zdr (ok:ShOk n cs) (n12:n≤12) (hx:x < n) (h:Rch (stC cs kn) [2 * x] c):c < 2 * n∧Dsp.Bb (paC cs) (InL kn) x (c / 2) (decide (c % 2=1)):=by
 induction h with
 | base z =>
  rw [ζc.mp z,show 2 * x / 2=x by omega,show 2 * x % 2=0 by omega]
  exact ⟨by omega,.start⟩
 | @step a b _ z ih =>
  have hb:=(zcS ok n12 kn).lt a ih.1 b z
  have ms:=V6 ok (kn:=kn) (a:=a) (b:=b) (by omega)
  refine ⟨hb,?_⟩
  rcases Nat.mod_two_eq_zero_or_one b with e | e
  ·have m:=(ms.1 e).mp z
   rw [e]
   exact .up ih.2 m.1 ⟨fun w=>m.2.mp (of_decide_eq_true w),fun w=>decide_eq_true (m.2.mpr w)⟩
  ·have m:=(ms.2 e).mp z
   rw [e]
   exact .down ih.2 m.1 m.2
theorem zeh {n:Nat} {x:Nat} (ok:ShOk n cs) (hx:x < n) {v:Nat} {w:Bool} (h:Dsp.Bb (paC cs) (InL kn) x v w):v < n∧Rch (stC cs kn) [2 * x] (2 * v + cond w 1 0):=by
 induction h with
 | start=>exact ⟨hx,.base (ζc.mpr rfl)⟩
 | @up v u w _ p hw ih =>
  have hu:=(ok.at ih.1).2.1 u p
  refine ⟨hu,.step ih.2 ?_⟩
  have ms:=(V6 ok (kn:=kn) (a:=2 * v + cond w 1 0) (b:=2 * u + cond false 1 0) (by show (2 * u + 0) / 2 < n; omega)).1 (by show (2 * u + 0) % 2=0; omega)
  refine ms.mpr ?_
  rw [show (2 * u + cond false 1 0) / 2=u by show (2 * u + 0) / 2=u; omega]
  cases w with
  | true =>
   rw [show (2 * v + cond true 1 0) / 2=v by show (2 * v + 1) / 2=v; omega,show (2 * v + cond true 1 0) % 2=1 by show (2 * v + 1) % 2=1; omega]
   exact ⟨p,fun _=>hw.mp rfl,fun _=>rfl⟩
  | false =>
   rw [show (2 * v + cond false 1 0) / 2=v by show (2 * v + 0) / 2=v; omega,show (2 * v + cond false 1 0) % 2=0 by show (2 * v + 0) % 2=0; omega]
   exact ⟨p,fun e=>(by cases e),fun e=>(by have:=hw.mpr e; cases this)⟩
 | @down v u w _ p nz ih =>
  have hu:u < n:=by
   have:u < cs.length:=Classical.byContradiction fun c=>by
    have e:cs.getD u []=[]:=by rw [ζd,ζT (by omega)]; rfl
    have p:v∈cs.getD u []:=p
    rw [e] at p
    cases p
   rw [← ok.l]; exact this
  refine ⟨hu,.step ih.2 ?_⟩
  have e:(2 * v + cond w 1 0) / 2=v:=by cases w <;> simp only [cond_true,cond_false] <;> omega
  have ms:=(V6 ok (kn:=kn) (a:=2 * v + cond w 1 0) (b:=2 * u + cond true 1 0) (by show (2 * u + 1) / 2 < n; omega)).2 (by show (2 * u + 1) % 2=1; omega)
  refine ms.mpr ?_
  rw [e,show (2 * u + cond true 1 0) / 2=u by show (2 * u + 1) / 2=u; omega]
  exact ⟨p,nz⟩
open Classical in
noncomputable def brB (cs:List (List Nat)) (kn:List Nat) (x y:Nat):Bool:=decide (¬ ∃ w,Dsp.Bb (paC cs) (InL kn) x y w)
open Classical in
theorem zc9 (h:¬ ∃ w,Dsp.Bb (paC cs) (InL kn) x y w):brB cs kn x y=true:=decide_eq_true h
open Classical in
theorem zba (h:∃ w,Dsp.Bb (paC cs) (InL kn) x y w):brB cs kn x y=false:=decide_eq_false fun z=>z h
noncomputable def reL (n:Nat) (cs:List (List Nat)) (kn:List Nat) (x:Nat):List Nat:=(rchL (2 * n) (stC cs kn) [2 * x]).map fun c=>c / 2
theorem zaj (ok:ShOk n cs) (n12:n≤12) (hx:x < n):y∈reL n cs kn x↔∃ w,Dsp.Bb (paC cs) (InL kn) x y w:=by
 unfold reL
 rw [ζn]
 constructor
 ·rintro ⟨c,hc,rfl⟩
  exact ⟨_,(zdr ok n12 hx (zY.mp hc).2).2⟩
 ·rintro ⟨w,h⟩
  have b:=zeh ok hx h
  refine ⟨2 * y + cond w 1 0,zY.mpr ⟨?_,b.2⟩,?_⟩ <;> cases w <;> simp only [cond_true,cond_false] <;> omega
def xU (ds:List PyData) (d:PyData):Prop:=∃ (n:Nat) (cs:List (List Nat)) (x:Nat) (kn:List Nat),ds=[nls cs,.int x,nl kn]∧ShOk n cs∧n≤12∧x < n∧d=nl (reL n cs kn x)
theorem uy:zA ["causes", "x", "known"] ["causes", "x", "known"] (zo (top 15)):={}
theorem uQ (F:Fun K "reached_things" "reached_things" (top 15) f fd) (B:Bs mg) (Z:Cs K mg τa τb) (c_reach:zz P w K mg base CX0 "reach" ["causes", "x", "known"] 5 (spD K true YD)):FnOk P w K mg base CX0 6 f fd ["causes", "x", "known"] (spD K true xU):=by
 have sc:=uy
 refine F.ok sc (fun vs H Q E h=>zH (fun _ _⟨_,_,_,_,e,_⟩=>by rw [e];rfl) h) (fun cdv A outer s H vs Q E hr h=>?_)
 obtain ⟨Fh,ds,d,le,dp,p,q⟩:=h
 refine ⟨_,(zf (zy (yc rfl (N:=["pair"]) (js:=[none]) (by walk_at"comp_ok") (zE (K:=K) rfl (pF c_reach hr (zb (pv 0) (zb (pv 1) (zb (pv 2) zd))))) (fun _ _ _ _=>(pN (i:=0) (show υN ["pair"] by decide +kernel))) (fun _ _ _ _=>yx) (fun _ _ _ _=>(pX (yE (K:=K) rfl) (pv 0) zh))))),?_⟩
 have hN:=sc.n 3
 obtain ⟨n,cs,x,kn,rfl,ok,n12,hx,rfl⟩:=p
 have big:=zD
 have rl:=vq (2 * n) (stC cs kn) [2 * x]
 walk_at"run"
 refine zM true (EvO.toE (EvO.eq (yp (κ:=true) (is:=[0]) (xs:=rchL (2 * n) (stC cs kn) [2 * x]) false cD (fun c=>.int ((c / 2:Nat):Int)) (fun a _ b _ h=>by cases zed h; rfl) (zN (zk (by walk_at"ev") ⟨n,cs,x,kn,rfl,ok,n12,hx,rfl⟩)) (by walk_at"cc") rfl (by decide) (by omega) ?_) (by unfold reL; rw [List.map_map]; rfl))) rfl (.inl ⟨rfl,rfl⟩)
 intro c hc
 exact egn (by walk_at"sc") (EvE.imm (κ:=false) (yP (κ:=false) (ds:=[.int ((c / 2:Nat):Int),.int ((c % 2:Nat):Int)]) (i:=0) (EvE.eq (a:=cD c) (by walk_at"ev") rfl) (by walk_at"ev") rfl) rfl)
def ZB (ds:List PyData) (d:PyData):Prop:=∃ (n:Nat) (cs:List (List Nat)) (x y:Nat) (kn:List Nat),ds=[nls cs,.int x,.int y,nl kn]∧ShOk n cs∧n≤12∧x < n∧d=.bool (brB cs kn x y)
theorem Tr:zA ["causes", "x", "y", "known"] ["causes", "x", "y", "known"] (zo (top 16)):={}
theorem TD (F:Fun K "barred" "barred" (top 16) f fd) (B:Bs mg) (Z:Cs K mg τa τb) (c_reached_things:zz P w K mg base CX0 "reached_things" ["causes", "x", "known"] 6 (spD K true xU)):FnOk P w K mg base CX0 7 f fd ["causes", "x", "y", "known"] (spD K true ZB):=by
 have sc:=Tr
 refine F.ok sc (fun vs H Q E h=>zH (fun _ _⟨_,_,_,_,_,e,_⟩=>by rw [e];rfl) h) (fun cdv A outer s H vs Q E hr h=>?_)
 obtain ⟨Fh,ds,d,le,dp,p,q⟩:=h
 refine ⟨_,(zf (zy (yy (yd (K:=K) rfl) (pv 2) (pF c_reached_things hr (zb (pv 0) (zb (pv 1) (zb (pv 3) zd)))) (rfl)))),?_⟩
 have hN:=sc.n 4
 obtain ⟨n,cs,x,y,kn,rfl,ok,n12,hx,rfl⟩:=p
 have e:(!decide (y∈reL n cs kn x))=brB cs kn x y:=by
  by_cases c:y∈reL n cs kn x
  ·rw [decide_eq_true c,zba ((zaj ok n12 hx).mp c)]; rfl
  ·rw [decide_eq_false c,zc9 fun z=>c ((zaj ok n12 hx).mpr z)]; rfl
 walk_at"run"
 exact zM true (EvE.eq (zW (neg:=true) (i:=(y:Int)) (ns:=zl (reL n cs kn x)) (by walk_at"ev") (EvE.toL (EvE.eq (κ:=false) (zk (by walk_at"ev") ⟨n,cs,x,kn,rfl,ok,n12,hx,rfl⟩) (ya _)))) (by show PyData.bool (!decide _)=_; rw [zV,e])) rfl (.inl ⟨rfl,rfl⟩)
noncomputable def doB (n:Nat) (cs:List (List Nat)) (x y:Nat) (sm:List Nat):Bool:=!((unW n cs x y).any fun k=>decide (k∈sm)) && brB (cutC n cs x y) sm x y
theorem ZI (ok:ShOk n cs) (h:paC cs c v):c < n∧v < n:=by
 have hv:v < cs.length:=Classical.byContradiction fun z=>by
  have e:cs.getD v []=[]:=by rw [ζd,ζT (by omega)]; rfl
  have h:c∈cs.getD v []:=h
  rw [e] at h
  cases h
 rw [ok.l] at hv
 exact ⟨(ok.at hv).2.1 c h,hv⟩
theorem zaR (g:α→PyData) (l:List α):PyData.eqv (.list (l.map g)) (.list [])=decide (l.length=0):=by cases l <;> rfl
theorem wj (ok:ShOk n cs) (hk:k < n):(j < n∧Rch (effF cs) [k] j)↔Dsp.Anc (paC cs) k j:=by
 constructor
 ·rintro ⟨lt,h⟩
  clear lt
  induction h with
  | base z=>rw [ζc.mp z]; exact .refl _
  | step _ z ih=>exact ih.trans (.step ((y9 ok).mp z).2 (.refl _))
 ·intro h
  have:∀ {a b:Nat},Dsp.Anc (paC cs) a b→a < n→Rch (effF cs) [k] a→b < n∧Rch (effF cs) [k] b:=fun {a b} h=>by
   induction h with
   | refl _=>exact fun l r=>⟨l,r⟩
   | step p _ ih =>
    intro _ r
    have l:=(ZI ok p).2
    exact ih l (r.step ((y9 ok).mpr ⟨l,p⟩))
  exact this h hk (.base (ζc.mpr rfl))
theorem zem (ok:ShOk n cs) (hy:y < n):(k < n∧Rch (cauF cs) [y] k)↔Dsp.Anc (paC cs) k y:=by
 constructor
 ·rintro ⟨lt,h⟩
  clear lt
  induction h with
  | base z=>rw [ζc.mp z]; exact .refl _
  | step _ z ih=>exact .step z ih
 ·intro h
  induction h with
  | refl _=>exact ⟨hy,.base (ζc.mpr rfl)⟩
  | step p _ ih=>exact ⟨(ZI ok p).1,(ih hy).2.step p⟩
def veeB (cs:List (List Nat)) (r:List Nat) (k:Nat):Bool:=decide (r.getD (k - 1) 0∈cs.getD (r.getD k 0) []) && decide (r.getD (k + 1) 0∈cs.getD (r.getD k 0) [])
theorem xb {r:List Nat} {k:Nat} (h:k < r.length):atI (r.map fun k:Nat=>PyData.int (k:Int)) (k:Int)=some (.int (r.getD k 0:Nat)):=yt (zQ h)
theorem Vn {n:Nat} {r:List Nat} (h:∀ x∈r,x < n) {k:Nat} (hk:k < r.length):r.getD k 0 < n:=h _ (ζk (zQ (d:=0) hk))
def uh (ds:List PyData) (d:PyData):Prop:=∃ (n:Nat) (cs:List (List Nat)) (r:List Nat) (k:Nat),ds=[nls cs,nl r,.int k]∧ShOk n cs∧(∀ x∈r,x < n)∧1≤k∧k + 1 < r.length∧d=.bool (veeB cs r k)
theorem Tq:zA ["causes", "road", "place", "own"] ["causes", "road", "place"] (zo (top 19)):={}
theorem TC (F:Fun K "is_vee" "is_vee" (top 19) f fd) (B:Bs mg) (Z:Cs K mg τa τb)  : FnOk P w K mg base CX0 1 f fd ["causes", "road", "place"] (spD K true uh):=by
 have sc:=Tq
 refine F.ok sc (fun vs H Q E h=>zH (fun _ _⟨_,_,_,_,e,_⟩=>by rw [e];rfl) h) (fun cdv A outer s H vs Q E hr h=>?_)
 obtain ⟨Fh,ds,d,le,dp,p,q⟩:=h
 refine ⟨_,(ze (pS (i:=3) sc.nd (pX (zu (K:=K) rfl) (pv 0) (pX (zu (K:=K) rfl) (pv 1) (pv 2))))
   (zf (zy (VM (yy (zG (K:=K) rfl) (pX (zu (K:=K) rfl) (pv 1) (zJ vC (pv 2) zh)) (pv 3) (rfl)) (XE (yy (zG (K:=K) rfl) (pX (zu (K:=K) rfl) (pv 1) (zJ yD (pv 2) zh)) (pv 3) (rfl))))))),?_⟩
 have hN:=sc.n 4
 obtain ⟨n,cs,r,k,rfl,ok,hr,k1,kl,rfl⟩:=p
 have kn:=Vn hr (show k < r.length by omega)
 have a0:=xb (r:=r) (show k < r.length by omega)
 have am:=xb (r:=r) (show k - 1 < r.length by omega)
 have ap:=xb (r:=r) kl
 rw [show ((k - 1:Nat):Int)=(k:Int) - 1 by omega] at am
 rw [show ((k + 1:Nat):Int)=(k:Int) + 1 by omega] at ap
 have ac:atI (cs.map nl) (r.getD k 0:Nat)=some (nl (cs.getD (r.getD k 0) [])):=yt (ok.at kn).1
 walk_at"run"
 refine exs false (d:=nl (cs.getD (r.getD k 0) [])) (zI (κ:=false) (by walk_at"ev") (zI (κ:=false) (by walk_at"ev") (by walk_at"ev") a0) ac) (by walk_at"sc") ?_
 exact zM true (Ub (EvE.eq (zW (neg:=false) (i:=(r.getD (k - 1) 0:Nat)) (ns:=zl (cs.getD (r.getD k 0) [])) (zI (κ:=false) (by walk_at"ev") (by walk_at"ev") am) (EvE.toL (EvE.eq (κ:=false) (by walk_at"ev") (ya _)))) (congrArg PyData.bool zV)) fun _=>EvE.eq (zW (neg:=false) (i:=(r.getD (k + 1) 0:Nat)) (ns:=zl (cs.getD (r.getD k 0) [])) (zI (κ:=false) (by walk_at"ev") (by walk_at"ev") ap) (EvE.toL (EvE.eq (κ:=false) (by walk_at"ev") (ya _)))) (congrArg PyData.bool zV)) rfl (.inl ⟨rfl,rfl⟩)
abbrev innD (r:List Nat):List PyData:=(List.range (r.length - 2)).map fun i:Nat=>.int (1 + (i:Int))
def wG (ds:List PyData) (d:PyData):Prop:=∃ r:List Nat,ds=[nl r]∧r.length≤1000∧d=.list (innD r)
theorem Zd:zA ["road"] ["road"] (zo (top 20)):={}
theorem Zf (F:Fun K "inner_places" "inner_places" (top 20) f fd) (B:Bs mg) (Z:Cs K mg τa τb)  : FnOk P w K mg base CX0 1 f fd ["road"] (spD K true wG):=by
 have sc:=Zd
 refine F.ok sc (fun vs H Q E h=>zH (fun _ _⟨_,e,_⟩=>by rw [e];rfl) h) (fun cdv A outer s H vs Q E hr h=>?_)
 obtain ⟨Fh,ds,d,le,dp,p,q⟩:=h
 refine ⟨_,(zf (zy (pY (Ys rfl) B.list (zb (pY Qc B.range (zb zh (zb (zJ vC (pB (zm (K:=K) rfl) B.len (zb (pv 0) zd)) zh) zd))) zd)))),?_⟩
 have hN:=sc.n 1
 obtain ⟨r,rfl,hl,rfl⟩:=p
 walk_at"run"
 refine zM true (EvO.toE (EvO.eq (X4 (a:=1) (b:=(r.length:Int) - 1) (zg (by walk_at"ev") (zg (ZW (EvE.eq (yb (ds:=r.map fun k:Nat=>.int (k:Int)) (by walk_at"ev")) (by rw [ζb])) (by walk_at"ev")) zC)) (by omega) (by omega) (by omega) (by omega)) ?_)) rfl (.inl ⟨rfl,rfl⟩)
 rw [show ((r.length:Int) - 1 - 1).toNat=r.length - 2 by omega]
noncomputable def barB (n:Nat) (cs:List (List Nat)) (r kn:List Nat) (k:Nat):Bool:=bif veeB cs r k then !((rchL n (effF cs) [r.getD k 0]).any fun j=>decide (j∈kn)) else decide (r.getD k 0∈kn)
def tW (ds:List PyData) (d:PyData):Prop:=∃ (n:Nat) (cs:List (List Nat)) (r kn:List Nat) (k:Nat),ds=[nls cs,nl r,.int k,nl kn]∧ShOk n cs∧n≤12∧(∀ x∈r,x < n)∧1≤k∧k + 1 < r.length∧kn.length≤1000∧d=.bool (barB n cs r kn k)
theorem VH:zA ["causes", "road", "place", "known", "k"] ["causes", "road", "place", "known"] (zo (top 22)):={}
theorem VY (F:Fun K "bars_at" "bars_at" (top 22) f fd) (B:Bs mg) (Z:Cs K mg τa τb) (c_is_vee:zz P w K mg base CX0 "is_vee" ["causes", "road", "place"] 1 (spD K true uh)) (c_meet:zz P w K mg base CX0 "meet" ["some", "others"] 1 (spD K true ZA)) (c_beneath:zz P w K mg base CX0 "beneath" ["causes", "some"] 5 (spD K true vB)):FnOk P w K mg base CX0 6 f fd ["causes", "road", "place", "known"] (spD K true tW):=by
 have sc:=VH
 refine F.ok sc (fun vs H Q E h=>zH (fun _ _⟨_,_,_,_,_,e,_⟩=>by rw [e];rfl) h) (fun cdv A outer s H vs Q E hr h=>?_)
 obtain ⟨Fh,ds,d,le,dp,p,q⟩:=h
 refine ⟨_,(ze (pS (i:=4) sc.nd (pX (zu (K:=K) rfl) (pv 1) (pv 2)))
   (ze (ye (yC (pF c_is_vee hr (zb (pv 0) (zb (pv 1) (zb (pv 2) zd))))) (zf (zy (ZG (pF c_meet hr (zb (pF c_beneath hr (zb (pv 0) (zb (zU (zb (pv 4) zd)) zd))) (zb (pv 3) zd)))))) zL)
   (zf (zy (yy (zG (K:=K) rfl) (pv 4) (pv 3) (rfl)))))),?_⟩
 have hN:=sc.n 5
 obtain ⟨n,cs,r,kn,k,rfl,ok,n12,hr,k1,kl,hk,rfl⟩:=p
 have xn:=Vn hr (show k < r.length by omega)
 have a0:=xb (r:=r) (show k < r.length by omega)
 walk_at"run"
 refine exs false (d:=.int (r.getD k 0:Nat)) (zI (κ:=false) (by walk_at"ev") (by walk_at"ev") a0) (by walk_at"sc") ?_
 have rl:=vq n (effF cs) [r.getD k 0]
 refine vE (b:=veeB cs r k) (et_B (zk (by walk_at"ev") ⟨n,cs,r,k,rfl,ok,hr,k1,kl,rfl⟩)) (fun h=>?_) (fun h=>?_)
 ·refine exrs true (ZY (zk (zg (zk (ds:=[nls cs,.list [.int (r.getD k 0:Nat)]]) (d:=nl (rchL n (effF cs) [r.getD k 0])) (by walk_at"ev") ⟨n,cs,[r.getD k 0],rfl,ok,n12,VO xn,rfl⟩) (zg (by walk_at"ev") zC)) ⟨rchL n (effF cs) [r.getD k 0],kn,rfl,by omega,rfl⟩)) ?_ (.inl ⟨rfl,rfl⟩)
  show _=PyData.bool (barB n cs r kn k)
  unfold barB
  rw [h]
  rfl
 ·refine exn ?_
  refine zM true (EvE.eq (zW (neg:=false) (i:=(r.getD k 0:Nat)) (ns:=zl kn) (by walk_at"ev") (EvE.toL (EvE.eq (κ:=false) (by walk_at"ev") (ya _)))) (congrArg PyData.bool zV)) ?_ (.inl ⟨rfl,rfl⟩)
  show _=PyData.bool (barB n cs r kn k)
  unfold barB
  rw [h]
  rfl
theorem zcG {ns:List Int} {k:Nat} (h:k < ns.length):atI (ns.map PyData.int) (k:Int)=some (.int (ns.getD k 0)):=by
 rw [ζd,ζp h]
 exact yt (ζp h)
structure OrdN (n:Nat) (ord:List Nat):Prop where
 l:ord.length=n
 e:∀ x∈ord,x < n
 nd:ord.Nodup
theorem OrdN.at (h:OrdN n ord) {k:Nat} (hk:k < n):atI (ord.map fun k:Nat=>PyData.int (k:Int)) (k:Int)=some (.int (ord.getD k 0:Nat))∧ord.getD k 0 < n:=by
 have z:ord[k]?=some (ord.getD k 0):=zQ (by rw [h.l]; exact hk)
 exact ⟨yt z,h.e _ (ζk z)⟩
theorem OrdN.ne (h:OrdN n ord) (hi:i < n) (hj:j < n) (hij:i≠j):ord.getD i 0≠ord.getD j 0:=by
 have z1:ord[i]?=some (ord.getD i 0):=zQ (by rw [h.l]; exact hi)
 have z2:ord[j]?=some (ord.getD j 0):=zQ (by rw [h.l]; exact hj)
 intro e
 rw [← e] at z2
 obtain ⟨a1,b1⟩:=ζe.mp z1
 obtain ⟨a2,b2⟩:=ζe.mp z2
 exact hij ((ξN h.nd).mp (b1.trans b2.symm))
theorem OrdN.fresh (h:OrdN n ord) (hj:j < n):ord.getD j 0∉ord.take j:=fun z=>by
 obtain ⟨m,hm,e⟩:=ξo.mp z
 rw [ζ7] at hm
 rw [List.getElem_take] at e
 refine h.ne (i:=m) (by omega) hj (by omega) ?_
 rw [← e,ζd,ζp (by omega)]
 rfl
def ud (kin:List (List Nat)) (o x:Nat):List (List Nat):=kin.set o (kin.getD o [] ++ [x])
theorem zcJ (kin:List (List Nat)) {o x:Nat}:(kin.map kD).set o (kD (kin.getD o []) ++ [.int (x:Int)])=(ud kin o x).map kD:=by
 unfold ud
 rw [List.map_set]
 congr 1
 unfold kD
 rw [ζo]
 rfl
theorem zev (n:Nat):List.replicate n ([]:List PyData)=(List.replicate n ([]:List Nat)).map kD:=by
 rw [List.map_replicate]
 rfl
theorem Vp (kin:List (List Nat)) (h:p≠o):(ud kin o x).getD p []=kin.getD p []:=by
 unfold ud
 rw [ζd,ζd (i:=p),ζC (Ne.symm h)]
theorem Vq (kin:List (List Nat)) (h:o < kin.length):(ud kin o x).getD o []=kin.getD o [] ++ [x]:=by
 unfold ud
 rw [ζd,ζv h]
 rfl
theorem W6 (n o:Nat):(List.replicate n ([]:List Nat)).getD o []=[]:=by
 rw [ζd,ξD]
 split <;> rfl
theorem OrdN.idx (h:OrdN n ord) (hi:i < n):ord.idxOf (ord.getD i 0)=i:=by
 have z:ord[i]?=some (ord.getD i 0):=zQ (by rw [h.l]; exact hi)
 have m:=ζk z
 have l:=List.idxOf_lt_length_iff.mpr m
 have e:=List.getElem_idxOf l
 obtain ⟨a,b⟩:=ζe.mp z
 exact (ξN h.nd).mp (e.trans b.symm)
def Dg (cs:List (List Nat)):Prop:=∃ rk:Nat→Nat,∀ e c,c∈cs.getD e []→rk c < rk e
def UpO (ord:List Nat) (css:List (List Nat)):Prop:=∀ e c,c∈css.getD e []→ord.idxOf c < ord.idxOf e
theorem UpO.nil (ord:List Nat) (n:Nat):UpO ord (List.replicate n []):=fun e c h=>by rw [W6] at h; cases h
theorem UpO.add (h:UpO ord css) (ho:o < css.length) (hx:ord.idxOf x < ord.idxOf o):UpO ord (ud css o x):=fun e c hc=>by
 by_cases q:e=o
 ·subst q
  rw [Vq _ ho] at hc
  rcases ζq.mp hc with hc | hc
  ·exact h _ _ hc
  ·rw [ζc.mp hc]; exact hx
 ·rw [Vp _ q] at hc
  exact h _ _ hc
theorem zay (css:List (List Nat)) (e:Nat):(css.map srtN).getD e []=srtN (css.getD e []):=by
 rw [ζd,ζd,ζs]
 cases css[e]? with
 | none=>exact (List.perm_nil.mp (xl [])).symm
 | some r=>rfl
theorem UpO.sort (h:UpO ord css):∀ e c,c∈(css.map srtN).getD e []→ord.idxOf c < ord.idxOf e:=fun e c hc=>by
 rw [zay] at hc
 exact h e c ((xl _).mem_iff.mp hc)
def tot (cs:List (List Nat)):Nat:=((List.range cs.length).map fun e=>(cs.getD e []).length).sum
theorem Qv {f g:Nat→Nat}:∀ n,(∀ e,f e=g e)→((List.range n).map f).sum=((List.range n).map g).sum:=fun n h=>by rw [show f=g from funext h]
def vL (cs:List (List Nat)):Prop:=∀ e,(cs.getD e []).Nodup
theorem wD (ks:List Nat):SeqAt.shaped (nl ks)=true:=YA (Zm (fun _=>rfl) ks) (by
 have:=vX (g:=fun k:Nat=>PyData.int (k:Int)) (n:=0) (fun _=>ζh _) ks
 show PyData.depthAll _ + 1≤50
 omega)
theorem ue (cs:List (List Nat)):SeqAt.shaped (nls cs)=true:=YA (Zm (g:=nl) (fun k=>Zm (g:=fun k:Nat=>PyData.int (k:Int)) (fun _=>rfl) k) cs) (by
 have:=vX (g:=nl) (n:=1) (fun k=>by
  have:=vX (g:=fun k:Nat=>PyData.int (k:Int)) (n:=0) (fun _=>ζh _) k
  show PyData.depthAll _ + 1≤1
  omega) cs
 show PyData.depthAll _ + 1≤50
 omega)
theorem ZE (u:Int) {n:Nat} (h:0 < n):∃ m:Nat,u % (n:Int)=(m:Int)∧m < n:=⟨(u % (n:Int)).toNat,by
 have h1:=Int.emod_nonneg u (show (n:Int)≠0 by omega)
 have h2:=Int.emod_lt_of_pos u (show (0:Int) < (n:Int) by omega)
 omega⟩
theorem zcw (l:List Nat):PyData.eqv (nl l) (.list [])=decide (l=[]):=by cases l <;> rfl
theorem xZ {l:List Nat} (h:l.reverse.Nodup):l.Nodup:=(List.pairwise_reverse.mp h).imp fun hne e=>hne e.symm
inductive Pth (cs:List (List Nat)) (x:Nat):List Nat→Prop
 | one:Pth cs x [x]
 | more {u v:Nat} {s:List Nat}:Pth cs x (v :: s)→Dsp.Adj (paC cs) v u→u∉v :: s→Pth cs x (u :: v :: s)
theorem Pth.nd (h:Pth cs x l):l.Nodup:=by
 induction h with
 | one=>simp
 | more _ _ n ih=>exact ζU.mpr ⟨n,ih⟩
theorem Pth.last (h:Pth cs x l):l.getLast?=some x:=by
 induction h with
 | one=>rfl
 | more _ _ _ ih=>rw [List.getLast?_cons_cons]; exact ih
theorem Pth.lt (ok:ShOk n cs) (hx:x < n) (h:Pth cs x l):∀ y∈l,y < n:=by
 induction h with
 | one=>exact fun y hy=>by rw [ζc.mp hy]; exact hx
 | more _ a _ ih =>
  intro y hy
  rcases ζz.mp hy with rfl | hy
  ·rcases a with a | a
   ·exact (ZI ok a).2
   ·exact (ZI ok a).1
  ·exact ih y hy
def onB (cs:List (List Nat)) (r:List Nat) (k:Nat):Bool:=!decide (k∈r) && (decide (k∈cs.getD (r.getLastD 0) []) || decide (r.getLastD 0∈cs.getD k []))
def onR (cs:List (List Nat)) (r:List Nat) (j:Nat):List (List Nat):=((List.range j).filter (onB cs r)).map fun k=>r ++ [k]
theorem TW {r:List Nat} {v:Nat} {s:List Nat} (h:r.reverse=v :: s):r.getLastD 0=v∧r.getLast?=some v:=by
 have e:r=s.reverse ++ [v]:=by rw [← List.reverse_reverse r,h,List.reverse_cons]
 rw [e]
 exact ⟨by rw [ξn,List.getLast?_append]; rfl,by rw [List.getLast?_append]; rfl⟩
theorem Xz {cs:List (List Nat)} {x:Nat} {r:List Nat} {k:Nat} (h:Pth cs x r.reverse):Pth cs x (r ++ [k]).reverse↔onB cs r k=true:=by
 rw [List.reverse_append]
 show Pth cs x (k :: r.reverse)↔_
 cases e:r.reverse with
 | nil=>rw [e] at h; cases h
 | cons v s =>
  rw [e] at h
  have lh:=TW e
  have mr:k∈r↔k∈v :: s:=by rw [← e,ζ6]
  unfold onB
  rw [lh.1]
  constructor
  ·intro p
   cases p with
   | more _ a n =>
    rw [decide_eq_false fun z=>n (mr.mp z)]
    rcases a with a | a
    ·rw [decide_eq_true (show v∈cs.getD k [] from a),Bool.or_true]; rfl
    ·rw [decide_eq_true (show k∈cs.getD v [] from a),Bool.true_or]; rfl
  ·intro b
   obtain ⟨b1,b2⟩:=ζP.mp b
   refine .more h ?_ fun z=>?_
   ·rcases Bool.or_eq_true_iff.mp b2 with z | z
    ·exact .inr (of_decide_eq_true z)
    ·exact .inl (of_decide_eq_true z)
   ·rw [decide_eq_true (mr.mpr z)] at b1
    cases b1
theorem UD:∀ {t r:List Nat},Pth cs x (r ++ t).reverse→r≠[]→Pth cs x r.reverse:=by
 intro t
 induction t with
 | nil=>intro r h _; rwa [ζG] at h
 | cons k t ih =>
  intro r h hr
  have h2:=ih (r:=r ++ [k]) (by rw [List.append_assoc]; exact h) (by simp)
  rw [List.reverse_append] at h2
  have h2:Pth cs x (k :: r.reverse):=h2
  cases e:r.reverse with
  | nil=>exact absurd (List.reverse_eq_nil_iff.mp e) hr
  | cons v s =>
   rw [e] at h2
   cases h2 with
   | more p _ _=>exact p
theorem zdv (h:a <+: b) (nd:b.Nodup) (hl:a.getLast?=b.getLast?) (ha:a≠[]):a=b:=by
 obtain ⟨t,rfl⟩:=h
 cases t with
 | nil=>rw [ζG]
 | cons k t =>
  exfalso
  rw [List.getLast?_append,List.getLast?_cons] at hl
  cases e:a.getLast? with
  | none=>exact ha (List.getLast?_eq_none_iff.mp e)
  | some v =>
   rw [e] at hl
   have hv:v∈k :: t:=by
    have e2:(k :: t).getLast?=some v:=by rw [List.getLast?_cons]; simpa using hl.symm
    exact List.mem_of_getLast? e2
   exact ((ζR.mp nd).2.2 v (List.mem_of_getLast? e) v hv) rfl
theorem UH (cs:List (List Nat)) (r:List Nat) (j:Nat):onR cs r (j + 1)=if onB cs r j=true then onR cs r j ++ [r ++ [j]] else onR cs r j:=by
 unfold onR
 rw [ξx,ζ4]
 by_cases c:onB cs r j=true
 ·rw [if_pos c,ξs c,ζo]; rfl
 ·rw [if_neg c,ξt c,ξq,ζG]
def arrL (cs:List (List Nat)):List (Nat×Nat):=(List.range cs.length).flatMap fun e=>(cs.getD e []).map fun c=>(c,e)
theorem zcI (cs:List (List Nat)):(arrL cs).length=tot cs:=by
 unfold arrL tot
 rw [List.length_flatMap]
 exact Qv _ fun e=>ζb ..
theorem Td (h:c∈cs.getD e []):(c,e)∈arrL cs:=by
 have el:e < cs.length:=Classical.byContradiction fun z=>by
  rw [ζd,ζT (by omega)] at h
  cases h
 exact ξL.mpr ⟨e,ζD.mpr el,ζn.mpr ⟨c,h,rfl⟩⟩
def frB (r:List Nat) (a:Nat×Nat):Bool:=!decide (a.1∈r.dropLast) && !decide (a.2∈r.dropLast)
def gW (cs:List (List Nat)) (r:List Nat):Nat:=2 ^ ((arrL cs).filter (frB r)).length
def gS (cs:List (List Nat)) (ls:List (List Nat)):Nat:=(ls.map (gW cs)).sum
theorem zdW (cs:List (List Nat)) (r:List Nat):1≤gW cs r:=Nat.two_pow_pos _
theorem cut2 (p q:α→Bool):∀ l:List α,(l.filter p).length=(l.filter fun a=>p a && q a).length + (l.filter fun a=>p a && !q a).length
 | []=>rfl
 | a :: l=>by
  have ih:=cut2 p q l
  rw [ξO,ξO,ξO]
  cases p a <;> cases q a <;> simp only [Bool.true_and,Bool.false_and,Bool.not_true,Bool.not_false,if_true,Bool.false_eq_true,if_false,List.length_cons] <;> omega
theorem Uy:∀ (l p:List Nat),l.Nodup→(∀ k∈l,k∈p)→l.length≤p.length
 | [],_,_,_=>ζL _
 | a :: l,p,nd,h=>by
  obtain ⟨n1,n2⟩:=ζU.mp nd
  have ap:=h a ζj
  have ih:=Uy l (p.erase a) n2 fun k hk=>(List.mem_erase_of_ne (fun e:k=a=>n1 (e ▸ hk))).mpr (h k (ζr _ hk))
  rw [ξV ap] at ih
  have:=ζ9 ap
  rw [ζO]
  omega
def otE (v:Nat) (a:Nat×Nat):Nat:=if a.1=v then a.2 else a.1
def incB (v:Nat) (a:Nat×Nat):Bool:=decide (a.1=v) || decide (a.2=v)
def outB (r:List Nat) (a:Nat×Nat):Bool:=!decide (a.1∈r) && !decide (a.2∈r)
theorem zdH (nd:(r0 ++ [v]).Nodup) (n:Nat):((List.range n).filter (onB cs (r0 ++ [v]))).length + ((arrL cs).filter (outB (r0 ++ [v]))).length≤((arrL cs).filter (frB (r0 ++ [v]))).length:=by
 have vr:v∉r0:=fun z=>(ζR.mp nd).2.2 v z v (ζc.mpr rfl) rfl
 have dl:(r0 ++ [v]).dropLast=r0:=ξp
 have lD:(r0 ++ [v]).getLastD 0=v:=by rw [ξn,List.getLast?_append]; rfl
 rw [cut2 (frB (r0 ++ [v])) (incB v)]
 have e:(arrL cs).filter (fun a=>frB (r0 ++ [v]) a && !incB v a)=(arrL cs).filter (outB (r0 ++ [v])):=by
  refine congrArg (fun p=>(arrL cs).filter p) (funext fun a=>?_)
  unfold frB incB outB
  rw [dl]
  have m:∀ k,decide (k∈r0 ++ [v])=(decide (k∈r0) || decide (k=v)):=fun k=>by
   rw [← Bool.decide_or]
   exact decide_eq_decide.mpr (by rw [ζq,ζc])
  rw [m,m]
  cases decide (a.1∈r0) <;> cases decide (a.2∈r0) <;> cases decide (a.1=v) <;> cases decide (a.2=v) <;> rfl
 rw [e]
 refine Nat.add_le_add_right ?_ _
 rw [← ζb (f:=otE v)]
 refine Uy _ _ (List.nodup_range.filter _) fun k hk=>?_
 have hb:=(ζl.mp hk).2
 unfold onB at hb
 rw [lD] at hb
 obtain ⟨b1,b2⟩:=ζP.mp hb
 have kn:k∉r0 ++ [v]:=by simpa using b1
 have k0:k∉r0:=fun z=>kn (ζF _ z)
 have kv:k≠v:=fun z=>kn (ζg _ (ζc.mpr z))
 rcases Bool.or_eq_true_iff.mp b2 with z | z
 ·refine ζn.mpr ⟨(k,v),ζl.mpr ⟨Td (of_decide_eq_true z),?_⟩,if_neg kv⟩
  unfold frB incB
  rw [dl,decide_eq_false k0,decide_eq_false vr,decide_eq_true (show (k,v).2=v from rfl),Bool.or_true]
  rfl
 ·refine ζn.mpr ⟨(v,k),ζl.mpr ⟨Td (of_decide_eq_true z),?_⟩,if_pos rfl⟩
  unfold frB incB
  rw [dl,decide_eq_false k0,decide_eq_false vr,decide_eq_true (show (v,k).1=v from rfl),Bool.true_or]
  rfl
theorem zbJ (h:d + b≤m):d * 2 ^ b + 1≤2 ^ m:=by
 have h1:2 ^ (d + b)≤2 ^ m:=Nat.pow_le_pow_right (by decide) h
 rw [Nat.pow_add] at h1
 have h2:(d + 1) * 2 ^ b≤2 ^ d * 2 ^ b:=Nat.mul_le_mul_right _ Nat.lt_two_pow_self
 have h3:=Nat.two_pow_pos b
 rw [Nat.add_mul,Nat.one_mul] at h2
 omega
theorem W7 (cs:List (List Nat)) (c:Nat):∀ le:List (List Nat),(∀ r∈le,gW cs r=c)→gS cs le=le.length * c
 | [],_=>by rw [List.length_nil,Nat.zero_mul]; rfl
 | r :: le,h=>by
  have e:gS cs (r :: le)=gW cs r + gS cs le:=rfl
  rw [e,h r ζj,W7 cs c le fun q hq=>h q (ζr _ hq),ζO,Nat.add_mul,Nat.one_mul,Nat.add_comm]
theorem zdX (cs:List (List Nat)) (a b:List (List Nat)):gS cs (a ++ b)=gS cs a + gS cs b:=by
 unfold gS
 rw [ζo,List.sum_append]
theorem zaz (cs:List (List Nat)):∀ le:List (List Nat),le.length≤gS cs le
 | []=>ζL _
 | r :: le=>by
  have:=zaz cs le
  have h:=zdW cs r
  show le.length + 1≤gW cs r + gS cs le
  omega
theorem zbS (nd:(r0 ++ [v]).Nodup) (n:Nat):gS cs (onR cs (r0 ++ [v]) n) + 1≤gW cs (r0 ++ [v]):=by
 rw [W7 cs (2 ^ ((arrL cs).filter (outB (r0 ++ [v]))).length) (onR cs (r0 ++ [v]) n) fun q hq=>by
  obtain ⟨k,_,rfl⟩:=ζn.mp hq
  unfold gW
  have:frB (r0 ++ [v] ++ [k])=outB (r0 ++ [v]):=funext fun a=>by
   unfold frB outB
   rw [ξp]
  rw [this]]
 unfold onR
 rw [ζb]
 exact zbJ (zdH nd n)
theorem wF {r:List Nat} {i:Nat} (h:i < r.length):r.reverse.getD i 0=r.getD (r.length - 1 - i) 0:=by
 rw [ζd,ζd,List.getElem?_reverse h]
theorem zac:∀ {l:List Nat},Dsp.Ok pa Z l↔(∀ i,i + 1 < l.length→Dsp.Adj pa (l.getD (i + 1) 0) (l.getD i 0))∧∀ i,i + 2 < l.length→Dsp.Cd pa Z (l.getD (i + 2) 0) (l.getD (i + 1) 0) (l.getD i 0)
 | []=>⟨fun _=>⟨fun _ z=>absurd z (ζY _),fun _ z=>absurd z (ζY _)⟩,fun _=>by rw [Dsp.Ok]; trivial⟩
 | [a]=>⟨fun _=>⟨fun _ z=>absurd z (by simp),fun _ z=>absurd z (by simp)⟩,fun _=>Dsp.XN⟩
 | u :: v :: s=>by
  rw [Dsp.yh,zac (l:=v :: s)]
  constructor
  ·rintro ⟨h1,h2,h3,h4⟩
   refine ⟨fun i hi=>?_,fun i hi=>?_⟩
   ·cases i with
    | zero=>exact h1
    | succ i=>exact h3 i (by simp only [List.length_cons] at hi ⊢; omega)
   ·cases i with
    | zero =>
     cases s with
     | nil=>simp at hi
     | cons t s=>exact h2 t rfl
    | succ i=>exact h4 i (by simp only [List.length_cons] at hi ⊢; omega)
  ·rintro ⟨h1,h2⟩
   refine ⟨h1 0 (by simp),fun t ht=>?_,fun i hi=>h1 (i + 1) (by simp only [List.length_cons] at hi ⊢; omega),fun i hi=>h2 (i + 1) (by simp only [List.length_cons] at hi ⊢; omega)⟩
   cases s with
   | nil=>cases ht
   | cons t' s=>cases ht; exact h2 0 (by simp)
theorem zbE (h:Pth cs x l):∀ i,i + 1 < l.length→Dsp.Adj (paC cs) (l.getD (i + 1) 0) (l.getD i 0):=by
 induction h with
 | one=>exact fun i z=>absurd z (by simp)
 | more _ a _ ih =>
  intro i hi
  cases i with
  | zero=>exact a
  | succ i=>exact ih i (by simp only [List.length_cons] at hi ⊢; omega)
theorem VJ:∀ {l:List Nat},Dsp.Ok (paC cs) Z l→l.Nodup→l.getLast?=some x→Pth cs x l
 | [],_,_,e=>by cases e
 | [_],_,_,e=>by cases e; exact .one
 | u :: v :: s,h,nd,e=>by
  obtain ⟨h1,_,h3⟩:=Dsp.yh.mp h
  obtain ⟨n1,n2⟩:=ζU.mp nd
  exact .more (VJ h3 n2 (by rw [List.getLast?_cons_cons] at e; exact e)) h1 n1
def nbr (cs:List (List Nat)) (v:Nat):List Nat:=cs.getD v [] ++ effF cs v
def xV (ds:List PyData) (d:PyData):Prop:=∃ (n:Nat) (cs:List (List Nat)) (k:Nat),ds=[nls cs,.int k]∧ShOk n cs∧n≤12∧k < n∧d=nl (nbr cs k)
theorem Yh:zA ["causes", "k"] ["causes", "k"] (zo (top 18)):={}
theorem Yo (F:Fun K "neighbours" "neighbours" (top 18) f fd) (B:Bs mg) (Z:Cs K mg τa τb) (c_effects:zz P w K mg base CX0 "effects" ["causes", "k"] 1 (spD K true yY)):FnOk P w K mg base CX0 2 f fd ["causes", "k"] (spD K true xV):=by
 have sc:=Yh
 refine F.ok sc (fun vs H Q E h=>zH (fun _ _⟨_,_,_,e,_⟩=>by rw [e];rfl) h) (fun cdv A outer s H vs Q E hr h=>?_)
 obtain ⟨Fh,ds,d,le,dp,p,q⟩:=h
 refine ⟨_,(zf (zy (zJ (wI (K:=K) rfl) (pX (zu (K:=K) rfl) (pv 0) (pv 1)) (pF c_effects hr (zb (pv 0) (zb (pv 1) zd)))))),?_⟩
 have hN:=sc.n 2
 obtain ⟨n,cs,k,rfl,ok,n12,hk,rfl⟩:=p
 have big:=zD
 have cl:=ok.l
 have ac:atI (cs.map nl) (k:Int)=some (nl (cs.getD k [])):=yt (ok.at hk).1
 have l1:=(ok.at hk).2.2
 have l2:=(Ue ok n12).l k hk
 walk_at"run"
 refine zM true (EvO.toE (EvO.eq (wZ (xs:=(cs.getD k []).map fun k:Nat=>.int (k:Int)) (ys:=(effF cs k).map fun k:Nat=>.int (k:Int)) (EvL.imm (κ:=false) (EvE.toL (zI (κ:=false) (by walk_at"ev") (by walk_at"ev") ac)) (xY _)) (EvL.imm (κ:=false) (EvE.toL (zk (by walk_at"ev") ⟨cs,k,rfl,by omega,rfl⟩)) (xY _)) (by rw [List.length_map,List.length_map]; omega)) (by unfold nbr; rw [List.map_append]))) rfl (.inl ⟨rfl,rfl⟩)
def vsI (cs:List (List Nat)) (r:List Nat):List Nat:=(List.range (r.length - 2)).filter fun i=>veeB cs r (1 + i)
def vsF (cs:List (List Nat)) (r:List Nat):List Nat:=(vsI cs r).map fun i=>r.getD (1 + i) 0
def vN (cs:List (List Nat)) (r:List Nat):Nat:=(vsI cs r).length
theorem zbj (cs:List (List Nat)) (r:List Nat):(vsF cs r).length=vN cs r:=ζb ..
theorem zet (cs:List (List Nat)) (r:List Nat):vN cs r≤r.length - 2:=by
 have:=ζE (fun i=>veeB cs r (1 + i)) (List.range (r.length - 2))
 rwa [ζu] at this
def WN (ds:List PyData) (d:PyData):Prop:=∃ (n:Nat) (cs:List (List Nat)) (r:List Nat),ds=[nls cs,nl r]∧ShOk n cs∧(∀ x∈r,x < n)∧r.length≤1000∧d=nl (vsF cs r)
theorem zbx:zA ["causes", "road"] ["causes", "road"] (zo (top 21)):={}
theorem zbU (F:Fun K "vees" "vees" (top 21) f fd) (B:Bs mg) (Z:Cs K mg τa τb) (c_inner_places:zz P w K mg base CX0 "inner_places" ["road"] 1 (spD K true wG)) (c_is_vee:zz P w K mg base CX0 "is_vee" ["causes", "road", "place"] 1 (spD K true uh)):FnOk P w K mg base CX0 2 f fd ["causes", "road"] (spD K true WN):=by
 have sc:=zbx
 refine F.ok sc (fun vs H Q E h=>zH (fun _ _⟨_,_,_,e,_⟩=>by rw [e];rfl) h) (fun cdv A outer s H vs Q E hr h=>?_)
 obtain ⟨Fh,ds,d,le,dp,p,q⟩:=h
 refine ⟨_,(zf (zy (yc rfl (N:=["place", "road", "causes"]) (js:=[none,some 1,some 0]) (by walk_at"comp_ok") (zE (K:=K) rfl (pF c_inner_places hr (zb (pv 1) zd))) (fun _ _ _ _=>(pN (i:=0) (show υN ["place", "road", "causes"] by decide +kernel))) (fun _ _ _ _=>(yS (yC (pF c_is_vee hr (zb (pv 2) (zb (pv 1) (zb (pv 0) zd))))))) (fun _ _ _ _=>(pX (zu (K:=K) rfl) (pv 1) (pv 0)))))),?_⟩
 have hN:=sc.n 2
 obtain ⟨n,cs,r,rfl,ok,hr,rl,rfl⟩:=p
 have big:=zD
 walk_at"run"
 refine zM true (EvO.toE (EvO.eq (yo (κ:=true) (is:=[0]) (xs:=List.range (r.length - 2)) true (fun i:Nat=>.int (1 + (i:Int))) (fun i=>.int (r.getD (1 + i) 0:Nat)) (fun i=>veeB cs r (1 + i)) (fun x _ y _ h=>?_) (zN (zk (by walk_at"ev") ⟨r,rfl,rl,rfl⟩)) (by walk_at"cc") rfl (by decide) (by rw [List.length_range]; omega) ?_) (by unfold vsF vsI; rw [List.map_map]; rfl))) rfl (.inl ⟨rfl,rfl⟩)
 ·have e:x=y:=by have:=PyData.int.inj h; omega
  subst e
  exact ⟨rfl,rfl⟩
 ·intro i hi
  have hi:=ζD.mp hi
  rw [show (1:Int) + (i:Int)=((1 + i:Nat):Int) by omega]
  exact egn (by walk_at"sc") ⟨et_B (zk (by walk_at"ev") ⟨n,cs,r,1 + i,rfl,ok,hr,by omega,by omega,rfl⟩),fun _=>EvE.imm (κ:=false) (zI (κ:=false) (by walk_at"ev") (by walk_at"ev") (xb (by omega))) rfl⟩
noncomputable def goB (n:Nat) (cs:List (List Nat)) (kn r:List Nat):Bool:=decide (r.length < 3) || !barB n cs r kn (r.length - 2)
def tV (ds:List PyData) (d:PyData):Prop:=∃ (n:Nat) (cs:List (List Nat)) (r kn:List Nat),ds=[nls cs,nl r,nl kn]∧ShOk n cs∧n≤12∧(∀ x∈r,x < n)∧kn.length≤1000∧d=.bool (goB n cs kn r)
theorem VE:zA ["causes", "road", "known"] ["causes", "road", "known"] (zo (top 25)):={}
theorem VU (F:Fun K "goes_on" "goes_on" (top 25) f fd) (B:Bs mg) (Z:Cs K mg τa τb) (c_bars_at:zz P w K mg base CX0 "bars_at" ["causes", "road", "place", "known"] 6 (spD K true tW)):FnOk P w K mg base CX0 7 f fd ["causes", "road", "known"] (spD K true tV):=by
 have sc:=VE
 refine F.ok sc (fun vs H Q E h=>zH (fun _ _⟨_,_,_,_,e,_⟩=>by rw [e];rfl) h) (fun cdv A outer s H vs Q E hr h=>?_)
 obtain ⟨Fh,ds,d,le,dp,p,q⟩:=h
 refine ⟨_,(zf (zy (zex (yy YH (pB (zm (K:=K) rfl) B.len (zb (pv 1) zd)) zh (zF _)) (XE (ZG (pF c_bars_at hr (zb (pv 0) (zb (pv 1) (zb (zJ vC (pB (zm (K:=K) rfl) B.len (zb (pv 1) zd)) zh) (zb (pv 2) zd)))))))))),?_⟩
 have hN:=sc.n 3
 obtain ⟨n,cs,r,kn,rfl,ok,n12,hr,hk,rfl⟩:=p
 have er:PyData.int (((r.map fun k:Nat=>PyData.int (k:Int)).length:Nat):Int)=.int (r.length:Int):=by rw [ζb]
 walk_at"run"
 refine zM true (EvE.eq (zc6 (a:=decide ((r.length:Int) < 3)) (b:=!barB n cs r kn (r.length - 2)) (YV (EvE.eq (yb (ds:=r.map fun k:Nat=>.int (k:Int)) (EvE.toL (by walk_at"ev"))) er) (by walk_at"ev")) (fun h=>?_)) ?_) rfl (.inl ⟨rfl,rfl⟩)
 ·have h:¬ (r.length:Int) < 3:=of_decide_eq_false h
  exact ZY (zk (zg (by walk_at"ev") (zg (by walk_at"ev") (zg (EvE.eq (ZW (EvE.eq (yb (ds:=r.map fun k:Nat=>.int (k:Int)) (EvE.toL (by walk_at"ev"))) er) (by walk_at"ev")) (congrArg PyData.int (show (r.length:Int) - 2=((r.length - 2:Nat):Int) by omega))) (zg (by walk_at"ev") zC)))) ⟨n,cs,r,kn,r.length - 2,rfl,ok,n12,hr,by omega,by omega,hk,rfl⟩)
 ·unfold goB
  rw [show decide ((r.length:Int) < 3)=decide (r.length < 3) from decide_eq_decide.mpr (by omega)]
noncomputable def lgB (n:Nat) (cs:List (List Nat)) (kn r:List Nat) (k:Nat):Bool:=!decide (k∈r) && goB n cs kn (r ++ [k])
noncomputable def lgR (n:Nat) (cs:List (List Nat)) (kn r:List Nat):List (List Nat):=((nbr cs (r.getLastD 0)).filter (lgB n cs kn r)).map fun k=>r ++ [k]
theorem zce {α β:Type} (f:α→List β) {rs:List α} {i:Nat} {r:α} (h:rs[i]?=some r):∃ t,rs.flatMap f=(rs.take i).flatMap f ++ (f r ++ t):=by
 obtain ⟨hi,rfl⟩:=ζe.mp h
 refine ⟨(rs.drop (i + 1)).flatMap f,?_⟩
 have e:rs=rs.take i ++ (rs[i] :: rs.drop (i + 1)):=by rw [← ξA hi,ξ9]
 conv=>lhs; rw [e]
 rw [List.flatMap_append,ξX]
def xX (ds:List PyData) (d:PyData):Prop:=∃ (n:Nat) (cs:List (List Nat)) (kn:List Nat) (rs:List (List Nat)),ds=[nls cs,nls rs,nl kn]∧ShOk n cs∧n≤12∧kn.length≤1000∧(∀ r∈rs,(∀ x∈r,x < n)∧1≤r.length∧r.length≤12)∧(rs.flatMap (lgR n cs kn)).length≤100000∧d=nls (rs.flatMap (lgR n cs kn))
theorem Yj:zA ["causes", "roads", "known", "found", "road", "k"] ["causes", "roads", "known"] (zo (top 24)):={}
theorem Yq (F:Fun K "all_longer" "all_longer" (top 24) f fd) (B:Bs mg) (Z:Cs K mg τa τb) (c_neighbours:zz P w K mg base CX0 "neighbours" ["causes", "k"] 2 (spD K true xV)) (c_goes_on:zz P w K mg base CX0 "goes_on" ["causes", "road", "known"] 7 (spD K true tV)):FnOk P w K mg base CX0 8 f fd ["causes", "roads", "known"] (spD K true xX):=by
 have sc:=Yj
 refine F.ok sc (fun vs H Q E h=>zH (fun _ _⟨_,_,_,_,e,_⟩=>by rw [e];rfl) h) (fun cdv A outer s H vs Q E hr h=>?_)
 obtain ⟨Fh,ds,d,le,dp,p,q⟩:=h
 refine ⟨_,(ze (pS (i:=3) sc.nd (zU zd))
   (ze (yF PassesOwn.never rfl (zE (K:=K) rfl (pv 1)) (pN (i:=4) sc.nd) (zf (yF PassesOwn.never rfl (zE (K:=K) rfl (pF c_neighbours hr (zb (pv 0) (zb (pX (zu (K:=K) rfl) (pv 4) (ub wq zh)) zd)))) (pN (i:=5) sc.nd) (zf (ye (PW.pt (xE (zr (yd (K:=K) rfl) (pv 5) (pv 4) (rfl)) (xy (yC (pF c_goes_on hr (zb (pv 0) (zb (zJ (wI (K:=K) rfl) (pv 4) (zU (zb (pv 5) zd))) (zb (pv 2) zd)))))))) (zf (yB (yN (K:=K) rfl ζx ζK ζJ yf (pv 3) (zb (zJ (wI (K:=K) rfl) (pv 4) (zU (zb (pv 5) zd))) zd)))) zL)))))
   (zf (zy (pv 3))))),?_⟩
 have hN:=sc.n 6
 obtain ⟨n,cs,kn,rs,rfl,ok,n12,hk,hrs,bd,rfl⟩:=p
 have big:=zD
 walk_at"run"
 refine exo true (ds:=([]:List (List Nat)).map nl) (zZ (ds:=[]) zC (by decide)) (by walk_at"sc") ?_
 refine vi (ds:=rs.map nl) false (fun i Γ=>∃ u v,Γ=[some (.fz false (nls cs)),some (.fz false (nls rs)),some (.fz false (nl kn)),some (.ow true (((rs.take i).flatMap (lgR n cs kn)).map nl)),u,v]) (zN (by walk_at"ev")) ⟨none,none,rfl⟩ ?_ ?_
 ·rintro i d Γ' hd ⟨u,v,rfl⟩
  obtain ⟨r,hr,rfl⟩:=xN hd
  refine ⟨_,egn (by walk_at"sc") ?_⟩
  obtain ⟨rlt,r1,r12⟩:=hrs r (ζk hr)
  obtain ⟨tl,et⟩:=zce (lgR n cs kn) hr
  have bl:=congrArg List.length et
  rw [ζf,ζf] at bl
  obtain ⟨r0,w,er⟩:∃ r0 w,r=r0 ++ [w]:=by
   rcases ξd r with rfl | ⟨wb,k,e⟩
   ·exact absurd r1 (by decide)
   ·exact ⟨wb,k,by rw [e,ξe]⟩
  have lD:r.getLastD 0=w:=by rw [ξn,er,List.getLast?_append]; rfl
  have wn:w < n:=rlt w (by rw [er]; exact ζg _ (ζc.mpr rfl))
  have aw:atI (r.map fun k:Nat=>PyData.int (k:Int)) (-1)=some (.int (w:Int)):=by rw [er,ζo]; exact vI _ _
  have tk:(rs.take (i + 1)).flatMap (lgR n cs kn)=(rs.take i).flatMap (lgR n cs kn) ++ lgR n cs kn r:=by
   rw [take_succ hr,List.flatMap_append,ξX,List.flatMap_nil,ζG]
  have eL:lgR n cs kn r=((nbr cs w).filter (lgB n cs kn r)).map fun k=>r ++ [k]:=by unfold lgR; rw [lD]
  rw [eL] at bl tk
  rw [ζb] at bl
  generalize (rs.take i).flatMap (lgR n cs kn)=fo at bl tk
  have nlt:∀ k∈nbr cs w,k < n:=fun k hk=>by
   rcases ζq.mp hk with z | z
   ·exact (ok.at wn).2.1 k z
   ·exact ((y9 ok).mp z).1
  have pn:xV [nls cs,.int (w:Int)] (nl (nbr cs w)):=⟨n,cs,w,rfl,ok,n12,wn,rfl⟩
  generalize nbr cs w=nb at bl tk nlt pn
  refine um (ds:=nb.map fun k:Nat=>.int (k:Int)) true (fun j Γ=>∃ v,Γ=[some (.fz false (nls cs)),some (.fz false (nls rs)),some (.fz false (nl kn)),some (.ow true ((fo ++ ((nb.take j).filter (lgB n cs kn r)).map fun k=>r ++ [k]).map nl)),some (.fz false (nl r)),v]) (zN (zk (zg (by walk_at"ev") (zg (zI (κ:=false) (EvE.toL (by walk_at"ev")) (uo (i:=1) (by walk_at"ev")) aw) zC)) pn)) ⟨_,by rw [ξJ,ξq,List.map_nil,ζG]⟩ ?_ ?_
  ·rintro j d Γ3 hd ⟨v,rfl⟩
   obtain ⟨k,hk',rfl⟩:=xN hd
   refine ⟨_,egn (by walk_at"sc") ?_⟩
   have kn':=nlt k (ζk hk')
   have tl2:((nb.take j).filter (lgB n cs kn r)).length≤(nb.filter (lgB n cs kn r)).length:=((List.take_sublist j nb).filter _).length_le
   have cat:∀ {κ:Bool} {Γ1:PD.Ctx},GetC Γ1 4 (.fz false (nl r))→GetC Γ1 5 (.fz true (.int k))→EvE K .fresh κ (tOp (UC K) (tVar 4) (tLst (zR (tVar 5) tNil))) Γ1 (nl (r ++ [k])):=fun h4 h5=>EvO.toE (EvO.eq (wZ (xs:=r.map fun k:Nat=>.int (k:Int)) (ys:=[.int (k:Int)]) (EvL.imm (κ:=false) (EvE.toL (ZV h4.eq)) (xY _)) (EvL.imm (κ:=true) (EvO.toL (zZ (ds:=[.int (k:Int)]) (zg (ZV h5.eq) zC) (by show 1≤sizeLine; omega))) (xY [k])) (by rw [ζb]; show _ + 1≤_; omega)) (by rw [ζo]; rfl))
   have rk:∀ x∈r ++ [k],x < n:=fun x hx=>by
    rcases ζq.mp hx with hx | hx
    ·exact rlt x hx
    ·rw [ζc.mp hx]; exact kn'
   rw [take_succ hk',ζ4]
   refine xj (b:=lgB n cs kn r k) (xu (EvT.eq (zq (zW (neg:=true) (i:=(k:Int)) (ns:=zl r) (by walk_at"ev") (EvE.toL (EvE.eq (κ:=false) (by walk_at"ev") (ya _))))) (by show (!decide _)=_; rw [zV])) fun _=>et_B (zk (zg (by walk_at"ev") (zg (cat (by walk_at"gc") (by walk_at"gc")) (zg (by walk_at"ev") zC))) ⟨n,cs,r ++ [k],kn,rfl,ok,n12,rk,hk,rfl⟩)) (fun h=>?_) (fun h=>?_)
   ·refine exa1 (d:=nl (r ++ [k])) (by walk_at"gc") (cat (by walk_at"gc") (by walk_at"gc")) (by walk_at"sc") (by rw [ζb,ζf,ζb]; omega) ?_
    refine ⟨some (.fz true (.int k)),?_⟩
    rw [ξs h,ξq,ζo (l₂:=[k]),← ξa,show List.map (fun k=>r ++ [k]) [k]=[r ++ [k]] from rfl,ζo (l₂:=[r ++ [k]])]
    rfl
   ·refine yr ⟨some (.fz true (.int k)),?_⟩
    rw [ξt (by rw [h]; exact fun z=>nomatch z),ξq,ζG]
  ·rintro Γ3 ⟨v,rfl⟩
   rw [show (nb.map fun k:Nat=>PyData.int (k:Int)).length=nb.length from ζb ..,ξf,← tk]
   exact ⟨_,_,rfl⟩
 ·rintro Γ' ⟨u,v,rfl⟩
  rw [show (rs.map nl).length=rs.length from ζb ..,ξf]
  exact exro (by walk_at"gc") rfl (.inl ⟨rfl,rfl⟩)
structure Rd (cs:List (List Nat)) (kn:List Nat) (x:Nat) (r:List Nat):Prop where
 ok:Dsp.Ok (paC cs) (InL kn) r.reverse
 nd:r.Nodup
 hd:r.head?=some x
theorem QK {l:List Nat} (h:l.Nodup):l.reverse.Nodup:=xZ (by rw [List.reverse_reverse]; exact h)
theorem Rd.pth {x:Nat} (h:Rd cs kn x r):Pth cs x r.reverse:=VJ h.ok (QK h.nd) (by rw [List.getLast?_reverse]; exact h.hd)
theorem Rd.lt (ok:ShOk n cs) (hx:x < n) (h:Rd cs kn x r):∀ z∈r,z < n:=fun z hz=>h.pth.lt ok hx z (ζ6.mpr hz)
theorem Rd.len (ok:ShOk n cs) (hx:x < n) (h:Rd cs kn x r):r.length≤n:=yV n r h.nd (h.lt ok hx)
theorem Rd.ne (h:Rd cs kn x r):r≠[]:=fun e=>by
 have:=h.hd
 rw [e] at this
 cases this
theorem Rd.pos (h:Rd cs kn x r):1≤r.length:=ζZ.mpr h.ne
theorem Rd.one (cs:List (List Nat)) (kn:List Nat) (x:Nat):Rd cs kn x [x]:=⟨Dsp.XN,by simp,rfl⟩
theorem Rd.only (h:Rd cs kn x r) (l:r.length=1):r=[x]:=by
 match r,l,h.hd with
 | [a],_,e=>cases e; rfl
theorem Xv:Rd cs kn x (r0 ++ [v] ++ [k])↔Rd cs kn x (r0 ++ [v])∧k∉r0 ++ [v]∧Dsp.Adj (paC cs) v k∧∀ t,r0.getLast?=some t→Dsp.Cd (paC cs) (InL kn) t v k:=by
 have e1:(r0 ++ [v] ++ [k]).reverse=k :: v :: r0.reverse:=by simp
 have e2:(r0 ++ [v]).reverse=v :: r0.reverse:=by simp
 constructor
 ·rintro ⟨a,b,c⟩
  rw [e1,Dsp.yh] at a
  have b':=ζR.mp b
  refine ⟨⟨by rw [e2]; exact a.2.2,b'.1,?_⟩,fun z=>b'.2.2 k z k (ζc.mpr rfl) rfl,a.1,fun t ht=>a.2.1 t (by rw [List.head?_reverse]; exact ht)⟩
  cases r0 with
  | nil=>exact c
  | cons _ _=>exact c
 ·rintro ⟨⟨a,b,c⟩,d,e,f⟩
  refine ⟨?_,List.nodup_append.mpr ⟨b,by simp,fun z hz y hy q=>d (by rw [← List.mem_singleton.mp hy,← q]; exact hz)⟩,?_⟩
  ·rw [e1,Dsp.yh]
   rw [e2] at a
   exact ⟨e,fun t ht=>f t (by rw [List.head?_reverse] at ht; exact ht),a⟩
  ·cases r0 with
   | nil=>exact c
   | cons _ _=>exact c
theorem app3 (r0:List Nat) (t v k:Nat):(r0 ++ [t,v,k]).getD r0.length 0=t∧(r0 ++ [t,v,k]).getD (r0.length + 1) 0=v∧(r0 ++ [t,v,k]).getD (r0.length + 2) 0=k:=by
 refine ⟨?_,?_,?_⟩ <;> rw [List.getD_eq_getElem?_getD,List.getElem?_append_right (by omega)] <;> simp
theorem zei (ok:ShOk n cs) (hv:v < n) (hk:∀ z∈kn,z < n):barB n cs (r0 ++ [t,v,k]) kn (r0.length + 1)=false↔Dsp.Cd (paC cs) (InL kn) t v k:=by
 obtain ⟨e0,e1,e2⟩:=app3 r0 t v k
 have ev:veeB cs (r0 ++ [t,v,k]) (r0.length + 1)=(decide (t∈cs.getD v []) && decide (k∈cs.getD v [])):=by
  unfold veeB
  rw [e1,show r0.length + 1 - 1=r0.length by omega,e0,show r0.length + 1 + 1=r0.length + 2 by omega,e2]
 unfold barB
 rw [ev,e1]
 by_cases c:t∈cs.getD v []∧k∈cs.getD v []
 ·rw [decide_eq_true c.1,decide_eq_true c.2]
  show (!((rchL n (effF cs) [v]).any fun j=>decide (j∈kn)))=false↔_
  rw [Bool.not_eq_false',ζN]
  constructor
  ·rintro ⟨j,hj,hm⟩
   exact ⟨fun _=>⟨j,of_decide_eq_true hm,(wj ok hv).mp (zY.mp hj)⟩,fun w=>absurd c w⟩
  ·intro h
   obtain ⟨z,hz,a⟩:=h.1 c
   exact ⟨z,zY.mpr ((wj ok hv).mpr a),decide_eq_true hz⟩
 ·have e:(decide (t∈cs.getD v []) && decide (k∈cs.getD v []))=false:=ξb.mpr fun z=>by
   obtain ⟨z1,z2⟩:=ζP.mp z
   exact c ⟨of_decide_eq_true z1,of_decide_eq_true z2⟩
  rw [e]
  show decide (v∈kn)=false↔_
  rw [decide_eq_false_iff_not]
  exact ⟨fun z=>⟨fun w=>absurd w c,fun _=>z⟩,fun z=>z.2 c⟩
theorem zc4 (ok:ShOk n cs) (hv:v < n) (hk:∀ z∈kn,z < n):goB n cs kn (r0 ++ [v] ++ [k])=true↔∀ t,r0.getLast?=some t→Dsp.Cd (paC cs) (InL kn) t v k:=by
 rcases ξd r0 with rfl | ⟨q,t,e⟩
 ·exact ⟨fun _ t ht=>(by cases ht),fun _=>rfl⟩
 ·rw [ξe] at e
  subst e
  have e1:q ++ [t] ++ [v] ++ [k]=q ++ [t,v,k]:=by simp
  have el:(q ++ [t,v,k]).length=q.length + 3:=by rw [ζf]; rfl
  rw [e1]
  unfold goB
  rw [el,decide_eq_false (by omega),Bool.false_or,show q.length + 3 - 2=q.length + 1 by omega,Bool.not_eq_true',zei ok hv hk]
  exact ⟨fun h u hu=>by rw [List.getLast?_append] at hu; cases hu; exact h,fun h=>h t (by rw [List.getLast?_append]; rfl)⟩
theorem UK (ok:ShOk n cs):k∈nbr cs v↔Dsp.Adj (paC cs) v k:=by
 unfold nbr
 rw [ζq,y9 ok]
 exact ⟨fun h=>h.elim .inr fun z=>.inl z.2,fun h=>h.elim (fun z=>.inr ⟨(ZI ok z).2,z⟩) .inl⟩
theorem x9 (h:r≠[]):∃ r0 v,r=r0 ++ [v]:=by
 rcases ξd r with rfl | ⟨wb,k,e⟩
 ·exact absurd rfl h
 ·exact ⟨wb,k,by rw [e,ξe]⟩
theorem TV (r0:List Nat) (v:Nat):(r0 ++ [v]).getLastD 0=v:=by rw [ξn,List.getLast?_append]; rfl
theorem XV (ok:ShOk n cs) (hx:x < n) (hk:∀ z∈kn,z < n) (h:Rd cs kn x r):q∈lgR n cs kn r↔Rd cs kn x q∧q.dropLast=r:=by
 obtain ⟨r0,v,rfl⟩:=x9 h.ne
 have hv:v < n:=h.lt ok hx v (ζg _ (ζc.mpr rfl))
 unfold lgR
 rw [TV,ζn]
 constructor
 ·rintro ⟨k,hm,rfl⟩
  obtain ⟨h1,h2⟩:=ζl.mp hm
  obtain ⟨h3,h4⟩:=ζP.mp h2
  exact ⟨Xv.mpr ⟨h,by simpa using h3,(UK ok).mp h1,(zc4 ok hv hk).mp h4⟩,List.dropLast_concat⟩
 ·rintro ⟨h1,h2⟩
  obtain ⟨q0,k,rfl⟩:=x9 h1.ne
  rw [ξp] at h2
  subst h2
  obtain ⟨_,h3,h4,h5⟩:=Xv.mp h1
  exact ⟨k,List.mem_filter.mpr ⟨(UK ok).mpr h4,Bool.and_eq_true_iff.mpr ⟨by simpa using h3,(zc4 ok hv hk).mpr h5⟩⟩,rfl⟩
theorem zdM (ok:ShOk n cs) (dg:Dg cs) (rn:vL cs) (v:Nat):(nbr cs v).Nodup:=by
 obtain ⟨rk,dg⟩:=dg
 refine ζR.mpr ⟨rn v,List.nodup_range.filter _,fun a ha b hb e=>?_⟩
 subst e
 have h1:=dg v a ha
 have h2:=dg a v ((y9 ok).mp hb).2
 omega
theorem zdL {α β:Type} {f:α→β} (hf:∀ x y,f x=f y→x=y) {l:List α} (h:l.Nodup):(l.map f).Nodup:=ξI.mpr (h.imp fun hn e=>hn (hf _ _ e))
theorem zdO {n:Nat} (ok:ShOk n cs) (dg:Dg cs) (rn:vL cs) (kn r:List Nat):(lgR n cs kn r).Nodup:=zdL (fun x y e=>by simpa using e) ((zdM ok dg rn _).filter _)
theorem zaq (h:q∈lgR n cs kn r):q.dropLast=r:=by
 obtain ⟨k,_,rfl⟩:=ζn.mp h
 exact ξp
theorem X1 (ok:ShOk n cs) (dg:Dg cs) (rn:vL cs) (kn:List Nat):∀ {rs:List (List Nat)},rs.Nodup→(rs.flatMap (lgR n cs kn)).Nodup
 | [],_=>ξc
 | r :: rs,h=>by
  obtain ⟨h1,h2⟩:=ζU.mp h
  rw [ξX]
  refine ζR.mpr ⟨zdO ok dg rn kn r,X1 ok dg rn kn h2,fun a ha b hb e=>?_⟩
  subst e
  obtain ⟨r',hr',hm⟩:=ξL.mp hb
  have e:r'=r:=(zaq hm).symm.trans (zaq ha)
  exact h1 (e ▸ hr')
theorem zbk (cs:List (List Nat)) (r:List Nat) (k:Nat):vN cs r≤vN cs (r ++ [k]):=by
 have e:∀ i,i < r.length - 2→veeB cs r (1 + i)=veeB cs (r ++ [k]) (1 + i):=fun i hi=>by
  have g:∀ j,j < r.length→(r ++ [k]).getD j 0=r.getD j 0:=fun j hj=>by
   rw [ζd,List.getElem?_append_left hj,← ζd]
  unfold veeB
  rw [g _ (by omega),g _ (by omega),g _ (by omega)]
 have h1:vsI cs r=(List.range (r.length - 2)).filter fun i=>veeB cs (r ++ [k]) (1 + i):=List.filter_congr fun i hi=>e i (ζD.mp hi)
 unfold vN
 rw [h1]
 unfold vsI
 rw [ζf]
 by_cases c:r.length < 2
 ·rw [show r.length - 2=0 by omega]
  exact ζL _
 ·rw [show r.length + [k].length - 2=(r.length - 2) + 1 by show r.length + 1 - 2=_; omega,ξx,ζ4,ζf]
  exact Nat.le_add_right _ _
theorem zcM (h:r≠[]):vN cs r.dropLast≤vN cs r:=by
 obtain ⟨r0,v,rfl⟩:=x9 h
 rw [ξp]
 exact zbk ..
theorem Rd.dl (h:Rd cs kn x r) (l:2≤r.length):Rd cs kn x r.dropLast:=by
 obtain ⟨q,k,rfl⟩:=x9 h.ne
 rw [ξp]
 have lq:q≠[]:=fun e=>by
  rw [e] at l
  have l:2≤1:=l
  omega
 obtain ⟨r0,v,rfl⟩:=x9 lq
 exact (Xv.mp h).1
def levF (n:Nat) (cs:List (List Nat)) (x:Nat):Nat→List (List Nat)
 | 0=>[[x]]
 | m + 1=>(levF n cs x m).flatMap fun r=>onR cs r n
theorem US:∀ m,∀ r∈levF n cs x m,Pth cs x r.reverse
 | 0,r,h=>by rw [ζc.mp h]; exact .one
 | m + 1,r,h=>by
  obtain ⟨q,hq,hr⟩:=ξL.mp h
  obtain ⟨k,hk,rfl⟩:=ζn.mp hr
  exact (Xz (US m q hq)).mpr (ζl.mp hk).2
theorem UT (ok:ShOk n cs) (hx:x < n):∀ m r,Pth cs x r.reverse→r.length=m + 1→r∈levF n cs x m
 | 0,r,h,l=>by
  have hl:=h.last
  rw [List.getLast?_reverse] at hl
  match r,l,hl with
  | [a],_,e=>cases e; exact ζc.mpr rfl
 | m + 1,r,h,l=>by
  obtain ⟨q,k,rfl⟩:=x9 (r:=r) (fun e=>by rw [e] at l; cases l)
  rw [ζf] at l
  have l:q.length + 1=m + 1 + 1:=l
  have pq:Pth cs x q.reverse:=UD (t:=[k]) h fun e=>by rw [e] at l; cases l
  refine List.mem_flatMap.mpr ⟨q,UT ok hx m q pq (by omega),List.mem_map.mpr ⟨k,List.mem_filter.mpr ⟨List.mem_range.mpr (h.lt ok hx k (by simp)),(Xz pq).mp h⟩,rfl⟩⟩
theorem UR (n:Nat) (cs:List (List Nat)) (x:Nat):∀ m,gS cs (levF n cs x m)≤2 ^ tot cs
 | 0=>by
  show gW cs [x] + 0≤_
  rw [Nat.add_zero,← zcI]
  exact Nat.pow_le_pow_right (by decide) (ζE _ _)
 | m + 1=>by
  refine ζV ?_ (UR n cs x m)
  have hp:=US (n:=n) (cs:=cs) (x:=x) m
  show gS cs ((levF n cs x m).flatMap fun r=>onR cs r n)≤_
  generalize levF n cs x m=L at hp
  induction L with
  | nil=>exact ζh _
  | cons r L ih =>
   rw [ξX,zdX]
   have e:gS cs (r :: L)=gW cs r + gS cs L:=rfl
   have:=ih fun q hq=>hp q (ζr _ hq)
   have pr:=hp r ζj
   obtain ⟨r0,v,rfl⟩:=x9 (r:=r) (fun e=>by rw [e] at pr; cases pr)
   have:=zbS (cs:=cs) (xZ pr.nd) n
   omega
theorem Wq [DecidableEq α]:∀ (l p:List α),l.Nodup→(∀ k∈l,k∈p)→l.length≤p.length
 | [],_,_,_=>ζL _
 | a :: l,p,nd,h=>by
  obtain ⟨n1,n2⟩:=ζU.mp nd
  have ap:=h a ζj
  have ih:=Wq l (p.erase a) n2 fun k hk=>(List.mem_erase_of_ne (fun e:k=a=>n1 (e ▸ hk))).mpr (h k (ζr _ hk))
  rw [ξV ap] at ih
  have:=ζ9 ap
  rw [ζO]
  omega
theorem many {n:Nat} {cs:List (List Nat)} (ok:ShOk n cs) {kn:List Nat} {x:Nat} (hx:x < n) (t15:tot cs≤15) {L:List (List Nat)} (nd:L.Nodup) {m:Nat} (h:∀ r∈L,Rd cs kn x r∧r.length=m):L.length≤32768:=by
 cases m with
 | zero =>
  cases L with
  | nil=>exact ζL _
  | cons r L =>
   have:=h r ζj
   have:=this.1.pos
   omega
 | succ m =>
  have h1:=Wq L (levF n cs x m) nd fun r hr=>UT ok hx m r (h r hr).1.pth (h r hr).2
  have h2:=zaz cs (levF n cs x m)
  have h3:=UR n cs x m
  have h4:2 ^ tot cs≤2 ^ 15:=Nat.pow_le_pow_right (by decide) t15
  omega
def lexL (a b c d:Nat):Prop:=a < c∨(a=c∧b < d)
structure PI (cs:List (List Nat)) (kn:List Nat) (x c l:Nat) (P:Nat→Nat→List (List Nat)):Prop where
 nd:∀ i j,(P i j).Nodup
 m:∀ i j r,r∈P i j↔Rd cs kn x r∧vN cs r=i∧r.length=j∧(j=1∨lexL (vN cs r.dropLast) (j - 1) c l)
theorem PI.full {cs:List (List Nat)} {kn:List Nat} {x c l:Nat} {P:Nat→Nat→List (List Nat)} (h:PI cs kn x c l P) (l1:1≤l) {r:List Nat}:r∈P c l↔Rd cs kn x r∧vN cs r=c∧r.length=l:=by
 rw [h.m]
 refine ⟨fun z=>⟨z.1,z.2.1,z.2.2.1⟩,fun z=>⟨z.1,z.2.1,z.2.2,.inr ?_⟩⟩
 have:=zcM (cs:=cs) z.1.ne
 rw [z.2.1] at this
 rcases Nat.lt_or_eq_of_le this with q | q
 ·exact .inl q
 ·exact .inr ⟨q,by omega⟩
def PX (cs:List (List Nat)) (P:Nat→Nat→List (List Nat)) (l:Nat) (L:List (List Nat)):Nat→Nat→List (List Nat):=fun i j=>if j=l + 1 then P i j ++ L.filter (fun r=>decide (vN cs r=i)) else P i j
theorem PI.next {n:Nat} {cs:List (List Nat)} (ok:ShOk n cs) (dg:Dg cs) (rn:vL cs) {kn:List Nat} {x:Nat} (hx:x < n) (hk:∀ z∈kn,z < n) {c l:Nat} {P:Nat→Nat→List (List Nat)} (h:PI cs kn x c l P) (l1:1≤l):PI cs kn x c (l + 1) (PX cs P l ((P c l).flatMap (lgR n cs kn))):=by
 have lm:∀ {q},q∈(P c l).flatMap (lgR n cs kn)↔Rd cs kn x q∧q.length=l + 1∧vN cs q.dropLast=c:=fun {q}=>by
  rw [ξL]
  constructor
  ·rintro ⟨r,hr,hq⟩
   obtain ⟨h1,h2,h3⟩:=(h.full l1).mp hr
   obtain ⟨g1,g2⟩:=(XV ok hx hk h1).mp hq
   refine ⟨g1,?_,by rw [g2]; exact h2⟩
   have:=ξQ (xs:=q)
   rw [g2] at this
   have:=g1.pos
   omega
  ·rintro ⟨h1,h2,h3⟩
   have d:=h1.dl (by omega)
   exact ⟨q.dropLast,(h.full l1).mpr ⟨d,h3,by rw [ξQ]; omega⟩,(XV ok hx hk d).mpr ⟨h1,rfl⟩⟩
 refine ⟨fun i j=>?_,fun i j r=>?_⟩
 ·unfold PX
  by_cases e:j=l + 1
  ·rw [if_pos e]
   refine ζR.mpr ⟨h.nd i j,(X1 ok dg rn kn (h.nd c l)).filter _,fun a ha b hb q=>?_⟩
   subst q
   obtain ⟨_,_,h3,h4⟩:=(h.m i j a).mp ha
   have g:=lm.mp (ζl.mp hb).1
   rcases h4 with h4 | h4 | h4 <;> omega
  ·rw [if_neg e]
   exact h.nd i j
 ·unfold PX
  by_cases e:j=l + 1
  ·rw [if_pos e,ζq,h.m,ζl,lm,decide_eq_true_iff]
   subst e
   constructor
   ·rintro (⟨a,b,d,f⟩ | ⟨⟨a,b,d⟩,f⟩)
    ·refine ⟨a,b,d,f.imp id fun z=>z.imp id fun w=>⟨w.1,by omega⟩⟩
    ·exact ⟨a,f,b,.inr (.inr ⟨d,by omega⟩)⟩
   ·rintro ⟨a,b,d,f⟩
    rcases f with f | f | f
    ·omega
    ·exact .inl ⟨a,b,d,.inr (.inl f)⟩
    ·exact .inr ⟨⟨a,d,f.1⟩,b⟩
  ·rw [if_neg e,h.m]
   constructor
   ·rintro ⟨a,b,d,f⟩
    exact ⟨a,b,d,f.imp id fun z=>z.imp id fun w=>⟨w.1,by omega⟩⟩
   ·rintro ⟨a,b,d,f⟩
    refine ⟨a,b,d,f.imp id fun z=>z.imp id fun w=>⟨w.1,by omega⟩⟩
theorem PI.start (cs:List (List Nat)) (kn:List Nat) (x:Nat):PI cs kn x 0 1 fun i j=>if i=0∧j=1 then [[x]] else []:=by
 refine ⟨fun i j=>?_,fun i j r=>?_⟩
 ·show (if i=0∧j=1 then [[x]] else []).Nodup
  split <;> simp
 ·show r∈(if i=0∧j=1 then [[x]] else [])↔_
  have v0:vN cs [x]=0:=rfl
  constructor
  ·intro h
   split at h
   ·rename_i e
    rw [ζc.mp h]
    exact ⟨.one ..,by rw [v0,e.1],e.2.symm,.inl e.2⟩
   ·cases h
  ·rintro ⟨a,b,d,f⟩
   have j1:j=1:=by
    have:=a.pos
    rcases f with f | f | f
    ·exact f
    ·omega
    ·omega
   subst j1
   have e:=a.only d
   subst e
   rw [if_pos ⟨by rw [← b]; rfl,rfl⟩]
   exact ζc.mpr rfl
theorem PI.wrap {n:Nat} {cs:List (List Nat)} (ok:ShOk n cs) {kn:List Nat} {x:Nat} (hx:x < n) {c:Nat} {P:Nat→Nat→List (List Nat)} (h:PI cs kn x c (n + 1) P):PI cs kn x (c + 1) 1 P:=by
 refine ⟨h.nd,fun i j r=>?_⟩
 rw [h.m]
 constructor
 ·rintro ⟨a,b,d,f⟩
  refine ⟨a,b,d,f.imp id fun z=>.inl ?_⟩
  rcases z with z | z <;> omega
 ·rintro ⟨a,b,d,f⟩
  have:=a.len ok hx
  refine ⟨a,b,d,?_⟩
  rcases f with f | f | f
  ·exact .inl f
  ·rcases Nat.lt_or_eq_of_le (Nat.le_of_lt_succ f) with q | q
   ·exact .inr (.inl q)
   ·exact .inr (.inr ⟨q,by omega⟩)
  ·have:=a.pos
   exact .inl (by omega)
def kLt (cs:List (List Nat)) (q r:List Nat):Bool:=wC (vN cs q:Nat) (q.length:Nat) (zl q) (vN cs r:Nat) (r.length:Nat) (zl r)
theorem Y9:∀ {a b:List Nat},zl a=zl b→a=b
 | [],[],_=>rfl
 | [],_ :: _,h=>by cases h
 | _ :: _,[],h=>by cases h
 | x :: a,y :: b,h=>by
  unfold zl at h
  rw [ζH,ζH] at h
  injection h with h1 h2
  rw [Y9 h2,Int.ofNat.inj h1]
structure IsL (cs:List (List Nat)) (kn:List Nat) (x y:Nat) (r:List Nat):Prop where
 rd:Rd cs kn x r
 en:r.getLast?=some y
 ls:∀ q,Rd cs kn x q→q.getLast?=some y→kLt cs q r=false
theorem zb5 (h1:kLt cs q r=false) (h2:kLt cs r q=false):q=r:=by
 refine Classical.byContradiction fun ne=>?_
 unfold kLt wC at h1 h2
 by_cases e1:(vN cs q:Int)=(vN cs r:Int)
 ·rw [if_pos e1] at h1
  rw [if_pos e1.symm] at h2
  by_cases e2:(q.length:Int)=(r.length:Int)
  ·rw [if_pos e2,if_neg fun z=>ne (Y9 z)] at h1
   rw [if_pos e2.symm,if_neg fun z=>ne (Y9 z).symm] at h2
   rcases UQ (a:=zl q) (b:=zl r) fun z=>ne (Y9 z) with z | z
   ·rw [h1] at z; cases z
   ·rw [h2] at z; cases z
  ·rw [if_neg e2] at h1
   rw [if_neg fun z=>e2 z.symm] at h2
   have h1:=of_decide_eq_false h1
   have h2:=of_decide_eq_false h2
   omega
 ·rw [if_neg e1] at h1
  rw [if_neg fun z=>e1 z.symm] at h2
  have h1:=of_decide_eq_false h1
  have h2:=of_decide_eq_false h2
  omega
theorem IsL.one (h:IsL cs kn x y q) (k:IsL cs kn x y r):q=r:=zb5 (k.ls q h.rd h.en) (h.ls r k.rd k.en)
open Classical in
noncomputable def ordF (cs:List (List Nat)) (kn:List Nat) (x y:Nat):Option (List Nat):=if h:∃ r,IsL cs kn x y r then some h.choose else none
theorem YG (h:IsL cs kn x y r):ordF cs kn x y=some r:=by
 have ex:∃ r,IsL cs kn x y r:=⟨r,h⟩
 unfold ordF
 rw [dif_pos ex,ex.choose_spec.one h]
theorem wH (h:∀ r,Rd cs kn x r→r.getLast?≠some y):ordF cs kn x y=none:=by
 unfold ordF
 exact dif_neg fun ⟨r,hr⟩=>h r hr.rd hr.en
abbrev rdD:Option (List Nat)→PyData
 | some r=>nl r
 | none=>.none
theorem za9 (dg:Dg cs) (hx:x∉kn) (h:brB cs kn x y=true):∀ r,Rd cs kn x r→r.getLast?≠some y:=fun r hr hy=>by
 obtain ⟨rk,dg⟩:=dg
 have:=(Dsp.vp (pa:=paC cs) (Z:=InL kn) (x:=x) (y:=y) (rk:=rk) (fun a b p=>dg b a p) hx).mpr ⟨r.reverse,hr.ok,QK hr.nd,by rw [List.head?_reverse]; exact hy,by rw [List.getLast?_reverse]; exact hr.hd⟩
 rw [zba this] at h
 cases h
theorem zar {cs:List (List Nat)} {kn:List Nat} {x y c l:Nat} {P:Nat→Nat→List (List Nat)} (h:PI cs kn x c l P) (l1:1≤l) (na:∀ r,Rd cs kn x r→r.getLast?=some y→¬ lexL (vN cs r) r.length c l) {ar:List (List Nat)} (ha:∀ r,r∈ar↔r∈P c l∧r.getLast?=some y) (h0:ar≠[]):∃ r,ordF cs kn x y=some r∧zl r=minL (ar.map zl):=by
 have hm:=zah (nss:=ar.map zl) (by simpa using h0)
 obtain ⟨r,hr,e⟩:=ζn.mp hm
 refine ⟨r,YG ?_,e⟩
 obtain ⟨h1,h2⟩:=(ha r).mp hr
 obtain ⟨g1,g2,g3⟩:=(h.full l1).mp h1
 refine ⟨g1,h2,fun q hq hy=>?_⟩
 have nl:=na q hq hy
 unfold kLt wC
 by_cases e1:(vN cs q:Int)=(vN cs r:Int)
 ·rw [if_pos e1]
  by_cases e2:(q.length:Int)=(r.length:Int)
  ·rw [if_pos e2]
   split
   ·rfl
   ·rw [e]
    exact V4 (ζn.mpr ⟨q,(ha q).mpr ⟨(h.full l1).mpr ⟨hq,by omega,by omega⟩,hy⟩,rfl⟩)
  ·rw [if_neg e2]
   exact decide_eq_false fun z=>nl (.inr ⟨by omega,by omega⟩)
 ·rw [if_neg e1]
  exact decide_eq_false fun z=>nl (.inl (by omega))
theorem zbf (T:LTab) (i j k l:Int) (ds:List PyData):(T.put i j (true,ds)).at k l=if k=i∧l=j then ds else T.at k l:=by
 by_cases q:k=i∧l=j
 ·rw [if_pos q,q.1,q.2]
  unfold LTab.at
  rw [LTab.put_eq]
 ·rw [if_neg q]
  unfold LTab.at
  rw [LTab.put_ne q]
theorem zej (T:LTab) (i j k l:Int):(T.frz i j).at k l=T.at k l:=by
 by_cases q:k=i∧l=j
 ·unfold LTab.at LTab.frz
  rw [if_pos q,q.1,q.2]
  cases T i j <;> rfl
 ·unfold LTab.at
  rw [LTab.frz_ne q]
structure TP (T:LTab) (P:Nat→Nat→List (List Nat)) (c l:Nat):Prop where
 a:∀ i j:Nat,T.at (i:Int) (j:Int)=(P i j).map nl
 z:∀ (i j:Nat) (ds:List PyData),T (i:Int) (j:Int)=some (false,ds)→lexL i j c l
theorem TP.get {T:LTab} {P:Nat→Nat→List (List Nat)} {c l:Nat} (h:TP T P c l):TP (T.frz (c:Int) (l:Int)) P c (l + 1):=by
 refine ⟨fun i j=>by rw [zej]; exact h.a i j,fun i j ds e=>?_⟩
 by_cases q:(i:Int)=c∧(j:Int)=l
 ·exact .inr ⟨by omega,by omega⟩
 ·rw [LTab.frz_ne q] at e
  rcases h.z i j ds e with z | z
  ·exact .inl z
  ·exact .inr ⟨z.1,by omega⟩
theorem TP.put {cs:List (List Nat)} {T:LTab} {P:Nat→Nat→List (List Nat)} {c l:Nat} {L:List (List Nat)} (h:TP T (PX cs P l L) c (l + 1)) (r:List Nat):TP (T.put (vN cs r:Int) ((l + 1:Nat):Int) (true,T.at (vN cs r:Int) ((l + 1:Nat):Int) ++ [nl r])) (PX cs P l (L ++ [r])) c (l + 1):=by
 refine ⟨fun i j=>?_,fun i j ds e=>?_⟩
 ·rw [zbf]
  by_cases q:(i:Int)=(vN cs r:Int)∧(j:Int)=((l + 1:Nat):Int)
  ·rw [if_pos q,h.a]
   obtain rfl:i=vN cs r:=by omega
   obtain rfl:j=l + 1:=by omega
   unfold PX
   rw [if_pos rfl,if_pos rfl,ζ4,ξs (by exact decide_eq_true rfl),ξq,← ξa,ζo (l₂:=[r])]
   rfl
  ·rw [if_neg q,h.a]
   unfold PX
   by_cases e:j=l + 1
   ·rw [if_pos e,if_pos e,ζ4,ξt (fun z=>q ⟨by have:=of_decide_eq_true z; omega,by omega⟩),ξq,ζG]
   ·rw [if_neg e,if_neg e]
 ·by_cases q:(i:Int)=(vN cs r:Int)∧(j:Int)=((l + 1:Nat):Int)
  ·rw [q.1,q.2,LTab.put_eq] at e
   cases e
  ·rw [LTab.put_ne q] at e
   exact h.z i j ds e
theorem TP.wrap {T:LTab} {P:Nat→Nat→List (List Nat)} {c l:Nat} (h:TP T P c l):TP T P (c + 1) 1:=⟨h.a,fun i j ds e=>by
 rcases h.z i j ds e with z | z
 ·exact .inl (by omega)
 ·exact .inl (by omega)⟩
theorem zep (cs:List (List Nat)) (P:Nat→Nat→List (List Nat)) (l:Nat):PX cs P l []=P:=by
 funext i j
 unfold PX
 split
 ·rw [ξq,ζG]
 ·rfl
def NaI (cs:List (List Nat)) (kn:List Nat) (x y c l:Nat):Prop:=∀ r,Rd cs kn x r→r.getLast?=some y→¬ lexL (vN cs r) r.length c l
def endB (y:Nat) (r:List Nat):Bool:=decide (r.getLast?=some y)
theorem zbm (h:nl x=nl y):x=y:=by rw [← tu x,h,tu]
theorem zdJ (ar:List (List Nat)):ar.map nl=(ar.map zl).map fun ns=>PyData.list (ns.map .int):=by
 rw [ζM]
 exact ξB fun r _=>ya r
def wt (ds:List PyData) (d:PyData):Prop:=∃ (n:Nat) (cs:List (List Nat)) (x y:Nat) (kn:List Nat),ds=[nls cs,.int x,.int y,nl kn]∧ShOk n cs∧Dg cs∧vL cs∧n≤12∧tot cs≤15∧x < n∧x∉kn∧(∀ z∈kn,z < n)∧kn.length≤1000∧d=rdD (ordF cs kn x y)
theorem Xl:zA ["causes", "x", "y", "known", "piles", "count", "length", "pile", "arrived", "longer"] ["causes", "x", "y", "known"] (zo (top 23)):={}
set_option maxHeartbeats 4000000 in
theorem XM (F:Fun K "open_road" "open_road" (top 23) f fd) (B:Bs mg) (Z:Cs K mg τa τb) (c_barred:zz P w K mg base CX0 "barred" ["causes", "x", "y", "known"] 7 (spD K true ZB)) (c_all_longer:zz P w K mg base CX0 "all_longer" ["causes", "roads", "known"] 8 (spD K true xX)) (c_vees:zz P w K mg base CX0 "vees" ["causes", "road"] 2 (spD K true WN)):FnOk P w K mg base CX0 9 f fd ["causes", "x", "y", "known"] (spD K true wt):=by
 have sc:=Xl
 refine F.ok sc (fun vs H Q E h=>zH (fun _ _⟨_,_,_,_,_,e,_⟩=>by rw [e];rfl) h) (fun cdv A outer s H vs Q E hr h=>?_)
 obtain ⟨Fh,ds,d,le,dp,p,q⟩:=h
 refine ⟨_,(ze (ye (yC (pF c_barred hr (zb (pv 0) (zb (pv 1) (zb (pv 2) (zb (pv 3) zd)))))) (zf (zy wV)) zL)
   (ze (pS (i:=4) sc.nd (Q4 (vh hr) (xG (zb zh (zb zh zd))) (zU (zb (zU (zb (pv 1) zd)) zd))))
   (ze (yF PassesOwn.never rfl (yw rfl B.range (zb (pB (zm (K:=K) rfl) B.len (zb (pv 0) zd)) zd)) (pN (i:=5) sc.nd) (zf (yF PassesOwn.never rfl (tI rfl B.range (zb zh (zb (zJ yD (pB (zm (K:=K) rfl) B.len (zb (pv 0) zd)) zh) zd))) (pN (i:=6) sc.nd) (ze (pS (i:=7) sc.nd (Q5 (vh hr) (pv 4) (xG (zb (pv 5) (zb (pv 6) zd))) (zU zd) ⟨rfl,rfl,rfl,rfl⟩))
   (ze (yU (i:=8) rfl sc.nd rfl rfl (N:=["road", "y"]) (js:=[none,some 2]) (by walk_at"comp_ok") (zE (K:=K) rfl (pv 7)) (fun _ _ _ _=>(pN (i:=0) (show υN ["road", "y"] by decide +kernel))) (fun _ _ _ _=>(yS (zr uP (pX (zu (K:=K) rfl) (pv 0) (ub wq zh)) (pv 1) (zF _)))) (fun _ _ _ _=>(pv 0)))
   (ze (ye (zr ZK (pB (zm (K:=K) rfl) B.len (zb (pv 8) zd)) zh (zF _)) (zf (zy (pB (Uh (K:=K) rfl rfl (vh hr)) B.min (zb (pv 8) zd)))) zL)
   (zf (yF PassesOwn.never rfl (zE (K:=K) rfl (pF c_all_longer hr (zb (pv 0) (zb (pv 7) (zb (pv 3) zd))))) (pN (i:=9) sc.nd) (zf (yB (yN (K:=K) rfl ζx ζK ζJ yf (zdy (vh hr) (pv 4) (xG (zb (pB (zm (K:=K) rfl) B.len (zb (pF c_vees hr (zb (pv 0) (zb (pv 9) zd))) zd)) (zb (zJ yD (pv 6) zh) zd))) (zU zd) ⟨rfl,rfl,rfl,rfl⟩) (zb (pv 9) zd))))))))))))
   (zf (zy wV))))),?_⟩
 have hN:=sc.n 10
 obtain ⟨n,cs,x,y,kn,rfl,ok,dg,rn,n12,t15,hx,xk,hk,kl,rfl⟩:=p
 have big:10000000 < sizeLine:=by rw [sizeLine_eq]; decide
 have cl:=ok.l
 have el:PyData.int (((cs.map nl).length:Nat):Int)=.int (n:Int):=by rw [ζb,cl]
 walk_at"run"
 refine vE (b:=brB cs kn x y) (et_B (zk (by walk_at"ev") ⟨n,cs,x,y,kn,rfl,ok,n12,hx,rfl⟩)) (fun h=>?_) (fun h=>?_)
 ·refine exrs true (by walk_at"ev") ?_ (.inl ⟨rfl,rfl⟩)
  show _=rdD (ordF cs kn x y)
  rw [wH (za9 dg xk h)]
 refine exn ?_
 refine zcm Z.nt (k:=0) (l:=1) (ds:=[nl [x]]) (ww (ds:=[.int 0,.int 1]) (by walk_at"ev") (by show 2≤_; omega)) (EvO.eq (zZ (ds:=[.list [.int (x:Int)]]) (zg (EvO.toE (zZ (ds:=[.int (x:Int)]) (zg (by walk_at"ev") zC) (by show 1≤sizeLine; omega))) zC) (by show 1≤sizeLine; omega)) rfl) (by walk_at"sc") ?_
 refine vi (ds:=(List.range n).map fun i:Nat=>.int (i:Int)) true (fun c Γ=>∃ (T:LTab) (P:Nat→Nat→List (List Nat)) (m:Nat) (u1 u2 u3 u4 u5:Option DV),PI cs kn x c 1 P∧TP T P c 1∧NaI cs kn x y c 1∧m≤1 + c * 12 * 32768∧Γ=[some (.fz false (nls cs)),some (.fz false (.int x)),some (.fz false (.int y)),some (.fz false (nl kn)),some (pT K T m),u1,u2,u3,u4,u5]) (xA (n:=(n:Int)) (zg (EvE.eq (yb (ds:=cs.map nl) (by walk_at"ev")) el) zC) (by omega) (by omega)) ⟨_,fun i j=>if i=0∧j=1 then [[x]] else [],1,none,none,none,none,none,.start cs kn x,⟨fun i j=>?_,fun i j ds e=>?_⟩,fun r hr _ hl=>?_,by omega,rfl⟩ ?_ ?_
 ·have e:=zbf (fun _ _=>none) 0 1 (i:Int) (j:Int) [nl [x]]
  rw [e]
  by_cases q:i=0∧j=1
  ·rw [if_pos q,if_pos ⟨by omega,by omega⟩]
   rfl
  ·rw [if_neg q,if_neg fun z=>q ⟨by omega,by omega⟩]
   rfl
 ·exfalso
  by_cases q:(i:Int)=0∧(j:Int)=1
  ·rw [q.1,q.2,LTab.put_eq] at e
   cases e
  ·rw [LTab.put_ne q] at e
   cases e
 ·have:=hr.pos
  rcases hl with z | z <;> omega
 ·rintro c d Γ' hd ⟨T,P,m,u1,u2,u3,u4,u5,pi,tp,na,hm,rfl⟩
  obtain ⟨hc,rfl⟩:=xo hd
  refine ⟨_,egn (by walk_at"sc") ?_⟩
  refine um (ds:=(List.range ((n:Int) + 1 - 1).toNat).map fun i:Nat=>.int (1 + (i:Int))) true (fun i Γ=>∃ (T:LTab) (P:Nat→Nat→List (List Nat)) (m:Nat) (u2 u3 u4 u5:Option DV),PI cs kn x c (1 + i) P∧TP T P c (1 + i)∧NaI cs kn x y c (1 + i)∧m≤1 + (c * 12 + i) * 32768∧Γ=[some (.fz false (nls cs)),some (.fz false (.int x)),some (.fz false (.int y)),some (.fz false (nl kn)),some (pT K T m),some (.fz true (.int c)),u2,u3,u4,u5]) (X9 (m:=1) (n:=(n:Int) + 1) (zg (by walk_at"ev") (zg (wx (EvE.eq (yb (ds:=cs.map nl) (by walk_at"ev")) el) (by walk_at"ev")) zC)) (by omega)) ⟨T,P,m,u2,u3,u4,u5,pi,tp,na,by omega,rfl⟩ ?_ ?_
  ·clear pi tp na hm T P m
   rintro i d Γ' hd ⟨T,P,m,u2,u3,u4,u5,pi,tp,na,hm,rfl⟩
   obtain ⟨hi,rfl⟩:=zdo hd
   refine ⟨_,egn (by walk_at"sc") ?_⟩
   obtain ⟨l,hl⟩:∃ l:Nat,1 + i=l:=⟨_,rfl⟩
   rw [show (1:Int) + (i:Int)=(l:Int) by omega]
   rw [hl] at pi tp na
   have l1:1≤l:=by omega
   refine zcn Z.nt (c:=(c:Int)) (l:=(l:Int)) (by walk_at"gc") (ww (ds:=[.int (c:Int),.int (l:Int)]) (by walk_at"ev") (by show 2≤_; omega)) (by walk_at"sc") (by walk_at"sc") ?_
   rw [tp.a]
   have fl:∀ r∈P c l,Rd cs kn x r∧vN cs r=c∧r.length=l:=fun r hr=>(pi.full l1).mp hr
   have pl:=many ok hx t15 (pi.nd c l) fun r hr=>⟨(fl r hr).1,(fl r hr).2.2⟩
   have hae:∀ r,r∈(P c l).filter (endB y)↔r∈P c l∧r.getLast?=some y:=fun r=>by
    rw [ζl]
    exact ⟨fun z=>⟨z.1,of_decide_eq_true z.2⟩,fun z=>⟨z.1,decide_eq_true z.2⟩⟩
   refine exo true (ds:=((P c l).filter (endB y)).map nl) (yo (κ:=true) (is:=[0]) (xs:=P c l) true nl nl (endB y) (fun a _ b _ h=>by cases zbm h; exact ⟨rfl,rfl⟩) (zN (by walk_at"ev")) (by walk_at"cc") rfl (by decide) (by omega) ?_) (by walk_at"sc") ?_
   ·intro r hr
    obtain ⟨r0,w,er⟩:=x9 (fl r hr).1.ne
    have aw:atI (r.map fun k:Nat=>PyData.int (k:Int)) (-1)=some (.int (w:Int)):=by rw [er,ζo]; exact vI _ _
    have ew:endB y r=decide ((w:Int)=(y:Int)):=by
     unfold endB
     rw [er,List.getLast?_append]
     exact decide_eq_decide.mpr ⟨fun z=>by cases z; rfl,fun z=>by show some w=some y; rw [show w=y by omega]⟩
    exact egn (by walk_at"sc") ⟨EvT.eq (zq (ur (zI (κ:=false) (EvE.toL (by walk_at"ev")) (uo (i:=1) (by walk_at"ev")) aw) (by walk_at"ev"))) ew.symm,fun _=>by walk_at"ev"⟩
   generalize har:(P c l).filter (endB y)=ar at hae
   have arl:ar.length≤32768:=by rw [← har]; exact ζV (ζE _ _) pl
   refine vE (b:=decide ((0:Int) < (ar.length:Int))) (zq (t7 (EvE.eq (yb (ds:=ar.map nl) (by walk_at"ev")) (by rw [ζb])) (by walk_at"ev"))) (fun h=>?_) (fun h=>?_)
   ·have h0:ar≠[]:=fun z=>by rw [z] at h; exact absurd h (by decide)
    obtain ⟨r,e1,e2⟩:=zar pi l1 na hae h0
    refine exrs true (zcs (nss:=ar.map zl) (Ua (by walk_at"ev") (zdJ ar)) (by simpa using h0)) ?_ (.inl ⟨rfl,rfl⟩)
    show _=rdD (ordF cs kn x y)
    rw [e1,← e2]
    exact (ya r).symm
   ·have h0:ar=[]:=by
     have:=of_decide_eq_false h
     exact ξh.mp (by omega)
    refine exn ?_
    have na':NaI cs kn x y c (l + 1):=fun r hr hy z=>by
     have z2:vN cs r=c∧r.length=l:=by
      have:=na r hr hy
      rcases z with z | z
      ·exact absurd (.inl z) this
      ·refine ⟨z.1,?_⟩
       have:¬ r.length < l:=fun q=>this (.inr ⟨z.1,q⟩)
       omega
     have:r∈ar:=(hae r).mpr ⟨(pi.full l1).mpr ⟨hr,z2⟩,hy⟩
     rw [h0] at this
     cases this
    have nx:=pi.next ok dg rn hx hk l1
    have Lm:∀ q∈(P c l).flatMap (lgR n cs kn),Rd cs kn x q∧q.length=l + 1∧c≤vN cs q:=fun q hq=>by
     obtain ⟨r,hr,h2⟩:=ξL.mp hq
     obtain ⟨g1,g2⟩:=(XV ok hx hk (fl r hr).1).mp h2
     have g3:=zcM (cs:=cs) g1.ne
     have g4:=ξQ (xs:=q)
     have g5:=g1.pos
     rw [g2] at g3 g4
     have:=(fl r hr).2
     exact ⟨g1,by omega,by omega⟩
    have Ll:=many ok hx t15 (X1 ok dg rn kn (pi.nd c l)) fun q hq=>⟨(Lm q hq).1,(Lm q hq).2.1⟩
    have po:xX [nls cs,nls (P c l),nl kn] (nls ((P c l).flatMap (lgR n cs kn))):=⟨n,cs,kn,P c l,rfl,ok,n12,kl,fun r hr=>⟨(fl r hr).1.lt ok hx,(fl r hr).1.pos,by have:=(fl r hr).1.len ok hx; omega⟩,by omega,rfl⟩
    have pil:∀ i,(P i (l + 1)).length≤32768:=fun i=>many ok hx t15 (pi.nd i (l + 1)) fun r hr=>by
     have:=(pi.m i (l + 1) r).mp hr
     exact ⟨this.1,this.2.2.1⟩
    generalize (P c l).flatMap (lgR n cs kn)=L at nx Lm Ll po
    refine um (ds:=L.map nl) true (fun t Γ=>∃ (T:LTab) (m:Nat) (u5:Option DV),TP T (PX cs P l (L.take t)) c (l + 1)∧m≤1 + (c * 12 + i) * 32768 + t∧Γ=[some (.fz false (nls cs)),some (.fz false (.int x)),some (.fz false (.int y)),some (.fz false (nl kn)),some (pT K T m),some (.fz true (.int c)),some (.fz true (.int (l:Int))),some (.fz true (nls (P c l))),some (.ow true (ar.map nl)),u5]) (zN (zk (by walk_at"ev") po)) ⟨_,m,u5,by rw [ξJ,zep]; exact tp.get,by omega,rfl⟩ ?_ ?_
    ·rintro t d Γ3 hd ⟨T,m,u5,tp,hm,rfl⟩
     obtain ⟨r,hr,rfl⟩:=xN hd
     have tl:=(ζe.mp hr).1
     obtain ⟨q1,q2,q3⟩:=Lm r (ζk hr)
     have rl:=q1.len ok hx
     refine ⟨_,egn (by walk_at"sc") ?_⟩
     have za:(T.at (vN cs r:Int) ((l + 1:Nat):Int)).length < sizeLine:=by
      rw [tp.a,ζb]
      unfold PX
      rw [if_pos rfl,ζf]
      have:=ζE (fun q=>decide (vN cs q=vN cs r)) (L.take t)
      rw [ζ7] at this
      have:=pil (vN cs r)
      omega
     refine zdY Z.nt (c:=(vN cs r:Int)) (l:=((l + 1:Nat):Int)) (d:=nl r) (by walk_at"gc") (ww (ds:=[.int (vN cs r:Int),.int ((l + 1:Nat):Int)]) (zg (EvE.eq (yb (ds:=(vsF cs r).map fun k:Nat=>.int (k:Int)) (EvE.toL (zk (d:=nl (vsF cs r)) (by walk_at"ev") ⟨n,cs,r,rfl,ok,q1.lt ok hx,by omega,rfl⟩))) (by rw [ζb,zbj])) (zg (EvE.eq (wx (i:=(l:Int)) (j:=1) (by walk_at"ev") (by walk_at"ev")) (congrArg PyData.int (show (l:Int) + 1=((l + 1:Nat):Int) by omega))) zC)) (by show 2≤_; omega)) (fun ds e=>?_) (by walk_at"sc") (by walk_at"ev") (by omega) za (by walk_at"sc") ?_
     ·rcases tp.z _ _ ds e with z | z <;> omega
     ·refine ⟨_,m + 1,_,?_,by omega,rfl⟩
      rw [take_succ hr]
      exact tp.put r
    ·rintro Γ3 ⟨T,m,u5,tp,hm,rfl⟩
     rw [show (L.map nl).length=L.length from ζb ..,ξf] at tp
     rw [show (L.map nl).length=L.length from ζb ..] at hm
     rw [show 1 + (i + 1)=l + 1 by omega]
     exact ⟨T,_,m,_,_,_,_,nx,tp,na',by omega,rfl⟩
  ·rintro Γ3 ⟨T,P,m,u2,u3,u4,u5,pi,tp,na,hm,rfl⟩
   rw [VI,show 1 + ((n:Int) + 1 - 1).toNat=n + 1 by omega] at pi tp na
   rw [VI] at hm
   refine ⟨T,P,m,_,_,_,_,_,pi.wrap ok hx,tp.wrap,fun r hr hy z=>?_,by omega,rfl⟩
   have:=hr.len ok hx
   have:=hr.pos
   refine na r hr hy ?_
   rcases z with z | z
   ·rcases Nat.lt_or_eq_of_le (Nat.le_of_lt_succ z) with q | q
    ·exact .inl q
    ·exact .inr ⟨q,by omega⟩
   ·omega
 ·rintro Γ3 ⟨T,P,m,u1,u2,u3,u4,u5,pi,tp,na,hm,rfl⟩
  rw [yX] at na
  refine zM true (by walk_at"ev") ?_ (.inl ⟨rfl,rfl⟩)
  show _=rdD (ordF cs kn x y)
  rw [wH fun r hr hy=>na r hr hy (.inl (by have:=zet cs r; have:=hr.len ok hx; have:=hr.pos; omega))]
def rmS (cs:List (List Nat)) (wi f r:List Nat):List Nat:=wi.filter fun k=>!decide (k∈f) && (effF cs k).any fun e=>decide (e∈r)
def rmF (cs:List (List Nat)) (sm wi:List Nat):Nat→List Nat×List Nat
 | 0=>(wi.filter fun k=>decide (k∈sm),[])
 | s + 1=>(rmS cs wi ((rmF cs sm wi s).2 ++ (rmF cs sm wi s).1) (rmF cs sm wi s).1,(rmF cs sm wi s).2 ++ (rmF cs sm wi s).1)
def rim (cs:List (List Nat)) (sm wi:List Nat) (s:Nat):List Nat:=(rmF cs sm wi s).1
def fnd (cs:List (List Nat)) (sm wi:List Nat) (s:Nat):List Nat:=(rmF cs sm wi s).2
theorem wJ (cs:List (List Nat)) (sm wi:List Nat) (s:Nat):fnd cs sm wi (s + 1)=fnd cs sm wi s ++ rim cs sm wi s:=rfl
theorem QI (cs:List (List Nat)) (sm wi:List Nat) (s:Nat):rim cs sm wi (s + 1)=rmS cs wi (fnd cs sm wi (s + 1)) (rim cs sm wi s):=rfl
theorem vR:k∈rim cs sm wi (s + 1)↔k∈wi∧k∉fnd cs sm wi (s + 1)∧∃ e∈effF cs k,e∈rim cs sm wi s:=by
 rw [QI]
 unfold rmS
 rw [ζl,ξP,ζN]
 simp
theorem tG:∀ {s k:Nat},k∈rim cs sm wi s→k∈wi
 | 0,_,h=>(ζl.mp h).1
 | _ + 1,_,h=>(vR.mp h).1
theorem wW:∀ {s:Nat},k∈fnd cs sm wi s↔∃ t,t < s∧k∈rim cs sm wi t
 | 0=>⟨fun z=>(by cases z),fun ⟨t,z,_⟩=>absurd z (ζY t)⟩
 | s + 1=>by
  rw [wJ,ζq,wW]
  constructor
  ·rintro (⟨t,h,z⟩ | z)
   ·exact ⟨t,by omega,z⟩
   ·exact ⟨s,by omega,z⟩
  ·rintro ⟨t,h,z⟩
   by_cases e:t=s
   ·exact .inr (e ▸ z)
   ·exact .inl ⟨t,by omega,z⟩
theorem Xt:∀ {s k:Nat},k∈rim cs sm wi s→k∉fnd cs sm wi s
 | 0,_,_=>fun z=>(by cases z)
 | _ + 1,_,h=>(vR.mp h).2.1
theorem uD (h1:k∈rim cs sm wi s) (h2:k∈rim cs sm wi t):s=t:=by
 rcases Nat.lt_trichotomy s t with c | c | c
 ·exact absurd (wW.mpr ⟨s,c,h1⟩) (Xt h2)
 ·exact c
 ·exact absurd (wW.mpr ⟨t,c,h2⟩) (Xt h1)
theorem QJ (nd:wi.Nodup):∀ s,(rim cs sm wi s).Nodup
 | 0=>nd.sublist ξr
 | _ + 1=>nd.sublist ξr
theorem zaA (nd:wi.Nodup):∀ s,(fnd cs sm wi s).Nodup
 | 0=>ξc
 | s + 1=>by
  rw [wJ,ζR]
  exact ⟨zaA nd s,QJ nd s,fun a ha b hb e=>Xt hb (e ▸ ha)⟩
theorem XU:∀ (l sm:List Nat),l.Nodup→(∀ x∈l,x∈sm)→l.length≤sm.length
 | [],_,_,_=>ζL _
 | x :: l,sm,nd,h=>by
  obtain ⟨n1,n2⟩:=ζU.mp nd
  have hx:=h x ζj
  have ih:=XU l (sm.erase x) n2 fun y hy=>(List.mem_erase_of_ne (fun e=>n1 (by rw [← e]; exact hy))).mpr (h y (ζr _ hy))
  rw [ξV hx] at ih
  have:=ζ9 hx
  show l.length + 1≤_
  omega
theorem X0 (nd:wi.Nodup) (s:Nat):(fnd cs sm wi s).length≤wi.length:=XU _ _ (zaA nd s) fun x hx=>by
 obtain ⟨t,_,z⟩:=wW.mp hx
 exact tG z
theorem Xu (h:rim cs sm wi s=[]):∀ t,rim cs sm wi (s + t)=[]
 | 0=>h
 | t + 1=>by
  have ih:=Xu h t
  refine List.eq_nil_iff_forall_not_mem.mpr fun k hk=>?_
  obtain ⟨_,_,e,_,he⟩:=vR.mp hk
  have he:e∈rim cs sm wi (s + t):=he
  rw [ih] at he
  cases he
theorem WE (h:k∈rim cs sm wi s):∀ t,t≤s→t≤(fnd cs sm wi t).length
 | 0,_=>ζL _
 | t + 1,ht=>by
  have ih:=WE h t (by omega)
  have:rim cs sm wi t≠[]:=fun z=>by
   have:=Xu z (s - t)
   rw [show t + (s - t)=s by omega] at this
   rw [this] at h
   cases h
  have:=ζZ.mpr this
  rw [wJ,ζf]
  omega
theorem tF (nd:wi.Nodup) (h:k∈rim cs sm wi s):s < wi.length:=by
 have h1:=WE h s (ζh _)
 have h2:=X0 (cs:=cs) (sm:=sm) nd (s + 1)
 rw [wJ,ζf] at h2
 have:=ζ9 h
 omega
structure DG (cs:List (List Nat)) (sm wi:List Nat) (m:DTab):Prop where
 i:∀ {k t:Nat},k∈rim cs sm wi t→dGet m (k:Int)=some (.int (t:Nat))
 o:∀ {k:Nat},(∀ t,k∉rim cs sm wi t)→dGet m (k:Int)=none
structure DS (cs:List (List Nat)) (sm wi:List Nat) (s:Nat) (m:DTab):Prop where
 i:∀ {k t:Nat},t < s→k∈rim cs sm wi t→dGet m (k:Int)=some (.int (t:Nat))
 o:∀ {k:Nat},k∉fnd cs sm wi s→dGet m (k:Int)=none
 l:m.length≤(fnd cs sm wi s).length
theorem DS.has (h:DS cs sm wi s m) (k:Nat):(dGet m (k:Int)).isSome=decide (k∈fnd cs sm wi s):=by
 by_cases c:k∈fnd cs sm wi s
 ·obtain ⟨t,ht,z⟩:=wW.mp c
  rw [h.i ht z,decide_eq_true c]
  rfl
 ·rw [h.o c,decide_eq_false c]
  rfl
theorem DS.end (h:DS cs sm wi s m) (e:rim cs sm wi s=[]):DG cs sm wi m:=by
 refine ⟨fun {k t} z=>?_,fun {k} z=>h.o fun y=>?_⟩
 ·by_cases c:t < s
  ·exact h.i c z
  ·have:=Xu e (t - s)
   rw [show s + (t - s)=t by omega] at this
   rw [this] at z
   cases z
 ·obtain ⟨t,_,w⟩:=wW.mp y
  exact z t w
def xT (ds:List PyData) (G:DTab→Prop):Prop:=∃ (cs:List (List Nat)) (sm wi:List Nat),ds=[nls cs,nl sm,nl wi]∧cs.length≤12∧wi.Nodup∧wi.length≤12∧G=DG cs sm wi
theorem Yg:zA ["causes", "some", "within", "found", "rim", "steps", "k"] ["causes", "some", "within"] (zo (top 6)):={}
theorem Yn (F:Fun K "steps_down" "steps_down" (top 6) f fd) (B:Bs mg) (Z:Cs K mg τa τb) (c_meet:zz P w K mg base CX0 "meet" ["some", "others"] 1 (spD K true ZA)) (c_effects:zz P w K mg base CX0 "effects" ["causes", "k"] 1 (spD K true yY)):FnOk P w K mg base CX0 2 f fd ["causes", "some", "within"] (spDW K xT):=by
 have sc:=Yg
 refine F.ok sc (fun vs H Q E h=>Qx (fun _ _⟨_,_,_,e,_⟩=>by rw [e];rfl) h) (fun cdv A outer s H vs Q E hr h=>?_)
 obtain ⟨Fh,ds,G,le,dp,p,q⟩:=h
 refine ⟨_,(ze (pS (i:=3) sc.nd Q3)
   (ze (pS (i:=4) sc.nd (yc rfl (N:=["k", "some"]) (js:=[none,some 1]) (by walk_at"comp_ok") (zE (K:=K) rfl (pv 2)) (fun _ _ _ _=>(pN (i:=0) (show υN ["k", "some"] by decide +kernel))) (fun _ _ _ _=>(yS (zr (zG (K:=K) rfl) (pv 0) (pv 1) (rfl)))) (fun _ _ _ _=>(pv 0))))
   (ze (pS (i:=5) sc.nd zh)
   (ze (vt PassesOwn.never (zr ZK (pB (zm (K:=K) rfl) B.len (zb (pv 4) zd)) zh (zF _)) (ze (yF PassesOwn.never rfl (zE (K:=K) rfl (pv 4)) (pN (i:=6) sc.nd) (zf (zbF (vh hr) (pv 3) (pv 6) (pv 5) rfl)))
   (ze (pS (i:=4) sc.nd (yc rfl (N:=["k", "found", "rim", "causes"]) (js:=[none,some 3,some 4,some 0]) (by walk_at"comp_ok") (zE (K:=K) rfl (pv 2)) (fun _ _ _ _=>(pN (i:=0) (show υN ["k", "found", "rim", "causes"] by decide +kernel))) (fun _ _ _ _=>(yS (PW.pt (xE (VL (YF (vh hr) (pv 0) (pv 1))) (xy (yC (pF c_meet hr (zb (pF c_effects hr (zb (pv 3) (zb (pv 0) zd))) (zb (pv 2) zd))))))))) (fun _ _ _ _=>(pv 0))))
   (zf (pS (i:=5) sc.nd (zJ yD (pv 5) zh))))))
   (zf (zy (pv 3))))))),?_⟩
 have hN:=sc.n 7
 obtain ⟨cs,sm,wi,rfl,cl,nd,wl,rfl⟩:=p
 have big:=zD
 have el:∀ k,(effF cs k).length≤12:=fun k=>by
  have:=ζE (fun o=>decide (k∈cs.getD o [])) (List.range cs.length)
  rw [ζu] at this
  unfold effF
  omega
 have rl:∀ s,(rim cs sm wi s).length≤12:=fun s=>ζV (XU _ wi (QJ nd s) fun x hx=>tG hx) wl
 refine zeu (G:=Wh K (DG cs sm wi)) le dp q hN (by walk_at"st") ?_
 refine Zn (·=[some (.fz false (nls cs)),some (.fz false (nl sm)),some (.fz false (nl wi)),some (.od (.dK [])),none,none,none]) ?_ ?_
 ·exact zch (u:=Wo) (by walk_at"sc") (yr rfl)
 rintro Γ1 rfl
 refine Zn (·=[some (.fz false (nls cs)),some (.fz false (nl sm)),some (.fz false (nl wi)),some (.od (.dK [])),some (.fz true (nl (rim cs sm wi 0))),none,none]) (exs1 true (d:=nl (rim cs sm wi 0)) (EvO.toE (yo (κ:=true) (is:=[0]) (xs:=wi) false (fun k:Nat=>.int (k:Int)) (fun k:Nat=>.int (k:Int)) (fun k=>decide (k∈sm)) (fun x _ y _ h=>by cases yO h; exact ⟨rfl,rfl⟩) (zN (by walk_at"ev")) (by walk_at"cc") rfl (by decide) (by omega) ?_)) (by walk_at"sc") rfl) ?_
 ·intro k hk
  exact egn (by walk_at"sc") ⟨EvT.eq (zq (zW (neg:=false) (i:=(k:Int)) (ns:=zl sm) (by walk_at"ev") (EvE.toL (EvE.eq (κ:=false) (by walk_at"ev") (ya _))))) zV,fun _=>by walk_at"ev"⟩
 rintro Γ1 rfl
 refine Zn (·=[some (.fz false (nls cs)),some (.fz false (nl sm)),some (.fz false (nl wi)),some (.od (.dK [])),some (.fz true (nl (rim cs sm wi 0))),some (.fz true (.int 0)),none]) (exs1 true (by walk_at"ev") (by walk_at"sc") rfl) ?_
 rintro Γ1 rfl
 refine Zn (fun Γ=>∃ m x y z,DG cs sm wi m∧Γ=[some (.fz false (nls cs)),some (.fz false (nl sm)),some (.fz false (nl wi)),some (.od (.dK m)),x,y,z]) (vF (fun q Γ=>∃ (s:Nat) (m:DTab) (x:Option DV),DS cs sm wi s m∧q=wi.length - (fnd cs sm wi s).length∧Γ=[some (.fz false (nls cs)),some (.fz false (nl sm)),some (.fz false (nl wi)),some (.od (.dK m)),some (.fz true (nl (rim cs sm wi s))),some (.fz true (.int (s:Nat))),x]) _ ⟨0,[],none,⟨fun z=>absurd z (ζY _),fun _=>za1 _,ζh _⟩,rfl,rfl⟩ ?_) ?_
 ·rintro q Γ' ⟨s,m,x,dsm,rfl,rfl⟩
  have fl:=X0 (cs:=cs) (sm:=sm) nd s
  have fl1:=X0 (cs:=cs) (sm:=sm) nd (s + 1)
  have fe:(fnd cs sm wi (s + 1)).length=(fnd cs sm wi s).length + (rim cs sm wi s).length:=by rw [wJ,ζf]
  have rls:=rl s
  have ml:=dsm.l
  refine ⟨decide (0 < ((rim cs sm wi s).length:Int)),EvT.eq (zq (t7 (i:=((rim cs sm wi s).length:Int)) (j:=0) (EvE.eq (yb (ds:=(rim cs sm wi s).map fun k:Nat=>.int (k:Int)) (by walk_at"ev")) (by rw [ζb])) (by walk_at"ev"))) rfl,fun h=>?_,fun h=>?_⟩
  ·have h':0 < ((rim cs sm wi s).length:Int):=by simpa using h
   refine vi (ds:=(rim cs sm wi s).map fun k:Nat=>.int (k:Int)) true (fun i Γ=>∃ (m':DTab) (x:Option DV),(∀ k:Nat,dGet m' (k:Int)=if k∈(rim cs sm wi s).take i then some (.int (s:Nat)) else dGet m (k:Int))∧m'.length≤m.length + i∧Γ=[some (.fz false (nls cs)),some (.fz false (nl sm)),some (.fz false (nl wi)),some (.od (.dK m')),some (.fz true (nl (rim cs sm wi s))),some (.fz true (.int (s:Nat))),x]) (zN (by walk_at"ev")) ⟨m,_,fun k=>rfl,ζh _,rfl⟩ ?_ ?_
   ·rintro i d Γ' hd ⟨m',x,hm,hl,rfl⟩
    obtain ⟨k,hk,rfl⟩:=xN hd
    have il:i < (rim cs sm wi s).length:=(ζe.mp hk).1
    have pl:=zaZ m' (k:Int) (.int (s:Nat))
    refine ⟨_,egn (by walk_at"sc") ?_⟩
    refine zcg (d:=.int (s:Nat)) (w:=.int (s:Nat)) (k:=(k:Int)) (by walk_at"gc") (by walk_at"ev") (by walk_at"ev") rfl (by omega) (by walk_at"sc") ⟨_,_,fun j=>?_,by omega,rfl⟩
    rw [za0,take_succ hk]
    by_cases c:j=k
    ·subst c
     rw [if_pos rfl,if_pos (ζg _ (ζc.mpr rfl))]
    ·rw [if_neg (by omega),hm j]
     have:j∈(rim cs sm wi s).take i ++ [k]↔j∈(rim cs sm wi s).take i:=by rw [ζq,ζc]; exact ⟨fun z=>z.elim id fun y=>absurd y c,.inl⟩
     by_cases d:j∈(rim cs sm wi s).take i
     ·rw [if_pos d,if_pos (this.mpr d)]
     ·rw [if_neg d,if_neg (fun z=>d (this.mp z))]
   rintro Γ' ⟨m',x,hm,hl,rfl⟩
   rw [ζb] at hl
   rw [ζb,ξf] at hm
   have ds':DS cs sm wi (s + 1) m':=⟨fun {k t} ht z=>by
    rw [hm k]
    by_cases c:t=s
    ·subst c
     rw [if_pos z]
    ·rw [if_neg fun y=>c (uD z y),dsm.i (by omega) z],fun {k} z=>by
    rw [wJ] at z
    rw [hm k,if_neg fun y=>z (ζg _ y),dsm.o fun y=>z (ζF _ y)],by rw [fe]; omega⟩
   refine exs true (d:=nl (rim cs sm wi (s + 1))) (EvO.toE (yo (κ:=true) (is:=[0]) (xs:=wi) false (fun k:Nat=>.int (k:Int)) (fun k:Nat=>.int (k:Int)) (fun k=>!decide (k∈fnd cs sm wi (s + 1)) && (effF cs k).any fun e=>decide (e∈rim cs sm wi s)) (fun x _ y _ h=>by cases yO h; exact ⟨rfl,rfl⟩) (zN (by walk_at"ev")) (by walk_at"cc") rfl (by decide) (by omega) ?_)) (by walk_at"sc") ?_
   ·intro k hk
    have elk:=el k
    exact egn (by walk_at"sc") ⟨xu (EvT.eq (et_B (T8 (k:=(k:Int)) (by walk_at"gc") (by walk_at"ev"))) (by rw [ds'.has k])) fun _=>et_B (zk (zg (zk (by walk_at"ev") ⟨cs,k,rfl,by omega,rfl⟩) (zg (by walk_at"ev") zC)) ⟨effF cs k,rim cs sm wi s,rfl,by omega,rfl⟩),fun _=>by walk_at"ev"⟩
   refine exs1 true (d:=.int ((s + 1:Nat):Int)) (EvE.eq (by walk_at"ev") (congrArg PyData.int (by omega))) (by walk_at"sc") ⟨_,?_,s + 1,m',_,ds',rfl,rfl⟩
   omega
  ·have h':¬ 0 < ((rim cs sm wi s).length:Int):=by simpa using h
   exact ⟨m,_,_,_,dsm.end (List.length_eq_zero_iff.mp (by omega)),rfl⟩
 rintro Γ1 ⟨m,x,y,z,dg,rfl⟩
 exact T4 (by walk_at"gc") dg
def nrF (cs:List (List Nat)) (sm wi:List Nat) (t k:Nat):Nat:=((effF cs k).filter fun e=>decide (e∈rim cs sm wi t)).getD 0 0
theorem UI (h:k∈rim cs sm wi (t + 1)):((effF cs k).filter fun e=>decide (e∈rim cs sm wi t))[0]?=some (nrF cs sm wi t k)∧nrF cs sm wi t k∈rim cs sm wi t:=by
 obtain ⟨_,_,e,h1,h2⟩:=vR.mp h
 have hm:e∈(effF cs k).filter fun e=>decide (e∈rim cs sm wi t):=ζl.mpr ⟨h1,decide_eq_true h2⟩
 have g:=zQ (d:=0) (ζ9 hm)
 exact ⟨g,of_decide_eq_true (ζl.mp (ζk g)).2⟩
def Zz (xs:List DV) (d:PyData):Prop:=∃ (cs:List (List Nat)) (sm wi:List Nat) (m:DTab) (t k:Nat),xs=[.fz false (nls cs),.xn (dkO m),.fz false (.int k)]∧cs.length≤12∧DG cs sm wi m∧k∈rim cs sm wi (t + 1)∧d=.int (nrF cs sm wi t k:Nat)
theorem Tp:zA ["causes", "steps", "k"] ["causes", "steps", "k"] (zo (top 7)):={}
theorem TB (F:Fun K "nearer" "nearer" (top 7) f fd) (B:Bs mg) (Z:Cs K mg τa τb) (c_effects:zz P w K mg base CX0 "effects" ["causes", "k"] 1 (spD K true yY)):FnOk P w K mg base CX0 2 f fd ["causes", "steps", "k"] (spV K true Zz):=by
 have sc:=Tp
 refine F.ok sc (fun vs H Q E h=>zbr (fun _ _⟨_,_,_,_,_,_,e,_⟩=>by rw [e];rfl) h) (fun cdv A outer s H vs Q E hr h=>?_)
 obtain ⟨Fh,xs,d,le,dp,p,q⟩:=h
 refine ⟨_,(zf (zy (pX (zu (K:=K) rfl) (yc rfl (N:=["other", "steps", "k"]) (js:=[none,some 1,some 2]) (by walk_at"comp_ok") (zE (K:=K) rfl (pF c_effects hr (zb (pv 0) (zb (pv 2) zd)))) (fun _ _ _ _=>(pN (i:=0) (show υN ["other", "steps", "k"] by decide +kernel))) (fun _ _ _ _=>(yS (zr (XI (K:=K) rfl hr.units) (Q6 (vh hr) (pv 1) (pv 0) ⟨rfl,rfl,rfl,rfl⟩) (zJ vC (XF (vh hr) (pv 1) (pv 2) (fun _ _=>rfl)) zh) (zF _)))) (fun _ _ _ _=>(pv 0))) zh))),?_⟩
 have hN:=sc.n 3
 obtain ⟨cs,sm,wi,m,t,k,rfl,cl,dg,hk,rfl⟩:=p
 have big:=zD
 have el:(effF cs k).length≤12:=by
  have:=ζE (fun o=>decide (k∈cs.getD o [])) (List.range cs.length)
  rw [ζu] at this
  unfold effF
  omega
 have nr:=(UI hk).1
 have a0:atI (((effF cs k).filter fun e=>decide (e∈rim cs sm wi t)).map fun k:Nat=>PyData.int (k:Int)) (0:Int)=some (.int (nrF cs sm wi t k:Nat)):=yt (i:=0) nr
 walk_at"runv"
 refine zM true (zI (κ:=true) (EvO.toL (yo (κ:=true) (is:=[0]) (xs:=effF cs k) false (fun k:Nat=>.int (k:Int)) (fun k:Nat=>.int (k:Int)) (fun e=>decide (e∈rim cs sm wi t)) (fun x _ y _ h=>by cases yO h; exact ⟨rfl,rfl⟩) (zN (zk (by walk_at"ev") ⟨cs,k,rfl,by omega,rfl⟩)) (by walk_at"cc") rfl (by decide) (by omega) ?_)) (by walk_at"ev") a0) rfl (.inl ⟨rfl,rfl⟩)
 intro e he
 have st:EvE K .fresh false (tOp (rI0 fun i j=>.int (i - j)) (Ux (tVar 1) (tVar 2)) (tC (.int 1))) [some (.fz false (.int e)),some (.xn (dkO m)),some (.fz false (.int k))] (.int (t:Nat)):=EvE.eq (ZW (Vb (d:=.int ((t + 1:Nat):Int)) (by walk_at"gc") (by walk_at"ev") (dg.i hk) rfl) (by walk_at"ev")) (congrArg PyData.int (by omega))
 refine egn (by walk_at"sc") ⟨?_,fun _=>by walk_at"ev"⟩
 by_cases c:∃ s,e∈rim cs sm wi s
 ·obtain ⟨s,hs⟩:=c
  refine EvT.eq (zq (Z0 (neg:=false) (d:=.int (s:Nat)) (f:=.int (t:Nat)) (EvE.toD (κ:=false) (YW (by walk_at"gc") (by walk_at"ev") (.inr ⟨_,dg.i hs,rfl⟩))) (EvE.toD (κ:=false) st) rfl rfl)) ?_
  show ((s:Int) == (t:Int))=_
  by_cases z:s=t
  ·subst z
   rw [decide_eq_true hs]
   simp
  ·rw [decide_eq_false fun y=>z (uD hs y)]
   exact beq_eq_false_iff_ne.mpr (by omega)
 ·have c:∀ s,e∉rim cs sm wi s:=fun s z=>c ⟨s,z⟩
  refine EvT.eq (zq (Z0 (neg:=false) (d:=.none) (f:=.int (t:Nat)) (EvE.toD (κ:=false) (YW (by walk_at"gc") (by walk_at"ev") (.inl ⟨dg.o c,rfl⟩))) (EvE.toD (κ:=false) st) rfl rfl)) ?_
  rw [decide_eq_false (c t)]
  rfl
def wyF (cs:List (List Nat)) (sm wi:List Nat):Nat→Nat→List Nat
 | 0,k=>[k]
 | t + 1,k=>k :: wyF cs sm wi t (nrF cs sm wi t k)
theorem vk (cs:List (List Nat)) (sm wi:List Nat):∀ t k,(wyF cs sm wi t k).length=t + 1
 | 0,_=>rfl
 | t + 1,_=>congrArg (· + 1) (vk cs sm wi t _)
def WdD (cs:List (List Nat)) (sm:List Nat) (k:Nat) (d:PyData):Prop:=(∃ t,k∈rim cs sm (List.range cs.length) t∧d=nl (wyF cs sm (List.range cs.length) t k))∨((∀ t,k∉rim cs sm (List.range cs.length) t)∧d=.none)
def wR (ds:List PyData) (d:PyData):Prop:=∃ (cs:List (List Nat)) (k:Nat) (sm:List Nat),ds=[nls cs,.int k,nl sm]∧cs.length≤12∧WdD cs sm k d
theorem Ws:zA ["causes", "k", "some", "steps", "way"] ["causes", "k", "some"] (zo (top 8)):={}
theorem WP (F:Fun K "way_down" "way_down" (top 8) f fd) (B:Bs mg) (Z:Cs K mg τa τb) (c_steps_down:zz P w K mg base CX0 "steps_down" ["causes", "some", "within"] 2 (spDW K xT)) (c_nearer:zz P w K mg base CX0 "nearer" ["causes", "steps", "k"] 2 (spV K true Zz)):FnOk P w K mg base CX0 3 f fd ["causes", "k", "some"] (spD K true wR):=by
 have sc:=Ws
 refine F.ok sc (fun vs H Q E h=>zH (fun _ _⟨_,_,_,e,_⟩=>by rw [e];rfl) h) (fun cdv A outer s H vs Q E hr h=>?_)
 obtain ⟨Fh,ds,d,le,dp,p,q⟩:=h
 refine ⟨_,(ze (pS (i:=3) sc.nd (pF c_steps_down hr (zb (pv 0) (zb (pv 2) (zb (pY (u9 rfl) B.list (zb (pY Y0 B.range (zb (pB (zm (K:=K) rfl) B.len (zb (pv 0) zd)) zd)) zd)) zd)))))
   (ze (ye (VL (YF (vh hr) (pv 1) (pv 3))) (zf (zy wV)) zL)
   (ze (pS (i:=4) sc.nd (zU (zb (pv 1) zd)))
   (ze (vt PassesOwn.never (zr ZK (XF (vh hr) (pv 3) (pX (zu (K:=K) rfl) (pv 4) (ub wq zh)) (fun _ _=>rfl)) zh (zF _)) (zf (yB (yN (K:=K) rfl ζx ζK ζJ yf (pv 4) (zb (pF c_nearer hr (zb (pv 0) (zb (pv 3) (zb (pX (zu (K:=K) rfl) (pv 4) (ub wq zh)) zd)))) zd)))))
   (zf (zy (pv 4))))))),?_⟩
 have hN:=sc.n 5
 obtain ⟨cs,k,sm,rfl,cl,wd⟩:=p
 have big:=zD
 have el:PyData.int (((cs.map nl).length:Nat):Int)=.int (cs.length:Int):=by rw [ζb]
 have nd:(List.range cs.length).Nodup:=ξK
 walk_at"run"
 refine YN (zg (by walk_at"ev") (zg (by walk_at"ev") (zg (EvO.toE (t6 (EvE.eq (yb (ds:=cs.map nl) (by walk_at"ev")) el) (by omega))) zC))) ⟨cs,sm,List.range cs.length,rfl,cl,nd,by rw [ζu]; exact cl,rfl⟩ (fun m=>by walk_at"sc") ?_
 intro m dg
 rcases wd with ⟨t,ht,rfl⟩ | ⟨ho,rfl⟩
 ·have tl:=tF nd ht
  rw [ζu] at tl
  generalize List.range cs.length=wi at dg ht
  refine wK (b:=!(dGet m (k:Int)).isSome) (et_B (Z1 (by walk_at"gc") (by walk_at"ev"))) (by rw [dg.i ht]; rfl) ?_
  refine exo true (ds:=[k].map fun k:Nat=>.int (k:Int)) (zZ (ds:=[.int (k:Int)]) (zg (by walk_at"ev") zC) (by show 1≤sizeLine; omega)) (by walk_at"sc") ?_
  refine yK (·=[some (.fz false (nls cs)),some (.fz false (.int k)),some (.fz false (nl sm)),some (.xn (dkO m)),some (.ow true ((wyF cs sm wi t k).map fun k:Nat=>.int (k:Int)))]) (vF (fun q Γ=>∃ (pr:List Nat) (j:Nat),j∈rim cs sm wi q∧pr ++ wyF cs sm wi q j=wyF cs sm wi t k∧Γ=[some (.fz false (nls cs)),some (.fz false (.int k)),some (.fz false (nl sm)),some (.xn (dkO m)),some (.ow true ((pr ++ [j]).map fun k:Nat=>.int (k:Int)))]) t ⟨[],k,ht,rfl,rfl⟩ ?_) ?_
  ·rintro q Γ' ⟨pr,j,hj,he,rfl⟩
   have pl:pr.length + (q + 1)=t + 1:=by
    have:=congrArg List.length he
    rw [ζf,vk,vk] at this
    exact this
   have al:atI ((pr ++ [j]).map fun k:Nat=>PyData.int (k:Int)) (-1)=some (.int (j:Int)):=by
    rw [ζo]
    exact vI _ _
   refine ⟨decide ((0:Int) < (q:Int)),zq (t7 (Vb (d:=.int (q:Nat)) (by walk_at"gc") (zI (κ:=false) (by walk_at"ev") (by walk_at"ev") al) (dg.i hj) rfl) (by walk_at"ev")),fun h=>?_,fun h=>?_⟩
   ·obtain ⟨p,rfl⟩:∃ p,q=p + 1:=⟨q - 1,by have:=of_decide_eq_true h; omega⟩
    refine exa1 (d:=.int (nrF cs sm wi p j:Nat)) (by walk_at"gc") (zaN (W9 (by walk_at"ev") (zco (by walk_at"gc") (W9 (zI (κ:=false) (by walk_at"ev") (by walk_at"ev") al) zcp))) ⟨cs,sm,wi,m,p,j,rfl,cl,dg,hj,rfl⟩) (by walk_at"sc") (by rw [ζb,ζf]; show _ + 1 < _; omega) ⟨p,ζ5 p,pr ++ [j],nrF cs sm wi p j,(UI hj).2,?_,by rw [ζo (l₁:=pr ++ [j])]; rfl⟩
    rw [ξa]
    exact he
   ·obtain rfl:q=0:=by have:=of_decide_eq_false h; omega
    show _=_
    rw [show pr ++ [j]=wyF cs sm wi t k from he]
  rintro Γ' rfl
  exact exro (by walk_at"gc") rfl (.inl ⟨rfl,rfl⟩)
 ·refine vE (b:=!(dGet m (k:Int)).isSome) (et_B (Z1 (by walk_at"gc") (by walk_at"ev"))) (fun _=>?_) (fun h=>?_)
  ·exact exrs true (by walk_at"ev") rfl (.inl ⟨rfl,rfl⟩)
  ·rw [dg.o ho] at h
   cases h
abbrev wiC (cs:List (List Nat)):List Nat:=List.range cs.length
open Classical in
noncomputable def wdF (cs:List (List Nat)) (sm:List Nat) (k:Nat):Option (List Nat):=if h:∃ t,k∈rim cs sm (wiC cs) t then some (wyF cs sm (wiC cs) h.choose k) else none
theorem Yt (h:k∈rim cs sm (wiC cs) t):wdF cs sm k=some (wyF cs sm (wiC cs) t k):=by
 have ex:∃ t,k∈rim cs sm (wiC cs) t:=⟨t,h⟩
 unfold wdF
 rw [dif_pos ex,uD ex.choose_spec h]
def Ch (cs:List (List Nat)):List Nat→Prop
 | a :: l=>(∀ b,l.head?=some b→a∈cs.getD b [])∧Ch cs l
 | []=>True
theorem wM (cs:List (List Nat)) (sm wi:List Nat) (t k:Nat):(wyF cs sm wi t k).head?=some k:=by cases t <;> rfl
theorem Wj (ok:ShOk n cs):∀ {t k:Nat},k∈rim cs kn (wiC cs) t→Ch cs (wyF cs kn (wiC cs) t k)∧(∀ z,(wyF cs kn (wiC cs) t k).getLast?=some z→z∈kn)∧Dsp.Wy (paC cs) (InL kn) k (wyF cs kn (wiC cs) t k).tail
 | 0,k,h=>by
  have kn':=of_decide_eq_true (ζl.mp h).2
  exact ⟨⟨fun b z=>(by cases z),trivial⟩,fun z e=>(by cases e; exact kn'),kn'⟩
 | t + 1,k,h=>by
  obtain ⟨n1,n2⟩:=UI h
  have ef:nrF cs kn (wiC cs) t k∈effF cs k:=(ζl.mp (ζk n1)).1
  obtain ⟨i1,i2,i3⟩:=Wj ok n2
  have hh:=wM cs kn (wiC cs) t (nrF cs kn (wiC cs) t k)
  have pk:=((y9 ok).mp ef).2
  have nk:¬ k∈kn:=fun z=>by
   have:k∈rim cs kn (wiC cs) 0:=ζl.mpr ⟨tG h,decide_eq_true z⟩
   have:=uD this h
   omega
  obtain ⟨w,e⟩:∃ w,wyF cs kn (wiC cs) t (nrF cs kn (wiC cs) t k)=nrF cs kn (wiC cs) t k :: w:=by
   cases q:wyF cs kn (wiC cs) t (nrF cs kn (wiC cs) t k) with
   | nil=>rw [q] at hh; cases hh
   | cons a w=>rw [q] at hh; cases hh; exact ⟨w,rfl⟩
  show Ch cs (k :: wyF cs kn (wiC cs) t (nrF cs kn (wiC cs) t k))∧(∀ z,(k :: wyF cs kn (wiC cs) t (nrF cs kn (wiC cs) t k)).getLast?=some z→z∈kn)∧Dsp.Wy (paC cs) (InL kn) k (wyF cs kn (wiC cs) t (nrF cs kn (wiC cs) t k))
  refine ⟨⟨fun b z=>by rw [hh] at z; cases z; exact pk,i1⟩,fun z hz=>i2 z ?_,?_⟩
  ·rw [e] at hz ⊢
   rw [List.getLast?_cons_cons] at hz
   exact hz
  ·rw [e] at i3 ⊢
   exact ⟨nk,pk,i3⟩
theorem zdK (l:List Nat):l.map (fun k:Nat=>PyData.int (k:Int))=(zl l).map PyData.int:=by
 unfold zl
 rw [ζM]
 rfl
theorem QH (ok:ShOk n cs) (hv:v < n) (he:b∈effF cs v) (hb:b∈rim cs sm (wiC cs) t):∃ s,s≤t + 1∧v∈rim cs sm (wiC cs) s:=by
 by_cases f:v∈fnd cs sm (wiC cs) (t + 1)
 ·obtain ⟨s,h1,h2⟩:=wW.mp f
  exact ⟨s,by omega,h2⟩
 ·exact ⟨t + 1,ζh _,vR.mpr ⟨ζD.mpr (by rw [ok.l]; exact hv),f,b,he,hb⟩⟩
theorem Zv (ok:ShOk n cs) (hv:v < n) (h:v∈sm):v∈rim cs sm (wiC cs) 0:=ζl.mpr ⟨ζD.mpr (by rw [ok.l]; exact hv),decide_eq_true h⟩
theorem WF (ok:ShOk n cs) (n12:n≤12) (hx:x < n) (h:Rch (effF cs) [x] k):(∃ t,k∈rim cs sm (wiC cs) t)→∃ t,x∈rim cs sm (wiC cs) t:=by
 have lt:∀ {z},Rch (effF cs) [x] z→z < n:=fun r=>r.lt (Ue ok n12) ⟨fun y hy=>by rw [ζc.mp hy]; exact hx,by show 1≤80; decide⟩
 induction h with
 | base z=>rw [ζc.mp z]; exact id
 | step r z ih =>
  rintro ⟨t,h⟩
  obtain ⟨s,_,h2⟩:=QH ok (lt r) z h
  exact ih ⟨s,h2⟩
theorem Ts (ok:ShOk n cs) (hy:y < n) (h:Rch (cauF cs) [y] k):∃ t,k∈rim cs [y] (wiC cs) t:=by
 induction h with
 | base z=>rw [ζc.mp z]; exact ⟨0,Zv ok hy ζj⟩
 | @step a b r z ih =>
  obtain ⟨t,h⟩:=ih
  have an:a < n:=by have:=ζD.mp (tG h); rwa [ok.l] at this
  have bn:b < n:=(ok.at an).2.1 b z
  obtain ⟨s,_,h2⟩:=QH ok bn ((y9 ok).mpr ⟨an,z⟩) h
  exact ⟨s,h2⟩
theorem WO (ok:ShOk n cs) (n12:n≤12) (hx:x < n) (hy:y < n) (h:k∈onW n cs x y):k < n∧(∃ t,x∈rim cs [k] (wiC cs) t)∧∃ t,k∈rim cs [y] (wiC cs) t:=by
 obtain ⟨h1,h2,_⟩:=vS.mp h
 obtain ⟨kn,r1⟩:=zY.mp h1
 exact ⟨kn,WF ok n12 hx r1 ⟨0,Zv ok kn ζj⟩,Ts ok hy (zY.mp h2).2⟩
noncomputable def bnW (cs:List (List Nat)) (x y st:Nat):List Nat:=(wdF cs [st] x).getD [] ++ ((wdF cs [y] st).getD []).drop 1
noncomputable def bnD (cs:List (List Nat)) (x y st:Nat) (sm:List Nat):PyData:=.tuple [.str "beneath", nl (bnW cs x y st),nl ((wdF cs sm st).getD [])]
def xW (ds:List PyData) (d:PyData):Prop:=∃ (cs:List (List Nat)) (x y st:Nat) (sm:List Nat),ds=[nls cs,.int x,.int y,nl sm,.int st]∧cs.length≤12∧(∃ t,x∈rim cs [st] (wiC cs) t)∧(∃ t,st∈rim cs [y] (wiC cs) t)∧(∃ t,st∈rim cs sm (wiC cs) t)∧d=bnD cs x y st sm
theorem uz:zA ["causes", "x", "y", "some", "start", "way"] ["causes", "x", "y", "some", "start"] (zo (top 30)):={}
theorem uR (F:Fun K "beneath_reason" "beneath_reason" (top 30) f fd) (B:Bs mg) (Z:Cs K mg τa τb) (c_way_down:zz P w K mg base CX0 "way_down" ["causes", "k", "some"] 3 (spD K true wR)):FnOk P w K mg base CX0 4 f fd ["causes", "x", "y", "some", "start"] (spD K true xW):=by
 have sc:=uz
 refine F.ok sc (fun vs H Q E h=>zH (fun _ _⟨_,_,_,_,_,e,_⟩=>by rw [e];rfl) h) (fun cdv A outer s H vs Q E hr h=>?_)
 obtain ⟨Fh,ds,d,le,dp,p,q⟩:=h
 refine ⟨_,(ze (pS (i:=5) sc.nd (zJ (wI (K:=K) rfl) (pF c_way_down hr (zb (pv 0) (zb (pv 1) (zb (zU (zb (pv 4) zd)) zd)))) (uK (ux (K:=K) rfl) (pF c_way_down hr (zb (pv 0) (zb (pv 4) (zb (zU (zb (pv 2) zd)) zd)))) (uJ zh) XA)))
   (zf (zy (xG (zb XD (zb (pv 5) (zb (pF c_way_down hr (zb (pv 0) (zb (pv 4) (zb (pv 3) zd)))) zd))))))),?_⟩
 have hN:=sc.n 6
 obtain ⟨cs,x,y,st,sm,rfl,c12,⟨t1,h1⟩,⟨t2,h2⟩,⟨t3,h3⟩,rfl⟩:=p
 have big:=zD
 have nd:(List.range cs.length).Nodup:=ξK
 have l1:=tF nd h1
 have l2:=tF nd h2
 rw [ζu] at l1 l2
 have wd:∀ {k:Nat} {sm:List Nat} {t:Nat},k∈rim cs sm (wiC cs) t→wR [nls cs,.int (k:Int),nl sm] (nl (wyF cs sm (wiC cs) t k)):=fun {k sm t} h=>⟨cs,k,sm,rfl,c12,.inl ⟨t,h,rfl⟩⟩
 walk_at"run"
 refine exs true (d:=nl (wyF cs [st] (wiC cs) t1 x ++ (wyF cs [y] (wiC cs) t2 st).drop 1)) (EvO.toE (EvO.eq (wZ (xs:=(wyF cs [st] (wiC cs) t1 x).map fun k:Nat=>.int (k:Int)) (ys:=((wyF cs [y] (wiC cs) t2 st).drop 1).map fun k:Nat=>.int (k:Int)) (EvL.imm (κ:=false) (EvE.toL (zk (ds:=[nls cs,.int (x:Int),.list [.int (st:Int)]]) (d:=nl (wyF cs [st] (wiC cs) t1 x)) (by walk_at"ev") (wd h1))) (xY _)) (EvO.toL (EvO.eq (xQ (ds:=(wyF cs [y] (wiC cs) t2 st).map fun k:Nat=>.int (k:Int)) (lo:=some ((1:Nat):Int)) (EvL.imm (κ:=false) (EvE.toL (zk (ds:=[nls cs,.int (st:Int),.list [.int (y:Int)]]) (d:=nl (wyF cs [y] (wiC cs) t2 st)) (by walk_at"ev") (wd h2))) (xY _)) (uY (EvE.eq (b:=.int ((1:Nat):Int)) (show EvE K .fresh false _ _ (.int 1) by walk_at"ev") rfl)) X8) (cutH _ _ 1))) ?_) (by rw [ζo]))) (by walk_at"sc") ?_
 ·rw [ζb,ζb,ζ0,vk,vk]
  omega
 exact zM true (ww (ds:=[.str "beneath", nl (wyF cs [st] (wiC cs) t1 x ++ (wyF cs [y] (wiC cs) t2 st).drop 1),nl (wyF cs sm (wiC cs) t3 st)]) (zg ZX (zg (by walk_at"ev") (zg (zk (by walk_at"ev") (wd h3)) zC))) (by show 3≤_; omega)) (by show _=bnD cs x y st sm; unfold bnD bnW; rw [Yt h1,Yt h2,Yt h3]; rfl) (.inl ⟨rfl,rfl⟩)
open Classical in
noncomputable def stF (cs:List (List Nat)) (sm:List Nat) (k:Int):Int:=if h:∃ t,k.toNat∈rim cs sm (wiC cs) t then (h.choose:Int) else 0
theorem Vw {k t:Nat} (h:k∈rim cs sm (wiC cs) t):stF cs sm (k:Int)=(t:Int):=by
 have e:∃ t,((k:Int)).toNat∈rim cs sm (wiC cs) t:=⟨t,h⟩
 unfold stF
 rw [dif_pos e,uD (show k∈rim cs sm (wiC cs) e.choose from e.choose_spec) h]
open Classical in
noncomputable def staF (n:Nat) (cs:List (List Nat)) (x y:Nat) (sm:List Nat):List Nat:=(onW n cs x y).filter fun k=>decide (∃ t,k∈rim cs sm (wiC cs) t)
noncomputable def whyD (n:Nat) (cs:List (List Nat)) (x y:Nat) (sm:List Nat):PyData:=if staF n cs x y sm=[] then (match ordF (cutC n cs x y) sm x y with | none=>.none | some r=>.tuple [.str "road", nl r]) else bnD cs x y (mnK (stF cs sm) (zl (staF n cs x y sm))).toNat sm
def vw (ds:List PyData) (d:PyData):Prop:=∃ (n:Nat) (cs:List (List Nat)) (x y:Nat) (sm:List Nat),ds=[nls cs,.int x,.int y,nl sm]∧ShOk n cs∧n≤12∧x < n∧y < n∧Dg (cutC n cs x y)∧vL (cutC n cs x y)∧tot (cutC n cs x y)≤15∧x∉sm∧(∀ z∈sm,z < n)∧sm.length≤12∧d=whyD n cs x y sm
theorem VA:zA ["causes", "x", "y", "some", "steps", "starts", "road"] ["causes", "x", "y", "some"] (zo (top 29)):={}
theorem VQ (F:Fun K "why_not" "why_not" (top 29) f fd) (L:t5 K f "why_not" = true) (B:Bs mg) (Z:Cs K mg τa τb) (c_steps_down:zz P w K mg base CX0 "steps_down" ["causes", "some", "within"] 2 (spDW K xT)) (c_on_ways:zz P w K mg base CX0 "on_ways" ["causes", "x", "y"] 6 (spD K true vz)) (c_beneath_reason:zz P w K mg base CX0 "beneath_reason" ["causes", "x", "y", "some", "start"] 4 (spD K true xW)) (c_open_road:zz P w K mg base CX0 "open_road" ["causes", "x", "y", "known"] 9 (spD K true wt)) (c_cut_shape:zz P w K mg base CX0 "cut_shape" ["causes", "x", "y"] 7 (spD K true wv)):FnOk P w K mg base CX0 10 f fd ["causes", "x", "y", "some"] (spD K true vw):=by
 have sc:=VA
 refine F.okL L sc (fun vs H Q E h=>zH (fun _ _⟨_,_,_,_,_,e,_⟩=>by rw [e];rfl) h) (fun c T A outer s H vs Q E hhd htab hr h=>?_)
 obtain ⟨Fh,ds,d,le,dp,p,q⟩:=h
 refine ⟨_,(ze (pS (i:=4) sc.nd (pF c_steps_down hr (zb (pv 0) (zb (pv 3) (zb (pY (u9 rfl) B.list (zb (pY Y0 B.range (zb (pB (zm (K:=K) rfl) B.len (zb (pv 0) zd)) zd)) zd)) zd)))))
   (ze (yU (i:=5) rfl sc.nd rfl rfl (N:=["k", "steps"]) (js:=[none,some 4]) (by walk_at"comp_ok") (zE (K:=K) rfl (pF c_on_ways hr (zb (pv 0) (zb (pv 1) (zb (pv 2) zd))))) (fun _ _ _ _=>(pN (i:=0) (show υN ["k", "steps"] by decide +kernel))) (fun _ _ _ _=>(yS (VL (zdA (vh hr) (pv 0) (pv 1))))) (fun _ _ _ _=>(pv 0)))
   (ze (ye (zr ZK (pB (zm (K:=K) rfl) B.len (zb (pv 5) zd)) zh (zF _)) (zf (zy (pF c_beneath_reason hr (zb (pv 0) (zb (pv 1) (zb (pv 2) (zb (pv 3) (zb (Tw (kk:=1) (x := "k") (caps:=[("steps", 4)]) (hr.mono (by decide)) rfl B.min (zb (pv 5) zd) rfl hhd htab rfl rfl rfl (ζB.mpr ⟨⟨rfl,rfl⟩,(fun _ z=>nomatch z)⟩) (ζB.mpr ⟨⟨by first | exact .head _ | exact .tail _ (.head _) | exact .tail _ (.tail _ (.head _)),rfl⟩,(fun _ z=>nomatch z)⟩) (ζB.mpr ⟨rfl,(fun _ z=>nomatch z)⟩) (fun _=>rfl)) zd)))))))) zL)
   (ze (pS (i:=6) sc.nd (pF c_open_road hr (zb (pF c_cut_shape hr (zb (pv 0) (zb (pv 1) (zb (pv 2) zd)))) (zb (pv 1) (zb (pv 2) (zb (pv 3) zd))))))
   (zf (zy (ZH (zr VN (pv 6) wV (zF _)) wV (xG (zb XD (zb (pv 6) zd)))))))))),?_⟩
 have hN:=sc.n 7
 classical
 obtain ⟨n,cs,x,y,sm,rfl,ok,n12,hx,hy,dg,rn,t15,xs,hs,sl,rfl⟩:=p
 have big:=zD
 have cl:=ok.l
 have el:PyData.int (((cs.map nl).length:Nat):Int)=.int (cs.length:Int):=by rw [ζb]
 have nd:(List.range cs.length).Nodup:=ξK
 walk_at"run"
 refine YN (zg (by walk_at"ev") (zg (by walk_at"ev") (zg (EvO.toE (t6 (EvE.eq (yb (ds:=cs.map nl) (by walk_at"ev")) el) (by omega))) zC))) ⟨cs,sm,List.range cs.length,rfl,by omega,nd,by rw [ζu]; omega,rfl⟩ (fun m=>by walk_at"sc") ?_
 intro m dgm
 have has:∀ k:Nat,(dGet m (k:Int)).isSome=@decide (∃ t,k∈rim cs sm (wiC cs) t) (Classical.propDecidable _):=fun k=>by
  by_cases c:∃ t,k∈rim cs sm (wiC cs) t
  ·obtain ⟨t,h⟩:=c
   rw [dgm.i h,decide_eq_true ⟨t,h⟩]
   rfl
  ·rw [dgm.o fun t h=>c ⟨t,h⟩,decide_eq_false c]
   rfl
 have fe:(onW n cs x y).filter (fun k:Nat=>(dGet m (k:Int)).isSome)=staF n cs x y sm:=by
  unfold staF
  exact congrArg (fun p=>List.filter p _) (funext has)
 have ol:(onW n cs x y).length≤n:=ζV (ζE ..) (vq ..)
 refine exs true (d:=nl (staF n cs x y sm)) (EvO.toE (EvO.eq (yo (κ:=true) (is:=[0]) (xs:=onW n cs x y) false (fun k:Nat=>.int (k:Int)) (fun k:Nat=>.int (k:Int)) (fun k=>(dGet m (k:Int)).isSome) (fun x _ y _ h=>by cases yO h; exact ⟨rfl,rfl⟩) (zN (zk (ds:=[nls cs,.int (x:Int),.int (y:Int)]) (d:=nl (onW n cs x y)) (by walk_at"ev") ⟨n,cs,x,y,rfl,ok,n12,hx,hy,rfl⟩)) (by walk_at"cc") rfl (by decide) (by omega) ?_) (by rw [fe]))) (by walk_at"sc") ?_
 ·exact fun k hk=>egn (by walk_at"sc") ⟨et_B (zcu (by walk_at"gc") (by walk_at"ev")),fun _=>by walk_at"ev"⟩
 have zn:∀ k:Nat,k∈staF n cs x y sm→k∈onW n cs x y∧∃ t,k∈rim cs sm (wiC cs) t:=fun k hk=>by
  unfold staF at hk
  rw [ζl] at hk
  exact ⟨hk.1,of_decide_eq_true hk.2⟩
 refine vE (b:=decide ((0:Int) < ((staF n cs x y sm).length:Nat))) (zq (t7 (EvE.eq (yb (ds:=(staF n cs x y sm).map fun k:Nat=>.int (k:Int)) (by walk_at"ev")) (by rw [ζb])) (by walk_at"ev"))) (fun h=>?_) (fun h=>?_)
 ·have ne:staF n cs x y sm≠[]:=fun z=>by rw [z] at h; cases h
  have nez:zl (staF n cs x y sm)≠[]:=fun z=>ne (ξS.mp z)
  obtain ⟨mm,_⟩:=ZN (kf:=stF cs sm) nez
  obtain ⟨st,hst,es⟩:=ζn.mp mm
  have es:((st:Nat):Int)=mnK (stF cs sm) (zl (staF n cs x y sm)):=es
  obtain ⟨z1,z2⟩:=zn st hst
  obtain ⟨sn,l1,l2⟩:=WO ok n12 hx hy z1
  refine exrs true (zk (ds:=[nls cs,.int x,.int y,nl sm,.int st]) (d:=bnD cs x y st sm) (zg (by walk_at"ev") (zg (by walk_at"ev") (zg (by walk_at"ev") (zg (by walk_at"ev") (zg (EvE.eq (T6 (P:=P) (w:=w) (mg:=mg) (base:=base) (kk:=0) (x := "k") (y := "steps") (m:=m) (ns:=zl (staF n cs x y sm)) (kf:=stF cs sm) (Ua (EvE.toL (by walk_at"ev")) (zdK _)) nez (by walk_at"gc") (fun k hk=>?_) (uS (by decide +kernel)) (fun cl pm c' ctv=>xg.all fun us hl=>match us,hl with | [_],_=>rfl) (fun _ _ _ hcl _ _ _ _ hr=>(XF (vh hr) (pv 1) (pv 0) (fun _ _=>rfl)))) (by rw [es])) zC))))) ⟨cs,x,y,st,sm,rfl,by omega,l1,l2,z2,rfl⟩) ?_ (.inl ⟨rfl,rfl⟩)
  ·obtain ⟨k,hk',rfl⟩:=ζn.mp hk
   obtain ⟨_,t,ht⟩:=zn k hk'
   show dGet m (k:Int)=some (.int (stF cs sm (k:Int)))
   rw [Vw ht,dgm.i ht]
  ·show bnD cs x y st sm=whyD n cs x y sm
   unfold whyD
   rw [if_neg ne,← es]
   rfl
 ·have ne:staF n cs x y sm=[]:=by
   cases q:staF n cs x y sm with
   | nil=>rfl
   | cons a l =>
    rw [q] at h
    exact absurd (show (0:Int) < ((l.length + 1:Nat):Int) by omega) (of_decide_eq_false h)
  have cok:ShOk n (cutC n cs x y):=zcL ok _
  have pc:wv [nls cs,.int x,.int y] (nls (cutC n cs x y)):=⟨n,cs,x,y,rfl,ok,n12,hx,hy,rfl⟩
  have po:wt [nls (cutC n cs x y),.int x,.int y,nl sm] (rdD (ordF (cutC n cs x y) sm x y)):=⟨n,cutC n cs x y,x,y,sm,rfl,cok,dg,rn,n12,t15,hx,xs,hs,by omega,rfl⟩
  refine exn ?_
  refine exs true (zk (zg (zk (by walk_at"ev") pc) (zg (by walk_at"ev") (zg (by walk_at"ev") (zg (by walk_at"ev") zC)))) po) (by walk_at"sc") ?_
  refine zM true ?_ (show _=whyD n cs x y sm from rfl) (.inl ⟨rfl,rfl⟩)
  unfold whyD
  rw [if_pos ne]
  cases q:ordF (cutC n cs x y) sm x y with
  | none=>exact X7 (b:=true) (zq (tL (d:=rdD none) (EvE.toD (κ:=false) (evv (by walk_at"gc") (by decide))))) (fun _=>by walk_at"ev") (fun h=>by cases h)
  | some r=>exact X7 (b:=false) (zq (tL (d:=rdD (some r)) (EvE.toD (κ:=false) (evv (by walk_at"gc") (by decide))))) (fun h=>by cases h) (fun _=>ww (ds:=[.str "road", nl r]) (zg ZX (zg (by walk_at"ev") zC)) (by show 2≤_; omega))
theorem Xw (h1:Rch nx sm a) (h2:Rch nx [a] z):Rch nx sm z:=by
 induction h2 with
 | base h=>rw [ζc.mp h]; exact h1
 | step _ z ih=>exact .step ih z
theorem Zi (ok:ShOk n cs):∀ {s z:Nat},z∈rim cs [y] (wiC cs) s→Rch (cauF cs) [y] z
 | 0,_,h=>.base (of_decide_eq_true (ζl.mp h).2)
 | _ + 1,_,h=>by
  obtain ⟨_,_,e,he,h2⟩:=vR.mp h
  exact .step (Zi ok h2) ((y9 ok).mp he).2
theorem Qj (ok:ShOk n cs):∀ {t k:Nat},k∈rim cs kn (wiC cs) t→∀ z∈(wyF cs kn (wiC cs) t k).drop 1,Rch (effF cs) [k] z∧∃ s,s < t∧z∈rim cs kn (wiC cs) s
 | 0,_,_,z,hz=>nomatch hz
 | t + 1,k,h,z,hz=>by
  obtain ⟨n1,n2⟩:=UI h
  have ef:nrF cs kn (wiC cs) t k∈effF cs k:=(ζl.mp (ζk n1)).1
  have r1:Rch (effF cs) [k] (nrF cs kn (wiC cs) t k):=.step (.base ζj) ef
  have hz:z∈wyF cs kn (wiC cs) t (nrF cs kn (wiC cs) t k):=hz
  have hh:=wM cs kn (wiC cs) t (nrF cs kn (wiC cs) t k)
  cases q:wyF cs kn (wiC cs) t (nrF cs kn (wiC cs) t k) with
  | nil=>rw [q] at hz; cases hz
  | cons a l =>
   rw [q] at hz hh
   cases hh
   rcases ζz.mp hz with rfl | hz
   ·exact ⟨r1,t,ζ5 _,n2⟩
   ·obtain ⟨r2,s,hs,h2⟩:=Qj ok n2 z (by rw [q]; exact hz)
    exact ⟨Xw r1 r2,s,by omega,h2⟩
theorem Xa (ok:ShOk n cs) (h:k∈rim cs kn (wiC cs) t):∀ z∈wyF cs kn (wiC cs) t k,Rch (effF cs) [k] z∧∃ s,z∈rim cs kn (wiC cs) s:=fun z hz=>by
 have hh:=wM cs kn (wiC cs) t k
 have hi:=Qj ok h z
 cases q:wyF cs kn (wiC cs) t k with
 | nil=>rw [q] at hz; cases hz
 | cons a l =>
  rw [q] at hz hh hi
  cases hh
  rcases ζz.mp hz with rfl | hz
  ·exact ⟨.base ζj,t,h⟩
  ·obtain ⟨r,s,_,h2⟩:=hi hz
   exact ⟨r,s,h2⟩
theorem za4:∀ {a:List Nat},Ch cs (a ++ [v])→Ch cs (v :: b)→Ch cs (a ++ v :: b)
 | [],_,h=>h
 | x :: a,h1,h2=>by
  refine ⟨fun c hc=>h1.1 c ?_,za4 (a:=a) h1.2 h2⟩
  cases a <;> exact hc
theorem QG {cs:List (List Nat)} {rk:Nat→Nat} (hr:∀ e c,c∈cs.getD e []→rk c < rk e) {n:Nat} (ok:ShOk n cs) {a z:Nat} (h:Rch (effF cs) [a] z):z=a∨rk a < rk z:=by
 induction h with
 | base h=>exact .inl (ζc.mp h)
 | @step b c _ z ih =>
  have:=hr c b ((y9 ok).mp z).2
  rcases ih with rfl | ih
  ·exact .inr this
  ·exact .inr (by omega)
structure BnOk (n:Nat) (cs:List (List Nat)) (x y st:Nat) (sm w l:List Nat):Prop where
 wc:Ch cs w
 wn:∀ z∈w,z < n
 wh:w.head?=some x
 wl:w.getLast?=some y
 lc:Ch cs l
 ln:∀ z∈l,z < n
 lh:l.head?=some st
 ll:∀ z,l.getLast?=some z→z∈sm
 sw:st∈w
 sx:st≠x
 no:∀ z∈l.drop 1,z∉w
 wz:w.length≤24
 lz:l.length≤12
theorem zda {n:Nat} {cs:List (List Nat)} (ok:ShOk n cs) (n12:n≤12) (dg:Dg cs) {x y st:Nat} {sm:List Nat} (hx:x < n) (hy:y < n) (hs:st∈staF n cs x y sm) (hm:∀ k∈staF n cs x y sm,stF cs sm (st:Int)≤stF cs sm (k:Int)):BnOk n cs x y st sm (bnW cs x y st) ((wdF cs sm st).getD []):=by
 classical
 have mst:∀ {k:Nat},k∈staF n cs x y sm↔k∈onW n cs x y∧∃ t,k∈rim cs sm (wiC cs) t:=fun {k}=>by
  unfold staF
  rw [ζl,decide_eq_true_iff]
 obtain ⟨so,t3,h3⟩:=mst.mp hs
 obtain ⟨sn,⟨t1,h1⟩,t2,h2⟩:=WO ok n12 hx hy so
 have sx:=(vS.mp so).2.2
 have cl:=ok.l
 have nd:(List.range cs.length).Nodup:=ξK
 have l1:=tF nd h1
 have l2:=tF nd h2
 have l3:=tF nd h3
 rw [ζu] at l1 l2 l3
 unfold bnW
 rw [Yt h1,Yt h2,Yt h3]
 show BnOk n cs x y st sm (wyF cs [st] (wiC cs) t1 x ++ (wyF cs [y] (wiC cs) t2 st).drop 1) (wyF cs sm (wiC cs) t3 st)
 obtain ⟨c1,e1,_⟩:=Wj ok h1
 obtain ⟨c2,e2,_⟩:=Wj ok h2
 obtain ⟨c3,e3,_⟩:=Wj ok h3
 have hd1:=wM cs [st] (wiC cs) t1 x
 have hd2:=wM cs [y] (wiC cs) t2 st
 have m1:=Xa ok h1
 have m2:=Xa ok h2
 have m3:=Xa ok h3
 have rn:∀ {kn:List Nat} {s z:Nat},z∈rim cs kn (wiC cs) s→z < n:=fun h=>by have:=ζD.mp (tG h); rwa [cl] at this
 have xs:Rch (effF cs) [x] st:=(zY.mp (vS.mp so).1).2
 have sy:Rch (cauF cs) [y] st:=Zi ok h2
 have on:∀ z∈wyF cs [st] (wiC cs) t1 x ++ (wyF cs [y] (wiC cs) t2 st).drop 1,z < n∧(z=x∨z∈onW n cs x y):=fun z hz=>by
  have key:z < n∧Rch (effF cs) [x] z∧Rch (cauF cs) [y] z:=by
   rcases ζq.mp hz with hz | hz
   ·obtain ⟨r,s,hs⟩:=m1 z hz
    exact ⟨rn hs,r,Xw sy (Zi ok hs)⟩
   ·obtain ⟨r,s,hs⟩:=m2 z (List.mem_of_mem_drop hz)
    exact ⟨rn hs,Xw xs r,Zi ok hs⟩
  refine ⟨key.1,?_⟩
  by_cases q:z=x
  ·exact .inl q
  ·exact .inr (vS.mpr ⟨zY.mpr ⟨key.1,key.2.1⟩,zY.mpr ⟨key.1,key.2.2⟩,q⟩)
 obtain ⟨b,eb⟩:∃ b,wyF cs [y] (wiC cs) t2 st=st :: b:=by
  cases q:wyF cs [y] (wiC cs) t2 st with
  | nil=>rw [q] at hd2; cases hd2
  | cons a l=>rw [q] at hd2; cases hd2; exact ⟨l,rfl⟩
 obtain ⟨a,ea⟩:∃ a,wyF cs [st] (wiC cs) t1 x=a ++ [st]:=by
  have ne:wyF cs [st] (wiC cs) t1 x≠[]:=fun z=>by rw [z] at hd1; cases hd1
  have:=e1 _ (List.getLast?_eq_some_getLast ne)
  refine ⟨(wyF cs [st] (wiC cs) t1 x).dropLast,?_⟩
  have q:=List.dropLast_concat_getLast ne
  rw [ζc.mp this] at q
  exact q.symm
 have ew:wyF cs [st] (wiC cs) t1 x ++ (wyF cs [y] (wiC cs) t2 st).drop 1=a ++ st :: b:=by
  rw [ea,eb,ξa]
  rfl
 refine ⟨?_,fun z hz=>(on z hz).1,?_,?_,c3,fun z hz=>rn (m3 z hz).2.choose_spec,wM ..,e3,?_,sx,fun z hz hw=>?_,?_,?_⟩
 ·rw [ew]
  rw [ea] at c1
  rw [eb] at c2
  exact za4 c1 c2
 ·rw [List.head?_append,hd1]
  rfl
 ·rw [ew,List.getLast?_append]
  have:(st :: b).getLast?=some y:=by
   have ne:st :: b≠[]:=List.cons_ne_nil _ _
   have:=e2 _ (by rw [eb]; exact List.getLast?_eq_some_getLast ne)
   rw [List.getLast?_eq_some_getLast ne,ζc.mp this]
  rw [this]
  rfl
 ·rw [ew]
  exact ζg _ ζj
 ·obtain ⟨r,s,s3,hs3⟩:=Qj ok h3 z hz
  rcases (on z hw).2 with rfl | q
  ·obtain ⟨rk,hr⟩:=dg
   have p1:=QG hr ok xs
   have p2:=QG hr ok r
   rcases p1 with p1 | p1
   ·exact sx p1
   ·rcases p2 with p2 | p2
    ·exact sx p2.symm
    ·omega
  ·have:=hm z (mst.mpr ⟨q,s,hs3⟩)
   rw [Vw h3,Vw hs3] at this
   omega
 ·rw [ζf,ζ0,vk,vk]
  omega
 ·rw [vk]
  omega
def yv (ds:List PyData) (d:PyData):Prop:=∃ (ns:List Int) (k:Nat),ds=[il ns,.int k]∧d=.int (ns.getD k 0)
theorem Zu:zA ["_law_script", "_law_k"] ["_law_script", "_law_k"] (zo (top 32)):={}
theorem ZM (F:Fun K "_law_cell_at" "_law_cell_at" (top 32) f fd) (B:Bs mg) (Z:Cs K mg τa τb)  : FnOk P w K mg base CX0 1 f fd ["_law_script", "_law_k"] (spD K true yv):=by
 have sc:=Zu
 refine F.ok sc (fun vs H Q E h=>zH (fun _ _⟨_,_,e,_⟩=>by rw [e];rfl) h) (fun cdv A outer s H vs Q E hr h=>?_)
 obtain ⟨Fh,ds,d,le,dp,p,q⟩:=h
 refine ⟨_,(ze (ye (zr YH (pv 1) (pB (zm (K:=K) rfl) B.len (zb (pv 0) zd)) (zF _)) (zf (zy (pX (zu (K:=K) rfl) (pv 0) (pv 1)))) zL)
   (zf (zy zh))),?_⟩
 have hN:=sc.n 2
 obtain ⟨ns,k,rfl,rfl⟩:=p
 walk_at"run"
 refine vE (b:=decide ((k:Int) < ns.length)) (EvT.eq (by walk_at"ev") (by rw [ζb])) (fun h=>?_) (fun h=>?_)
 ·have h':(k:Int) < ns.length:=by simpa using h
  exact exrs true (zI (by walk_at"ev") (by walk_at"ev") (zcG (by omega))) rfl (.inl ⟨rfl,rfl⟩)
 ·have h':¬ (k:Int) < ns.length:=by simpa using h
  refine exn ?_
  refine zM true (by walk_at"ev") ?_ (.inl ⟨rfl,rfl⟩)
  rw [ζd,ζT (by omega)]
  rfl
structure CN (n:Nat) (css:List (List Nat)):Prop where
 l:css.length=n
 e:∀ r∈css,(∀ x∈r,x < n)∧r.length≤5∧r.Nodup
theorem CN.at (h:CN n css) {o:Nat} (ho:o < n):(css.map kD)[o]?=some (kD (css.getD o []))∧ixN (css.map kD).length (o:Int)=some o∧(css.getD o []).length≤5∧(css.getD o []).Nodup∧∀ x∈css.getD o [],x < n:=by
 have z:css[o]?=some (css.getD o []):=zQ (by rw [h.l]; exact ho)
 have g:=h.e _ (ζk z)
 exact ⟨by rw [ζs,z]; rfl,zb8 (by rw [ζb,h.l]; exact ho),g.2.1,g.2.2,g.1⟩
theorem CN.add (h:CN n css) (ho:o < n) (hx:x < n) (hl:(css.getD o []).length < 5) (hn:x∉css.getD o []):CN n (ud css o x):=by
 have g:=h.at ho
 unfold ud
 refine ⟨by rw [List.length_set]; exact h.l,fun r hr=>?_⟩
 rcases List.mem_or_eq_of_mem_set hr with hr | hr
 ·exact h.e r hr
 ·rw [hr]
  refine ⟨fun y hy=>?_,by rw [ζf]; exact hl,?_⟩
  ·rcases ζq.mp hy with hy | hy
   ·exact g.2.2.2.2 y hy
   ·rw [ζc.mp hy]; exact hx
  ·rw [ζR]
   refine ⟨g.2.2.2.1,by simp,fun a ha b hb=>?_⟩
   rw [ζc.mp hb]
   rintro rfl
   exact hn ha
structure ShR (n:Nat) (cs:List (List Nat)):Prop where
 l:cs.length=n
 e:∀ r∈cs,(∀ x∈r,x < n)∧r.length≤5∧r.Pairwise (· < ·)
theorem CN.sort (h:CN n css):ShR n (css.map srtN):=by
 refine ⟨by rw [ζb]; exact h.l,fun r hr=>?_⟩
 obtain ⟨q,hq,rfl⟩:=ζn.mp hr
 have:=h.e q hq
 exact ⟨fun x hx=>this.1 x ((xl q).mem_iff.mp hx),by rw [(xl q).length_eq]; exact this.2.1,tD this.2.2⟩
theorem CN.nil (n:Nat):CN n (List.replicate n []):=⟨List.length_replicate ..,fun r hr=>by
 have:r=[]:=List.eq_of_mem_replicate hr
 subst this
 exact ⟨(fun c hc=>by cases hc),ζL _,ξc⟩⟩
def wu (ds:List PyData) (G:PyData→Prop):Prop:=∃ (ns:List Int) (f n:Nat),ds=[il ns,.int f,.int n]∧n≤12∧G=fun d=>∃ cs,ShR n cs∧Dg cs∧d=nls cs
theorem Xn:zA ["_law_script", "_law_first", "_law_many", "_law_order", "_law_k", "_law_causes", "_law_at", "_law_number", "_law_dense", "_law_c"] ["_law_script", "_law_first", "_law_many"] (zo (top 33)):={}
theorem XQ (F:Fun K "_law_shape" "_law_shape" (top 33) f fd) (B:Bs mg) (Z:Cs K mg τa τb) (c_law_cell_at:zz P w K mg base CX0 "_law_cell_at" ["_law_script", "_law_k"] 1 (spD K true yv)):FnOk P w K mg base CX0 2 f fd ["_law_script", "_law_first", "_law_many"] (spW K true wu):=by
 have sc:=Xn
 refine F.ok sc (fun vs H Q E h=>Zh (fun _ _⟨_,_,_,e,_⟩=>by rw [e];rfl) h) (fun cdv A outer s H vs Q E hr h=>?_)
 obtain ⟨Fh,ds,G,le,dp,p,q⟩:=h
 refine ⟨_,(ze (pS (i:=3) sc.nd (zU zd))
   (ze (yF PassesOwn.never rfl (yw rfl B.range (zb (pv 2) zd)) (pN (i:=4) sc.nd) (zf (yB (yN (K:=K) rfl ζx PySem.F.slot_list_insert PySem.F.type_list_insert YJ (pv 3) (zb (zJ y8 (pF c_law_cell_at hr (zb (pv 0) (zb (zJ yD (pv 1) (pv 4)) zd))) (zJ yD (pv 4) zh)) (zb (pv 4) zd))))))
   (ze (yU (i:=5) rfl sc.nd rfl rfl (N:=["_law_k"]) (js:=[none]) (by walk_at"comp_ok") (yw rfl B.range (zb (pv 2) zd)) (fun _ _ _ _=>(pN (i:=0) (show υN ["_law_k"] by decide +kernel))) (fun _ _ _ _=>yx) (fun _ _ _ _=>(zU zd)))
   (ze (yF PassesOwn.never rfl (yw rfl B.range (zb (pv 2) zd)) (pN (i:=6) sc.nd) (ze (pS (i:=7) sc.nd (zJ y8 (zJ yD (zJ Zj (pF c_law_cell_at hr (zb (pv 0) (zb (zJ yD (pv 1) (pX (zu (K:=K) rfl) (pv 3) (pv 6))) zd))) zh) (zJ Zj zh (zJ yD (pv 6) zh))) zh))
   (ze (pS (i:=8) sc.nd (zJ yD zh (zJ y8 (pv 7) zh)))
   (zf (yF PassesOwn.never rfl (zE (K:=K) rfl (uK (ux (K:=K) rfl) (pv 3) XA (uJ (pv 6)))) (pN (i:=9) sc.nd) (ze (pS (i:=7) sc.nd (zJ y8 (zJ yD (zJ Zj (pv 7) zh) zh) zh))
   (zf (ye (PW.pt (xE (zr YH (zJ y8 (zJ uO (pv 7) zh) zh) (pv 8) (zF _)) (xy (zr YH (pB (zm (K:=K) rfl) B.len (zb (pX (zu (K:=K) rfl) (pv 5) (pX (zu (K:=K) rfl) (pv 3) (pv 6))) zd)) zh (zF _))))) (zf (yB (yN (K:=K) rfl ζx ζK ζJ yf (pX (zu (K:=K) rfl) (pv 5) (pX (zu (K:=K) rfl) (pv 3) (pv 6))) (zb (pv 9) zd)))) zL))))))))
   (zf (zy (yc rfl (N:=["_law_row"]) (js:=[none]) (by walk_at"comp_ok") (zE (K:=K) rfl (pv 5)) (fun _ _ _ _=>(pN (i:=0) (show υN ["_law_row"] by decide +kernel))) (fun _ _ _ _=>yx) (fun _ _ _ _=>(pB (u8 (K:=K) rfl) B.sorted (zb (pv 0) zd)))))))))),?_⟩
 have hN:=sc.n 10
 obtain ⟨ns,f,n,rfl,hn,rfl⟩:=p
 have big:=zD
 refine uA le dp q hN (by walk_at"st") ?_
 refine exo true (zZ (ds:=[]) zC (by decide)) (by walk_at"sc") ?_
 refine vi (ds:=(List.range n).map fun i:Nat=>.int (i:Int)) true (fun i Γ=>∃ (ord:List Nat) (x:Option DV),OrdN i ord∧Γ=[some (.fz false (il ns)),some (.fz false (.int f)),some (.fz false (.int n)),some (.ow true (ord.map fun k:Nat=>.int (k:Int))),x,none,none,none,none,none]) (xA (n:=(n:Int)) (by walk_at"ev") (by omega) (by omega)) ⟨[],none,⟨rfl,(fun x hx=>by cases hx),ξc⟩,rfl⟩ ?_ ?_
 ·rintro i d Γ' hd ⟨ord,x,ok,rfl⟩
  obtain ⟨hi,rfl⟩:=xo hd
  have ol:=ok.l
  refine ⟨_,egn (by walk_at"sc") ?_⟩
  generalize hv:ns.getD (f + i) 0 % ((i:Int) + 1)=v
  have v0:0≤v:=by rw [← hv]; exact Int.emod_nonneg _ (by omega)
  have v1:v < (i:Int) + 1:=by rw [← hv]; exact Int.emod_lt_of_pos _ (by omega)
  refine exin (m:=v) (d:=.int i) (by walk_at"gc") (EvE.eq (xH (j:=(i:Int) + 1) (zk (by walk_at"ev") ⟨ns,f + i,by rw [Int.natCast_add],rfl⟩) (by walk_at"ev") (by omega)) (congrArg PyData.int hv)) (by walk_at"ev") v0 (by rw [ζb]; omega) (by rw [ζb]; omega) (by walk_at"sc") ?_
  have hni:i∉ord:=fun z=>by have:=ok.e i z; omega
  have pm:(ord.take v.toNat ++ i :: ord.drop v.toNat).Perm (i :: ord):=by
   refine List.perm_middle.trans ?_
   rw [ξ9]
  refine ⟨ord.take v.toNat ++ i :: ord.drop v.toNat,some (.fz true (.int i)),⟨by rw [pm.length_eq,ζO,ol],fun y hy=>?_,pm.nodup_iff.mpr (ζU.mpr ⟨hni,ok.nd⟩)⟩,?_⟩
  ·rcases ζz.mp (pm.mem_iff.mp hy) with h | h
   ·omega
   ·have:=ok.e y h; omega
  ·rw [ζo,ζH,List.map_take,List.map_drop]
 rintro Γ' ⟨ord,x,ook,rfl⟩
 rw [yX] at ook
 refine exfz 3 (by walk_at"gc") (by walk_at"sc") ?_
 rw [show PyData.list (ord.map fun k:Nat=>.int (k:Int))=nl ord from rfl]
 refine exo2 (ds:=(List.range n).map fun i:Nat=>.int (i:Int)) (κ':=true) (xA (n:=(n:Int)) (by walk_at"ev") (by omega) (by omega)) (by rw [yX]; omega) (by walk_at"sc") ?_
 rw [yX,zev]
 refine vi (ds:=(List.range n).map fun i:Nat=>.int (i:Int)) true (fun i Γ=>∃ (css:List (List Nat)) (x1 x2 x3 x4:Option DV),CN n css∧UpO ord css∧(∀ m,i≤m→m < n→css.getD (ord.getD m 0) []=[])∧Γ=[some (.fz false (il ns)),some (.fz false (.int f)),some (.fz false (.int n)),some (.fz true (nl ord)),x,some (.o2 none (css.map kD)),x1,x2,x3,x4]) (xA (n:=(n:Int)) (by walk_at"ev") (by omega) (by omega)) ⟨_,none,none,none,none,.nil n,.nil ord n,fun m _ _=>W6 n _,rfl⟩ ?_ ?_
 ·rintro i d Γ' hd ⟨css,x1,x2,x3,x4,co,up,cz,rfl⟩
  obtain ⟨hi,rfl⟩:=xo hd
  refine ⟨_,egn (by walk_at"sc") ?_⟩
  have O:=ook.at hi
  have oE:∀ {κ:Bool} {Γ0:PD.Ctx},GetC Γ0 3 (.fz true (nl ord))→GetC Γ0 6 (.fz true (.int i))→EvE K .fresh κ (tOp (rIxL K) (tVar 3) (tVar 6)) Γ0 (.int (ord.getD i 0:Nat)):=fun g1 g2=>EvE.imm (κ:=false) (zI (EvE.toL (evv g1 (by decide))) (evv g2 (by decide)) O.1) rfl
  have m2:IntMulOk (ns.getD (f + ord.getD i 0) 0) 48271:=vP (by decide) (by decide)
  have m3:IntMulOk 15485863 ((i:Int) + 1):=vP (by omega) (by omega)
  generalize hnum:(ns.getD (f + ord.getD i 0) 0 * 48271 + 15485863 * ((i:Int) + 1)) % 2147483647=num
  refine exs true (d:=.int num) (EvE.eq (xH (wx (X6 (zk (zg (by walk_at"ev") (zg (wx (by walk_at"ev") (oE (by walk_at"gc") (by walk_at"gc"))) zC)) ⟨ns,f + ord.getD i 0,by rw [Int.natCast_add],rfl⟩) (by walk_at"ev") m2) (X6 (by walk_at"ev") (by walk_at"ev") m3)) (by walk_at"ev") (by decide)) (congrArg PyData.int hnum)) (by walk_at"sc") ?_
  generalize hden:1 + num % 4=den
  refine exs true (d:=.int den) (EvE.eq (by walk_at"ev") (congrArg PyData.int hden)) (by walk_at"sc") ?_
  have ecut:cutD (ord.map fun k:Nat=>PyData.int (k:Int)) none (some (i:Int))=(ord.take i).map fun k:Nat=>PyData.int (k:Int):=zcD _ ord i
  clear hnum hden m2
  refine um (ds:=(ord.take i).map fun k:Nat=>.int (k:Int)) true (fun j Γ=>∃ (css:List (List Nat)) (num:Int) (x4:Option DV),CN n css∧UpO ord css∧(∀ m,i < m→m < n→css.getD (ord.getD m 0) []=[])∧(∀ x∈css.getD (ord.getD i 0) [],x∈ord.take j)∧Γ=[some (.fz false (il ns)),some (.fz false (.int f)),some (.fz false (.int n)),some (.fz true (nl ord)),x,some (.o2 none (css.map kD)),some (.fz true (.int i)),some (.fz true (.int num)),some (.fz true (.int den)),x4]) (zN (EvO.toE (EvO.eq (xQ (EvE.toL (by walk_at"ev")) (by walk_at"ev") (by walk_at"ev")) ecut))) ⟨css,num,x4,co,up,fun m h1 h2=>cz m (by omega) h2,by rw [cz i (ζh _) hi]; exact fun x h=>(nomatch h),rfl⟩ ?_ ?_
  ·clear co up cz css num x4
   rintro j d Γ' hd ⟨css,num,x4,co,up,cz,cs,rfl⟩
   obtain ⟨c,hc,rfl⟩:=xN hd
   have hji:j < i:=by have:=(ζe.mp hc).1; rw [ζ7] at this; omega
   have ec:c=ord.getD j 0:=by
    rw [ξW hji] at hc
    rw [ζd,hc]
    rfl
   have hcn:c < n:=by rw [ec]; exact (ook.at (show j < n by omega)).2
   have C:=co.at O.2
   refine ⟨_,egn (by walk_at"sc") ?_⟩
   have m4:IntMulOk num 48271:=vP (by decide) (by decide)
   generalize hnum:(num * 48271 + 11) % 2147483647=num'
   refine exs true (d:=.int num') (EvE.eq (by walk_at"ev") (congrArg PyData.int hnum)) (by walk_at"sc") ?_
   have d64:CDiv num' 64:=⟨by decide,by decide⟩
   have ll:PyData.int (((kD (css.getD (ord.getD i 0) [])).length:Nat):Int)=.int ((css.getD (ord.getD i 0) []).length:Int):=by rw [zaw]
   have fr:c∉css.getD (ord.getD i 0) []:=fun z=>ook.fresh (show j < n by omega) (ec ▸ cs c z)
   have st:ord.take (j + 1)=ord.take j ++ [c]:=by
    rw [ξW hji] at hc
    exact take_succ hc
   refine xj (b:=decide (num' / 64 % 5 < den) && decide (((css.getD (ord.getD i 0) []).length:Int) < 5)) (xu (by walk_at"ev") fun _=>zq (YV (EvE.eq (yb (EvL.weak (zdZ (by walk_at"gc") (oE (by walk_at"gc") (by walk_at"gc")) C.2.1 C.1) fun h=>nomatch h)) ll) (by walk_at"ev"))) (fun h=>?_) (fun h=>?_)
   ·have h':(css.getD (ord.getD i 0) []).length < 5:=by
     have:num' / 64 % 5 < den∧((css.getD (ord.getD i 0) []).length:Int) < 5:=by simpa using h
     omega
    refine zaD (d:=.int c) (by walk_at"gc") (oE (by walk_at"gc") (by walk_at"gc")) C.2.1 C.1 (by walk_at"ev") (by rw [zaw]; omega) (by walk_at"sc") ?_
    refine ⟨ud css (ord.getD i 0) c,num',_,co.add O.2 hcn h' fr,up.add (by rw [co.l]; exact O.2) (by rw [ec,ook.idx (show j < n by omega),ook.idx hi]; exact hji),fun m h1 h2=>?_,fun x hx=>?_,by rw [zcJ]⟩
    ·rw [Vp _ (ook.ne h2 hi (by omega))]
     exact cz m h1 h2
    ·rw [Vq _ (by rw [co.l]; exact O.2)] at hx
     rw [st]
     rcases ζq.mp hx with hx | hx
     ·exact ζF _ (cs x hx)
     ·exact ζg _ hx
   ·exact yr ⟨css,num',_,co,up,cz,fun x hx=>by rw [st]; exact ζF _ (cs x hx),rfl⟩
  ·rintro Γ' ⟨css,num,x4,co,up,cz,cs,rfl⟩
   exact ⟨css,_,_,_,_,co,up,fun m h1 h2=>cz m (by omega) h2,rfl⟩
 ·rintro Γ' ⟨css,x1,x2,x3,x4,co,up,cz,rfl⟩
  have e5:(css.map kD).map PyData.list=css.map nl:=by rw [ζM]; rfl
  refine zeF 5 (by walk_at"gc") (by walk_at"sc") ?_
  rw [e5]
  refine zM true (EvO.toE (yp (κ:=true) (is:=[0]) (xs:=css) true nl (fun r=>nl (srtN r)) (fun x _ y _ h=>by rw [show x=y from by rw [← tu x,h,tu]]) (zN (by walk_at"ev")) (by walk_at"cc") rfl (by decide) (by rw [co.l]; omega) ?_)) ⟨css.map srtN,co.sort,⟨fun k=>ord.idxOf k,up.sort⟩,by rw [nls,ζM]; rfl⟩ (.inl ⟨rfl,rfl⟩)
  intro r hr
  have k5:=(co.e r hr).2.1
  exact egn (by walk_at"sc") (EvE.eq (EvO.toE (ZU (ns:=zl r) (EvE.toL (EvE.eq (κ:=false) (by walk_at"ev") (ya r))) (by unfold zl; rw [List.length_map]; omega))) (congrArg PyData.list (Qw _)))
theorem ShR.at (h:ShR n cs) (hk:k < n):cs[k]?=some (cs.getD k [])∧(∀ x∈cs.getD k [],x < n)∧(cs.getD k []).length≤5∧(cs.getD k []).Pairwise (· < ·):=by
 have z:cs[k]?=some (cs.getD k []):=zQ (by rw [h.l]; exact hk)
 exact ⟨z,h.e _ (ζk z)⟩
def lowS (cs:List (List Nat)) (fs:List Nat) (k:Nat):List Nat:=bif (!decide (k∈fs)) && ((cs.getD k []).map fun c=>decide (c∈fs)).any (fun b=>b) then fs ++ [k] else fs
def lowT (cs:List (List Nat)) (fs:List Nat) (j:Nat):List Nat:=(List.range j).foldl (lowS cs) fs
def lowI (cs:List (List Nat)) (x:List Nat):Nat→List Nat
 | 0=>x
 | i + 1=>lowT cs (lowI cs x i) cs.length
def lowF (cs:List (List Nat)) (x:List Nat):List Nat:=lowI cs x cs.length
theorem vT (cs:List (List Nat)) (fs:List Nat) (j:Nat):lowT cs fs (j + 1)=lowS cs (lowT cs fs j) j:=by
 unfold lowT
 rw [ξx,List.foldl_append]
 rfl
theorem Zk (cs:List (List Nat)) (fs:List Nat) (k:Nat):(lowS cs fs k=fs∧(k∉fs→∀ c∈cs.getD k [],c∉fs))∨(lowS cs fs k=fs ++ [k]∧k∉fs∧∃ c∈cs.getD k [],c∈fs):=by
 unfold lowS
 cases h:(!decide (k∈fs)) && ((cs.getD k []).map fun c=>decide (c∈fs)).any (fun b=>b) with
 | true =>
  right
  have h':=ζP.mp h
  refine ⟨rfl,by simpa using h'.1,?_⟩
  obtain ⟨b,hb,e⟩:=ζN.mp h'.2
  obtain ⟨c,hc,rfl⟩:=ζn.mp hb
  exact ⟨c,hc,of_decide_eq_true e⟩
 | false =>
  left
  refine ⟨rfl,fun hk c hc z=>?_⟩
  rw [decide_eq_false hk,Bool.not_false,Bool.true_and] at h
  rw [ζN.mpr ⟨decide (c∈fs),ζn.mpr ⟨c,hc,rfl⟩,decide_eq_true z⟩] at h
  cases h
structure LI (n:Nat) (cs:List (List Nat)) (x:List Nat) (fs:List Nat):Prop where
 nd:fs.Nodup
 lt:∀ y∈fs,y < n∧Rch (effF cs) x y
 x:∀ y∈x,y∈fs
theorem LI.len {n:Nat} {cs:List (List Nat)} {x:List Nat} {fs:List Nat} (h:LI n cs x fs):fs.length≤n:=yV n fs h.nd fun y hy=>(h.lt y hy).1
theorem LI.step {n:Nat} {cs:List (List Nat)} {x:List Nat} {fs:List Nat} (ok:ShOk n cs) (h:LI n cs x fs) {k:Nat} (hk:k < n):LI n cs x (lowS cs fs k):=by
 rcases Zk cs fs k with ⟨e,_⟩ | ⟨e,hn,c,hc,hf⟩
 ·rw [e]; exact h
 ·rw [e]
  refine ⟨?_,fun y hy=>?_,fun y hy=>ζF _ (h.x y hy)⟩
  ·rw [ζR]
   exact ⟨h.nd,by simp,fun a ha b hb=>by rw [List.mem_singleton.mp hb]; rintro rfl; exact hn ha⟩
  ·rcases ζq.mp hy with hy | hy
   ·exact h.lt y hy
   ·rw [ζc.mp hy]
    exact ⟨hk,(h.lt c hf).2.step ((y9 ok).mpr ⟨hk,hc⟩)⟩
theorem LI.turn {n:Nat} {cs:List (List Nat)} {x:List Nat} {fs:List Nat} (ok:ShOk n cs) (h:LI n cs x fs):∀ j,j≤n→LI n cs x (lowT cs fs j)
 | 0,_=>h
 | j + 1,hj=>by rw [vT]; exact (LI.turn ok h j (by omega)).step ok (by omega)
theorem LI.all {n:Nat} {cs:List (List Nat)} {x:List Nat} (ok:ShOk n cs) (hx:∀ y∈x,y < n) (hn:x.Nodup):∀ i,LI n cs x (lowI cs x i)
 | 0=>⟨hn,fun y hy=>⟨hx y hy,.base hy⟩,fun _ z=>z⟩
 | i + 1=>(LI.all ok hx hn i).turn ok cs.length (by rw [ok.l]; exact ζh _)
theorem UN (cs:List (List Nat)) (fs:List Nat):∀ j,(lowT cs fs j=fs∧∀ k,k < j→lowS cs fs k=fs)∨fs.length < (lowT cs fs j).length
 | 0=>.inl ⟨rfl,fun k h=>absurd h (ζY _)⟩
 | j + 1=>by
  rw [vT]
  rcases UN cs fs j with ⟨e,h⟩ | h
  ·rw [e]
   rcases Zk cs fs j with ⟨e,_⟩ | ⟨e,_⟩
   ·refine .inl ⟨e,fun k hk=>?_⟩
    by_cases z:k=j
    ·rw [z]; exact e
    ·exact h k (by omega)
   ·rw [e,ζf]
    exact .inr (ζ5 _)
  ·rcases Zk cs (lowT cs fs j) j with ⟨e,_⟩ | ⟨e,_⟩
   ·rw [e]; exact .inr h
   ·rw [e,ζf]; exact .inr (by omega)
theorem W1 (cs:List (List Nat)) (fs:List Nat):∀ j,(∀ k,k < j→lowS cs fs k=fs)→lowT cs fs j=fs
 | 0,_=>rfl
 | j + 1,h=>by rw [vT,W1 cs fs j fun k hk=>h k (by omega)]; exact h j (ζ5 j)
theorem UO (cs:List (List Nat)) (x:List Nat):∀ i,i + x.length≤(lowI cs x i).length∨∀ k,k < cs.length→lowS cs (lowI cs x i) k=lowI cs x i
 | 0=>.inl (by rw [Nat.zero_add]; exact ζh _)
 | i + 1=>by
  show i + 1 + x.length≤(lowT cs (lowI cs x i) cs.length).length∨∀ k,_→lowS cs (lowT cs (lowI cs x i) cs.length) k=lowT cs (lowI cs x i) cs.length
  rcases UN cs (lowI cs x i) cs.length with ⟨e,h⟩ | h
  ·rw [e]; exact .inr h
  ·rcases UO cs x i with g | g
   ·exact .inl (by omega)
   ·rw [W1 _ _ _ g] at h
    exact absurd h (ζS _)
theorem zbC (h:Rch nx [] k):False:=by
 induction h with
 | base z=>cases z
 | step _ _ ih=>exact ih
theorem UL {n:Nat} {cs:List (List Nat)} {x:List Nat} (ok:ShOk n cs) (hx:∀ y∈x,y < n) (hn:x.Nodup) {k:Nat}:k∈lowF cs x↔k∈rchL n (effF cs) x:=by
 rw [zY]
 have li:=LI.all ok hx hn cs.length
 have ll:=li.len
 have cl:=ok.l
 refine ⟨fun z=>li.lt k z,fun z=>?_⟩
 rcases UO cs x cs.length with g | g
 ·have e:x=[]:=ξh.mp (by omega)
  rw [e] at z
  exact (zbC z.2).elim
 have r:=z.2
 clear z
 induction r with
 | base z=>exact li.x _ z
 | @step u v _ z ih =>
  have vm:=(y9 ok).mp z
  have e:=g v (by omega)
  rcases Zk cs (lowI cs x cs.length) v with ⟨_,h⟩ | ⟨h,_⟩
  ·exact Classical.byContradiction fun hv=>h hv u vm.2 ih
  ·rw [e] at h
   have:=congrArg List.length h
   rw [ζf] at this
   have:(lowI cs x cs.length).length=(lowI cs x cs.length).length + 1:=this
   omega
theorem zdN {n:Nat} {cs:List (List Nat)} {x:List Nat} (ok:ShOk n cs) (hx:∀ y∈x,y < n) (hn:x.Nodup):(lowF cs x).Nodup:=(LI.all ok hx hn cs.length).nd
theorem zb3 {n:Nat} {cs:List (List Nat)} {x:List Nat} (ok:ShOk n cs) (hx:∀ y∈x,y < n) (hn:x.Nodup):(lowF cs x).length≤n:=(LI.all ok hx hn cs.length).len
def vA (ds:List PyData) (d:PyData):Prop:=∃ (n:Nat) (cs:List (List Nat)) (x:List Nat),ds=[nls cs,nl x]∧ShOk n cs∧n≤12∧(∀ y∈x,y < n)∧x.Nodup∧d=nl (lowF cs x)
theorem VC:zA ["_law_causes", "_law_some_here", "_law_found", "_law_turn", "_law_k"] ["_law_causes", "_law_some_here"] (zo (top 35)):={}
theorem VS (F:Fun K "_law_low" "_law_low" (top 35) f fd) (B:Bs mg) (Z:Cs K mg τa τb)  : FnOk P w K mg base CX0 1 f fd ["_law_causes", "_law_some_here"] (spD K true vA):=by
 have sc:=VC
 refine F.ok sc (fun vs H Q E h=>zH (fun _ _⟨_,_,_,e,_⟩=>by rw [e];rfl) h) (fun cdv A outer s H vs Q E hr h=>?_)
 obtain ⟨Fh,ds,d,le,dp,p,q⟩:=h
 refine ⟨_,(ze (pS (i:=2) sc.nd (pY (yR (K:=K) rfl) B.list (zb (pv 1) zd)))
   (ze (yF PassesOwn.never rfl (yw rfl B.range (zb (pB (zm (K:=K) rfl) B.len (zb (pv 0) zd)) zd)) (pN (i:=3) sc.nd) (zf (yF PassesOwn.never rfl (yw rfl B.range (zb (pB (zm (K:=K) rfl) B.len (zb (pv 0) zd)) zd)) (pN (i:=4) sc.nd) (zf (ye (PW.pt (xE (zr (yd (K:=K) rfl) (pv 4) (pv 2) (rfl)) (xy (yC (pB (xR (K:=K) rfl rfl) B.any (zb (yc rfl (N:=["_law_c", "_law_found"]) (js:=[none,some 2]) (by walk_at"comp_ok") (zE (K:=K) rfl (pX (zu (K:=K) rfl) (pv 0) (pv 4))) (fun _ _ _ _=>(pN (i:=0) (show υN ["_law_c", "_law_found"] by decide +kernel))) (fun _ _ _ _=>yx) (fun _ _ _ _=>(yy (zG (K:=K) rfl) (pv 0) (pv 1) (rfl)))) zd)))))) (zf (yB (yN (K:=K) rfl ζx ζK ζJ yf (pv 2) (zb (pv 4) zd)))) zL)))))
   (zf (zy (pv 2))))),?_⟩
 have hN:=sc.n 5
 obtain ⟨n,cs,x,rfl,ok,n12,hx,hnd,rfl⟩:=p
 have big:=zD
 have cl:=ok.l
 have el:PyData.int (((cs.map nl).length:Nat):Int)=.int (n:Int):=by rw [ζb,cl]
 walk_at"run"
 refine exo true (ds:=x.map fun k:Nat=>.int (k:Int)) (x5 (EvL.imm (κ:=false) (EvE.toL (by walk_at"ev")) (xY x))) (by walk_at"sc") ?_
 refine vi (ds:=(List.range n).map fun i:Nat=>.int (i:Int)) true (fun i Γ=>∃ u v,Γ=[some (.fz false (nls cs)),some (.fz false (nl x)),some (.ow true ((lowI cs x i).map fun k:Nat=>.int (k:Int))),u,v]) (xA (n:=(n:Int)) (zg (EvE.eq (yb (ds:=cs.map nl) (by walk_at"ev")) el) zC) (by omega) (by omega)) ⟨none,none,rfl⟩ ?_ ?_
 ·rintro i d Γ' hd ⟨u,v,rfl⟩
  obtain ⟨hi,rfl⟩:=xo hd
  refine ⟨_,egn (by walk_at"sc") ?_⟩
  have li:=LI.all ok hx hnd i
  refine um (ds:=(List.range n).map fun i:Nat=>.int (i:Int)) true (fun j Γ=>∃ v,Γ=[some (.fz false (nls cs)),some (.fz false (nl x)),some (.ow true ((lowT cs (lowI cs x i) j).map fun k:Nat=>.int (k:Int))),some (.fz true (.int i)),v]) (xA (n:=(n:Int)) (zg (EvE.eq (yb (ds:=cs.map nl) (by walk_at"ev")) el) zC) (by omega) (by omega)) ⟨_,rfl⟩ ?_ ?_
  ·rintro j d Γ' hd ⟨v,rfl⟩
   obtain ⟨hj,rfl⟩:=xo hd
   refine ⟨_,egn (by walk_at"sc") ?_⟩
   have lt:=li.turn ok j (by omega)
   have ll:=lt.len
   have R:=ok.at hj
   have R5:=R.2.2
   rw [vT]
   generalize lowT cs (lowI cs x i) j=fs at lt ll
   have a1:atI (cs.map nl) (j:Int)=some (nl (cs.getD j [])):=yt R.1
   refine xj (b:=(!decide (j∈fs)) && ((cs.getD j []).map fun c=>decide (c∈fs)).any (fun b=>b)) (zcv 2 (by walk_at"gc") (by walk_at"sc") (xu (EvT.eq (zq (zW (neg:=true) (i:=(j:Int)) (ns:=zl fs) (by walk_at"ev") (EvE.toL (EvE.eq (κ:=false) (by walk_at"ev") (ya _))))) (by show (!decide _)=_; rw [zV])) fun _=>zq (tM (EvO.toL (EvO.eq (yp (κ:=false) (is:=[0]) (xs:=cs.getD j []) false (fun k:Nat=>.int (k:Int)) (fun c=>.bool (decide (c∈fs))) (fun x _ y _ h=>by cases yO h; rfl) (zN (zI (κ:=false) (by walk_at"ev") (by walk_at"ev") a1)) (by walk_at"cc") rfl (by decide) (by omega) ?_) (by rw [ζM]; rfl)))))) (fun h=>?_) (fun h=>?_)
   ·intro c hc
    refine egn (by walk_at"sc") (EvE.eq (zW (neg:=false) (i:=(c:Int)) (ns:=zl fs) (by walk_at"ev") (EvE.toL (EvE.eq (κ:=false) (by walk_at"ev") (ya _)))) (congrArg PyData.bool zV))
   ·have e:lowS cs fs j=fs ++ [j]:=by unfold lowS; rw [h]; rfl
    rw [e]
    exact exa1 (d:=.int j) (by walk_at"gc") (by walk_at"ev") (by walk_at"sc") (by rw [ζb]; omega) ⟨_,by rw [ζo]; rfl⟩
   ·have e:lowS cs fs j=fs:=by unfold lowS; rw [h]; rfl
    rw [e]
    exact yr ⟨_,rfl⟩
  ·rintro Γ' ⟨v,rfl⟩
   rw [yX]
   have e:lowI cs x (i + 1)=lowT cs (lowI cs x i) n:=by show lowT cs (lowI cs x i) cs.length=_; rw [cl]
   rw [← e]
   exact ⟨_,_,rfl⟩
 ·rintro Γ' ⟨u,v,rfl⟩
  rw [yX]
  refine exro (by walk_at"gc") ?_ (.inl ⟨rfl,rfl⟩)
  show _=nl (lowI cs x cs.length)
  rw [cl]
def Wt:Nat→Nat
 | 0=>1
 | j + 1=>1 + (j + 1) * Wt j
def wtS (n:Nat) (ls:List (List Nat)):Nat:=(ls.map fun r=>Wt (n - r.length)).sum
structure RI (n:Nat) (cs:List (List Nat)) (x y:Nat) (fo le:List (List Nat)):Prop where
 f:∀ r∈fo,Pth cs x r.reverse∧r.getLast?=some y
 l:∀ r∈le,Pth cs x r.reverse
 a:∀ r,Pth cs x r.reverse→r.getLast?=some y→r∈fo∨∃ q∈le,q <+: r
 w:fo.length + wtS n le≤Wt (n - 1)
theorem tq (n:Nat) (a b:List (List Nat)):wtS n (a ++ b)=wtS n a + wtS n b:=by
 unfold wtS
 rw [ζo,List.sum_append]
theorem Xb (n:Nat):∀ le:List (List Nat),le.length≤wtS n le
 | []=>ζL _
 | r :: le=>by
  have:=Xb n le
  have h:1≤Wt (n - r.length):=by
   cases n - r.length with
   | zero=>exact ζh _
   | succ j=>show 1≤1 + _; omega
  show le.length + 1≤Wt (n - r.length) + wtS n le
  omega
theorem Wk (n c:Nat):∀ le:List (List Nat),(∀ r∈le,Wt (n - r.length)=c)→wtS n le=le.length * c
 | [],_=>by rw [List.length_nil,Nat.zero_mul]; rfl
 | r :: le,h=>by
  have e:wtS n (r :: le)=Wt (n - r.length) + wtS n le:=rfl
  rw [e,h r ζj,Wk n c le fun q hq=>h q (ζr _ hq),ζO,Nat.add_mul,Nat.one_mul,Nat.add_comm]
theorem ZT {n:Nat} {r:List Nat} (nd:r.Nodup) (lt:∀ y∈r,y < n) (p:Nat→Bool) (hp:∀ k,p k=true→k∉r):((List.range n).filter p).length + r.length≤n:=by
 have:=yV n ((List.range n).filter p ++ r) (by
  rw [ζR]
  exact ⟨List.nodup_range.filter p,nd,fun a ha b hb e=>hp a (ζl.mp ha).2 (e ▸ hb)⟩) fun y hy=>by
  rcases ζq.mp hy with hy | hy
  ·exact ζD.mp (ζl.mp hy).1
  ·exact lt y hy
 rwa [ζf] at this
theorem zdG {n:Nat} {cs:List (List Nat)} {r:List Nat} (nd:r.Nodup) (lt:∀ y∈r,y < n):wtS n (onR cs r n) + 1≤Wt (n - r.length):=by
 have fl:=ZT nd lt (onB cs r) fun k hk=>by
  have:=(ζP.mp hk).1
  simpa using this
 rw [Wk n (Wt (n - (r.length + 1))) (onR cs r n) fun q hq=>by
  obtain ⟨k,_,rfl⟩:=ζn.mp hq
  rw [ζf]
  rfl]
 unfold onR
 rw [ζb]
 cases e:n - r.length with
 | zero =>
  have:((List.range n).filter (onB cs r)).length=0:=by omega
  rw [this,Nat.zero_mul]
  exact ζh _
 | succ j =>
  have h1:n - (r.length + 1)=j:=by omega
  have h2:((List.range n).filter (onB cs r)).length≤j + 1:=by omega
  rw [h1]
  show _ + 1≤1 + (j + 1) * Wt j
  have:=Nat.mul_le_mul_right (Wt j) h2
  omega
theorem RI.start (n:Nat) (cs:List (List Nat)) (x y:Nat):RI n cs x y [] [[x]]:=⟨fun _ z=>(nomatch z),fun r hr=>by rw [ζc.mp hr]; exact .one,fun r h _=>.inr ⟨[x],ζc.mpr rfl,by
 have l:=h.last
 rw [List.getLast?_reverse] at l
 cases r with
 | nil=>cases l
 | cons a r=>cases l; exact ⟨r,rfl⟩⟩,by
 rw [List.length_nil,Nat.zero_add]
 show Wt (n - 1) + 0≤_
 omega⟩
theorem RI.found (h:RI n cs x y fo (le ++ [r])) (hy:r.getLast?=some y):RI n cs x y (fo ++ [r]) le:=by
 have hr:=h.l r (ζg _ (ζc.mpr rfl))
 have hne:r≠[]:=fun z=>by rw [z] at hy; cases hy
 refine ⟨fun q hq=>?_,fun q hq=>h.l q (ζF _ hq),fun q p z=>?_,?_⟩
 ·rcases ζq.mp hq with hq | hq
  ·exact h.f q hq
  ·rw [ζc.mp hq]; exact ⟨hr,hy⟩
 ·rcases h.a q p z with a | ⟨s,hs,hp⟩
  ·exact .inl (ζF _ a)
  ·rcases ζq.mp hs with hs | hs
   ·exact .inr ⟨s,hs,hp⟩
   ·rw [ζc.mp hs] at hp
    have nd:q.Nodup:=xZ p.nd
    rw [zdv hp nd (hy.trans z.symm) hne]
    exact .inl (ζg _ (ζc.mpr rfl))
 ·have w:=h.w
  have l1:=Xb n [r]
  rw [tq] at w
  rw [ζf]
  have:[r].length=1:=rfl
  omega
theorem RI.on (ok:ShOk n cs) (hx:x < n) (h:RI n cs x y fo (le ++ [r])) (hy:r.getLast?≠some y):RI n cs x y fo (le ++ onR cs r n)∧wtS n (le ++ onR cs r n) < wtS n (le ++ [r]):=by
 have hr:=h.l r (ζg _ (ζc.mpr rfl))
 have nd:r.Nodup:=xZ hr.nd
 have lt:∀ z∈r,z < n:=fun z hz=>hr.lt ok hx z (ζ6.mpr hz)
 have s:=zdG (cs:=cs) nd lt
 have e1:wtS n [r]=Wt (n - r.length):=by show Wt (n - r.length) + 0=_; omega
 have w:=h.w
 rw [tq,e1] at w
 refine ⟨⟨h.f,fun q hq=>?_,fun q p z=>?_,by rw [tq]; omega⟩,by rw [tq,tq,e1]; omega⟩
 ·rcases ζq.mp hq with hq | hq
  ·exact h.l q (ζF _ hq)
  ·obtain ⟨k,hk,rfl⟩:=ζn.mp hq
   exact (Xz hr).mpr (ζl.mp hk).2
 ·rcases h.a q p z with a | ⟨t,ht,hp⟩
  ·exact .inl a
  ·rcases ζq.mp ht with ht | ht
   ·exact .inr ⟨t,ζF _ ht,hp⟩
   ·rw [ζc.mp ht] at hp
    obtain ⟨u,rfl⟩:=hp
    cases u with
    | nil=>rw [ζG] at z; exact absurd z hy
    | cons k u =>
     have hp2:Pth cs x (r ++ [k]).reverse:=UD (t:=u) (by rw [List.append_assoc]; exact p) (by simp)
     have kb:=(Xz hr).mp hp2
     have kn:k < n:=p.lt ok hx k (by rw [ζ6]; exact ζg _ ζj)
     exact .inr ⟨r ++ [k],ζg _ (ζn.mpr ⟨k,ζl.mpr ⟨ζD.mpr kn,kb⟩,rfl⟩),⟨u,by rw [ξa]; rfl⟩⟩
theorem zeL (h:n≤6):Wt (n - 1)≤326:=by
 have:n - 1=0∨n - 1=1∨n - 1=2∨n - 1=3∨n - 1=4∨n - 1=5:=by omega
 rcases this with e | e | e | e | e | e <;> rw [e] <;> decide
def RsOk (cs:List (List Nat)) (x y:Nat) (rs:List (List Nat)):Prop:=∀ r,r∈rs↔Pth cs x r.reverse∧r.getLast?=some y
theorem RI.end (h:RI n cs x y fo []):RsOk cs x y fo:=fun r=>⟨fun z=>h.f r z,fun z=>by
 rcases h.a r z.1 z.2 with a | ⟨_,q,_⟩
 ·exact a
 ·cases q⟩
def v8 (ds:List PyData) (G:PyData→Prop):Prop:=∃ (n:Nat) (cs:List (List Nat)) (x y:Nat),ds=[nls cs,.int x,.int y]∧ShOk n cs∧n≤6∧x < n∧G=fun d=>∃ rs,RsOk cs x y rs∧rs.length≤326∧d=nls rs
theorem Xo:zA ["_law_causes", "_law_x", "_law_y", "_law_found", "_law_left", "_law_road", "_law_k"] ["_law_causes", "_law_x", "_law_y"] (zo (top 36)):={}
theorem XR (F:Fun K "_law_roads" "_law_roads" (top 36) f fd) (B:Bs mg) (Z:Cs K mg τa τb)  : FnOk P w K mg base CX0 1 f fd ["_law_causes", "_law_x", "_law_y"] (spW K true v8):=by
 have sc:=Xo
 refine F.ok sc (fun vs H Q E h=>Zh (fun _ _⟨_,_,_,_,e,_⟩=>by rw [e];rfl) h) (fun cdv A outer s H vs Q E hr h=>?_)
 obtain ⟨Fh,ds,G,le,dp,p,q⟩:=h
 refine ⟨_,(ze (pS (i:=3) sc.nd (zU zd))
   (ze (pS (i:=4) sc.nd (zU (zb (zU (zb (pv 1) zd)) zd)))
   (ze (vt PassesOwn.never (zr (zbO (K:=K) rfl hr.units) (pv 4) (zU zd) (zF _)) (ze (pS (i:=5) sc.nd (XG (K:=K) rfl ζx ξ6 ξ5 V1 (pv 4)))
   (zf (ye (zr uP (pX (zu (K:=K) rfl) (pv 5) (ub wq zh)) (pv 2) (zF _)) (zf (yB (yN (K:=K) rfl ζx ζK ζJ yf (pv 3) (zb (pv 5) zd)))) (zf (yF PassesOwn.never rfl (yw rfl B.range (zb (pB (zm (K:=K) rfl) B.len (zb (pv 0) zd)) zd)) (pN (i:=6) sc.nd) (zf (ye (PW.pt (xE (zr (yd (K:=K) rfl) (pv 6) (pv 5) (rfl)) (xy (PW.pt (xi (zr (zG (K:=K) rfl) (pv 6) (pX (zu (K:=K) rfl) (pv 0) (pX (zu (K:=K) rfl) (pv 5) (ub wq zh))) (rfl)) (wP (zr (zG (K:=K) rfl) (pX (zu (K:=K) rfl) (pv 5) (ub wq zh)) (pX (zu (K:=K) rfl) (pv 0) (pv 6)) (rfl)))))))) (zf (yB (yN (K:=K) rfl ζx ζK ζJ yf (pv 4) (zb (zJ (wI (K:=K) rfl) (pv 5) (zU (zb (pv 6) zd))) zd)))) zL))))))))
   (zf (zy (pv 3)))))),?_⟩
 have hN:=sc.n 7
 obtain ⟨n,cs,x,y,rfl,ok,n6,hx,rfl⟩:=p
 have big:=zD
 have cl:=ok.l
 have w326:=zeL n6
 have el:PyData.int (((cs.map nl).length:Nat):Int)=.int (n:Int):=by rw [ζb,cl]
 refine uA le dp q hN (by walk_at"st") ?_
 refine exo true (ds:=([]:List (List Nat)).map nl) (zZ (ds:=[]) zC (by decide)) (by walk_at"sc") ?_
 refine exo true (ds:=[[x]].map nl) (EvO.eq (zZ (ds:=[.list [.int (x:Int)]]) (zg (EvO.toE (zZ (ds:=[.int (x:Int)]) (zg (by walk_at"ev") zC) (by show 1≤sizeLine; omega))) zC) (by show 1≤sizeLine; omega)) rfl) (by walk_at"sc") ?_
 refine yK (fun Γ=>∃ fo x1 x2 x3,RI n cs x y fo []∧Γ=[some (.fz false (nls cs)),some (.fz false (.int x)),some (.fz false (.int y)),some (.ow true (fo.map nl)),x1,x2,x3]) (vF (fun m Γ=>∃ (fo lf:List (List Nat)) (x2 x3:Option DV),RI n cs x y fo lf∧m=wtS n lf∧Γ=[some (.fz false (nls cs)),some (.fz false (.int x)),some (.fz false (.int y)),some (.ow true (fo.map nl)),some (.ow true (lf.map nl)),x2,x3]) _ ⟨[],[[x]],none,none,.start n cs x y,rfl,rfl⟩ ?_) ?_
 ·rintro m Γ' ⟨fo,lf,x2,x3,ri,rfl,rfl⟩
  have w:=ri.w
  refine ⟨!decide (lf.length=0),EvT.eq (zq (Z0 (neg:=true) (d:=nls lf) (f:=.list []) (EvL.toD (κ:=true) (by walk_at"ev")) (EvE.toD (κ:=true) (EvO.toE (zZ (ds:=[]) zC (by decide)))) (ue _) rfl)) (by show (!PyData.eqv _ _)=_; rw [zaR]),fun h=>?_,fun h=>?_⟩
  ·have h':lf.length≠0:=by simpa using h
   obtain ⟨lb,r,rfl⟩:∃ lb r,lf=lb ++ [r]:=by
    rcases ξd lf with rfl | ⟨wb,k,e⟩
    ·exact absurd rfl h'
    ·exact ⟨wb,k,by rw [e,ξe]⟩
   have hr:=ri.l r (ζg _ (ζc.mpr rfl))
   have lt:∀ z∈r,z < n:=fun z hz=>hr.lt ok hx z (ζ6.mpr hz)
   have rl:r.length≤n:=yV n r (xZ hr.nd) lt
   obtain ⟨r0,v,er⟩:∃ r0 v,r=r0 ++ [v]:=by
    rcases ξd r with rfl | ⟨wb,k,e⟩
    ·cases hr
    ·exact ⟨wb,k,by rw [e,ξe]⟩
   have lv:r.getLast?=some v:=by rw [er,List.getLast?_append]; rfl
   have lD:r.getLastD 0=v:=by rw [ξn,lv]; rfl
   have vn:v < n:=lt v (by rw [er]; exact ζg _ (ζc.mpr rfl))
   have av:atI (r.map fun k:Nat=>PyData.int (k:Int)) (-1)=some (.int (v:Int)):=by rw [er,ζo]; exact vI _ _
   have wl:=Xb n lb
   have wo:=tq n lb [r]
   have w1:=Xb n [r]
   rw [show (lb ++ [r]).map nl=lb.map nl ++ [nl r] from by rw [ζo]; rfl]
   refine yK (·=[some (.fz false (nls cs)),some (.fz false (.int x)),some (.fz false (.int y)),some (.ow true (fo.map nl)),some (.ow true (lb.map nl)),some (.fz true (nl r)),x3]) (X3 (ds:=lb.map nl) (d:=nl r) (i:=4) (j:=5) (by walk_at"gc") (by decide) (by walk_at"sc") (by walk_at"sc") rfl) ?_
   rintro Γ2 rfl
   refine xj (b:=decide ((v:Int)=(y:Int))) (zq (ur (zI (κ:=false) (by walk_at"ev") (uo (i:=1) (by walk_at"ev")) av) (by walk_at"ev"))) (fun c=>?_) (fun c=>?_)
   ·have c:v=y:=by have:=of_decide_eq_true c; omega
    refine exa1 (d:=nl r) (by walk_at"gc") (by walk_at"ev") (by walk_at"sc") (by rw [ζb]; omega) ?_
    refine ⟨_,?_,fo ++ [r],lb,_,_,ri.found (by rw [lv,c]),rfl,by rw [ζo]; rfl⟩
    rw [wo]
    have:[r].length=1:=rfl
    omega
   ·have c:v≠y:=by have:=of_decide_eq_false c; omega
    have on:=ri.on ok hx (by rw [lv]; exact fun z=>c (ζI z))
    refine um (ds:=(List.range n).map fun i:Nat=>.int (i:Int)) true (fun j Γ=>∃ x3,Γ=[some (.fz false (nls cs)),some (.fz false (.int x)),some (.fz false (.int y)),some (.ow true (fo.map nl)),some (.ow true ((lb ++ onR cs r j).map nl)),some (.fz true (nl r)),x3]) (xA (n:=(n:Int)) (zg (EvE.eq (yb (ds:=cs.map nl) (by walk_at"ev")) el) zC) (by omega) (by omega)) ⟨_,by rw [show onR cs r 0=[] from rfl,ζG]⟩ ?_ ?_
    ·rintro j d Γ3 hd ⟨x3,rfl⟩
     obtain ⟨hj,rfl⟩:=xo hd
     refine ⟨_,egn (by walk_at"sc") ?_⟩
     have aj:atI (cs.map nl) (j:Int)=some (nl (cs.getD j [])):=yt (ok.at hj).1
     have ac:atI (cs.map nl) (v:Int)=some (nl (cs.getD v [])):=yt (ok.at vn).1
     have ol:(onR cs r j).length≤j:=by
      unfold onR
      rw [ζb]
      have:=ζE (onB cs r) (List.range j)
      rwa [ζu] at this
     refine xj (b:=onB cs r j) (EvT.eq (xu (EvT.eq (zq (zW (neg:=true) (i:=(j:Int)) (ns:=zl r) (by walk_at"ev") (EvE.toL (EvE.eq (κ:=false) (by walk_at"ev") (ya _))))) (by show (!decide _)=_; rw [zV])) fun _=>yG (EvT.eq (zq (zW (neg:=false) (i:=(j:Int)) (ns:=zl (cs.getD v [])) (by walk_at"ev") (EvE.toL (EvE.eq (κ:=false) (zI (κ:=false) (by walk_at"ev") (zI (κ:=false) (by walk_at"ev") (uo (i:=1) (by walk_at"ev")) av) ac) (ya _))))) zV) fun _=>EvT.eq (zq (zW (neg:=false) (i:=(v:Int)) (ns:=zl (cs.getD j [])) (zI (κ:=false) (by walk_at"ev") (uo (i:=1) (by walk_at"ev")) av) (EvE.toL (EvE.eq (κ:=false) (zI (κ:=false) (by walk_at"ev") (by walk_at"ev") aj) (ya _))))) zV) (by unfold onB; rw [lD])) (fun h=>?_) (fun h=>?_)
     ·refine exa1 (d:=nl (r ++ [j])) (by walk_at"gc") (EvO.toE (EvO.eq (wZ (xs:=r.map fun k:Nat=>.int (k:Int)) (ys:=[.int (j:Int)]) (by walk_at"ev") (EvO.toL (zZ (ds:=[.int (j:Int)]) (zg (by walk_at"ev") zC) (by show 1≤sizeLine; omega))) (by rw [ζb]; show _ + 1≤_; omega)) (by rw [ζo]; rfl))) (by walk_at"sc") (by rw [ζb,ζf]; omega) ?_
      exact ⟨_,by rw [UH,if_pos h,← ξa,ζo (l₂:=[r ++ [j]])]; rfl⟩
     ·exact yr ⟨_,by rw [UH,if_neg (by rw [h]; exact ζt)]⟩
    ·rintro Γ3 ⟨x3,rfl⟩
     rw [yX]
     exact ⟨_,on.2,fo,_,_,_,on.1,rfl,rfl⟩
  ·have h':lf=[]:=List.length_eq_zero_iff.mp (by simpa using h)
   subst h'
   exact ⟨fo,_,_,_,ri,rfl⟩
 ·rintro Γ' ⟨fo,x1,x2,x3,ri,rfl⟩
  have w:=ri.w
  exact exro (by walk_at"gc") ⟨fo,ri.end,by omega,rfl⟩ (.inl ⟨rfl,rfl⟩)
def yu (cs:List (List Nat)) (r:List Nat) (j:Nat):List Nat:=((List.range j).filter fun i=>veeB cs r (i + 1)).map fun i=>r.getD (i + 1) 0
theorem Zq (cs:List (List Nat)) (r:List Nat) (j:Nat):yu cs r (j + 1)=if veeB cs r (j + 1)=true then yu cs r j ++ [r.getD (j + 1) 0] else yu cs r j:=by
 unfold yu
 rw [ξx,ζ4]
 by_cases c:veeB cs r (j + 1)=true
 ·rw [if_pos c,ξs (by exact c),ζo]; rfl
 ·rw [if_neg c,ξt (by exact c),ξq,ζG]
theorem Ti (cs:List (List Nat)) (r:List Nat) (j:Nat):(yu cs r j).length≤j:=by
 unfold yu
 rw [ζb]
 have:=ζE (fun i=>veeB cs r (i + 1)) (List.range j)
 rwa [ζu] at this
def xz (ds:List PyData) (d:PyData):Prop:=∃ (n:Nat) (cs:List (List Nat)) (r:List Nat),ds=[nls cs,nl r]∧ShOk n cs∧(∀ z∈r,z < n)∧r.length≤1000∧d=nl (yu cs r (r.length - 2))
theorem Xm:zA ["_law_causes", "_law_road", "_law_found", "_law_at"] ["_law_causes", "_law_road"] (zo (top 37)):={}
theorem XO (F:Fun K "_law_turns" "_law_turns" (top 37) f fd) (B:Bs mg) (Z:Cs K mg τa τb)  : FnOk P w K mg base CX0 1 f fd ["_law_causes", "_law_road"] (spD K true xz):=by
 have sc:=Xm
 refine F.ok sc (fun vs H Q E h=>zH (fun _ _⟨_,_,_,e,_⟩=>by rw [e];rfl) h) (fun cdv A outer s H vs Q E hr h=>?_)
 obtain ⟨Fh,ds,d,le,dp,p,q⟩:=h
 refine ⟨_,(ze (pS (i:=2) sc.nd (zU zd))
   (ze (yF PassesOwn.never rfl (tI rfl B.range (zb zh (zb (zJ vC (pB (zm (K:=K) rfl) B.len (zb (pv 1) zd)) zh) zd))) (pN (i:=3) sc.nd) (zf (ye (PW.pt (xE (zr (zG (K:=K) rfl) (pX (zu (K:=K) rfl) (pv 1) (zJ vC (pv 3) zh)) (pX (zu (K:=K) rfl) (pv 0) (pX (zu (K:=K) rfl) (pv 1) (pv 3))) (rfl)) (xy (zr (zG (K:=K) rfl) (pX (zu (K:=K) rfl) (pv 1) (zJ yD (pv 3) zh)) (pX (zu (K:=K) rfl) (pv 0) (pX (zu (K:=K) rfl) (pv 1) (pv 3))) (rfl))))) (zf (yB (yN (K:=K) rfl ζx ζK ζJ yf (pv 2) (zb (pX (zu (K:=K) rfl) (pv 1) (pv 3)) zd)))) zL)))
   (zf (zy (pv 2))))),?_⟩
 have hN:=sc.n 4
 obtain ⟨n,cs,r,rfl,ok,hr,rl,rfl⟩:=p
 have big:=zD
 have er:PyData.int (((r.map fun k:Nat=>PyData.int (k:Int)).length:Nat):Int)=.int (r.length:Int):=by rw [ζb]
 walk_at"run"
 refine exo true (ds:=([]:List Nat).map fun k:Nat=>.int (k:Int)) (zZ (ds:=[]) zC (by decide)) (by walk_at"sc") ?_
 refine vi (ds:=(List.range ((r.length:Int) - 1 - 1).toNat).map fun i:Nat=>.int (1 + (i:Int))) true (fun i Γ=>∃ x,Γ=[some (.fz false (nls cs)),some (.fz false (nl r)),some (.ow true ((yu cs r i).map fun k:Nat=>.int (k:Int))),x]) (X9 (m:=1) (n:=(r.length:Int) - 1) (zg (by walk_at"ev") (zg (ZW (EvE.eq (yb (ds:=r.map fun k:Nat=>PyData.int (k:Int)) (by walk_at"ev")) er) (by walk_at"ev")) zC)) (by omega)) ⟨_,rfl⟩ ?_ ?_
 ·rintro i d Γ' hd ⟨x,rfl⟩
  obtain ⟨j,hj,rfl⟩:=xN hd
  obtain ⟨hlt,e⟩:=ζe.mp hj
  rw [List.getElem_range] at e
  rw [ζu] at hlt
  subst e
  refine ⟨_,egn (by walk_at"sc") ?_⟩
  have il:i + 2 < r.length:=by omega
  have kn:=Vn hr (show i + 1 < r.length by omega)
  have a0:atI (r.map fun k:Nat=>PyData.int (k:Int)) (1 + (i:Int))=some (.int (r.getD (i + 1) 0:Nat)):=by rw [show 1 + (i:Int)=((i + 1:Nat):Int) by omega]; exact xb (by omega)
  have am:atI (r.map fun k:Nat=>PyData.int (k:Int)) (1 + (i:Int) - 1)=some (.int (r.getD i 0:Nat)):=by rw [show 1 + (i:Int) - 1=(i:Int) by omega]; exact xb (by omega)
  have ap:atI (r.map fun k:Nat=>PyData.int (k:Int)) (1 + (i:Int) + 1)=some (.int (r.getD (i + 1 + 1) 0:Nat)):=by rw [show 1 + (i:Int) + 1=((i + 2:Nat):Int) by omega]; exact xb (by omega)
  have ac:atI (cs.map nl) (r.getD (i + 1) 0:Nat)=some (nl (cs.getD (r.getD (i + 1) 0) [])):=yt (ok.at kn).1
  have tl:=Ti cs r i
  refine xj (b:=veeB cs r (i + 1)) (xu (EvT.eq (zq (zW (neg:=false) (i:=(r.getD i 0:Nat)) (ns:=zl (cs.getD (r.getD (i + 1) 0) [])) (zI (κ:=false) (by walk_at"ev") (by walk_at"ev") am) (EvE.toL (EvE.eq (κ:=false) (zI (κ:=false) (by walk_at"ev") (zI (κ:=false) (by walk_at"ev") (by walk_at"ev") a0) ac) (ya _))))) zV) fun _=>EvT.eq (zq (zW (neg:=false) (i:=(r.getD (i + 1 + 1) 0:Nat)) (ns:=zl (cs.getD (r.getD (i + 1) 0) [])) (zI (κ:=false) (by walk_at"ev") (by walk_at"ev") ap) (EvE.toL (EvE.eq (κ:=false) (zI (κ:=false) (by walk_at"ev") (zI (κ:=false) (by walk_at"ev") (by walk_at"ev") a0) ac) (ya _))))) zV) (fun h=>?_) (fun h=>?_)
  ·refine exa1 (d:=.int (r.getD (i + 1) 0:Nat)) (by walk_at"gc") (EvE.imm (κ:=false) (zI (κ:=false) (by walk_at"ev") (by walk_at"ev") a0) rfl) (by walk_at"sc") (by rw [ζb]; omega) ⟨_,by rw [Zq,if_pos h,ζo]; rfl⟩
  ·exact yr ⟨_,by rw [Zq,if_neg (by rw [h]; exact ζt)]⟩
 ·rintro Γ' ⟨x,rfl⟩
  rw [ζb,ζu,show ((r.length:Int) - 1 - 1).toNat=r.length - 2 by omega]
  exact exro (by walk_at"gc") rfl (.inl ⟨rfl,rfl⟩)
def midL (r:List Nat):List Nat:=(List.range (r.length - 2)).map fun i=>r.getD (i + 1) 0
theorem zcC (g:Nat→PyData) (r:List Nat):cutD (r.map g) (some 1) (some (-1))=(midL r).map g:=by
 unfold cutD midL
 have e1:HT.sIx (r.map g).length 0 (some 1)=min 1 r.length:=by
  have:=HT.Xr (r.map g).length 0 1
  rw [ζb] at this ⊢
  exact this
 have e2:HT.sIx (r.map g).length (r.map g).length (some (-1))=r.length - 1:=by
  show (if (-1:Int) < 0 then ((-1:Int) + ((r.map g).length:Int)).toNat else min (-1:Int).toNat (r.map g).length)=_
  rw [if_pos (by decide),ζb]
  omega
 rw [e1,e2,ζM]
 refine List.ext_getElem? fun i=>?_
 rw [List.getElem?_take]
 by_cases h:i < r.length - 2
 ·rw [if_pos (by omega),List.getElem?_drop,ζs,show min 1 r.length + i=i + 1 by omega,zQ (show i + 1 < r.length by omega) (d:=0),ζs,ζ2 h]
  rfl
 ·rw [if_neg (by omega),ζs,ζT (by rw [ζu]; omega)]
  rfl
def wf (cs:List (List Nat)):PyData:=.list ((List.range cs.length).map fun k=>nl (lowF cs [k]))
def okB (cs:List (List Nat)) (r sm:List Nat) (k:Nat):Bool:=bif decide (k∈yu cs r (r.length - 2)) then sm.any (fun j=>decide (j∈lowF cs [k])) else !decide (k∈sm)
def xC (cs:List (List Nat)) (r sm:List Nat):Bool:=(midL r).all (okB cs r sm)
theorem XJ (k:Nat):[k].Nodup:=by simp
theorem XL {n k:Nat} (h:k < n):∀ y∈[k],y < n:=fun y hy=>by rw [ζc.mp hy]; exact h
def xM (ds:List PyData) (d:PyData):Prop:=∃ (n:Nat) (cs:List (List Nat)) (r sm:List Nat),ds=[nls cs,wf cs,nl r,nl sm]∧ShOk n cs∧n≤12∧(∀ z∈r,z < n)∧r.length≤1000∧sm.length≤1000∧d=.bool (xC cs r sm)
theorem Ww:zA ["_law_causes", "_law_lows_here", "_law_road", "_law_some_here", "_law_turns_here", "_law_k"] ["_law_causes", "_law_lows_here", "_law_road", "_law_some_here"] (zo (top 38)):={}
theorem WS (F:Fun K "_law_open" "_law_open" (top 38) f fd) (B:Bs mg) (Z:Cs K mg τa τb) (c_law_turns:zz P w K mg base CX0 "_law_turns" ["_law_causes", "_law_road"] 1 (spD K true xz)):FnOk P w K mg base CX0 2 f fd ["_law_causes", "_law_lows_here", "_law_road", "_law_some_here"] (spD K true xM):=by
 have sc:=Ww
 refine F.ok sc (fun vs H Q E h=>zH (fun _ _⟨_,_,_,_,e,_⟩=>by rw [e];rfl) h) (fun cdv A outer s H vs Q E hr h=>?_)
 obtain ⟨Fh,ds,d,le,dp,p,q⟩:=h
 refine ⟨_,(ze (pS (i:=4) sc.nd (pF c_law_turns hr (zb (pv 0) (zb (pv 2) zd))))
   (ze (yF PassesOwn.never rfl (zE (K:=K) rfl (uK (ux (K:=K) rfl) (pv 2) (uJ zh) (uJ (ub wq zh)))) (pN (i:=5) sc.nd) (zf (ye (zr (zG (K:=K) rfl) (pv 5) (pv 4) (rfl)) (zf (ye (wQ (yC (pB (xR (K:=K) rfl rfl) B.any (zb (yc rfl (N:=["_law_j", "_law_lows_here", "_law_k"]) (js:=[none,some 1,some 5]) (by walk_at"comp_ok") (zE (K:=K) rfl (pv 3)) (fun _ _ _ _=>(pN (i:=0) (show υN ["_law_j", "_law_lows_here", "_law_k"] by decide +kernel))) (fun _ _ _ _=>yx) (fun _ _ _ _=>(yy (zG (K:=K) rfl) (pv 0) (pX (zu (K:=K) rfl) (pv 1) (pv 2)) (rfl)))) zd)))) (zf (zy vf)) zL)) (zf (ye (zr (zG (K:=K) rfl) (pv 5) (pv 3) (rfl)) (zf (zy vf)) zL)))))
   (zf (zy vf)))),?_⟩
 have hN:=sc.n 6
 obtain ⟨n,cs,r,sm,rfl,ok,n12,hr,rl,sl,rfl⟩:=p
 have big:=zD
 have cl:=ok.l
 have ml:(midL r).length=r.length - 2:=by unfold midL; rw [List.length_map,List.length_range]
 walk_at"run"
 refine exs true (d:=nl (yu cs r (r.length - 2))) (zk (by walk_at"ev") ⟨n,cs,r,rfl,ok,hr,rl,rfl⟩) (by walk_at"sc") ?_
 refine vi (ds:=(midL r).map fun k:Nat=>.int (k:Int)) false (fun i Γ=>((midL r).take i).all (okB cs r sm)=true∧∃ x,Γ=[some (.fz false (nls cs)),some (.fz false (wf cs)),some (.fz false (nl r)),some (.fz false (nl sm)),some (.fz true (nl (yu cs r (r.length - 2)))),x]) (zN (EvO.toE (EvO.eq (xQ (ds:=r.map fun k:Nat=>.int (k:Int)) (lo:=some 1) (hi:=some (-1)) (EvE.toL (by walk_at"ev")) (uY (by walk_at"ev")) (uY (uo (i:=1) (by walk_at"ev")))) (zcC _ r)))) ⟨by rw [ξJ]; rfl,none,rfl⟩ ?_ ?_
 ·rintro i d Γ' hd ⟨ha,x,rfl⟩
  obtain ⟨k,hk,rfl⟩:=xN hd
  have km:=ζk hk
  have kr:k∈r:=by
   obtain ⟨j,hj,e⟩:=ζn.mp km
   rw [← e]
   exact ζk (zQ (d:=0) (by have:=ζD.mp hj; omega))
  have kn:=hr k kr
  refine ⟨_,egn (by walk_at"sc") ?_⟩
  have ak:atI ((List.range cs.length).map fun k=>nl (lowF cs [k])) (k:Int)=some (nl (lowF cs [k])):=yt (ζ2 (by rw [cl]; exact kn))
  have bad:okB cs r sm k=false→xC cs r sm=false:=fun z=>by
   unfold xC
   refine ξb.mpr fun w=>?_
   rw [ζ1] at w
   rw [w k km] at z
   cases z
  have good:okB cs r sm k=true→((midL r).take (i + 1)).all (okB cs r sm)=true:=fun z=>by
   rw [take_succ hk,List.all_append,ha,Bool.true_and,ξ1,z]
   rfl
  refine xj (b:=decide (k∈yu cs r (r.length - 2))) (EvT.eq (zq (zW (neg:=false) (i:=(k:Int)) (ns:=zl (yu cs r (r.length - 2))) (by walk_at"ev") (EvE.toL (EvE.eq (κ:=false) (by walk_at"ev") (ya _))))) zV) (fun h=>?_) (fun h=>?_)
  ·refine xj (b:=!((sm.map fun j=>decide (j∈lowF cs [k])).any fun b=>b)) (xJ (zq (tM (EvO.toL (EvO.eq (yp (κ:=false) (is:=[0]) (xs:=sm) false (fun k:Nat=>.int (k:Int)) (fun j=>.bool (decide (j∈lowF cs [k]))) (fun x _ y _ h=>by cases yO h; rfl) (zN (by walk_at"ev")) (by walk_at"cc") rfl (by decide) (by omega) ?_) (by rw [ζM]; rfl)))))) (fun c=>?_) (fun c=>?_)
   ·intro j hj
    refine egn (by walk_at"sc") (EvE.eq (zW (neg:=false) (i:=(j:Int)) (ns:=zl (lowF cs [k])) (by walk_at"ev") (EvE.toL (EvE.eq (κ:=false) (zI (κ:=false) (EvE.toL (EvE.eq (a:=wf cs) (by walk_at"ev") rfl)) (by walk_at"ev") ak) (ya _)))) (congrArg PyData.bool zV))
   ·rw [ξC] at c
    have c:sm.any ((fun b=>b)∘fun j=>decide (j∈lowF cs [k]))=false:=by
     cases z:sm.any ((fun b=>b)∘fun j=>decide (j∈lowF cs [k])) with
     | true=>rw [z] at c; cases c
     | false=>rfl
    exact zM true (by walk_at"ev") (congrArg PyData.bool (bad (by unfold okB; rw [h]; exact c)).symm) (.inl ⟨rfl,rfl⟩)
   ·rw [ξC] at c
    have c:sm.any ((fun b=>b)∘fun j=>decide (j∈lowF cs [k]))=true:=by
     cases z:sm.any ((fun b=>b)∘fun j=>decide (j∈lowF cs [k])) with
     | true=>rfl
     | false=>rw [z] at c; cases c
    exact yr ⟨good (by unfold okB; rw [h]; exact c),_,rfl⟩
  ·refine xj (b:=decide (k∈sm)) (EvT.eq (zq (zW (neg:=false) (i:=(k:Int)) (ns:=zl sm) (by walk_at"ev") (EvE.toL (EvE.eq (κ:=false) (by walk_at"ev") (ya _))))) zV) (fun c=>?_) (fun c=>?_)
   ·exact zM true (by walk_at"ev") (congrArg PyData.bool (bad (by unfold okB; rw [h,c]; rfl)).symm) (.inl ⟨rfl,rfl⟩)
   ·exact yr ⟨good (by unfold okB; rw [h,c]; rfl),_,rfl⟩
 ·rintro Γ' ⟨ha,x,rfl⟩
  rw [ζb,ξf] at ha
  exact zM true (by walk_at"ev") (by unfold xC; rw [ha]) (.inl ⟨rfl,rfl⟩)
theorem wX {n:Nat} (ok:ShOk n cs) {k j:Nat} (hk:k < n):j∈lowF cs [k]↔Dsp.Anc (paC cs) k j:=by
 rw [UL ok (XL hk) (XJ k),zY,wj ok hk]
theorem zeD {r:List Nat} (nd:r.Nodup) {i j:Nat} (hi:i < r.length) (hj:j < r.length) (e:r.getD i 0=r.getD j 0):i=j:=by
 have z1:r[i]?=some (r.getD i 0):=zQ hi
 have z2:r[j]?=some (r.getD j 0):=zQ hj
 rw [← e] at z2
 exact tJ nd z1 z2
theorem TK {cs:List (List Nat)} {r:List Nat} (nd:r.Nodup) {i:Nat} (hi:i + 2 < r.length):r.getD (i + 1) 0∈yu cs r (r.length - 2)↔veeB cs r (i + 1)=true:=by
 unfold yu
 rw [ζn]
 constructor
 ·rintro ⟨j,hj,e⟩
  obtain ⟨h1,h2⟩:=ζl.mp hj
  have h1:=ζD.mp h1
  have:=zeD nd (by omega) (by omega) e
  have:j=i:=by omega
  rw [← this]
  exact h2
 ·intro h
  exact ⟨i,ζl.mpr ⟨ζD.mpr (by omega),h⟩,rfl⟩
theorem zae (ok:ShOk n cs) (nd:r.Nodup) (hr:∀ z∈r,z < n) (hi:i + 2 < r.length):okB cs r sm (r.getD (i + 1) 0)=true↔Dsp.Cd (paC cs) (InL sm) (r.getD i 0) (r.getD (i + 1) 0) (r.getD (i + 2) 0):=by
 have kn:=Vn hr (show i + 1 < r.length by omega)
 have mt:=TK (cs:=cs) nd hi
 have vb:veeB cs r (i + 1)=true↔paC cs (r.getD i 0) (r.getD (i + 1) 0)∧paC cs (r.getD (i + 2) 0) (r.getD (i + 1) 0):=by
  unfold veeB
  rw [ζP,decide_eq_true_iff,decide_eq_true_iff]
  exact Iff.rfl
 unfold okB
 by_cases c:r.getD (i + 1) 0∈yu cs r (r.length - 2)
 ·rw [decide_eq_true c,cond_true,ζN]
  have v:=vb.mp (mt.mp c)
  constructor
  ·rintro ⟨j,hj,z⟩
   exact ⟨fun _=>⟨j,hj,(wX ok kn).mp (of_decide_eq_true z)⟩,fun z=>absurd v z⟩
  ·rintro ⟨h,_⟩
   obtain ⟨j,hj,a⟩:=h v
   exact ⟨j,hj,decide_eq_true ((wX ok kn).mpr a)⟩
 ·rw [decide_eq_false c,cond_false]
  have v:¬ (paC cs (r.getD i 0) (r.getD (i + 1) 0)∧paC cs (r.getD (i + 2) 0) (r.getD (i + 1) 0)):=fun z=>c (mt.mpr (vb.mpr z))
  constructor
  ·intro h
   exact ⟨fun z=>absurd z v,fun _ z=>by rw [decide_eq_true (show r.getD (i + 1) 0∈sm from z)] at h; cases h⟩
  ·intro h
   rw [decide_eq_false (h.2 v)]
   rfl
theorem uN (ok:ShOk n cs) (hx:x < n) (h:Pth cs x r.reverse):xC cs r sm=true↔Dsp.Ok (paC cs) (InL sm) r.reverse:=by
 have nd:=xZ h.nd
 have hr:∀ z∈r,z < n:=fun z hz=>h.lt ok hx z (ζ6.mpr hz)
 unfold xC midL
 rw [List.all_map,ζ1,zac]
 constructor
 ·intro a
  refine ⟨zbE h,fun i hi=>?_⟩
  rw [List.length_reverse] at hi
  have:=a (r.length - 3 - i) (ζD.mpr (by omega))
  have:=((zae ok nd hr (i:=r.length - 3 - i) (by omega)).mp this).sy
  rw [wF (by omega),wF (by omega),wF (by omega)]
  rw [show r.length - 1 - (i + 2)=r.length - 3 - i by omega,show r.length - 1 - (i + 1)=r.length - 3 - i + 1 by omega,show r.length - 1 - i=r.length - 3 - i + 2 by omega]
  exact this.sy
 ·rintro ⟨_,a⟩ i hi
  have hi:=ζD.mp hi
  have:=a (r.length - 3 - i) (by rw [List.length_reverse]; omega)
  rw [wF (by omega),wF (by omega),wF (by omega),show r.length - 1 - (r.length - 3 - i + 2)=i by omega,show r.length - 1 - (r.length - 3 - i + 1)=i + 1 by omega,show r.length - 1 - (r.length - 3 - i)=i + 2 by omega] at this
  exact (zae ok nd hr (by omega)).mpr this
theorem YB (ok:ShOk n cs) (dg:Dg cs) (hx:x < n) (h:RsOk cs x y rs) (ns:x∉sm):(!rs.any fun r=>xC cs r sm)=brB cs sm x y:=by
 obtain ⟨rk,dg⟩:=dg
 have ri:=Dsp.vp (pa:=paC cs) (Z:=InL sm) (x:=x) (y:=y) (rk:=rk) (fun a b p=>dg b a p) ns
 by_cases c:∃ w,Dsp.Bb (paC cs) (InL sm) x y w
 ·rw [zba c]
  obtain ⟨l,h1,h2,h3,h4⟩:=ri.mp c
  have p:=VJ h1 h2 h4
  have e:l.reverse.reverse=l:=List.reverse_reverse l
  have:rs.any (fun r=>xC cs r sm)=true:=ζN.mpr ⟨l.reverse,(h _).mpr ⟨by rw [e]; exact p,by rw [List.getLast?_reverse]; exact h3⟩,(uN ok hx (by rw [e]; exact p)).mpr (by rw [e]; exact h1)⟩
  rw [this]
  rfl
 ·rw [zc9 c]
  have:rs.any (fun r=>xC cs r sm)=false:=ξb.mpr fun z=>by
   obtain ⟨r,hr,o⟩:=ζN.mp z
   have p:=(h r).mp hr
   exact c (ri.mpr ⟨r.reverse,(uN ok hx p.1).mp o,p.1.nd,by rw [List.head?_reverse]; exact p.2,p.1.last⟩)
  rw [this]
  rfl
def yL (cs:List (List Nat)) (x y:Nat):List Nat:=(lowF cs [x]).filter fun k=>!decide (k=x) && decide (y∈lowF cs [k])
theorem ZO (ok:ShOk n cs) (hx:x < n) (hy:y < n):k∈yL cs x y↔k∈onW n cs x y:=by
 unfold yL
 rw [ζl,vS,zY,zY,wX ok hx,wj ok hx,zem ok hy,ζP,decide_eq_true_iff]
 constructor
 ·rintro ⟨h1,h2,h3⟩
  have kn:k < n:=((wj ok hx).mpr h1).1
  exact ⟨h1,(wX ok kn).mp h3,by simpa using h2⟩
 ·rintro ⟨h1,h2,h3⟩
  have kn:k < n:=((wj ok hx).mpr h1).1
  exact ⟨h1,by simpa using h3,(wX ok kn).mpr h2⟩
theorem UM (ok:ShOk n cs) {k:Nat} (hk:k < n):atI ((List.range cs.length).map fun k=>nl (lowF cs [k])) (k:Int)=some (nl (lowF cs [k])):=yt (ζ2 (by rw [ok.l]; exact hk))
def uG (ds:List PyData) (d:PyData):Prop:=∃ (n:Nat) (cs:List (List Nat)) (x y:Nat),ds=[nls cs,wf cs,.int x,.int y]∧ShOk n cs∧n≤12∧x < n∧y < n∧d=nl (yL cs x y)
theorem Wu:zA ["_law_causes", "_law_lows_here", "_law_x", "_law_y"] ["_law_causes", "_law_lows_here", "_law_x", "_law_y"] (zo (top 39)):={}
theorem WQ (F:Fun K "_law_ways" "_law_ways" (top 39) f fd) (B:Bs mg) (Z:Cs K mg τa τb)  : FnOk P w K mg base CX0 1 f fd ["_law_causes", "_law_lows_here", "_law_x", "_law_y"] (spD K true uG):=by
 have sc:=Wu
 refine F.ok sc (fun vs H Q E h=>zH (fun _ _⟨_,_,_,_,e,_⟩=>by rw [e];rfl) h) (fun cdv A outer s H vs Q E hr h=>?_)
 obtain ⟨Fh,ds,d,le,dp,p,q⟩:=h
 refine ⟨_,(zf (zy (yc rfl (N:=["_law_k", "_law_x", "_law_y", "_law_lows_here"]) (js:=[none,some 2,some 3,some 1]) (by walk_at"comp_ok") (zE (K:=K) rfl (pX (zu (K:=K) rfl) (pv 1) (pv 2))) (fun _ _ _ _=>(pN (i:=0) (show υN ["_law_k", "_law_x", "_law_y", "_law_lows_here"] by decide +kernel))) (fun _ _ _ _=>(yS (PW.pt (xE (zr vg (pv 0) (pv 1) (zF _)) (xy (zr (zG (K:=K) rfl) (pv 2) (pX (zu (K:=K) rfl) (pv 3) (pv 0)) (rfl))))))) (fun _ _ _ _=>(pv 0))))),?_⟩
 have hN:=sc.n 4
 obtain ⟨n,cs,x,y,rfl,ok,n12,hx,hy,rfl⟩:=p
 have big:=zD
 have ll:=zb3 ok (XL hx) (XJ x)
 walk_at"run"
 refine zM true (EvO.toE (yo (κ:=true) (is:=[0]) (xs:=lowF cs [x]) false (fun k:Nat=>.int (k:Int)) (fun k:Nat=>.int (k:Int)) (fun k=>!decide (k=x) && decide (y∈lowF cs [k])) (fun a _ b _ h=>by cases yO h; exact ⟨rfl,rfl⟩) (zN (zI (κ:=false) (EvE.toL (EvE.eq (a:=wf cs) (by walk_at"ev") rfl)) (by walk_at"ev") (UM ok hx))) (by walk_at"cc") rfl (by decide) (by omega) ?_)) rfl (.inl ⟨rfl,rfl⟩)
 intro k hk
 have kn:k < n:=((wj ok hx).mpr ((wX ok hx).mp hk)).1
 exact egn (by walk_at"sc") ⟨xu (EvT.eq (zq (vG (i:=(k:Int)) (j:=(x:Int)) (by walk_at"ev") (by walk_at"ev"))) (by rw [show decide ((k:Int)=(x:Int))=decide (k=x) from decide_eq_decide.mpr ⟨fun h=>by omega,fun h=>by omega⟩])) fun _=>EvT.eq (zq (zW (neg:=false) (i:=(y:Int)) (ns:=zl (lowF cs [k])) (by walk_at"ev") (EvE.toL (EvE.eq (κ:=false) (zI (κ:=false) (EvE.toL (EvE.eq (a:=wf cs) (by walk_at"ev") rfl)) (by walk_at"ev") (UM ok kn)) (ya _))))) zV,fun _=>by walk_at"ev"⟩
def cutB (x k:Nat) (ws:List Nat) (c:Nat):Bool:=!decide (c=x) || !decide (k∈ws)
def cutL (cs:List (List Nat)) (ws:List Nat) (x:Nat):List (List Nat):=(List.range cs.length).map fun k=>(cs.getD k []).filter (cutB x k ws)
theorem zd9 (h:∀ k,k∈ws↔k∈onW n cs x y):cutL cs ws x=cutC n cs x y:=by
 unfold cutL cutC
 refine List.ext_getElem? fun i=>?_
 by_cases hi:i < cs.length
 ·have z:cs[i]?=some (cs.getD i []):=zQ hi
  rw [ζs,ζ2 hi,Xc z]
  show some _=some _
  unfold woR
  refine congrArg some (List.filter_congr fun c _=>?_)
  unfold cutB cutP
  have m:(c,i)∈(onW n cs x y).map (fun k=>(x,k))↔c=x∧i∈ws:=by
   rw [ζn]
   constructor
   ·rintro ⟨k,hk,e⟩
    cases e
    exact ⟨rfl,(h _).mpr hk⟩
   ·rintro ⟨rfl,hk⟩
    exact ⟨i,(h _).mp hk,rfl⟩
  by_cases c1:c=x
  ·by_cases c2:i∈ws
   ·rw [decide_eq_true c1,decide_eq_true c2,decide_eq_true (m.mpr ⟨c1,c2⟩)]; rfl
   ·rw [decide_eq_true c1,decide_eq_false c2,decide_eq_false fun q=>c2 (m.mp q).2]; rfl
  ·rw [decide_eq_false c1,decide_eq_false fun q=>c1 (m.mp q).1]; rfl
 ·rw [ζs,ζT (by rw [ζu]; omega),ζT (by rw [vO]; omega)]
  rfl
def tU (ds:List PyData) (d:PyData):Prop:=∃ (n:Nat) (cs:List (List Nat)) (ws:List Nat) (x:Nat),ds=[nls cs,nl ws,.int x]∧ShOk n cs∧n≤12∧d=nls (cutL cs ws x)
theorem VD:zA ["_law_causes", "_law_ways_here", "_law_x"] ["_law_causes", "_law_ways_here", "_law_x"] (zo (top 40)):={}
theorem VT (F:Fun K "_law_cut" "_law_cut" (top 40) f fd) (B:Bs mg) (Z:Cs K mg τa τb)  : FnOk P w K mg base CX0 1 f fd ["_law_causes", "_law_ways_here", "_law_x"] (spD K true tU):=by
 have sc:=VD
 refine F.ok sc (fun vs H Q E h=>zH (fun _ _⟨_,_,_,_,e,_⟩=>by rw [e];rfl) h) (fun cdv A outer s H vs Q E hr h=>?_)
 obtain ⟨Fh,ds,d,le,dp,p,q⟩:=h
 refine ⟨_,(zf (zy (Q7 (y := "_law_k") rfl (N:=["_law_k", "_law_causes", "_law_x", "_law_ways_here"]) (js:=[none,some 0,some 2,some 1]) (by walk_at"comp_okC") (yw rfl B.range (zb (pB (zm (K:=K) rfl) B.len (zb (pv 0) zd)) zd)) (fun _ _ _ _=>(pN (i:=0) (show υN ["_law_k", "_law_causes", "_law_x", "_law_ways_here"] by decide +kernel))) (fun _ _ _ _=>yx) (fun _ _ _ _=>(yc rfl (N:=["_law_c", "_law_x", "_law_k", "_law_ways_here"]) (js:=[none,some 2,some 0,some 3]) (by walk_at"comp_ok") (zE (K:=K) rfl (pX (zu (K:=K) rfl) (pv 1) (pv 0))) (fun _ _ _ _=>(pN (i:=0) (show υN ["_law_c", "_law_x", "_law_k", "_law_ways_here"] by decide +kernel))) (fun _ _ _ _=>(yS (PW.pt (xi (zr vg (pv 0) (pv 1) (zF _)) (wP (zr (yd (K:=K) rfl) (pv 2) (pv 3) (rfl))))))) (fun _ _ _ _=>(pv 0))))))),?_⟩
 have hN:=sc.n 3
 obtain ⟨n,cs,ws,x,rfl,ok,n12,rfl⟩:=p
 have big:=zD
 have cl:=ok.l
 have el:PyData.int (((cs.map nl).length:Nat):Int)=.int (cs.length:Int):=by rw [ζb]
 walk_at"run"
 refine zM true (EvO.toE (EvO.eq (UZ (κ:=true) (is:=[0]) (n:=cs.length) (fun k=>nl ((cs.getD k []).filter (cutB x k ws))) (zg (EvE.eq (yb (ds:=cs.map nl) (by walk_at"ev")) el) zC) (by omega) (by walk_at"cc") rfl (by decide) ?_) (by unfold cutL; rw [List.map_map]; rfl))) rfl (.inl ⟨rfl,rfl⟩)
 intro k hk
 rw [cl] at hk
 have A:=ok.at hk
 have A2:=A.2.2
 have ak:atI (cs.map nl) (k:Int)=some (nl (cs.getD k [])):=yt A.1
 refine egn (by walk_at"sc") (EvO.toE (yo (κ:=true) (is:=[0]) (xs:=cs.getD k []) false (fun k:Nat=>.int (k:Int)) (fun k:Nat=>.int (k:Int)) (cutB x k ws) (fun a _ b _ h=>by cases yO h; exact ⟨rfl,rfl⟩) (zN (zI (κ:=false) (by walk_at"ev") (by walk_at"ev") ak)) (by walk_at"cc") rfl (by decide) (by omega) ?_))
 intro c hc
 exact egn (by walk_at"sc") ⟨yG (EvT.eq (zq (vG (i:=(c:Int)) (j:=(x:Int)) (by walk_at"ev") (by walk_at"ev"))) (by rw [show decide ((c:Int)=(x:Int))=decide (c=x) from decide_eq_decide.mpr ⟨fun h=>by omega,fun h=>by omega⟩])) fun _=>EvT.eq (zq (zW (neg:=true) (i:=(k:Int)) (ns:=zl ws) (by walk_at"ev") (EvE.toL (EvE.eq (κ:=false) (by walk_at"ev") (ya _))))) (by show (!decide _)=_; rw [zV]),fun _=>by walk_at"ev"⟩
def uI (ds:List PyData) (d:PyData):Prop:=∃ (n:Nat) (cs:List (List Nat)),ds=[nls cs]∧ShOk n cs∧n≤12∧d=wf cs
theorem Wx:zA ["_law_causes"] ["_law_causes"] (zo (top 41)):={}
theorem WT (F:Fun K "_law_lows" "_law_lows" (top 41) f fd) (B:Bs mg) (Z:Cs K mg τa τb) (c_law_low:zz P w K mg base CX0 "_law_low" ["_law_causes", "_law_some_here"] 1 (spD K true vA)):FnOk P w K mg base CX0 2 f fd ["_law_causes"] (spD K true uI):=by
 have sc:=Wx
 refine F.ok sc (fun vs H Q E h=>zH (fun _ _⟨_,_,e,_⟩=>by rw [e];rfl) h) (fun cdv A outer s H vs Q E hr h=>?_)
 obtain ⟨Fh,ds,d,le,dp,p,q⟩:=h
 refine ⟨_,(zf (zy (yc rfl (N:=["_law_k", "_law_causes"]) (js:=[none,some 0]) (by walk_at"comp_ok") (yw rfl B.range (zb (pB (zm (K:=K) rfl) B.len (zb (pv 0) zd)) zd)) (fun _ _ _ _=>(pN (i:=0) (show υN ["_law_k", "_law_causes"] by decide +kernel))) (fun _ _ _ _=>yx) (fun _ _ _ _=>(pF c_law_low hr (zb (pv 1) (zb (zU (zb (pv 0) zd)) zd))))))),?_⟩
 have hN:=sc.n 1
 obtain ⟨n,cs,rfl,ok,n12,rfl⟩:=p
 have big:=zD
 have cl:=ok.l
 have el:PyData.int (((cs.map nl).length:Nat):Int)=.int (cs.length:Int):=by rw [ζb]
 walk_at"run"
 refine zM true (EvO.toE (UZ (κ:=true) (is:=[0]) (n:=cs.length) (fun k=>nl (lowF cs [k])) (zg (EvE.eq (yb (ds:=cs.map nl) (by walk_at"ev")) el) zC) (by omega) (by walk_at"cc") rfl (by decide) ?_)) rfl (.inl ⟨rfl,rfl⟩)
 intro k hk
 rw [cl] at hk
 exact egn (by walk_at"sc") (zk (ds:=[nls cs,.list [.int (k:Int)]]) (by walk_at"ev") ⟨n,cs,[k],rfl,ok,n12,XL hk,XJ k,rfl⟩)
theorem Ut (ok:ShOk n cs) (hx:x < n):∀ k∈yL cs x y,k < n:=fun k hk=>((wj ok hx).mpr ((wX ok hx).mp (ζl.mp hk).1)).1
theorem Us (ok:ShOk n cs) (hx:x < n):(yL cs x y).Nodup:=(zdN ok (XL hx) (XJ x)).sublist ξr
noncomputable def yM (n:Nat) (cs:List (List Nat)) (x y:Nat) (rs:List (List Nat)):PyData:=.tuple [nl (lowF cs (yL cs x y)),nls (cutC n cs x y),wf (cutC n cs x y),nls rs]
theorem tO (ok:ShOk n cs) (x y:Nat):ShOk n (cutC n cs x y):=zcL ok _
def v9 (ds:List PyData) (G:PyData→Prop):Prop:=∃ (n:Nat) (cs:List (List Nat)) (x y:Nat),ds=[nls cs,.int x,.int y]∧ShOk n cs∧n≤6∧x < n∧y < n∧G=fun d=>∃ rs,RsOk (cutC n cs x y) x y rs∧rs.length≤326∧d=yM n cs x y rs
theorem Xp:zA ["_law_causes", "_law_x", "_law_y", "_law_lows_here", "_law_ways_here", "_law_cut_here"] ["_law_causes", "_law_x", "_law_y"] (zo (top 42)):={}
theorem XS (F:Fun K "_law_ready" "_law_ready" (top 42) f fd) (B:Bs mg) (Z:Cs K mg τa τb) (c_law_lows:zz P w K mg base CX0 "_law_lows" ["_law_causes"] 2 (spD K true uI)) (c_law_ways:zz P w K mg base CX0 "_law_ways" ["_law_causes", "_law_lows_here", "_law_x", "_law_y"] 1 (spD K true uG)) (c_law_cut:zz P w K mg base CX0 "_law_cut" ["_law_causes", "_law_ways_here", "_law_x"] 1 (spD K true tU)) (c_law_roads:zz P w K mg base CX0 "_law_roads" ["_law_causes", "_law_x", "_law_y"] 1 (spW K true v8)) (c_law_low:zz P w K mg base CX0 "_law_low" ["_law_causes", "_law_some_here"] 1 (spD K true vA)):FnOk P w K mg base CX0 3 f fd ["_law_causes", "_law_x", "_law_y"] (spW K true v9):=by
 have sc:=Xp
 refine F.ok sc (fun vs H Q E h=>Zh (fun _ _⟨_,_,_,_,e,_⟩=>by rw [e];rfl) h) (fun cdv A outer s H vs Q E hr h=>?_)
 obtain ⟨Fh,ds,G,le,dp,p,q⟩:=h
 refine ⟨_,(ze (pS (i:=3) sc.nd (pF c_law_lows hr (zb (pv 0) zd)))
   (ze (pS (i:=4) sc.nd (pF c_law_ways hr (zb (pv 0) (zb (pv 3) (zb (pv 1) (zb (pv 2) zd))))))
   (ze (pS (i:=5) sc.nd (pF c_law_cut hr (zb (pv 0) (zb (pv 4) (zb (pv 1) zd)))))
   (zf (zy (xG (zb (pF c_law_low hr (zb (pv 0) (zb (pv 4) zd))) (zb (pv 5) (zb (pF c_law_lows hr (zb (pv 5) zd)) (zb (pF c_law_roads hr (zb (pv 5) (zb (pv 1) (zb (pv 2) zd)))) zd)))))))))),?_⟩
 have hN:=sc.n 6
 obtain ⟨n,cs,x,y,rfl,ok,n6,hx,hy,rfl⟩:=p
 have n12:n≤12:=by omega
 have ec:cutL cs (yL cs x y) x=cutC n cs x y:=zd9 fun k=>ZO ok hx hy
 have oc:=tO ok x y
 refine uA le dp q hN (by walk_at"st") ?_
 refine exs true (d:=wf cs) (zk (by walk_at"ev") ⟨n,cs,rfl,ok,n12,rfl⟩) (by walk_at"sc") ?_
 refine exs true (d:=nl (yL cs x y)) (zk (by walk_at"ev") ⟨n,cs,x,y,rfl,ok,n12,hx,hy,rfl⟩) (by walk_at"sc") ?_
 refine exs true (d:=nls (cutC n cs x y)) (zk (by walk_at"ev") ⟨n,cs,yL cs x y,x,rfl,ok,n12,by rw [ec]⟩) (by walk_at"sc") ?_
 refine zcf true (zaH (zk (by walk_at"ev") ⟨n,cs,yL cs x y,rfl,ok,n12,Ut ok hx,Us ok hx,rfl⟩) (by walk_at"ev") (zk (by walk_at"ev") ⟨n,cutC n cs x y,rfl,oc,n12,rfl⟩) (uV (by walk_at"ev") ⟨n,cutC n cs x y,x,y,rfl,oc,n6,hx,rfl⟩)) ?_ (.inl ⟨rfl,rfl⟩)
 rintro d ⟨z,⟨rs,h1,h2,rfl⟩,rfl⟩
 exact ⟨rs,h1,h2,rfl⟩
theorem WI (h:∀ k,k∈a→k∈b) (r:Rch nx a z):Rch nx b z:=by
 induction r with
 | base q=>exact .base (h _ q)
 | step _ q ih=>exact ih.step q
theorem zao (ok:ShOk n cs) (hx:x < n) (hy:y < n) (sm:List Nat):(sm.any fun k=>decide (k∈lowF cs (yL cs x y)))=(unW n cs x y).any fun k=>decide (k∈sm):=by
 have m:∀ k,k∈lowF cs (yL cs x y)↔k∈unW n cs x y:=fun k=>by
  rw [UL ok (Ut ok hx) (Us ok hx)]
  unfold unW
  rw [zY,zY]
  exact ⟨fun z=>⟨z.1,WI (fun k hk=>(ZO ok hx hy).mp hk) z.2⟩,fun z=>⟨z.1,WI (fun k hk=>(ZO ok hx hy).mpr hk) z.2⟩⟩
 rw [ξF,ζN,ζN]
 exact ⟨fun ⟨k,h1,h2⟩=>⟨k,(m k).mp (of_decide_eq_true h2),decide_eq_true h1⟩,fun ⟨k,h1,h2⟩=>⟨k,of_decide_eq_true h2,decide_eq_true ((m k).mpr h1)⟩⟩
theorem zcB (h:c∈(cutC n cs x y).getD e []):c∈cs.getD e []:=by
 unfold cutC at h
 by_cases he:e < cs.length
 ·have z:cs[e]?=some (cs.getD e []):=zQ he
  rw [ζd,Xc z] at h
  exact (ζl.mp h).1
 ·rw [ζd,ζT (by rw [vO]; omega)] at h
  cases h
theorem Wb (dg:Dg cs) (x y:Nat):Dg (cutC n cs x y):=let ⟨rk,h⟩:=dg; ⟨rk,fun e c z=>h e c (zcB z)⟩
def wT (ds:List PyData) (d:PyData):Prop:=∃ (n:Nat) (cs:List (List Nat)) (x y:Nat) (rs:List (List Nat)) (sm:List Nat),ds=[yM n cs x y rs,nl sm]∧ShOk n cs∧Dg cs∧n≤6∧x < n∧y < n∧RsOk (cutC n cs x y) x y rs∧rs.length≤326∧sm.length≤1000∧x∉sm∧d=.bool (doB n cs x y sm)
theorem WA:zA ["_law_ready_here", "_law_some_here", "_law_low_here", "_law_cut_here", "_law_lows_here", "_law_roads_here"] ["_law_ready_here", "_law_some_here"] (zo (top 43)):={}
theorem WV (F:Fun K "_law_does" "_law_does" (top 43) f fd) (B:Bs mg) (Z:Cs K mg τa τb) (c_law_open:zz P w K mg base CX0 "_law_open" ["_law_causes", "_law_lows_here", "_law_road", "_law_some_here"] 2 (spD K true xM)):FnOk P w K mg base CX0 3 f fd ["_law_ready_here", "_law_some_here"] (spD K true wT):=by
 have sc:=WA
 refine F.ok sc (fun vs H Q E h=>zH (fun _ _⟨_,_,_,_,_,_,e,_⟩=>by rw [e];rfl) h) (fun cdv A outer s H vs Q E hr h=>?_)
 obtain ⟨Fh,ds,d,le,dp,p,q⟩:=h
 refine ⟨_,(ze (QT (pv 0) (XC (K:=K) (n:=4) rfl rfl (yQ (pN (i:=2) sc.nd) (yQ (pN (i:=3) sc.nd) (yQ (pN (i:=4) sc.nd) (yQ (pN (i:=5) sc.nd) XB))))))
   (ze (ye (yC (pB (xR (K:=K) rfl rfl) B.any (zb (yc rfl (N:=["_law_k", "_law_low_here"]) (js:=[none,some 2]) (by walk_at"comp_ok") (zE (K:=K) rfl (pv 1)) (fun _ _ _ _=>(pN (i:=0) (show υN ["_law_k", "_law_low_here"] by decide +kernel))) (fun _ _ _ _=>yx) (fun _ _ _ _=>(yy (zG (K:=K) rfl) (pv 0) (pv 1) (rfl)))) zd))) (zf (zy vf)) zL)
   (zf (zy (ZG (pB (xR (K:=K) rfl rfl) B.any (zb (yc rfl (N:=["_law_road", "_law_cut_here", "_law_lows_here", "_law_some_here"]) (js:=[none,some 3,some 4,some 1]) (by walk_at"comp_ok") (zE (K:=K) rfl (pv 5)) (fun _ _ _ _=>(pN (i:=0) (show υN ["_law_road", "_law_cut_here", "_law_lows_here", "_law_some_here"] by decide +kernel))) (fun _ _ _ _=>yx) (fun _ _ _ _=>(pF c_law_open hr (zb (pv 1) (zb (pv 2) (zb (pv 0) (zb (pv 3) zd))))))) zd))))))),?_⟩
 have hN:=sc.n 6
 obtain ⟨n,cs,x,y,rs,sm,rfl,ok,dg,n6,hx,hy,ro,rl,sl,nx,rfl⟩:=p
 have big:=zD
 have oc:=tO ok x y
 have rb:=YB oc (Wb dg x y) hx ro nx
 have lu:=zao ok hx hy sm
 walk_at"run"
 refine yK (·=[some (.fz false (yM n cs x y rs)),some (.fz false (nl sm)),some (.fz false (nl (lowF cs (yL cs x y)))),some (.fz false (nls (cutC n cs x y))),some (.fz false (wf (cutC n cs x y))),some (.fz false (nls rs))]) (zaE (κ:=false) (EvE.eq (a:=yM n cs x y rs) (by walk_at"ev") rfl) (eg4 (by walk_at"sc") (by walk_at"sc") (by walk_at"sc") (by walk_at"sc") rfl)) ?_
 rintro Γ1 rfl
 refine vE (b:=(unW n cs x y).any fun k=>decide (k∈sm)) (EvT.eq (zq (tM (EvO.toL (EvO.eq (yp (κ:=false) (is:=[0]) (xs:=sm) false (fun k:Nat=>.int (k:Int)) (fun k=>.bool (decide (k∈lowF cs (yL cs x y)))) (fun x _ y _ h=>by cases yO h; rfl) (zN (by walk_at"ev")) (by walk_at"cc") rfl (by decide) (by omega) ?_) (by rw [ζM]; rfl))))) (by rw [← lu,ξC]; rfl)) (fun h=>?_) (fun h=>?_)
 ·intro k hk
  exact egn (by walk_at"sc") (EvE.eq (zW (neg:=false) (i:=(k:Int)) (ns:=zl (lowF cs (yL cs x y))) (by walk_at"ev") (EvE.toL (EvE.eq (κ:=false) (by walk_at"ev") (ya _)))) (congrArg PyData.bool zV))
 ·exact exrs true (by walk_at"ev") (by unfold doB; rw [h]; rfl) (.inl ⟨rfl,rfl⟩)
 ·refine exn (zM true (ZY (tM (bs:=rs.map fun r=>xC (cutC n cs x y) r sm) (EvO.toL (EvO.eq (yp (κ:=false) (is:=[0]) (xs:=rs) false nl (fun r=>.bool (xC (cutC n cs x y) r sm)) (fun a _ b _ h=>by rw [show a=b from by rw [← tu a,h,tu]]) (zN (by walk_at"ev")) (by walk_at"cc") rfl (by decide) (by omega) ?_) (by rw [ζM]; rfl))))) ?_ (.inl ⟨rfl,rfl⟩))
  ·intro r hr
   have p:=((ro r).mp hr).1
   have lt:∀ z∈r,z < n:=fun z hz=>p.lt oc hx z (ζ6.mpr hz)
   have rl:r.length≤n:=yV n r (xZ p.nd) lt
   exact egn (by walk_at"sc") (zk (by walk_at"ev") ⟨n,cutC n cs x y,r,sm,rfl,oc,by omega,lt,by omega,sl,rfl⟩)
  ·rw [ξC]
   unfold doB
   rw [h,← rb]
   rfl
theorem zak {P:Nat→Prop} {l:List Nat} {v i:Nat} (h:∀ z∈l,P z) (hi:P i):∀ z∈l.take v ++ i :: l.drop v,P z:=fun z hz=>by
 rcases ζq.mp hz with hz | hz
 ·exact h z (List.mem_of_mem_take hz)
 ·rcases ζz.mp hz with rfl | hz
  ·exact hi
  ·exact h z (List.mem_of_mem_drop hz)
def uH (ds:List PyData) (G:PyData→Prop):Prop:=∃ (ns:List Int) (f n:Nat) (cs:List (List Nat)) (x y:Nat) (kd:Int),ds=[il ns,.int f,nls cs,.int x,.int y,.int kd]∧ShOk n cs∧n≤12∧x < n∧y < n∧G=fun d=>∃ sm:List Nat,(∀ z∈sm,z < n∧z≠x∧z≠y)∧sm.length≤n∧d=nl sm
theorem Wv:zA ["_law_script", "_law_start", "_law_causes", "_law_x", "_law_y", "_law_kind", "_law_found", "_law_k", "_law_bit"] ["_law_script", "_law_start", "_law_causes", "_law_x", "_law_y", "_law_kind"] (zo (top 44)):={}
theorem WR (F:Fun K "_law_some" "_law_some" (top 44) f fd) (B:Bs mg) (Z:Cs K mg τa τb) (c_law_cell_at:zz P w K mg base CX0 "_law_cell_at" ["_law_script", "_law_k"] 1 (spD K true yv)):FnOk P w K mg base CX0 2 f fd ["_law_script", "_law_start", "_law_causes", "_law_x", "_law_y", "_law_kind"] (spW K true uH):=by
 have sc:=Wv
 refine F.ok sc (fun vs H Q E h=>Zh (fun _ _⟨_,_,_,_,_,_,_,e,_⟩=>by rw [e];rfl) h) (fun cdv A outer s H vs Q E hr h=>?_)
 obtain ⟨Fh,ds,G,le,dp,p,q⟩:=h
 refine ⟨_,(ze (pS (i:=6) sc.nd (zU zd))
   (ze (yF PassesOwn.never rfl (yw rfl B.range (zb (pB (zm (K:=K) rfl) B.len (zb (pv 2) zd)) zd)) (pN (i:=7) sc.nd) (ze (pS (i:=8) sc.nd (pF c_law_cell_at hr (zb (pv 0) (zb (zJ yD (pv 1) (pv 7)) zd))))
   (ze (ye (zr uP (pv 5) zh (zF _)) (zf (pS (i:=8) sc.nd (pY Y1 B.int (zb (yy (zG (K:=K) rfl) (pv 7) (pX (zu (K:=K) rfl) (pv 2) (pv 3)) (rfl)) zd)))) zL)
   (ze (ye (zr uP (pv 5) zh (zF _)) (zf (pS (i:=8) sc.nd (zJ yD (pY Y1 B.int (zb (yy (zG (K:=K) rfl) (pv 7) (pX (zu (K:=K) rfl) (pv 2) (pv 3)) (rfl)) zd)) (zJ uO (zJ y8 (pv 8) zh) zh)))) zL)
   (zf (ye (PW.pt (xE (zr vg (pv 7) (pv 3) (zF _)) (xE (zr vg (pv 7) (pv 4) (zF _)) (xy (zr uP (zJ y8 (pv 8) zh) zh (zF _)))))) (zf (yB (yN (K:=K) rfl ζx PySem.F.slot_list_insert PySem.F.type_list_insert YJ (pv 6) (zb (zJ y8 (zJ uO (pv 8) zh) (zJ yD (pB (zm (K:=K) rfl) B.len (zb (pv 6) zd)) zh)) (zb (pv 7) zd))))) zL))))))
   (zf (zy (pv 6))))),?_⟩
 have hN:=sc.n 9
 obtain ⟨ns,f,n,cs,x,y,kd,rfl,ok,n12,hx,hy,rfl⟩:=p
 have big:=zD
 have cl:=ok.l
 have el:PyData.int (((cs.map nl).length:Nat):Int)=.int (n:Int):=by rw [ζb,cl]
 have ax:atI (cs.map nl) (x:Int)=some (nl (cs.getD x [])):=yt (ok.at hx).1
 refine uA le dp q hN (by walk_at"st") ?_
 refine exo true (ds:=([]:List Nat).map fun k:Nat=>.int (k:Int)) (zZ (ds:=[]) zC (by decide)) (by walk_at"sc") ?_
 refine vi (ds:=(List.range n).map fun i:Nat=>.int (i:Int)) true (fun i Γ=>∃ (sm:List Nat) (u v:Option DV),(∀ z∈sm,z < n∧z≠x∧z≠y)∧sm.length≤i∧Γ=[some (.fz false (il ns)),some (.fz false (.int f)),some (.fz false (nls cs)),some (.fz false (.int x)),some (.fz false (.int y)),some (.fz false (.int kd)),some (.ow true (sm.map fun k:Nat=>.int (k:Int))),u,v]) (xA (n:=(n:Int)) (zg (EvE.eq (yb (ds:=cs.map nl) (by walk_at"ev")) el) zC) (by omega) (by omega)) ⟨[],none,none,fun _ z=>(nomatch z),ζh _,rfl⟩ ?_ ?_
 ·rintro i d Γ' hd ⟨sm,u,v,hs,sl,rfl⟩
  obtain ⟨hi,rfl⟩:=xo hd
  refine ⟨_,egn (by walk_at"sc") ?_⟩
  refine exs true (d:=.int (ns.getD (f + i) 0)) (zk (by walk_at"ev") ⟨ns,f + i,by rw [Int.natCast_add],rfl⟩) (by walk_at"sc") ?_
  generalize ns.getD (f + i) 0=b0
  have iv:∀ {Γ0:PD.Ctx},GetC Γ0 2 (.fz false (nls cs))→GetC Γ0 3 (.fz false (.int x))→GetC Γ0 7 (.fz true (.int i))→EvE K .fresh true (tCB (fun xs H Q=>(∃ i,xs=[.int i]∧Q (.int i) H)∨∃ k,xs=[.bl k]∧Q (.int (if k then 1 else 0)) H) (zR (tOp (rIn K false) (tVar 7) (tOp (rIxL K) (tVar 2) (tVar 3))) tNil)) Γ0 (.int (if decide (i∈cs.getD x [])=true then 1 else 0)):=fun g2 g3 g7=>zct (EvE.eq (zW (neg:=false) (i:=(i:Int)) (ns:=zl (cs.getD x [])) (evv g7 (by decide)) (EvE.toL (EvE.eq (κ:=false) (zI (κ:=false) (EvE.toL (evv g2 (by decide))) (evv g3 (by decide)) ax) (ya _)))) (congrArg PyData.bool zV))
  refine exif (b:=decide (kd=1)) (fun Γ=>∃ b1:Int,Γ=[some (.fz false (il ns)),some (.fz false (.int f)),some (.fz false (nls cs)),some (.fz false (.int x)),some (.fz false (.int y)),some (.fz false (.int kd)),some (.ow true (sm.map fun k:Nat=>.int (k:Int))),some (.fz true (.int i)),some (.fz true (.int b1))]) (by walk_at"ev") (fun _=>exs1 true (iv (by walk_at"gc") (by walk_at"gc") (by walk_at"gc")) (by walk_at"sc") ⟨_,rfl⟩) (fun _=>yr ⟨_,rfl⟩) ?_
  rintro Γ2 ⟨b1,rfl⟩
  refine exif (b:=decide (kd=2)) (fun Γ=>∃ b2:Int,Γ=[some (.fz false (il ns)),some (.fz false (.int f)),some (.fz false (nls cs)),some (.fz false (.int x)),some (.fz false (.int y)),some (.fz false (.int kd)),some (.ow true (sm.map fun k:Nat=>.int (k:Int))),some (.fz true (.int i)),some (.fz true (.int b2))]) (by walk_at"ev") (fun _=>exs1 true (wx (EvE.weak (iv (by walk_at"gc") (by walk_at"gc") (by walk_at"gc")) (fun h=>nomatch h)) (uX (xH (by walk_at"ev") (by walk_at"ev") (by decide)) (by walk_at"ev") ⟨by decide,by decide⟩)) (by walk_at"sc") ⟨_,rfl⟩) (fun _=>yr ⟨_,rfl⟩) ?_
  rintro Γ2 ⟨b2,rfl⟩
  refine xj (b:=!decide ((i:Int)=(x:Int)) && (!decide ((i:Int)=(y:Int)) && decide (b2 % 2=1))) (xu (by walk_at"ev") fun _=>xu (by walk_at"ev") fun _=>zq (ur (xH (by walk_at"ev") (by walk_at"ev") (by decide)) (by walk_at"ev"))) (fun h=>?_) (fun h=>yr ⟨sm,_,_,hs,by omega,rfl⟩)
  have h':i≠x∧i≠y:=by
   have h1:=ζP.mp h
   have h2:=ζP.mp h1.2
   have e1:¬ ((i:Int)=(x:Int)):=by simpa using h1.1
   have e2:¬ ((i:Int)=(y:Int)):=by simpa using h2.1
   omega
  obtain ⟨v,ev,lv⟩:=ZE (b2 / 2) (n:=sm.length + 1) (by omega)
  refine exin (m:=(v:Int)) (d:=.int i) (by walk_at"gc") (EvE.eq (xH (j:=((sm.length + 1:Nat):Int)) (uX (by walk_at"ev") (by walk_at"ev") ⟨by decide,by decide⟩) (EvE.eq (wx (EvE.eq (yb (ds:=sm.map fun k:Nat=>.int (k:Int)) (by walk_at"ev")) (by rw [ζb])) (by walk_at"ev")) (congrArg PyData.int (by omega))) (by omega)) (congrArg PyData.int ev)) (by walk_at"ev") (by omega) (by rw [ζb]; omega) (by rw [ζb]; omega) (by walk_at"sc") ?_
  refine ⟨sm.take v ++ i :: sm.drop v,some (.fz true (.int i)),some (.fz true (.int b2)),zak hs ⟨hi,h'⟩,by rw [ζf,ζO,ζ7,ζ0]; omega,?_⟩
  rw [Int.toNat_natCast,ζo,ζH,List.map_take,List.map_drop]
 ·rintro Γ' ⟨sm,u,v,hs,sl,rfl⟩
  rw [yX] at sl
  exact exro (by walk_at"gc") ⟨sm,hs,sl,rfl⟩ (.inl ⟨rfl,rfl⟩)
theorem ShR.ok (h:ShR n cs):ShOk n cs:=⟨h.l,fun r hr=>⟨(h.e r hr).1,ζV (h.e r hr).2.1 (by decide)⟩⟩
def xF (ds:List PyData) (d:PyData):Prop:=∃ r:List Nat,ds=[nl r]∧r.length≤1000∧d=.bool true
theorem Zt:zA ["_law_found"] ["_law_found"] (zo (top 34)):={}
theorem ZL (F:Fun K "_law_numbers" "_law_numbers" (top 34) f fd) (B:Bs mg) (Z:Cs K mg τa τb)  : FnOk P w K mg base CX0 1 f fd ["_law_found"] (spD K true xF):=by
 have sc:=Zt
 refine F.ok sc (fun vs H Q E h=>zH (fun _ _⟨_,e,_⟩=>by rw [e];rfl) h) (fun cdv A outer s H vs Q E hr h=>?_)
 obtain ⟨Fh,ds,d,le,dp,p,q⟩:=h
 refine ⟨_,(ze (ye (wQ (yC (pB (x8 (K:=K) rfl) B.isinstance (zb (pv 0) (zb (uM (v:=.ty "list") rfl B.list (by decide +kernel) rfl) zd))))) (zf (zy vf)) zL)
   (zf (zy (pB (Y2 (K:=K) rfl rfl) B.all (zb (yc rfl (N:=["_law_k"]) (js:=[none]) (by walk_at"comp_ok") (zE (K:=K) rfl (pv 0)) (fun _ _ _ _=>(pN (i:=0) (show υN ["_law_k"] by decide +kernel))) (fun _ _ _ _=>yx) (fun _ _ _ _=>(VM (pB (x8 (K:=K) rfl) B.isinstance (zb (pv 0) (zb (uM (v:=.ty "int") rfl B.int (by decide +kernel) rfl) zd))) (XE (ZG (pB (x8 (K:=K) rfl) B.isinstance (zb (pv 0) (zb (uM (v:=.ty "bool") rfl B.bool (by decide +kernel) rfl) zd)))))))) zd))))),?_⟩
 have hN:=sc.n 1
 obtain ⟨r,rfl,hl,rfl⟩:=p
 have big:=zD
 walk_at"run"
 refine wK (b:=!true) (by walk_at"ev") rfl ?_
 refine zM true (EvE.eq (zaO (bs:=r.map fun _=>true) (EvO.toL (EvO.eq (yp (κ:=false) (is:=[0]) (xs:=r) false (fun k:Nat=>.int (k:Int)) (fun _=>.bool (true && !false)) (fun x _ y _ h=>rfl) (zN (by walk_at"ev")) (by walk_at"cc") rfl (by decide) (by omega) ?_) (by rw [List.map_map]; rfl)))) (by simp)) rfl (.inl ⟨rfl,rfl⟩)
 intro k hk
 exact egn (by walk_at"sc") (by walk_at"ev")
theorem Vy (f g:Nat→Nat):∀ l:List Nat,(l.map fun e=>f e + g e).sum=(l.map f).sum + (l.map g).sum
 | []=>rfl
 | a :: l=>by
  rw [ζH,ξ0,ζH,ξ0,ζH,ξ0,Vy f g l]
  omega
theorem Qy {f g:Nat→Nat}:∀ {l:List Nat},(∀ e∈l,f e≤g e)→(l.map f).sum≤(l.map g).sum
 | [],_=>ζh _
 | a :: l,h=>by
  have:=Qy (l:=l) fun e he=>h e (ζr _ he)
  have:=h a ζj
  rw [ζH,ξ0,ζH,ξ0]
  omega
def cnB (b:Nat→Nat→Bool) (n e:Nat):Nat:=((List.range n).filter fun c=>b c e).length
theorem Z5 (b:Nat→Nat→Bool) (n e:Nat):cnB b (n + 1) e=cnB b n e + (b n e).toNat:=by
 unfold cnB
 rw [ξx,ζ4,ζf]
 cases q:b n e with
 | true=>rw [ξs (p:=fun c=>b c e) q]; rfl
 | false=>rw [ξt (p:=fun c=>b c e) (by rw [q]; exact ζt)]; rfl
theorem zcE (b:Nat→Nat→Bool) (n e:Nat):cnB b n e=((List.range n).map fun c=>(b c e).toNat).sum:=by
 induction n with
 | zero=>rfl
 | succ n ih=>rw [Z5,ih,ξx,ζo,List.sum_append]; rfl
theorem U6 {b:Nat→Nat→Bool} (h:∀ c e,b c e=true→b e c=false):∀ n,2 * ((List.range n).map (cnB b n)).sum≤n * (n - 1)
 | 0=>ζh _
 | n + 1=>by
  have ih:=U6 h n
  have e1:((List.range n).map (cnB b (n + 1))).sum=((List.range n).map (cnB b n)).sum + ((List.range n).map fun e=>(b n e).toNat).sum:=by
   rw [← Vy]
   exact congrArg (fun f=>((List.range n).map f).sum) (funext fun e=>Z5 b n e)
  have e2:cnB b (n + 1) n=((List.range n).map fun c=>(b c n).toNat).sum:=by
   have z:b n n=false:=by
    cases q:b n n with
    | false=>rfl
    | true=>have:=h n n q; rw [q] at this; cases this
   rw [Z5,z,zcE]
   rfl
  have e3:((List.range n).map fun e=>(b n e).toNat).sum + ((List.range n).map fun c=>(b c n).toNat).sum≤n:=by
   rw [← Vy]
   have:((List.range n).map fun _=>1).sum=n:=by
    rw [List.map_const',List.sum_replicate_nat,ζu,Nat.mul_one]
   refine ζV (Qy fun e _=>?_) (Nat.le_of_eq this)
   cases q:b n e with
   | false=>cases b e n <;> decide
   | true=>rw [h n e q]; decide
  rw [ξx,ζo,List.sum_append,e1]
  show 2 * (_ + (cnB b (n + 1) n + 0))≤_
  rw [e2]
  have:(n + 1) * (n + 1 - 1)=n * (n - 1) + 2 * n:=by
   cases n with
   | zero=>rfl
   | succ k=>show (k + 2) * (k + 1)=(k + 1) * k + 2 * (k + 1); rw [Nat.mul_comm (k + 1) k,← Nat.add_mul]
  omega
theorem zdg {n:Nat} (ok:ShOk n cs) (dg:Dg cs) (nd:vL cs) (n6:n≤6):tot cs≤15:=by
 obtain ⟨rk,hr⟩:=dg
 have cl:=ok.l
 have h1:tot cs≤((List.range n).map (cnB (fun c e=>decide (rk c < rk e)) n)).sum:=by
  unfold tot
  rw [cl]
  refine Qy fun e he=>?_
  have en:=ζD.mp he
  refine XU _ _ (nd e) fun c hc=>ζl.mpr ⟨ζD.mpr ((ok.at en).2.1 c hc),decide_eq_true (hr e c hc)⟩
 have h2:=U6 (b:=fun c e=>decide (rk c < rk e)) (fun c e z=>decide_eq_false (by have:=of_decide_eq_true z; omega)) n
 have h3:n * (n - 1)≤30:=by
  have:n * (n - 1)≤6 * 5:=Nat.mul_le_mul n6 (by omega)
  omega
 omega
theorem zdn (h:ShR n cs):vL cs:=fun e=>by
 by_cases q:e < n
 ·exact List.nodup_iff_pairwise_ne.mpr ((h.at q).2.2.2.imp fun h=>ζw h)
 ·rw [ζd,ζT (by rw [h.l]; omega)]
  exact ξc
theorem zde (cs:List (List Nat)) (ps:List (Nat×Nat)) (e:Nat):(woF cs ps).getD e []=woR ps e (cs.getD e []):=by
 rw [ζd,ζd]
 unfold woF
 rw [ξR]
 cases cs[e]? <;> rfl
theorem zeq (h:vL cs) (ps:List (Nat×Nat)):vL (woF cs ps):=fun e=>by
 rw [zde]
 exact (h e).sublist ξr
theorem zc8:∀ {w:List Nat} {i:Nat},Ch cs w→i + 1 < w.length→w.getD i 0∈cs.getD (w.getD (i + 1) 0) []
 | [],_,_,h=>absurd h (ζY _)
 | [_],_,_,h=>absurd h (by simp)
 | a :: b :: _,0,h,_=>h.1 b rfl
 | _ :: b :: l,i + 1,h,hl=>zc8 (w:=b :: l) (i:=i) h.2 (by simpa using hl)
def y0 (ds:List PyData) (d:PyData):Prop:=∃ (n:Nat) (cs:List (List Nat)) (w:List Nat),ds=[nls cs,nl w]∧ShOk n cs∧n≤12∧w≠[]∧(∀ z∈w,z < n)∧w.length≤100∧Ch cs w∧d=.bool true
theorem Yi:zA ["_law_causes", "_law_way"] ["_law_causes", "_law_way"] (zo (top 45)):={}
theorem Yp (F:Fun K "_law_arrows" "_law_arrows" (top 45) f fd) (B:Bs mg) (Z:Cs K mg τa τb) (c_law_numbers:zz P w K mg base CX0 "_law_numbers" ["_law_found"] 1 (spD K true xF)):FnOk P w K mg base CX0 2 f fd ["_law_causes", "_law_way"] (spD K true y0):=by
 have sc:=Yi
 refine F.ok sc (fun vs H Q E h=>zH (fun _ _⟨_,_,_,e,_⟩=>by rw [e];rfl) h) (fun cdv A outer s H vs Q E hr h=>?_)
 obtain ⟨Fh,ds,d,le,dp,p,q⟩:=h
 refine ⟨_,(ze (ye (PW.pt (xi (wQ (yC (pF c_law_numbers hr (zb (pv 1) zd)))) (xi (zr (XI (K:=K) rfl hr.units) (pv 1) (zU zd) (zF _)) (xi (zr YH (pB (Ui (K:=K) rfl rfl) B.min (zb (pv 1) zd)) zh (zF _)) (wP (zr zeB (pB (Uj (K:=K) rfl rfl) B.max (zb (pv 1) zd)) (pB (zm (K:=K) rfl) B.len (zb (pv 0) zd)) (zF _))))))) (zf (zy vf)) zL)
   (zf (zy (pB (Y2 (K:=K) rfl rfl) B.all (zb (yc rfl (N:=["_law_at", "_law_way", "_law_causes"]) (js:=[none,some 1,some 0]) (by walk_at"comp_ok") (tI rfl B.range (zb zh (zb (pB (zm (K:=K) rfl) B.len (zb (pv 1) zd)) zd))) (fun _ _ _ _=>(pN (i:=0) (show υN ["_law_at", "_law_way", "_law_causes"] by decide +kernel))) (fun _ _ _ _=>yx) (fun _ _ _ _=>(yy (zG (K:=K) rfl) (pX (zu (K:=K) rfl) (pv 1) (zJ vC (pv 0) zh)) (pX (zu (K:=K) rfl) (pv 2) (pX (zu (K:=K) rfl) (pv 1) (pv 0))) (rfl)))) zd))))),?_⟩
 have hN:=sc.n 2
 obtain ⟨n,cs,w',rfl,ok,n12,ne,hw,wl,ch,rfl⟩:=p
 have big:=zD
 have cl:=ok.l
 have el:PyData.int (((cs.map nl).length:Nat):Int)=.int (n:Int):=by rw [ζb,cl]
 have ew:PyData.int (((w'.map fun k:Nat=>PyData.int (k:Int)).length:Nat):Int)=.int (w'.length:Int):=by rw [ζb]
 have nez:zl w'≠[]:=fun z=>ne (ξS.mp z)
 have mn:¬ mnL (zl w') < 0:=fun h=>by
  obtain ⟨k,_,e⟩:=ζn.mp (zb1 nez)
  have e:(k:Int)=mnL (zl w'):=e
  omega
 have mx:¬ mxL (zl w')≥(n:Int):=fun h=>by
  obtain ⟨k,hk,e⟩:=ζn.mp (zb0 nez)
  have e:(k:Int)=mxL (zl w'):=e
  have:=hw k hk
  omega
 walk_at"run"
 refine wK (b:=!true || (false || (false || false))) (yG (xJ (et_B (zk (ds:=[nl w']) (d:=.bool true) (by walk_at"ev") ⟨w',rfl,by omega,rfl⟩))) fun _=>yG (EvT.eq (zq (Z0 (neg:=false) (d:=nl w') (f:=.list []) (EvE.toD (κ:=false) (by walk_at"ev")) (EvE.toD (κ:=true) (EvO.toE (zZ (ds:=[]) zC (by decide)))) (wD _) rfl)) ((zcw _).trans (decide_eq_false ne))) fun _=>yG (EvT.eq (zq (YV (Vd (f:=mnL) (ns:=zl w') (EvE.toL (EvE.eq (κ:=false) (by walk_at"ev") (ya w'))) nez) (by walk_at"ev"))) (decide_eq_false mn)) fun _=>EvT.eq (zq (zc7 (Vd (f:=mxL) (ns:=zl w') (EvE.toL (EvE.eq (κ:=false) (by walk_at"ev") (ya w'))) nez) (EvE.eq (yb (ds:=cs.map nl) (by walk_at"ev")) el))) (decide_eq_false mx)) rfl ?_
 refine zM true (EvE.eq (zaO (bs:=(List.range ((w'.length:Int) - 1).toNat).map fun _=>true) (EvO.toL (EvO.eq (yp (κ:=false) (is:=[0]) (xs:=List.range ((w'.length:Int) - 1).toNat) false (fun i:Nat=>.int (1 + (i:Int))) (fun _=>.bool true) (fun x _ y _ h=>rfl) (X9 (m:=1) (n:=(w'.length:Int)) (zg (by walk_at"ev") (zg (EvE.eq (yb (ds:=w'.map fun k:Nat=>PyData.int (k:Int)) (by walk_at"ev")) ew) zC)) (by omega)) (by walk_at"cc") rfl (by decide) (by rw [List.length_range]; omega) ?_) (by rw [List.map_map]; rfl)))) (by simp)) rfl (.inl ⟨rfl,rfl⟩)
 intro i hi
 have hi:=ζD.mp hi
 have il:i + 1 < w'.length:=by omega
 have kn:=Vn hw il
 have a0:atI (w'.map fun k:Nat=>PyData.int (k:Int)) (1 + (i:Int))=some (.int (w'.getD (i + 1) 0:Nat)):=by rw [show 1 + (i:Int)=((i + 1:Nat):Int) by omega]; exact xb (by omega)
 have am:atI (w'.map fun k:Nat=>PyData.int (k:Int)) (1 + (i:Int) - 1)=some (.int (w'.getD i 0:Nat)):=by rw [show 1 + (i:Int) - 1=(i:Int) by omega]; exact xb (by omega)
 have ac:atI (cs.map nl) (w'.getD (i + 1) 0:Nat)=some (nl (cs.getD (w'.getD (i + 1) 0) [])):=yt (ok.at kn).1
 exact egn (by walk_at"sc") (EvE.eq (zW (neg:=false) (i:=(w'.getD i 0:Nat)) (ns:=zl (cs.getD (w'.getD (i + 1) 0) [])) (zI (κ:=false) (by walk_at"ev") (by walk_at"ev") am) (EvE.toL (EvE.eq (κ:=false) (zI (κ:=false) (by walk_at"ev") (zI (κ:=false) (by walk_at"ev") (by walk_at"ev") a0) ac) (ya _)))) (congrArg PyData.bool (zV.trans (decide_eq_true (zc8 ch il)))))
theorem Tb {r:List Nat} {k:Nat} (h:r.head?=some k):atI (r.map fun k:Nat=>PyData.int (k:Int)) 0=some (.int (k:Int)):=by
 cases r with
 | nil=>cases h
 | cons a l=>cases h; exact xb (r:=k :: l) (k:=0) (Nat.zero_lt_succ _)
theorem zbg {r:List Nat} {k:Nat} (h:r.getLast?=some k):atI (r.map fun k:Nat=>PyData.int (k:Int)) (-1)=some (.int (k:Int)):=by
 obtain ⟨l,rfl⟩:=List.getLast?_eq_some_iff.mp h
 rw [ζo]
 exact vI _ _
def yJ (ds:List PyData) (d:PyData):Prop:=∃ (n:Nat) (cs:List (List Nat)) (x y st:Nat) (sm w l:List Nat),ds=[nls cs,.int x,.int y,nl sm,.tuple [.str "beneath", nl w,nl l]]∧ShOk n cs∧n≤12∧BnOk n cs x y st sm w l∧sm.length≤1000∧d=.bool true
theorem v3:zA ["_law_causes", "_law_x", "_law_y", "_law_some_here", "_law_found", "_law_way", "_law_line"] ["_law_causes", "_law_x", "_law_y", "_law_some_here", "_law_found"] (zo (top 46)):={}
theorem v4 (F:Fun K "_law_beneath_good" "_law_beneath_good" (top 46) f fd) (B:Bs mg) (Z:Cs K mg τa τb) (c_law_arrows:zz P w K mg base CX0 "_law_arrows" ["_law_causes", "_law_way"] 2 (spD K true y0)):FnOk P w K mg base CX0 3 f fd ["_law_causes", "_law_x", "_law_y", "_law_some_here", "_law_found"] (spD K true yJ):=by
 have sc:=v3
 refine F.ok sc (fun vs H Q E h=>zH (fun _ _⟨_,_,_,_,_,_,_,_,e,_⟩=>by rw [e];rfl) h) (fun cdv A outer s H vs Q E hr h=>?_)
 obtain ⟨Fh,ds,d,le,dp,p,q⟩:=h
 refine ⟨_,(ze (ye (PW.pt (xi (zr vg (pB (zm (K:=K) rfl) B.len (zb (pv 4) zd)) zh (zF _)) (xi (wQ (yC (pF c_law_arrows hr (zb (pv 0) (zb (pX (yE (K:=K) rfl) (pv 4) zh) zd))))) (wP (wQ (yC (pF c_law_arrows hr (zb (pv 0) (zb (pX (yE (K:=K) rfl) (pv 4) zh) zd))))))))) (zf (zy vf)) zL)
   (ze (pS (i:=5) sc.nd (pX (yE (K:=K) rfl) (pv 4) zh))
   (ze (pS (i:=6) sc.nd (pX (yE (K:=K) rfl) (pv 4) zh))
   (ze (ye (PW.pt (xi (zr vg (pX (zu (K:=K) rfl) (pv 5) zh) (pv 1) (zF _)) (xi (zr vg (pX (zu (K:=K) rfl) (pv 5) (ub wq zh)) (pv 2) (zF _)) (xi (zr (yd (K:=K) rfl) (pX (zu (K:=K) rfl) (pv 6) zh) (pv 5) (rfl)) (xi (zr uP (pX (zu (K:=K) rfl) (pv 6) zh) (pv 1) (zF _)) (wP (zr (yd (K:=K) rfl) (pX (zu (K:=K) rfl) (pv 6) (ub wq zh)) (pv 3) (rfl)))))))) (zf (zy vf)) zL)
   (zf (zy (ZG (pB (xR (K:=K) rfl rfl) B.any (zb (yc rfl (N:=["_law_k", "_law_way"]) (js:=[none,some 5]) (by walk_at"comp_ok") (zE (K:=K) rfl (uK (ux (K:=K) rfl) (pv 6) (uJ zh) XA)) (fun _ _ _ _=>(pN (i:=0) (show υN ["_law_k", "_law_way"] by decide +kernel))) (fun _ _ _ _=>yx) (fun _ _ _ _=>(yy (zG (K:=K) rfl) (pv 0) (pv 1) (rfl)))) zd))))))))),?_⟩
 have hN:=sc.n 7
 obtain ⟨n,cs,x,y,st,sm,w',l',rfl,ok,n12,bn,sl,rfl⟩:=p
 have big:=zD
 have wz:=bn.wz
 have lz:=bn.lz
 have nw:w'≠[]:=fun z=>by have:=bn.wh; rw [z] at this; cases this
 have nl':l'≠[]:=fun z=>by have:=bn.lh; rw [z] at this; cases this
 obtain ⟨z,hz⟩:∃ z,l'.getLast?=some z:=⟨_,List.getLast?_eq_some_getLast nl'⟩
 have zs:=bn.ll z hz
 have w0:=Tb bn.wh
 have w1:=zbg bn.wl
 have l0:=Tb bn.lh
 have l1:=zbg hz
 have p1:y0 [nls cs,nl w'] (.bool true):=⟨n,cs,w',rfl,ok,n12,nw,bn.wn,by omega,bn.wc,rfl⟩
 have p2:y0 [nls cs,nl l'] (.bool true):=⟨n,cs,l',rfl,ok,n12,nl',bn.ln,by omega,bn.lc,rfl⟩
 walk_at"run"
 refine wK (b:=!decide ((3:Int)=3) || (!true || !true)) (yG (zq (vG (i:=3) (uW (ds:=[.str "beneath", nl w',nl l']) (by walk_at"ev")) xI)) fun _=>yG (xJ (et_B (zk (zg (by walk_at"ev") (zg (yP (κ:=false) (ds:=[.str "beneath", nl w',nl l']) (i:=1) (d:=nl w') (by walk_at"ev") (by walk_at"ev") rfl) zC)) p1))) fun _=>xJ (et_B (zk (zg (by walk_at"ev") (zg (yP (κ:=false) (ds:=[.str "beneath", nl w',nl l']) (i:=2) (d:=nl l') (by walk_at"ev") (by walk_at"ev") rfl) zC)) p2))) rfl ?_
 refine exs false (d:=nl w') (yP (κ:=false) (ds:=[.str "beneath", nl w',nl l']) (i:=1) (by walk_at"ev") (by walk_at"ev") rfl) (by walk_at"sc") ?_
 refine exs false (d:=nl l') (yP (κ:=false) (ds:=[.str "beneath", nl w',nl l']) (i:=2) (by walk_at"ev") (by walk_at"ev") rfl) (by walk_at"sc") ?_
 refine wK (b:=!decide ((x:Int)=(x:Int)) || (!decide ((y:Int)=(y:Int)) || (false || (false || false)))) (yG (zq (vG (zI (κ:=false) (by walk_at"ev") (by walk_at"ev") w0) (by walk_at"ev"))) fun _=>yG (zq (vG (zI (κ:=false) (by walk_at"ev") (by walk_at"ev") w1) (by walk_at"ev"))) fun _=>yG (EvT.eq (zq (zW (neg:=true) (i:=(st:Int)) (ns:=zl w') (zI (κ:=false) (by walk_at"ev") (by walk_at"ev") l0) (EvE.toL (EvE.eq (κ:=false) (by walk_at"ev") (ya w'))))) (by show (!decide ((st:Int)∈zl w'))=false; rw [zV,decide_eq_true bn.sw]; rfl)) fun _=>yG (EvT.eq (zq (ur (i:=(st:Int)) (j:=(x:Int)) (zI (κ:=false) (by walk_at"ev") (by walk_at"ev") l0) (by walk_at"ev"))) (decide_eq_false fun e=>bn.sx (by omega))) fun _=>EvT.eq (zq (zW (neg:=true) (i:=(z:Int)) (ns:=zl sm) (zI (κ:=false) (by walk_at"ev") (by walk_at"ev") l1) (EvE.toL (EvE.eq (κ:=false) (by walk_at"ev") (ya sm))))) (by show (!decide ((z:Int)∈zl sm))=false; rw [zV,decide_eq_true zs]; rfl)) (by rw [decide_eq_true rfl,decide_eq_true rfl]; rfl) ?_
 refine zM true (EvE.eq (ZY (tM (bs:=(l'.drop 1).map fun _=>false) (EvO.toL (EvO.eq (yp (κ:=false) (is:=[0]) (xs:=l'.drop 1) false (fun k:Nat=>.int (k:Int)) (fun k=>.bool (decide (k∈w'))) (fun x _ y _ h=>by cases yO h; rfl) (zN (EvO.toE (EvO.eq (xQ (κ:=false) (ds:=l'.map fun k:Nat=>.int (k:Int)) (lo:=some ((1:Nat):Int)) (EvE.toL (by walk_at"ev")) (uY (EvE.eq (b:=.int ((1:Nat):Int)) (show EvE K .fresh false _ _ (.int 1) by walk_at"ev") rfl)) X8) (cutH _ _ 1)))) (by walk_at"cc") rfl (by decide) (by rw [ζ0]; omega) ?_) ?_)))) ?_) rfl (.inl ⟨rfl,rfl⟩)
 ·intro k hk
  exact egn (by walk_at"sc") (EvE.eq (zW (neg:=false) (i:=(k:Int)) (ns:=zl w') (by walk_at"ev") (EvE.toL (EvE.eq (κ:=false) (by walk_at"ev") (ya w')))) (congrArg PyData.bool zV))
 ·rw [ζM]
  exact ξB fun k hk=>congrArg PyData.bool (decide_eq_false (bn.no k hk))
 ·have e:((l'.drop 1).map fun _=>false).any (fun b=>b)=false:=List.any_eq_false.mpr fun b hb=>by
   obtain ⟨_,_,rfl⟩:=ζn.mp hb
   exact ζt
  rw [e]
  rfl
def keyO (cs:List (List Nat)):Option (List Nat)→PyData
 | some r=>.tuple [.int (vN cs r:Nat),.int (r.length:Nat),nl r]
 | none=>.none
theorem Tl {a b c d e f:Int} {ns ms ks:List Int} (h1:wC a b ns c d ms=true) (h2:wC c d ms e f ks=true):wC a b ns e f ks=true:=by
 unfold wC at *
 by_cases e1:a=c
 ·subst e1
  rw [if_pos rfl] at h1
  by_cases e2:a=e
  ·subst e2
   rw [if_pos rfl] at h2 ⊢
   by_cases e3:b=d
   ·subst e3
    rw [if_pos rfl] at h1
    by_cases e4:b=f
    ·subst e4
     rw [if_pos rfl] at h2 ⊢
     split at h1
     ·cases h1
     ·split at h2
      ·cases h2
      ·have t:=tK h1 h2
       split
       ·rename_i z
        rw [z,Zl] at t
        cases t
       ·exact t
    ·rw [if_neg e4] at h2 ⊢
     exact h2
   ·rw [if_neg e3] at h1
    have h1:=of_decide_eq_true h1
    by_cases e4:d=f
    ·subst e4
     rw [if_neg e3]
     exact decide_eq_true h1
    ·rw [if_neg e4] at h2
     have h2:=of_decide_eq_true h2
     rw [if_neg (by omega)]
     exact decide_eq_true (by omega)
  ·rw [if_neg e2] at h2 ⊢
   exact h2
 ·rw [if_neg e1] at h1
  have h1:=of_decide_eq_true h1
  by_cases e2:c=e
  ·subst e2
   rw [if_neg e1]
   exact decide_eq_true h1
  ·rw [if_neg e2] at h2
   have h2:=of_decide_eq_true h2
   rw [if_neg (by omega)]
   exact decide_eq_true (by omega)
theorem zbn (a b:Int) (ns:List Int):wC a b ns a b ns=false:=by
 unfold wC
 rw [if_pos rfl,if_pos rfl,if_pos rfl]
theorem UU (cs:List (List Nat)) (r:List Nat):keyO cs (some r)=.tuple [.int (vN cs r:Nat),.int (r.length:Nat),.list ((zl r).map .int)]:=by
 show PyData.tuple [_,_,nl r]=_
 rw [ya]
structure BstP (cs:List (List Nat)) (P:List Nat→Bool) (rs:List (List Nat)) (b:Option (List Nat)):Prop where
 no:b=none→∀ r∈rs,P r=false
 so:∀ q,b=some q→q∈rs∧P q=true∧∀ r∈rs,P r=true→kLt cs r q=false
theorem BstP.end {cs:List (List Nat)} {P:List Nat→Bool} {kn:List Nat} {x y:Nat} {rs:List (List Nat)} {b:Option (List Nat)} (h:BstP cs P rs b) (iff:∀ r,(Rd cs kn x r∧r.getLast?=some y)↔(r∈rs∧P r=true)):ordF cs kn x y=b:=by
 cases b with
 | none =>
  refine wH fun r hr hy=>?_
  obtain ⟨a,o⟩:=(iff r).mp ⟨hr,hy⟩
  rw [h.no rfl r a] at o
  cases o
 | some q =>
  obtain ⟨h1,h2,h3⟩:=h.so q rfl
  obtain ⟨g1,g2⟩:=(iff q).mpr ⟨h1,h2⟩
  exact YG ⟨g1,g2,fun r hr hy=>h3 r ((iff r).mp ⟨hr,hy⟩).1 ((iff r).mp ⟨hr,hy⟩).2⟩
theorem BstP.skip {cs:List (List Nat)} {P:List Nat→Bool} {rs:List (List Nat)} {b:Option (List Nat)} (h:BstP cs P rs b) {r:List Nat} (hr:P r=false∨∃ q,b=some q∧kLt cs r q=false):BstP cs P (rs ++ [r]) b:=by
 refine ⟨fun e z hz=>?_,fun q e=>?_⟩
 ·rcases ζq.mp hz with hz | hz
  ·exact h.no e z hz
  ·rw [ζc.mp hz]
   rcases hr with hr | ⟨q,hq,_⟩
   ·exact hr
   ·rw [e] at hq; cases hq
 ·obtain ⟨h1,h2,h3⟩:=h.so q e
  refine ⟨ζF _ h1,h2,fun z hz ho=>?_⟩
  rcases ζq.mp hz with hz | hz
  ·exact h3 z hz ho
  ·rw [ζc.mp hz] at ho ⊢
   rcases hr with hr | ⟨q',hq,hl⟩
   ·rw [hr] at ho; cases ho
   ·rw [e] at hq
    cases hq
    exact hl
theorem BstP.take {cs:List (List Nat)} {P:List Nat→Bool} {rs:List (List Nat)} {b:Option (List Nat)} (h:BstP cs P rs b) {r:List Nat} (ho:P r=true) (hl:∀ q,b=some q→kLt cs r q=true):BstP cs P (rs ++ [r]) (some r):=by
 refine ⟨fun e=>(by cases e),fun q e=>?_⟩
 cases e
 refine ⟨ζg _ (ζc.mpr rfl),ho,fun z hz hz2=>?_⟩
 rcases ζq.mp hz with hz | hz
 ·cases b with
  | none=>rw [h.no rfl z hz] at hz2; cases hz2
  | some q =>
   refine ξb.mpr fun w=>?_
   have:=(h.so q rfl).2.2 z hz hz2
   have t:kLt cs z q=true:=Tl w (hl q rfl)
   rw [t] at this
   cases this
 ·rw [ζc.mp hz]
  exact zbn ..
theorem vp {n:Nat} {cs:List (List Nat)} (ok:ShOk n cs) {sm:List Nat} {x y:Nat} (hx:x < n) {rs:List (List Nat)} (ro:RsOk cs x y rs) (r:List Nat):(Rd cs sm x r∧r.getLast?=some y)↔(r∈rs∧xC cs r sm=true):=by
 constructor
 ·rintro ⟨a,l⟩
  exact ⟨(ro r).mpr ⟨a.pth,l⟩,(uN ok hx a.pth).mpr a.ok⟩
 ·rintro ⟨a,o⟩
  obtain ⟨p,l⟩:=(ro r).mp a
  exact ⟨⟨(uN ok hx p).mp o,xZ p.nd,by have:=p.last; rwa [List.getLast?_reverse] at this⟩,l⟩
theorem Ql (cs:List (List Nat)) (r:List Nat):(yu cs r (r.length - 2)).length=vN cs r:=by
 unfold yu vN vsI
 rw [ζb]
 exact congrArg (fun p=>(List.filter p _).length) (funext fun i=>by rw [Nat.add_comm])
def xq (ds:List PyData) (d:PyData):Prop:=∃ (n:Nat) (cs:List (List Nat)) (x y:Nat) (rs:List (List Nat)) (sm r:List Nat),ds=[yM n cs x y rs,nl sm]∧ShOk n cs∧n≤6∧x < n∧y < n∧RsOk (cutC n cs x y) x y rs∧rs.length≤326∧sm.length≤1000∧ordF (cutC n cs x y) sm x y=some r∧d=nl r
theorem Zc:zA ["_law_ready_here", "_law_some_here", "_law_low_here", "_law_cut_here", "_law_lows_here", "_law_roads_here", "_law_best", "_law_road", "_law_rank_of"] ["_law_ready_here", "_law_some_here"] (zo (top 47)):={}
theorem Ze (F:Fun K "_law_road_due" "_law_road_due" (top 47) f fd) (B:Bs mg) (Z:Cs K mg τa τb) (c_law_open:zz P w K mg base CX0 "_law_open" ["_law_causes", "_law_lows_here", "_law_road", "_law_some_here"] 2 (spD K true xM)) (c_law_turns:zz P w K mg base CX0 "_law_turns" ["_law_causes", "_law_road"] 1 (spD K true xz)):FnOk P w K mg base CX0 3 f fd ["_law_ready_here", "_law_some_here"] (spD K false xq):=by
 have sc:=Zc
 refine F.ok sc (fun vs H Q E h=>zH (fun _ _⟨_,_,_,_,_,_,_,e,_⟩=>by rw [e];rfl) h) (fun cdv A outer s H vs Q E hr h=>?_)
 obtain ⟨Fh,ds,d,le,dp,p,q⟩:=h
 refine ⟨_,(ze (QT (pv 0) (XC (K:=K) (n:=4) rfl rfl (yQ (pN (i:=2) sc.nd) (yQ (pN (i:=3) sc.nd) (yQ (pN (i:=4) sc.nd) (yQ (pN (i:=5) sc.nd) XB))))))
   (ze (pS (i:=6) sc.nd wV)
   (ze (yF PassesOwn.never rfl (zE (K:=K) rfl (pv 5)) (pN (i:=7) sc.nd) (zf (ye (yC (pF c_law_open hr (zb (pv 3) (zb (pv 4) (zb (pv 7) (zb (pv 1) zd)))))) (ze (pS (i:=8) sc.nd (xG (zb (pB (zm (K:=K) rfl) B.len (zb (pF c_law_turns hr (zb (pv 3) (zb (pv 7) zd))) zd)) (zb (pB (zm (K:=K) rfl) B.len (zb (pv 7) zd)) (zb (pv 7) zd)))))
   (zf (ye (PW.pt (xi (zr VN (pv 6) wV (zF _)) (wP (zr (zbP (K:=K) rfl (zcb hr)) (pv 8) (pv 6) (zF _))))) (zf (pS (i:=6) sc.nd (pv 8))) zL))) zL)))
   (zf (zy (pX (yE (K:=K) rfl) (pv 6) zh)))))),?_⟩
 have hN:=sc.n 9
 obtain ⟨n,cs,x,y,rs,sm,r0,rfl,ok,n6,hx,hy,ro,rl,sl,er,rfl⟩:=p
 have big:=zD
 have oc:=tO ok x y
 walk_at"run"
 refine yK (·=[some (.fz false (yM n cs x y rs)),some (.fz false (nl sm)),some (.fz false (nl (lowF cs (yL cs x y)))),some (.fz false (nls (cutC n cs x y))),some (.fz false (wf (cutC n cs x y))),some (.fz false (nls rs)),none,none,none]) (zaE (κ:=false) (EvE.eq (a:=yM n cs x y rs) (by walk_at"ev") rfl) (eg4 (by walk_at"sc") (by walk_at"sc") (by walk_at"sc") (by walk_at"sc") rfl)) ?_
 rintro Γ1 rfl
 refine exs false (d:=keyO (cutC n cs x y) none) (by exact zaI) (by walk_at"sc") ?_
 refine vi (ds:=rs.map nl) false (fun i Γ=>∃ (b:Option (List Nat)) (u v:Option DV),BstP (cutC n cs x y) (fun r=>xC (cutC n cs x y) r sm) (rs.take i) b∧Γ=[some (.fz false (yM n cs x y rs)),some (.fz false (nl sm)),some (.fz false (nl (lowF cs (yL cs x y)))),some (.fz false (nls (cutC n cs x y))),some (.fz false (wf (cutC n cs x y))),some (.fz false (nls rs)),some (.fz false (keyO (cutC n cs x y) b)),u,v]) (zN (by walk_at"ev")) ⟨none,none,none,⟨fun _ r hr=>(by rw [ξJ] at hr; cases hr),fun q e=>(by cases e)⟩,rfl⟩ ?_ ?_
 ·rintro i d Γ' hd ⟨b,u,v,bi,rfl⟩
  obtain ⟨r,hr,rfl⟩:=xN hd
  have rm:=ζk hr
  obtain ⟨p,lp⟩:=(ro r).mp rm
  have lt:∀ z∈r,z < n:=fun z hz=>p.lt oc hx z (ζ6.mpr hz)
  have rn:r.length≤n:=yV n r (xZ p.nd) lt
  have po:xM [nls (cutC n cs x y),wf (cutC n cs x y),nl r,nl sm] (.bool (xC (cutC n cs x y) r sm)):=⟨n,cutC n cs x y,r,sm,rfl,oc,by omega,lt,by omega,sl,rfl⟩
  have pt:xz [nls (cutC n cs x y),nl r] (nl (yu (cutC n cs x y) r (r.length - 2))):=⟨n,cutC n cs x y,r,rfl,oc,lt,by omega,rfl⟩
  have ek:∀ {a:Int} {c:Int},a=((yu (cutC n cs x y) r (r.length - 2)).length:Nat)→c=(r.length:Nat)→PyData.tuple [.int a,.int c,nl r]=keyO (cutC n cs x y) (some r):=fun h1 h2=>by
   rw [h1,h2,Ql]
   rfl
  refine ⟨_,egn (by walk_at"sc") ?_⟩
  refine xj (b:=xC (cutC n cs x y) r sm) (et_B (zk (by walk_at"ev") po)) (fun ho=>?_) (fun ho=>?_)
  ·refine exs false (d:=keyO (cutC n cs x y) (some r)) (EvE.eq (ww (ds:=[.int ((((yu (cutC n cs x y) r (r.length - 2)).map fun k:Nat=>PyData.int (k:Int)).length:Nat):Int),.int (((r.map fun k:Nat=>PyData.int (k:Int)).length:Nat):Int),nl r]) (zg (yb (ds:=(yu (cutC n cs x y) r (r.length - 2)).map fun k:Nat=>PyData.int (k:Int)) (EvE.toL (zk (by walk_at"ev") pt))) (zg (yb (ds:=r.map fun k:Nat=>PyData.int (k:Int)) (by walk_at"ev")) (zg (by walk_at"ev") zC))) (by show 3≤_; omega)) (ek (by rw [ζb]) (by rw [ζb]))) (by walk_at"sc") ?_
   cases b with
   | none =>
    refine xj (b:=isNone (keyO (cutC n cs x y) none) || false) (yG (zq (tL (EvE.toD (κ:=false) (by walk_at"ev")))) fun h=>by cases h) (fun _=>?_) (fun h=>by cases h)
    exact exs1 false (d:=keyO (cutC n cs x y) (some r)) (by walk_at"ev") (by walk_at"sc") ⟨_,_,_,by rw [take_succ hr]; exact bi.take ho (fun q e=>by cases e),rfl⟩
   | some q =>
    refine xj (b:=isNone (keyO (cutC n cs x y) (some q)) || kLt (cutC n cs x y) r q) (yG (zq (tL (EvE.toD (κ:=false) (by walk_at"ev")))) fun _=>zq (zd1 (a:=(vN (cutC n cs x y) r:Nat)) (b:=(r.length:Nat)) (ns:=zl r) (c:=(vN (cutC n cs x y) q:Nat)) (d:=(q.length:Nat)) (ms:=zl q) (EvE.eq (a:=keyO (cutC n cs x y) (some r)) (by walk_at"ev") (UU (cutC n cs x y) r)) (EvE.eq (a:=keyO (cutC n cs x y) (some q)) (by walk_at"ev") (UU (cutC n cs x y) q)))) (fun h=>?_) (fun h=>?_)
    ·exact exs1 false (d:=keyO (cutC n cs x y) (some r)) (by walk_at"ev") (by walk_at"sc") ⟨_,_,_,by rw [take_succ hr]; exact bi.take ho (fun q' e=>by cases e; exact h),rfl⟩
    ·exact yr ⟨_,_,_,by rw [take_succ hr]; exact bi.skip (.inr ⟨q,rfl,h⟩),rfl⟩
  ·exact yr ⟨_,_,_,by rw [take_succ hr]; exact bi.skip (.inl ho),rfl⟩
 ·rintro Γ' ⟨b,u,v,bi,rfl⟩
  rw [ζb,ξf] at bi
  have eb:=bi.end (kn:=sm) (x:=x) (y:=y) fun r=>vp oc hx ro r
  rw [er] at eb
  cases eb
  exact zM false (yP (κ:=false) (i:=2) (ds:=[.int (vN (cutC n cs x y) r0:Nat),.int (r0.length:Nat),nl r0]) (EvE.eq (a:=keyO (cutC n cs x y) (some r0)) (by walk_at"ev") rfl) (by walk_at"ev") rfl) rfl (.inr rfl)
theorem zbB {nx:Nat→List Nat} {ws:List Nat} {k:Nat} (h:Rch nx ws k):∃ w∈ws,Rch nx [w] k:=by
 induction h with
 | @base x z=>exact ⟨x,z,.base ζj⟩
 | step _ z ih =>
  obtain ⟨w,h1,h2⟩:=ih
  exact ⟨w,h1,.step h2 z⟩
theorem zbA {nx:Nat→List Nat} {ws:List Nat} {w k:Nat} (hw:w∈ws) (h:Rch nx [w] k):Rch nx ws k:=Xw (.base hw) h
theorem UJ {n:Nat} {cs:List (List Nat)} {x y:Nat} {sm:List Nat} {k:Nat}:k∈staF n cs x y sm↔k∈onW n cs x y∧∃ t,k∈rim cs sm (wiC cs) t:=by
 classical
 unfold staF
 rw [ζl,decide_eq_true_iff]
theorem zdh {n:Nat} {cs:List (List Nat)} (ok:ShOk n cs) (n12:n≤12) {x y:Nat} {sm:List Nat}:((unW n cs x y).any fun k=>decide (k∈sm))=true↔staF n cs x y sm≠[]:=by
 have on_lt:∀ {w},w∈onW n cs x y→w < n:=fun h=>(zY.mp (vS.mp h).1).1
 constructor
 ·intro h
  obtain ⟨k,hk,hs⟩:=ζN.mp h
  have hs:=of_decide_eq_true hs
  obtain ⟨kn,hr⟩:=zY.mp hk
  obtain ⟨w,hw,r⟩:=zbB hr
  have:=WF ok n12 (sm:=sm) (on_lt hw) r ⟨0,Zv ok kn hs⟩
  exact List.ne_nil_of_mem (UJ.mpr ⟨hw,this⟩)
 ·intro h
  obtain ⟨w,hw⟩:=List.exists_mem_of_ne_nil _ h
  obtain ⟨ho,t,ht⟩:=UJ.mp hw
  have hd:=wM cs sm (wiC cs) t w
  have ne:wyF cs sm (wiC cs) t w≠[]:=fun z=>by rw [z] at hd; cases hd
  have hl:=List.getLast?_eq_some_getLast ne
  have zs:=(Wj ok ht).2.1 _ hl
  obtain ⟨r,s,hs⟩:=Xa ok ht _ (List.getLast_mem ne)
  have zn:(wyF cs sm (wiC cs) t w).getLast ne < n:=by have:=ζD.mp (tG hs); rwa [ok.l] at this
  exact ζN.mpr ⟨_,zY.mpr ⟨zn,zbA ho r⟩,decide_eq_true zs⟩
theorem BstP.ex (cs:List (List Nat)) (P:List Nat→Bool) (rs:List (List Nat)):∃ b,BstP cs P rs b:=by
 have:∀ i,i≤rs.length→∃ b,BstP cs P (rs.take i) b:=by
  intro i
  induction i with
  | zero=>exact fun _=>⟨none,fun _ r hr=>(by rw [ξJ] at hr; cases hr),fun q e=>(by cases e)⟩
  | succ i ih =>
   intro hi
   obtain ⟨b,h⟩:=ih (by omega)
   have hr:rs[i]?=some rs[i]:=ζp (by omega)
   rw [take_succ hr]
   by_cases ho:P rs[i]=true
   ·cases b with
    | none=>exact ⟨_,h.take ho fun q e=>(by cases e)⟩
    | some q =>
     by_cases hl:kLt cs rs[i] q=true
     ·exact ⟨_,h.take ho fun q' e=>(by cases e; exact hl)⟩
     ·exact ⟨_,h.skip (.inr ⟨q,rfl,ξb.mpr hl⟩)⟩
   ·exact ⟨_,h.skip (.inl (ξb.mpr ho))⟩
 obtain ⟨b,h⟩:=this rs.length (ζh _)
 rw [ξf] at h
 exact ⟨b,h⟩
theorem zaa {n:Nat} {cs:List (List Nat)} (ok:ShOk n cs) (dg:Dg cs) {sm:List Nat} {x y:Nat} (hx:x < n) (xs:x∉sm) {rs:List (List Nat)} (ro:RsOk cs x y rs) (h:brB cs sm x y=false):∃ r,ordF cs sm x y=some r∧r∈rs:=by
 obtain ⟨b,hb⟩:=BstP.ex cs (fun r=>xC cs r sm) rs
 have e:=hb.end (kn:=sm) (x:=x) (y:=y) fun r=>vp ok hx ro r
 cases b with
 | some r=>exact ⟨r,e,(hb.so r rfl).1⟩
 | none =>
  have:=YB ok dg hx ro xs
  rw [h] at this
  have:rs.any (fun r=>xC cs r sm)=true:=by simpa using this
  obtain ⟨r,h1,h2⟩:=ζN.mp this
  rw [hb.no rfl r h1] at h2
  cases h2
def wS (ds:List PyData) (d:PyData):Prop:=∃ (n:Nat) (cs:List (List Nat)) (x y:Nat) (rs:List (List Nat)) (sm:List Nat),ds=[nls cs,yM n cs x y rs,.int x,.int y,nl sm,whyD n cs x y sm]∧ShOk n cs∧Dg cs∧n≤6∧x < n∧y < n∧RsOk (cutC n cs x y) x y rs∧rs.length≤326∧sm.length≤1000∧x∉sm∧d=.bool true
theorem zaQ (r:List Nat):PyData.eqv (nl r) (nl r)=true:=by
 rw [ya,Ud]
 exact decide_eq_true rfl
theorem Wz:zA ["_law_causes", "_law_ready_here", "_law_x", "_law_y", "_law_some_here", "_law_found"] ["_law_causes", "_law_ready_here", "_law_x", "_law_y", "_law_some_here", "_law_found"] (zo (top 48)):={}
theorem WU (F:Fun K "_law_good" "_law_good" (top 48) f fd) (B:Bs mg) (Z:Cs K mg τa τb) (c_law_does:zz P w K mg base CX0 "_law_does" ["_law_ready_here", "_law_some_here"] 3 (spD K true wT)) (c_law_beneath_good:zz P w K mg base CX0 "_law_beneath_good" ["_law_causes", "_law_x", "_law_y", "_law_some_here", "_law_found"] 3 (spD K true yJ)) (c_law_numbers:zz P w K mg base CX0 "_law_numbers" ["_law_found"] 1 (spD K true xF)) (c_law_road_due:zz P w K mg base CX0 "_law_road_due" ["_law_ready_here", "_law_some_here"] 3 (spD K false xq)):FnOk P w K mg base CX0 4 f fd ["_law_causes", "_law_ready_here", "_law_x", "_law_y", "_law_some_here", "_law_found"] (spD K true wS):=by
 have sc:=Wz
 refine F.ok sc (fun vs H Q E h=>zH (fun _ _⟨_,_,_,_,_,_,e,_⟩=>by rw [e];rfl) h) (fun cdv A outer s H vs Q E hr h=>?_)
 obtain ⟨Fh,ds,d,le,dp,p,q⟩:=h
 refine ⟨_,(ze (ye (yC (pF c_law_does hr (zb (pv 1) (zb (pv 4) zd)))) (zf (zy (yy VN (pv 5) wV (zF _)))) zL)
   (ze (ye (PW.pt (xi (wQ (yC (pB (x8 (K:=K) rfl) B.isinstance (zb (pv 5) (zb (uM (v:=.ty "tuple") rfl B.tuple (by decide +kernel) rfl) zd))))) (xi (zr YH (pB (zm (K:=K) rfl) B.len (zb (pv 5) zd)) zh (zF _)) (wP (wQ (yC (pB (x8 (K:=K) rfl) B.isinstance (zb (pX (yE (K:=K) rfl) (pv 5) zh) (zb (uM (v:=.ty "str") rfl B.str (by decide +kernel) rfl) zd))))))))) (zf (zy vf)) zL)
   (ze (ye (yC (pB (xR (K:=K) rfl rfl) B.any (zb (yc rfl (N:=["_law_k", "_law_ready_here"]) (js:=[none,some 1]) (by walk_at"comp_ok") (zE (K:=K) rfl (pv 4)) (fun _ _ _ _=>(pN (i:=0) (show υN ["_law_k", "_law_ready_here"] by decide +kernel))) (fun _ _ _ _=>yx) (fun _ _ _ _=>(yy (zG (K:=K) rfl) (pv 0) (pX (yE (K:=K) rfl) (pv 1) zh) (rfl)))) zd))) (zf (zy (VM (yy uP (pX (yE (K:=K) rfl) (pv 5) zh) XD (zF _)) (XE (pF c_law_beneath_good hr (zb (pv 0) (zb (pv 2) (zb (pv 3) (zb (pv 4) (zb (pv 5) zd)))))))))) zL)
   (ze (ye (PW.pt (xi (zr vg (pX (yE (K:=K) rfl) (pv 5) zh) XD (zF _)) (xi (zr vg (pB (zm (K:=K) rfl) B.len (zb (pv 5) zd)) zh (zF _)) (wP (wQ (yC (pF c_law_numbers hr (zb (pX (yE (K:=K) rfl) (pv 5) zh) zd)))))))) (zf (zy vf)) zL)
   (zf (zy (yy (XI (K:=K) rfl hr.units) (pX (yE (K:=K) rfl) (pv 5) zh) (pF c_law_road_due hr (zb (pv 1) (zb (pv 4) zd))) (zF _)))))))),?_⟩
 have hN:=sc.n 6
 obtain ⟨n,cs,x,y,rs,sm,rfl,ok,dg,n6,hx,hy,ro,rl,sl,xs,rfl⟩:=p
 have big:=zD
 have oc:=tO ok x y
 have dc:=Wb (n:=n) dg x y
 have lu:=zao ok hx hy sm
 have su:=zdh (sm:=sm) (x:=x) (y:=y) ok (show n≤12 by omega)
 have pd:wT [yM n cs x y rs,nl sm] (.bool (doB n cs x y sm)):=⟨n,cs,x,y,rs,sm,rfl,ok,dg,n6,hx,hy,ro,rl,sl,xs,rfl⟩
 have rt:∀ {Γ0:PD.Ctx},GetC Γ0 1 (.fz false (yM n cs x y rs))→EvE K .fresh false (tOp (rIxT K) (tVar 1) (tC (.int 0))) Γ0 (nl (lowF cs (yL cs x y))):=fun g=>yP (κ:=false) (i:=0) (ds:=[nl (lowF cs (yL cs x y)),nls (cutC n cs x y),wf (cutC n cs x y),nls rs]) (EvE.eq (a:=yM n cs x y rs) (evv g (by decide)) rfl) xI atI0
 have any:∀ {b:Bool},((unW n cs x y).any fun k=>decide (k∈sm))=b→EvT K .fresh (Qp (tCB (rAny K) (zR (ve [none,some 1] (UX K (tVar 4)) (yn 0) tYes (tOp (rIn K false) (tVar 0) (tOp (rIxT K) (tVar 1) (tC (.int 0))))) tNil))) [some (.fz false (nls cs)),some (.fz false (yM n cs x y rs)),some (.fz false (.int x)),some (.fz false (.int y)),some (.fz false (nl sm)),some (.fz false (whyD n cs x y sm))] b:=fun {b} hb=>by
  refine EvT.eq (zq (tM (bs:=sm.map fun k=>decide (k∈lowF cs (yL cs x y))) (EvO.toL (EvO.eq (yp (κ:=false) (is:=[0]) (xs:=sm) false (fun k:Nat=>.int (k:Int)) (fun k=>.bool (decide (k∈lowF cs (yL cs x y)))) (fun x _ y _ h=>by cases yO h; rfl) (zN (by walk_at"ev")) (by walk_at"cc") rfl (by decide) (by omega) ?_) (by rw [ζM]; rfl))))) (by rw [← hb,← lu,ξC]; rfl)
  intro k hk
  exact egn (by walk_at"sc") (EvE.eq (zW (neg:=false) (i:=(k:Int)) (ns:=zl (lowF cs (yL cs x y))) (by walk_at"ev") (EvE.toL (EvE.eq (κ:=false) (rt (by walk_at"gc")) (ya _)))) (congrArg PyData.bool zV))
 by_cases c:staF n cs x y sm=[]
 ·have ua:((unW n cs x y).any fun k=>decide (k∈sm))=false:=ξb.mpr fun z=>su.mp z c
  cases hb:brB (cutC n cs x y) sm x y with
  | true =>
   have ew:whyD n cs x y sm=.none:=by
    unfold whyD
    rw [if_pos c,wH (za9 dc xs hb)]
   walk_at"run"
   refine vE (b:=doB n cs x y sm) (et_B (zk (by walk_at"ev") pd)) (fun _=>?_) (fun h=>?_)
   ·exact exrs true (tL (d:=.none) (EvE.toD (κ:=false) (EvE.eq (a:=whyD n cs x y sm) (by walk_at"ev") ew))) rfl (.inl ⟨rfl,rfl⟩)
   ·unfold doB at h
    rw [ua,hb] at h
    cases h
  | false =>
   obtain ⟨r,er,hr⟩:=zaa oc dc hx xs ro hb
   have ew:whyD n cs x y sm=.tuple [.str "road", nl r]:=by
    unfold whyD
    rw [if_pos c,er]
   have ed:doB n cs x y sm=false:=by unfold doB; rw [ua,hb]; rfl
   obtain ⟨p,lp⟩:=(ro r).mp hr
   have lt:∀ z∈r,z < n:=fun z hz=>p.lt oc hx z (ζ6.mpr hz)
   have rn:r.length≤n:=yV n r (xZ p.nd) lt
   have p1:xq [yM n cs x y rs,nl sm] (nl r):=⟨n,cs,x,y,rs,sm,r,rfl,ok,n6,hx,hy,ro,rl,sl,er,rfl⟩
   have fE:∀ {Γ0:PD.Ctx},GetC Γ0 5 (.fz false (whyD n cs x y sm))→EvE K .fresh false (tVar 5) Γ0 (.tuple [.str "road", nl r]):=fun g=>EvE.eq (a:=whyD n cs x y sm) (evv g (by decide)) ew
   walk_at"run"
   refine wK (b:=doB n cs x y sm) (et_B (zk (by walk_at"ev") pd)) ed ?_
   refine wK (b:=!true || (decide ((2:Int) < 2) || !true)) (yG (xJ (et_B (ZZ (d:=.tuple [.str "road", nl r]) (EvE.toD (κ:=false) (fE (by walk_at"gc"))) (by rfl)))) fun _=>yG (zq (YV (i:=2) (uW (ds:=[.str "road", nl r]) (fE (by walk_at"gc"))) xI)) fun _=>xJ (et_B (ZZ (d:=.str "road") (EvE.toD (κ:=false) (yP (κ:=false) (i:=0) (fE (by walk_at"gc")) xI atI0)) (by rfl)))) rfl ?_
   refine wK (b:=false) (any ua) rfl ?_
   refine wK (b:=!decide (("road" : Str) = "road") || (!decide ((2:Int)=2) || !true)) (yG (zq (zaJ (i := "road") (yP (κ:=false) (i:=0) (fE (by walk_at"gc")) xI atI0) ZX)) fun _=>yG (zq (vG (i:=2) (uW (ds:=[.str "road", nl r]) (fE (by walk_at"gc"))) xI)) fun _=>xJ (et_B (zk (zg (yP (κ:=false) (i:=1) (fE (by walk_at"gc")) xI atI1) zC) ⟨r,rfl,by omega,rfl⟩))) (by decide) ?_
   exact zM true (EvE.eq (Z0 (neg:=false) (d:=nl r) (f:=nl r) (EvE.toD (κ:=false) (yP (κ:=false) (i:=1) (fE (by walk_at"gc")) xI atI1)) (EvE.toD (κ:=false) (Vc (by walk_at"ev") p1)) (wD r) (wD r)) (congrArg PyData.bool (zaQ r))) rfl (.inl ⟨rfl,rfl⟩)
 ·have ua:((unW n cs x y).any fun k=>decide (k∈sm))=true:=su.mpr c
  have ed:doB n cs x y sm=false:=by unfold doB; rw [ua]; rfl
  have nez:zl (staF n cs x y sm)≠[]:=fun z=>c (ξS.mp z)
  obtain ⟨mm,mb⟩:=ZN (kf:=stF cs sm) nez
  obtain ⟨st,hst,es⟩:=ζn.mp mm
  have es:((st:Nat):Int)=mnK (stF cs sm) (zl (staF n cs x y sm)):=es
  have bn:=zda ok (show n≤12 by omega) dg hx hy hst fun k hk=>by
   rw [es]
   exact mb _ (ζn.mpr ⟨k,hk,rfl⟩)
  have ew:whyD n cs x y sm=.tuple [.str "beneath", nl (bnW cs x y st),nl ((wdF cs sm st).getD [])]:=by
   unfold whyD
   rw [if_neg c,← es]
   rfl
  have pb:yJ [nls cs,.int x,.int y,nl sm,.tuple [.str "beneath", nl (bnW cs x y st),nl ((wdF cs sm st).getD [])]] (.bool true):=⟨n,cs,x,y,st,sm,_,_,rfl,ok,by omega,bn,sl,rfl⟩
  have fE:∀ {Γ0:PD.Ctx},GetC Γ0 5 (.fz false (whyD n cs x y sm))→EvE K .fresh false (tVar 5) Γ0 (.tuple [.str "beneath", nl (bnW cs x y st),nl ((wdF cs sm st).getD [])]):=fun g=>EvE.eq (a:=whyD n cs x y sm) (evv g (by decide)) ew
  walk_at"run"
  refine wK (b:=doB n cs x y sm) (et_B (zk (by walk_at"ev") pd)) ed ?_
  refine wK (b:=!true || (decide ((3:Int) < 2) || !true)) (yG (xJ (et_B (ZZ (d:=.tuple [.str "beneath", nl (bnW cs x y st),nl ((wdF cs sm st).getD [])]) (EvE.toD (κ:=false) (fE (by walk_at"gc"))) (by rfl)))) fun _=>yG (zq (YV (i:=3) (uW (ds:=[.str "beneath", nl (bnW cs x y st),nl ((wdF cs sm st).getD [])]) (fE (by walk_at"gc"))) xI)) fun _=>xJ (et_B (ZZ (d:=.str "beneath") (EvE.toD (κ:=false) (yP (κ:=false) (i:=0) (fE (by walk_at"gc")) xI atI0)) (by rfl)))) rfl ?_
  refine vE (b:=true) (any ua) (fun _=>?_) (fun h=>by cases h)
  exact exrs true (EvE.eq (Ub (zaM (i := "beneath") (j := "beneath") (yP (κ:=false) (i:=0) (fE (by walk_at"gc")) xI atI0) ZX) fun _=>zk (zg (by walk_at"ev") (zg (by walk_at"ev") (zg (by walk_at"ev") (zg (by walk_at"ev") (zg (fE (by walk_at"gc")) zC))))) pb) (b:=.bool true) (by rw [decide_eq_true rfl]; rfl)) rfl (.inl ⟨rfl,rfl⟩)
theorem Th {n:Nat} {cs:List (List Nat)} (ok:ShOk n cs) (dg:Dg cs) (n6:n≤6) {x y:Nat} (hx:x < n) (hy:y < n) {rs:List (List Nat)} (ro:RsOk (cutC n cs x y) x y rs) {sm:List Nat} (xs:x∉sm):whyD n cs x y sm=.none∨∃ (s:Str) (w:List Nat) (rest:List PyData),whyD n cs x y sm=.tuple (.str s :: nl w :: rest)∧w.length≤30:=by
 have oc:=tO ok x y
 have dc:=Wb (n:=n) dg x y
 by_cases c:staF n cs x y sm=[]
 ·cases hb:brB (cutC n cs x y) sm x y with
  | true=>exact .inl (by unfold whyD; rw [if_pos c,wH (za9 dc xs hb)])
  | false =>
   obtain ⟨r,er,hr⟩:=zaa oc dc hx xs ro hb
   obtain ⟨p,lp⟩:=(ro r).mp hr
   have rn:r.length≤n:=yV n r (xZ p.nd) fun z hz=>p.lt oc hx z (ζ6.mpr hz)
   exact .inr ⟨"road", r,[],by unfold whyD; rw [if_pos c,er],by omega⟩
 ·have nez:zl (staF n cs x y sm)≠[]:=fun z=>c (ξS.mp z)
  obtain ⟨mm,mb⟩:=ZN (kf:=stF cs sm) nez
  obtain ⟨st,hst,es⟩:=ζn.mp mm
  have es:((st:Nat):Int)=mnK (stF cs sm) (zl (staF n cs x y sm)):=es
  have bn:=zda ok (show n≤12 by omega) dg hx hy hst fun k hk=>by
   rw [es]
   exact mb _ (ζn.mpr ⟨k,hk,rfl⟩)
  exact .inr ⟨"beneath", bnW cs x y st,[nl ((wdF cs sm st).getD [])],by unfold whyD; rw [if_neg c,← es]; rfl,by have:=bn.wz; omega⟩
theorem zdl:zA ["_law_script", "_law_many", "_law_causes", "_law_cell", "_law_x", "_law_y", "_law_ready_here", "_law_some_here", "_law_others", "_law_handed", "_law_among", "_law_asked", "_law_found"] ["_law_script"] (zo (top 49)):={}
theorem zdI (F:Fun K "law" "law" (top 49) f fd) (B:Bs mg) (Z:Cs K mg τa τb) (c_law_cell_at:zz P w K mg base CX0 "_law_cell_at" ["_law_script", "_law_k"] 1 (spD K true yv)) (c_law_shape:zz P w K mg base CX0 "_law_shape" ["_law_script", "_law_first", "_law_many"] 2 (spW K true wu)) (c_law_ready:zz P w K mg base CX0 "_law_ready" ["_law_causes", "_law_x", "_law_y"] 3 (spW K true v9)) (c_law_some:zz P w K mg base CX0 "_law_some" ["_law_script", "_law_start", "_law_causes", "_law_x", "_law_y", "_law_kind"] 2 (spW K true uH)) (c_why_not:zz P w K mg base CX0 "why_not" ["causes", "x", "y", "some"] 10 (spD K true vw)) (c_law_good:zz P w K mg base CX0 "_law_good" ["_law_causes", "_law_ready_here", "_law_x", "_law_y", "_law_some_here", "_law_found"] 4 (spD K true wS)):FnOk P w K mg base CX0 11 f fd ["_law_script"] (Uz K):=by
 have sc:=zdl
 refine F.ok sc (fun vs H Q E h=>?_) (fun cdv A outer s H vs Q E hr h=>?_)
 ·obtain ⟨a,ns,rfl,_⟩:=h
  rfl
 obtain ⟨a,ns,rfl,hS,h63,k⟩:=h
 have le:Same H H:=Same.refl H
 have dp:zO K H [V.ref a] [PyData.list (ns.map .int)]:=.cons (.lst hS (w6 ns)) .nil
 have q:∀ v H' F',Gr H H H' F'→Rp K false .fresh H F' v (.bool true)→Q v H':=fun v H' F' _ z=>by cases z; exact k H'
 refine ⟨_,(ze (pS (i:=1) sc.nd (zJ yD zh (zJ y8 (pF c_law_cell_at hr (zb (pv 0) (zb zh zd))) zh)))
   (ze (pS (i:=2) sc.nd (pF c_law_shape hr (zb (pv 0) (zb zh (zb (pv 1) zd)))))
   (ze (pS (i:=3) sc.nd (zJ y8 (zJ Zj (pF c_law_cell_at hr (zb (pv 0) (zb zh zd))) zh) zh))
   (ze (pS (i:=4) sc.nd (zJ y8 (pv 3) (pv 1)))
   (ze (pS (i:=5) sc.nd (zJ y8 (zJ yD (zJ yD (pv 4) zh) (zJ y8 (zJ uO (pv 3) zh) (zJ vC (pv 1) zh))) (pv 1)))
   (ze (pS (i:=6) sc.nd (pF c_law_ready hr (zb (pv 2) (zb (pv 4) (zb (pv 5) zd)))))
   (ze (pS (i:=7) sc.nd (pF c_law_some hr (zb (pv 0) (zb (zJ yD zh (pv 1)) (zb (pv 2) (zb (pv 4) (zb (pv 5) (zb (zJ y8 (zJ uO (pv 3) zh) zh) zd))))))))
   (ze (yU (i:=8) rfl sc.nd rfl rfl (N:=["_law_k", "_law_x", "_law_y", "_law_some_here"]) (js:=[none,some 4,some 5,some 7]) (by walk_at"comp_ok") (yw rfl B.range (zb (pv 1) zd)) (fun _ _ _ _=>(pN (i:=0) (show υN ["_law_k", "_law_x", "_law_y", "_law_some_here"] by decide +kernel))) (fun _ _ _ _=>(yS (PW.pt (xE (zr vg (pv 0) (pv 1) (zF _)) (xE (zr vg (pv 0) (pv 2) (zF _)) (xy (zr (yd (K:=K) rfl) (pv 0) (pv 3) (rfl)))))))) (fun _ _ _ _=>(pv 0)))
   (ze (yU (i:=9) rfl sc.nd rfl rfl (N:=["_law_row"]) (js:=[none]) (by walk_at"comp_ok") (zE (K:=K) rfl (pv 2)) (fun _ _ _ _=>(pN (i:=0) (show υN ["_law_row"] by decide +kernel))) (fun _ _ _ _=>yx) (fun _ _ _ _=>(pY (yR (K:=K) rfl) B.list (zb (pv 0) zd))))
   (ze (yF PassesOwn.never rfl (zE (K:=K) rfl (zU (zb (pv 7) (zb (zU zd) (zb (pv 8) (zb (pv 7) zd)))))) (pN (i:=10) sc.nd) (ze (pS (i:=11) sc.nd (pY (yR (K:=K) rfl) B.list (zb (pv 10) zd)))
   (ze (pS (i:=12) sc.nd (pF c_why_not hr (zb (pv 9) (zb (pv 4) (zb (pv 5) (zb (pv 11) zd))))))
   (ze (ye (PW.pt (xi (wQ (yC (pF c_law_good hr (zb (pv 2) (zb (pv 6) (zb (pv 4) (zb (pv 5) (zb (pv 10) (zb (pv 12) zd))))))))) (xi (zr (UF (K:=K) rfl hr.units) (pv 11) (pv 10) (zF _)) (wP (zr (UF (K:=K) rfl hr.units) (pv 9) (pv 2) (zF _)))))) (zf (zy vf)) zL)
   (zf (ye (zr zbN (pv 12) wV (zF _)) (zf (yB (yN (K:=K) rfl ζx ζK ζJ yf (pX (yE (K:=K) rfl) (pv 12) zh) (zb (pv 4) zd)))) zL))))))
   (zf (zy vf)))))))))))),?_⟩
 have hN:=sc.n 13
 have big:=zD
 walk_at"run"
 have f0:=Int.emod_nonneg (ns.getD 0 0) (show (5:Int)≠0 by decide)
 have f1:=Int.emod_lt_of_pos (ns.getD 0 0) (show (0:Int) < 5 by decide)
 obtain ⟨n,hn⟩:∃ n:Nat,2 + ns.getD 0 0 % 5=(n:Int):=⟨(2 + ns.getD 0 0 % 5).toNat,by omega⟩
 have n2:2≤n:=by omega
 have n6:n≤6:=by omega
 refine exs true (d:=.int n) (EvE.eq (wx (by walk_at"ev") (xH (zk (by walk_at"ev") (show yv [il ns,.int 0] _ from ⟨ns,0,rfl,rfl⟩)) (by walk_at"ev") (by decide))) (congrArg PyData.int hn)) (by walk_at"sc") ?_
 refine exg true (uV (by walk_at"ev") (show wu [il ns,.int 2,.int n] _ from ⟨ns,2,n,rfl,by omega,rfl⟩)) (fun d=>by walk_at"sc") ?_
 rintro d ⟨cs,sh,dg,rfl⟩
 have ok:=sh.ok
 have cl:=ok.l
 have m1:IntMulOk (ns.getD 1 0) 69621:=vP (by decide) (by decide)
 generalize hce:ns.getD 1 0 * 69621 % 2147483647=ce
 refine exs true (d:=.int ce) (EvE.eq (xH (X6 (zk (by walk_at"ev") (show yv [il ns,.int 1] _ from ⟨ns,1,rfl,rfl⟩)) (by walk_at"ev") m1) (by walk_at"ev") (by decide)) (congrArg PyData.int hce)) (by walk_at"sc") ?_
 obtain ⟨x,ex,hx⟩:=ZE ce (show 0 < n by omega)
 refine exs true (d:=.int x) (EvE.eq (xH (j:=(n:Int)) (by walk_at"ev") (by walk_at"ev") (by omega)) (congrArg PyData.int ex)) (by walk_at"sc") ?_
 obtain ⟨y,ey,hy⟩:=ZE ((x:Int) + 1 + ce / 6 % ((n:Int) - 1)) (show 0 < n by omega)
 refine exs true (d:=.int y) (EvE.eq (xH (j:=(n:Int)) (wx (by walk_at"ev") (xH (j:=(n:Int) - 1) (uX (by walk_at"ev") (by walk_at"ev") ⟨by decide,by decide⟩) (by walk_at"ev") (by omega))) (by walk_at"ev") (by omega)) (congrArg PyData.int ey)) (by walk_at"sc") ?_
 refine exg true (uV (by walk_at"ev") ⟨n,cs,x,y,rfl,ok,n6,hx,hy,rfl⟩) (fun d=>by walk_at"sc") ?_
 rintro d ⟨rs,ro,rl,rfl⟩
 refine exg true (uV (zg (by walk_at"ev") (zg (EvE.eq (wx (i:=2) (j:=(n:Int)) (by walk_at"ev") (by walk_at"ev")) (congrArg PyData.int (show (2:Int) + (n:Int)=((2 + n:Nat):Int) by omega))) (zg (by walk_at"ev") (zg (by walk_at"ev") (zg (by walk_at"ev") (zg (xH (uX (by walk_at"ev") (by walk_at"ev") ⟨by decide,by decide⟩) (by walk_at"ev") (by decide)) zC)))))) ⟨ns,2 + n,n,cs,x,y,ce / 30 % 4,rfl,ok,by omega,hx,hy,rfl⟩) (fun d=>by walk_at"sc") ?_
 rintro d ⟨sm,hs,sl,rfl⟩
 obtain ⟨ot,hot,otx⟩:∃ ot:List Nat,ot=(List.range n).filter (fun k:Nat=>!decide ((k:Int)=(x:Int)) && (!decide ((k:Int)=(y:Int)) && !decide (k∈sm)))∧x∉ot:=⟨_,rfl,fun z=>by
  have:=(ζl.mp z).2
  simp at this⟩
 have ol:ot.length≤n:=by
  rw [hot]
  have:=ζE (fun k:Nat=>!decide ((k:Int)=(x:Int)) && (!decide ((k:Int)=(y:Int)) && !decide (k∈sm))) (List.range n)
  rwa [ζu] at this
 refine exs true (d:=nl ot) (EvO.toE (EvO.eq (YS (κ:=true) (is:=[0]) (n:=n) (fun k:Nat=>.int (k:Int)) (fun k:Nat=>!decide ((k:Int)=(x:Int)) && (!decide ((k:Int)=(y:Int)) && !decide (k∈sm))) (by walk_at"ev") (by omega) (by walk_at"cc") rfl (by decide) ?_) (by rw [hot]))) (by walk_at"sc") ?_
 ·intro k hk
  exact egn (by walk_at"sc") ⟨xu (by walk_at"ev") fun _=>xu (by walk_at"ev") fun _=>EvT.eq (zq (zW (neg:=true) (i:=(k:Int)) (ns:=zl sm) (by walk_at"ev") (EvE.toL (EvE.eq (κ:=false) (by walk_at"ev") (ya _))))) (by show (!decide _)=_; rw [zV]),fun _=>by walk_at"ev"⟩
 refine exs true (d:=nls cs) (EvO.toE (yp (κ:=true) (κ':=false) (is:=[0]) (xs:=cs) nl nl (fun x _ y _ h=>h) (zN (by walk_at"ev")) (by walk_at"cc") rfl (by decide) (by omega) ?_)) (by walk_at"sc") ?_
 ·intro r hr
  exact egn (by walk_at"sc") (EvO.toE (x5 (EvL.imm (κ:=false) (by walk_at"ev") (xY r))))
 have dc:=Wb (n:=n) dg x y
 have rn:vL (cutC n cs x y):=zeq (zdn sh) _
 have t15:=zdg (tO ok x y) dc rn n6
 obtain ⟨AM,hAM,am⟩:∃ AM:List (List Nat),AM=[sm,[],ot,sm]∧∀ a∈AM,x∉a∧a.length≤12∧∀ z∈a,z < n:=⟨_,rfl,fun a ha=>by
  have xs:x∉sm:=fun z=>(hs x z).2.1 rfl
  simp only [List.mem_cons,List.not_mem_nil,or_false] at ha
  rcases ha with rfl | rfl | rfl | rfl
  ·exact ⟨xs,by omega,fun z hz=>(hs z hz).1⟩
  ·exact ⟨fun z=>(nomatch z),ζL _,fun z hz=>(nomatch hz)⟩
  ·exact ⟨otx,by omega,fun z hz=>by rw [hot] at hz; exact ζD.mp (ζl.mp hz).1⟩
  ·exact ⟨xs,by omega,fun z hz=>(hs z hz).1⟩⟩
 refine vi (ds:=AM.map nl) true (fun i Γ=>∃ u0 u v w,Γ=[u0,some (.fz true (.int n)),some (.fz true (nls cs)),some (.fz true (.int ce)),some (.fz true (.int x)),some (.fz true (.int y)),some (.fz true (yM n cs x y rs)),some (.fz true (nl sm)),some (.fz true (nl ot)),some (.fz true (nls cs)),u,v,w]) (zN (EvE.eq (EvO.toE (zZ (ds:=[nl sm,nl [],nl ot,nl sm]) (zg (by walk_at"ev") (zg (EvO.toE (zZ (ds:=[]) zC (by decide))) (zg (by walk_at"ev") (zg (by walk_at"ev") zC)))) (by show 4≤sizeLine; omega))) (by rw [hAM]; rfl))) ⟨_,none,none,none,rfl⟩ ?_ ?_
 ·rintro i d Γ' hd ⟨u0,u,v,w,rfl⟩
  obtain ⟨a,ha,rfl⟩:=xN hd
  obtain ⟨xa,al,az⟩:=am a (ζk ha)
  have pw:vw [nls cs,.int x,.int y,nl a] (whyD n cs x y a):=⟨n,cs,x,y,a,rfl,ok,by omega,hx,hy,dc,rn,t15,xa,az,al,rfl⟩
  have pg:wS [nls cs,yM n cs x y rs,.int x,.int y,nl a,whyD n cs x y a] (.bool true):=⟨n,cs,x,y,rs,a,rfl,ok,dg,n6,hx,hy,ro,rl,by omega,xa,rfl⟩
  refine ⟨_,egn (by walk_at"sc") ?_⟩
  refine exs true (d:=nl a) (EvO.toE (x5 (EvL.imm (κ:=false) (EvE.toL (by walk_at"ev")) (xY a)))) (by walk_at"sc") ?_
  rcases Th ok dg n6 hx hy ro xa with ew | ⟨s0,wy,rest,ew,wl⟩
  ·rw [ew] at pw pg
   refine exs true (zk (by walk_at"ev") pw) (by walk_at"sc") ?_
   refine wK (b:=!true || (false || false)) (yG (xJ (et_B (zk (by walk_at"ev") pg))) fun _=>yG (zq (Zo (d:=nl a) (EvE.toD (κ:=true) (by walk_at"ev")) (EvE.toD (κ:=true) (by walk_at"ev")) (wD a))) fun _=>zq (Zo (d:=nls cs) (EvE.toD (κ:=true) (by walk_at"ev")) (EvE.toD (κ:=true) (by walk_at"ev")) (ue cs))) rfl ?_
   exact xj (b:=!isNone .none) (zq (X5 (EvE.toD (κ:=true) (by walk_at"ev")))) (fun h=>nomatch h) fun _=>yr ⟨_,_,_,_,rfl⟩
  ·rw [ew] at pw pg
   refine exmk (by walk_at"ev") pw (by walk_at"mk") (by walk_at"sc") fun T=>?_
   refine wK (b:=!true || (false || false)) (yG (xJ (et_B (zk (by walk_at"ev") pg))) fun _=>yG (zq (Zo (d:=nl a) (EvE.toD (κ:=true) (by walk_at"ev")) (EvE.toD (κ:=true) (by walk_at"ev")) (wD a))) fun _=>zq (Zo (d:=nls cs) (EvE.toD (κ:=true) (by walk_at"ev")) (EvE.toD (κ:=true) (by walk_at"ev")) (ue cs))) rfl ?_
   refine xj (b:=!isNone (.tuple (.str s0 :: nl wy :: rest))) (zq (X5 (EvE.toD (κ:=false) (by walk_at"ev")))) (fun _=>?_) (fun h=>by cases h)
   refine zci (i:=12) (j:=4) (by walk_at"gc") (by walk_at"gc") (by rw [ζb]; omega) (by walk_at"sp") ?_ ⟨_,_,_,_,rfl⟩
   walk_at"ot"
 ·rintro Γ' ⟨u0,u,v,w,rfl⟩
  exact zM true (by walk_at"ev") rfl (.inr rfl)
end
abbrev De (K:ζa) (x:Str) (i:Nat):=∃ f fd,At K x (top i) f fd
theorem zen {l:PySem.W.OpenLaw} {w:World} {K:ζa} {h:Heap} {mg:Str→Option Value} {fa:Addr} (X:K.In h) (G:h.Ns mainGlobals mg) (hfa:mg "law" = some (.ref fa))
  (d1:De K "meet" 1) (d2:De K "effects" 2) (d5:De K "gathered" 5) (d3:∃ f fd,AtL K "above" (top 3) f fd) (d4:∃ f fd,AtL K "beneath" (top 4) f fd) (d6:De K "steps_down" 6) (d7:De K "nearer" 7) (d8:De K "way_down" 8) (d9:De K "without" 9) (d13:De K "steps_from" 13) (d14:∃ f fd,AtL K "reach" (top 14) f fd) (d15:De K "reached_things" 15) (d16:De K "barred" 16) (d18:De K "neighbours" 18) (d19:De K "is_vee" 19) (d20:De K "inner_places" 20) (d21:De K "vees" 21) (d22:De K "bars_at" 22) (d25:De K "goes_on" 25) (d24:De K "all_longer" 24) (d23:De K "open_road" 23) (d27:De K "on_ways" 27) (d28:De K "cut_shape" 28) (d30:De K "beneath_reason" 30) (d29:∃ f fd,AtL K "why_not" (top 29) f fd) (d32:De K "_law_cell_at" 32) (d33:De K "_law_shape" 33) (d34:De K "_law_numbers" 34) (d35:De K "_law_low" 35) (d36:De K "_law_roads" 36) (d37:De K "_law_turns" 37) (d38:De K "_law_open" 38) (d39:De K "_law_ways" 39) (d40:De K "_law_cut" 40) (d41:De K "_law_lows" 41) (d42:De K "_law_ready" 42) (d43:De K "_law_does" 43) (d44:De K "_law_some" 44) (d45:De K "_law_arrows" 45) (d46:De K "_law_beneath_good" 46) (d47:De K "_law_road_due" 47) (d48:De K "_law_good" 48)
  {f0:Addr} {oc:Value} {od an:Option Addr} {osl:Array (Option Value)} {kV doc pm cdv ct:Value} (a0:PySem.W.nsIn K mainGlobals "law" = some (some (.ref f0)))
  (l0:K.lookup f0=some ⟨oc,od,.func (PySem.W.fnOf "law" "law" (wg (top 49)) (xB (top 49)) (zo (top 49)) .none kV doc pm an cdv ct),osl⟩) (c0:PySem.W.codeIn K cdv "law" = true) (k0:PySem.W.keepIn K (.ref f0)=true)
  (z1:PySem.W.nsIn K mainGlobals "len" = some none) (z2:PySem.W.nsIn K mainGlobals "set" = some none) (z3:PySem.W.nsIn K mainGlobals "range" = some none) (z4:PySem.W.nsIn K mainGlobals "list" = some none) (z5:PySem.W.nsIn K mainGlobals "sorted" = some none) (z6:PySem.W.nsIn K mainGlobals "enumerate" = some none) (z7:PySem.W.nsIn K mainGlobals "min" = some none) (z8:PySem.W.nsIn K mainGlobals "isinstance" = some none) (z9:PySem.W.nsIn K mainGlobals "all" = some none) (z10:PySem.W.nsIn K mainGlobals "int" = some none) (z11:PySem.W.nsIn K mainGlobals "bool" = some none) (z12:PySem.W.nsIn K mainGlobals "any" = some none) (z13:PySem.W.nsIn K mainGlobals "max" = some none) (z14:PySem.W.nsIn K mainGlobals "tuple" = some none) (z15:PySem.W.nsIn K mainGlobals "str" = some none)
  {τa τb:Tok}  (y_AGAINST:PySem.W.nsIn K mainGlobals "AGAINST" = some (some (.int 0 τa))) (y_ALONG:PySem.W.nsIn K mainGlobals "ALONG" = some (some (.int 1 τb))) (nt:tY K=true) :
  ∃ fd:FuncData,(∀ (s:Shared) (v:Value),BindsTo s fd ⟨[v],[]⟩ [("_law_script", v)])∧∀ base:Heap,K.In base→base.Ns mainGlobals mg→FnOk l.prog w K mg base CX0 11 fa fd ["_law_script"] (Uz K):=by
 have e:=hfa.symm.trans (PySem.W.mg_of X G a0)
 cases e
 have nn:∀ {x:Str},PySem.W.nsIn K mainGlobals x=some none→mg x=none:=fun z=>PySem.W.mg_none_of X G z
 have B:Bs mg:=⟨nn z1,nn z2,nn z3,nn z4,nn z5,nn z6,nn z7,nn z8,nn z9,nn z10,nn z11,nn z12,nn z13,nn z14,nn z15⟩
 refine ⟨PySem.W.fnOf "law" "law" (wg (top 49)) (xB (top 49)) (zo (top 49)) .none kV doc pm an cdv ct,fun s v=>.of_eq rfl,fun base _ _=>?_⟩
 have mm:∀ {x:Str} {f:Addr},PySem.W.nsIn K mainGlobals x=some (some (.ref f))→mg x=some (.ref f):=fun z=>PySem.W.mg_of X G z
 have Z:Cs K mg τa τb:=⟨PySem.W.mg_of X G y_AGAINST,PySem.W.mg_of X G y_ALONG,nt⟩
 obtain ⟨f1,g1,a1,F1⟩:=d1
 have b1:=F1.binds (ps:=["some", "others"]) fun _ _ _ _ _ _ us hl=>match us,hl with | [_,_],_=>rfl
 have C_meet:=zK (P:=l.prog) (w:=w) (base:=base) F1 (mm a1) b1 (zbV F1 B Z)
 obtain ⟨f2,g2,a2,F2⟩:=d2
 have b2:=F2.binds (ps:=["causes", "k"]) fun _ _ _ _ _ _ us hl=>match us,hl with | [_,_],_=>rfl
 have C_effects:=zK (P:=l.prog) (w:=w) (base:=base) F2 (mm a2) b2 (VW F2 B Z)
 obtain ⟨f5,g5,a5,F5⟩:=d5
 have b5:=F5.binds (ps:=["some", "nexts"]) fun _ _ _ _ _ _ us hl=>match us,hl with | [_,_],_=>rfl
 have C_gathered:=zK (P:=l.prog) (w:=w) (base:=base) F5 (mm a5) b5 (WW F5 B Z)
 obtain ⟨f3,g3,a3,F3,L3⟩:=d3
 have b3:=F3.binds (ps:=["causes", "some"]) fun _ _ _ _ _ _ us hl=>match us,hl with | [_,_],_=>rfl
 have C_above:=zK (P:=l.prog) (w:=w) (base:=base) F3 (mm a3) b3 (zad F3 L3 B Z C_gathered)
 obtain ⟨f4,g4,a4,F4,L4⟩:=d4
 have b4:=F4.binds (ps:=["causes", "some"]) fun _ _ _ _ _ _ us hl=>match us,hl with | [_,_],_=>rfl
 have C_beneath:=zK (P:=l.prog) (w:=w) (base:=base) F4 (mm a4) b4 (VX F4 L4 B Z C_gathered C_effects)
 obtain ⟨f6,g6,a6,F6⟩:=d6
 have b6:=F6.binds (ps:=["causes", "some", "within"]) fun _ _ _ _ _ _ us hl=>match us,hl with | [_,_,_],_=>rfl
 have C_steps_down:=zK (P:=l.prog) (w:=w) (base:=base) F6 (mm a6) b6 (Yn F6 B Z C_meet C_effects)
 obtain ⟨f7,g7,a7,F7⟩:=d7
 have b7:=F7.binds (ps:=["causes", "steps", "k"]) fun _ _ _ _ _ _ us hl=>match us,hl with | [_,_,_],_=>rfl
 have C_nearer:=zK (P:=l.prog) (w:=w) (base:=base) F7 (mm a7) b7 (TB F7 B Z C_effects)
 obtain ⟨f8,g8,a8,F8⟩:=d8
 have b8:=F8.binds (ps:=["causes", "k", "some"]) fun _ _ _ _ _ _ us hl=>match us,hl with | [_,_,_],_=>rfl
 have C_way_down:=zK (P:=l.prog) (w:=w) (base:=base) F8 (mm a8) b8 (WP F8 B Z C_steps_down C_nearer)
 obtain ⟨f9,g9,a9,F9⟩:=d9
 have b9:=F9.binds (ps:=["causes", "pairs"]) fun _ _ _ _ _ _ us hl=>match us,hl with | [_,_],_=>rfl
 have C_without:=zK (P:=l.prog) (w:=w) (base:=base) F9 (mm a9) b9 (VP F9 B Z)
 obtain ⟨f13,g13,a13,F13⟩:=d13
 have b13:=F13.binds (ps:=["causes", "known", "pair"]) fun _ _ _ _ _ _ us hl=>match us,hl with | [_,_,_],_=>rfl
 have C_steps_from:=zK (P:=l.prog) (w:=w) (base:=base) F13 (mm a13) b13 (Ym F13 B Z C_effects)
 obtain ⟨f14,g14,a14,F14,L14⟩:=d14
 have b14:=F14.binds (ps:=["causes", "x", "known"]) fun _ _ _ _ _ _ us hl=>match us,hl with | [_,_,_],_=>rfl
 have C_reach:=zK (P:=l.prog) (w:=w) (base:=base) F14 (mm a14) b14 (zab F14 L14 B Z C_gathered C_steps_from)
 obtain ⟨f15,g15,a15,F15⟩:=d15
 have b15:=F15.binds (ps:=["causes", "x", "known"]) fun _ _ _ _ _ _ us hl=>match us,hl with | [_,_,_],_=>rfl
 have C_reached_things:=zK (P:=l.prog) (w:=w) (base:=base) F15 (mm a15) b15 (uQ F15 B Z C_reach)
 obtain ⟨f16,g16,a16,F16⟩:=d16
 have b16:=F16.binds (ps:=["causes", "x", "y", "known"]) fun _ _ _ _ _ _ us hl=>match us,hl with | [_,_,_,_],_=>rfl
 have C_barred:=zK (P:=l.prog) (w:=w) (base:=base) F16 (mm a16) b16 (TD F16 B Z C_reached_things)
 obtain ⟨f18,g18,a18,F18⟩:=d18
 have b18:=F18.binds (ps:=["causes", "k"]) fun _ _ _ _ _ _ us hl=>match us,hl with | [_,_],_=>rfl
 have C_neighbours:=zK (P:=l.prog) (w:=w) (base:=base) F18 (mm a18) b18 (Yo F18 B Z C_effects)
 obtain ⟨f19,g19,a19,F19⟩:=d19
 have b19:=F19.binds (ps:=["causes", "road", "place"]) fun _ _ _ _ _ _ us hl=>match us,hl with | [_,_,_],_=>rfl
 have C_is_vee:=zK (P:=l.prog) (w:=w) (base:=base) F19 (mm a19) b19 (TC F19 B Z)
 obtain ⟨f20,g20,a20,F20⟩:=d20
 have b20:=F20.binds (ps:=["road"]) fun _ _ _ _ _ _ us hl=>match us,hl with | [_],_=>rfl
 have C_inner_places:=zK (P:=l.prog) (w:=w) (base:=base) F20 (mm a20) b20 (Zf F20 B Z)
 obtain ⟨f21,g21,a21,F21⟩:=d21
 have b21:=F21.binds (ps:=["causes", "road"]) fun _ _ _ _ _ _ us hl=>match us,hl with | [_,_],_=>rfl
 have C_vees:=zK (P:=l.prog) (w:=w) (base:=base) F21 (mm a21) b21 (zbU F21 B Z C_inner_places C_is_vee)
 obtain ⟨f22,g22,a22,F22⟩:=d22
 have b22:=F22.binds (ps:=["causes", "road", "place", "known"]) fun _ _ _ _ _ _ us hl=>match us,hl with | [_,_,_,_],_=>rfl
 have C_bars_at:=zK (P:=l.prog) (w:=w) (base:=base) F22 (mm a22) b22 (VY F22 B Z C_is_vee C_meet C_beneath)
 obtain ⟨f25,g25,a25,F25⟩:=d25
 have b25:=F25.binds (ps:=["causes", "road", "known"]) fun _ _ _ _ _ _ us hl=>match us,hl with | [_,_,_],_=>rfl
 have C_goes_on:=zK (P:=l.prog) (w:=w) (base:=base) F25 (mm a25) b25 (VU F25 B Z C_bars_at)
 obtain ⟨f24,g24,a24,F24⟩:=d24
 have b24:=F24.binds (ps:=["causes", "roads", "known"]) fun _ _ _ _ _ _ us hl=>match us,hl with | [_,_,_],_=>rfl
 have C_all_longer:=zK (P:=l.prog) (w:=w) (base:=base) F24 (mm a24) b24 (Yq F24 B Z C_neighbours C_goes_on)
 obtain ⟨f23,g23,a23,F23⟩:=d23
 have b23:=F23.binds (ps:=["causes", "x", "y", "known"]) fun _ _ _ _ _ _ us hl=>match us,hl with | [_,_,_,_],_=>rfl
 have C_open_road:=zK (P:=l.prog) (w:=w) (base:=base) F23 (mm a23) b23 (XM F23 B Z C_barred C_all_longer C_vees)
 obtain ⟨f27,g27,a27,F27⟩:=d27
 have b27:=F27.binds (ps:=["causes", "x", "y"]) fun _ _ _ _ _ _ us hl=>match us,hl with | [_,_,_],_=>rfl
 have C_on_ways:=zK (P:=l.prog) (w:=w) (base:=base) F27 (mm a27) b27 (VR F27 B Z C_above C_beneath)
 obtain ⟨f28,g28,a28,F28⟩:=d28
 have b28:=F28.binds (ps:=["causes", "x", "y"]) fun _ _ _ _ _ _ us hl=>match us,hl with | [_,_,_],_=>rfl
 have C_cut_shape:=zK (P:=l.prog) (w:=w) (base:=base) F28 (mm a28) b28 (XT F28 B Z C_without C_on_ways)
 obtain ⟨f30,g30,a30,F30⟩:=d30
 have b30:=F30.binds (ps:=["causes", "x", "y", "some", "start"]) fun _ _ _ _ _ _ us hl=>match us,hl with | [_,_,_,_,_],_=>rfl
 have C_beneath_reason:=zK (P:=l.prog) (w:=w) (base:=base) F30 (mm a30) b30 (uR F30 B Z C_way_down)
 obtain ⟨f29,g29,a29,F29,L29⟩:=d29
 have b29:=F29.binds (ps:=["causes", "x", "y", "some"]) fun _ _ _ _ _ _ us hl=>match us,hl with | [_,_,_,_],_=>rfl
 have C_why_not:=zK (P:=l.prog) (w:=w) (base:=base) F29 (mm a29) b29 (VQ F29 L29 B Z C_steps_down C_on_ways C_beneath_reason C_open_road C_cut_shape)
 obtain ⟨f32,g32,a32,F32⟩:=d32
 have b32:=F32.binds (ps:=["_law_script", "_law_k"]) fun _ _ _ _ _ _ us hl=>match us,hl with | [_,_],_=>rfl
 have C__law_cell_at:=zK (P:=l.prog) (w:=w) (base:=base) F32 (mm a32) b32 (ZM F32 B Z)
 obtain ⟨f33,g33,a33,F33⟩:=d33
 have b33:=F33.binds (ps:=["_law_script", "_law_first", "_law_many"]) fun _ _ _ _ _ _ us hl=>match us,hl with | [_,_,_],_=>rfl
 have C__law_shape:=zK (P:=l.prog) (w:=w) (base:=base) F33 (mm a33) b33 (XQ F33 B Z C__law_cell_at)
 obtain ⟨f34,g34,a34,F34⟩:=d34
 have b34:=F34.binds (ps:=["_law_found"]) fun _ _ _ _ _ _ us hl=>match us,hl with | [_],_=>rfl
 have C__law_numbers:=zK (P:=l.prog) (w:=w) (base:=base) F34 (mm a34) b34 (ZL F34 B Z)
 obtain ⟨f35,g35,a35,F35⟩:=d35
 have b35:=F35.binds (ps:=["_law_causes", "_law_some_here"]) fun _ _ _ _ _ _ us hl=>match us,hl with | [_,_],_=>rfl
 have C__law_low:=zK (P:=l.prog) (w:=w) (base:=base) F35 (mm a35) b35 (VS F35 B Z)
 obtain ⟨f36,g36,a36,F36⟩:=d36
 have b36:=F36.binds (ps:=["_law_causes", "_law_x", "_law_y"]) fun _ _ _ _ _ _ us hl=>match us,hl with | [_,_,_],_=>rfl
 have C__law_roads:=zK (P:=l.prog) (w:=w) (base:=base) F36 (mm a36) b36 (XR F36 B Z)
 obtain ⟨f37,g37,a37,F37⟩:=d37
 have b37:=F37.binds (ps:=["_law_causes", "_law_road"]) fun _ _ _ _ _ _ us hl=>match us,hl with | [_,_],_=>rfl
 have C__law_turns:=zK (P:=l.prog) (w:=w) (base:=base) F37 (mm a37) b37 (XO F37 B Z)
 obtain ⟨f38,g38,a38,F38⟩:=d38
 have b38:=F38.binds (ps:=["_law_causes", "_law_lows_here", "_law_road", "_law_some_here"]) fun _ _ _ _ _ _ us hl=>match us,hl with | [_,_,_,_],_=>rfl
 have C__law_open:=zK (P:=l.prog) (w:=w) (base:=base) F38 (mm a38) b38 (WS F38 B Z C__law_turns)
 obtain ⟨f39,g39,a39,F39⟩:=d39
 have b39:=F39.binds (ps:=["_law_causes", "_law_lows_here", "_law_x", "_law_y"]) fun _ _ _ _ _ _ us hl=>match us,hl with | [_,_,_,_],_=>rfl
 have C__law_ways:=zK (P:=l.prog) (w:=w) (base:=base) F39 (mm a39) b39 (WQ F39 B Z)
 obtain ⟨f40,g40,a40,F40⟩:=d40
 have b40:=F40.binds (ps:=["_law_causes", "_law_ways_here", "_law_x"]) fun _ _ _ _ _ _ us hl=>match us,hl with | [_,_,_],_=>rfl
 have C__law_cut:=zK (P:=l.prog) (w:=w) (base:=base) F40 (mm a40) b40 (VT F40 B Z)
 obtain ⟨f41,g41,a41,F41⟩:=d41
 have b41:=F41.binds (ps:=["_law_causes"]) fun _ _ _ _ _ _ us hl=>match us,hl with | [_],_=>rfl
 have C__law_lows:=zK (P:=l.prog) (w:=w) (base:=base) F41 (mm a41) b41 (WT F41 B Z C__law_low)
 obtain ⟨f42,g42,a42,F42⟩:=d42
 have b42:=F42.binds (ps:=["_law_causes", "_law_x", "_law_y"]) fun _ _ _ _ _ _ us hl=>match us,hl with | [_,_,_],_=>rfl
 have C__law_ready:=zK (P:=l.prog) (w:=w) (base:=base) F42 (mm a42) b42 (XS F42 B Z C__law_lows C__law_ways C__law_cut C__law_roads C__law_low)
 obtain ⟨f43,g43,a43,F43⟩:=d43
 have b43:=F43.binds (ps:=["_law_ready_here", "_law_some_here"]) fun _ _ _ _ _ _ us hl=>match us,hl with | [_,_],_=>rfl
 have C__law_does:=zK (P:=l.prog) (w:=w) (base:=base) F43 (mm a43) b43 (WV F43 B Z C__law_open)
 obtain ⟨f44,g44,a44,F44⟩:=d44
 have b44:=F44.binds (ps:=["_law_script", "_law_start", "_law_causes", "_law_x", "_law_y", "_law_kind"]) fun _ _ _ _ _ _ us hl=>match us,hl with | [_,_,_,_,_,_],_=>rfl
 have C__law_some:=zK (P:=l.prog) (w:=w) (base:=base) F44 (mm a44) b44 (WR F44 B Z C__law_cell_at)
 obtain ⟨f45,g45,a45,F45⟩:=d45
 have b45:=F45.binds (ps:=["_law_causes", "_law_way"]) fun _ _ _ _ _ _ us hl=>match us,hl with | [_,_],_=>rfl
 have C__law_arrows:=zK (P:=l.prog) (w:=w) (base:=base) F45 (mm a45) b45 (Yp F45 B Z C__law_numbers)
 obtain ⟨f46,g46,a46,F46⟩:=d46
 have b46:=F46.binds (ps:=["_law_causes", "_law_x", "_law_y", "_law_some_here", "_law_found"]) fun _ _ _ _ _ _ us hl=>match us,hl with | [_,_,_,_,_],_=>rfl
 have C__law_beneath_good:=zK (P:=l.prog) (w:=w) (base:=base) F46 (mm a46) b46 (v4 F46 B Z C__law_arrows)
 obtain ⟨f47,g47,a47,F47⟩:=d47
 have b47:=F47.binds (ps:=["_law_ready_here", "_law_some_here"]) fun _ _ _ _ _ _ us hl=>match us,hl with | [_,_],_=>rfl
 have C__law_road_due:=zK (P:=l.prog) (w:=w) (base:=base) F47 (mm a47) b47 (Ze F47 B Z C__law_open C__law_turns)
 obtain ⟨f48,g48,a48,F48⟩:=d48
 have b48:=F48.binds (ps:=["_law_causes", "_law_ready_here", "_law_x", "_law_y", "_law_some_here", "_law_found"]) fun _ _ _ _ _ _ us hl=>match us,hl with | [_,_,_,_,_,_],_=>rfl
 have C__law_good:=zK (P:=l.prog) (w:=w) (base:=base) F48 (mm a48) b48 (WU F48 B Z C__law_does C__law_beneath_good C__law_numbers C__law_road_due)
 exact zdI (V9 l0 c0 k0) B Z C__law_cell_at C__law_shape C__law_ready C__law_some C_why_not C__law_good
theorem walk {l:PySem.W.OpenLaw} {q:Program} {loose:List Str} {XP:(Str→Option Value)→Heap→Prop} {YP:World→Heap→Prop} {d:DefRec} {K:Params→ζa} (hn:l.most=some 63) (hdf:d.params.defaults=[])
  (hY:∀ (w:World) (h:Heap),YP w h→(K w.params).In h) (hT:∀ (w:World) (h:Heap),YP w h→(∀ p∈yg (K w.params),h.get? p.1=some (PySem.W.tabObj #[]))∧Xg (K w.params)=true)
  (F:∀ (w:World) (mg:Str→Option Value) (fa:Addr) (h:Heap),(K w.params).In h→h.Ns mainGlobals mg→mg d.name=some (.ref fa) →
   ∃ fd:FuncData,(∀ (s:Shared) (u:Value),BindsTo s fd ⟨[u],[]⟩ [("_law_script", u)])∧∀ base:Heap,(K w.params).In base→base.Ns mainGlobals mg→FnOk l.prog w (K w.params) mg base CX0 11 fa fd ["_law_script"] (Uz (K w.params))) :
  PySem.W.WalkO q loose XP YP l.row.toRowW d [] (fun f vs=>PySem.call f vs) :=
 L2.zbi (n:=63) (k:=11) (x := "_law_script") (CX:=fun _=>CX0) (sp:=fun w=>Uz (K w.params)) hn (by decide) hdf ⟨rfl,by decide,by decide⟩ hY hT F (fun _ _ a ns hl hS=>⟨a,ns,rfl,hS,hl,fun _=>rfl⟩) fun _ _ _ _ _ z=>z
end K55
def PySem.W.Fast.tw9532182477675586488 : PySem.Program := PySem.Challenge.pw_causebook_k55_why_not
theorem PySem.W.Fast.te9532182477675586488 : PySem.Challenge.pw_causebook_k55_why_not = PySem.W.Fast.tw9532182477675586488 := rfl
def PySem.W.Fast.tw5663449651308042390 : Nat := 0
def PySem.W.Fast.tw2426479427121398562 : Nat := 0
def PySem.W.Fast.tw6843809979110670651 : Nat := 0
def PySem.W.Fast.tw13207564806490341989 : Nat := 0
def PySem.W.Fast.tw400532202897552929 : Nat := 0
def PySem.W.Fast.tw4814763350071760668 : Nat := 0
def PySem.W.Fast.tw16239125493945300131 : Nat := 0
open PySem PySem.W PyProof.Rows
set_option maxRecDepth 100000 in
set_option maxHeartbeats 0 in
theorem PySem.Challenge.cw_causebook_k55_why_not_holds : PySem.Challenge.rw_causebook_k55_why_not.Holds := by
 w_on; o_law; k_head; (case hw=>w_witness2)
 k_fill
 refine K55.walk (l:=PySem.Challenge.rw_causebook_k55_why_not) rfl rfl (fun w h Y=>PySem.W.km_in_of Y) (fun w h Y=>⟨zbp (PySem.W.km_tabs_of Y) (by kernel_rfl),by kernel_rfl⟩) ?F
 case F =>
  intro w mg fa h KX G hmg
  refine' K55.zen KX G hmg ?d1 ?d2 ?d5 ?d3 ?d4 ?d6 ?d7 ?d8 ?d9 ?d13 ?d14 ?d15 ?d16 ?d18 ?d19 ?d20 ?d21 ?d22 ?d25 ?d24 ?d23 ?d27 ?d28 ?d30 ?d29 ?d32 ?d33 ?d34 ?d35 ?d36 ?d37 ?d38 ?d39 ?d40 ?d41 ?d42 ?d43 ?d44 ?d45 ?d46 ?d47 ?d48 ?a0 ?l0 ?c0 ?k0 ?z1 ?z2 ?z3 ?z4 ?z5 ?z6 ?z7 ?z8 ?z9 ?z10 ?z11 ?z12 ?z13 ?z14 ?z15 ?y_AGAINST ?y_ALONG ?nt
  iterate 3 (refine' Cm.Xf ?a ?l ?c ?k; (case a=>k_is); (case l=>k_is); (case c=>k_is); (case k=>k_is))
  iterate 2 (refine' Cm.Xe ?a ?l ?c ?k ?m; (case a=>k_is); (case l=>k_is); (case c=>k_is); (case k=>k_is); (case m=>kernel_rfl))
  iterate 5 (refine' Cm.Xf ?a ?l ?c ?k; (case a=>k_is); (case l=>k_is); (case c=>k_is); (case k=>k_is))
  iterate 1 (refine' Cm.Xe ?a ?l ?c ?k ?m; (case a=>k_is); (case l=>k_is); (case c=>k_is); (case k=>k_is); (case m=>kernel_rfl))
  iterate 13 (refine' Cm.Xf ?a ?l ?c ?k; (case a=>k_is); (case l=>k_is); (case c=>k_is); (case k=>k_is))
  iterate 1 (refine' Cm.Xe ?a ?l ?c ?k ?m; (case a=>k_is); (case l=>k_is); (case c=>k_is); (case k=>k_is); (case m=>kernel_rfl))
  iterate 17 (refine' Cm.Xf ?a ?l ?c ?k; (case a=>k_is); (case l=>k_is); (case c=>k_is); (case k=>k_is))
  (case a0=>k_is); (case l0=>k_is); (case c0=>k_is); (case k0=>k_is)
  (case z1=>k_is); (case z2=>k_is); (case z3=>k_is); (case z4=>k_is); (case z5=>k_is); (case z6=>k_is); (case z7=>k_is); (case z8=>k_is); (case z9=>k_is); (case z10=>k_is); (case z11=>k_is); (case z12=>k_is); (case z13=>k_is); (case z14=>k_is); (case z15=>k_is); (case y_AGAINST=>k_is); (case y_ALONG=>k_is); (case nt=>kernel_rfl)
#print axioms PySem.Challenge.cw_causebook_k55_why_not_holds
