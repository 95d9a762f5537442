import PyProof.Rows.All
import Wide.All
import OpenK.AllK
import Wide.FinOn
import Lean
import PyProof.EqAt
import PyProof.EqKinds
import PyProof.TupleCall
import PySem.Challenge.RW_causebook_k38_downs_apart
set_option Elab.async false
set_option linter.all false
set_option maxRecDepth 100000
set_option genSizeOf false
local macro_rules | `(tactic| omega) => `(tactic| first | lia | omega (config := {}))
abbrev ζa:=PySem.W.Frag
abbrev ζb:=@List.length_map
abbrev ζc:=@List.getElem?_eq_some_iff
abbrev ζd:=@List.length_append
abbrev ζe:=@List.getD_eq_getElem?_getD
abbrev ζf:=@List.mem_singleton
abbrev ζg:=@List.mem_cons_self
abbrev ζh:=@PySem.Heap.get?_push_of_some
abbrev ζi:=@Nat.le_refl
abbrev ζj:=@List.mem_of_getElem?
abbrev ζk:=@List.mem_append_right
abbrev ζl:=@List.mem_cons_of_mem
abbrev ζm:=@List.getElem?_eq_getElem
abbrev ζn:=@List.map_append
abbrev ζo:=@List.mem_cons
abbrev ζp:=@List.mem_filter
abbrev ζq:=@PySem.Heap.lt_size
abbrev ζr:=@List.mem_map
abbrev ζs:=@List.mem_append
abbrev ζt:=@List.getElem?_set_self
abbrev ζu:=@PySem.F.plainAttrs_list
abbrev ζv:=@List.getElem?_set_ne
abbrev ζw:=@Bool.false_ne_true
abbrev ζx:=@Nat.lt_of_lt_of_le
abbrev ζy:=@List.length_range
abbrev ζz:=@List.mem_append_left
abbrev ζA:=@Nat.ne_of_lt
abbrev ζB:=@PySem.Heap.get?_push_size
abbrev ζC:=@List.nodup_cons
abbrev ζD:=@List.nodup_append
abbrev ζE:=@Nat.zero_le
abbrev ζF:=@List.length_filter_le
abbrev ζG:=@List.getElem?_map
abbrev ζH:=@Bool.and_eq_true_iff
abbrev ζI:=@Option.some.inj
abbrev ζJ:=@List.append_nil
abbrev ζK:=@List.mem_range
abbrev ζL:=@List.forall_mem_cons
abbrev ζM:=@List.take_of_length_le
abbrev ζN:=@List.map_cons
abbrev ζO:=@PySem.F.type_list_append
abbrev ζP:=@PySem.F.slot_list_append
abbrev ζQ:=@List.size_toArray
abbrev ζR:=@List.map_map
abbrev ζS:=@List.length_take
abbrev ζT:=@List.getElem?_take_of_lt
abbrev ζU:=@Nat.le_trans
abbrev ζV:=@Nat.not_lt_zero
abbrev ζW:=@List.reverse_cons
abbrev ζX:=@List.append_assoc
abbrev ζY:=@List.eq_nil_or_concat
abbrev ζZ:=@List.concat_eq_append
abbrev ζ0:=@Array.length_toList
abbrev ζ1:=@List.nodup_nil
abbrev ζ2:=@List.length_cons
abbrev ζ3:=@List.pairwise_cons
abbrev ζ4:=@List.drop_eq_getElem_cons
abbrev ζ5:=@Nat.lt_irrefl
abbrev ζ6:=@List.length_eq_zero_iff
abbrev ζ7:=@List.dropLast_concat
abbrev ζ8:=@List.filter_cons
abbrev ζ9:=@List.mem_iff_getElem?
abbrev ξa:=@List.getElem?_eq_none
abbrev ξb:=@Array.getElem?_toList
abbrev ξc:=@List.mem_reverse
abbrev ξd:=@List.length_drop
abbrev ξe:=@List.cons_append
abbrev ξf:=@Int.emod_nonneg
abbrev ξg:=@List.length_pos_of_mem
abbrev ξh:=@List.take_length
abbrev ξi:=@List.all_eq_true
abbrev ξj:=@PySem.F.slot_dict_get
abbrev ξk:=@List.take_append_drop
abbrev ξl:=@List.filter_append
abbrev ξm:=@Int.emod_lt_of_pos
abbrev ξn:=@PySem.Heap.get?_update_other
abbrev ξo:=@Option.isSome_iff_exists
abbrev ξp:=@List.mem_flatMap
abbrev ξq:=@List.any_eq_true
abbrev ξr:=@List.mem_filterMap
abbrev ξs:=@Nat.ne_of_gt
abbrev ξt:=@List.filter_nil
abbrev ξu:=@Nat.lt_succ_of_lt
abbrev ξv:=@List.pairwise_map
abbrev ξw:=@List.flatMap_cons
abbrev ξx:=@List.any_cons
abbrev ξy:=@Nat.pow_le_pow_right
abbrev ξz:=@List.reverse_reverse
abbrev ξA:=@List.mem_iff_getElem
abbrev ξB:=@List.getLastD_eq_getLast?
abbrev ξC:=@List.getElem?_append_left
abbrev ξD:=@List.lookup_cons
abbrev ξE:=@List.getElem_inj
abbrev ξF:=@Bool.and_eq_true
abbrev ξG:=@List.map_congr_left
abbrev ξH:=@List.getElem?_range
abbrev ξI:=@Nat.lt_or_eq_of_le
abbrev ξJ:=@List.getElem?_replicate
abbrev ξK:=@List.append_of_mem
abbrev ξL:=@PySem.F.entry_dict_get
abbrev ξM:=@Nat.lt_of_succ_lt_succ
abbrev ξN:=@List.pairwise_lt_range
abbrev ξO:=@List.length_dropLast
abbrev ξP:=@List.length_pos_iff
abbrev ξQ:=@List.filter_sublist
abbrev ξR:=@Bool.eq_iff_iff
abbrev ξS:=@Array.getD_eq_getD_getElem?
abbrev ξT:=@List.getElem?_append_right
abbrev ξU:=@Nat.lt_of_le_of_lt
abbrev ξV:=@Nat.le_of_lt
abbrev ξW:=@Nat.le_of_lt_succ
abbrev ξX:=@List.length_erase_of_mem
abbrev ξY:=@Bool.eq_false_iff
abbrev ξZ:=@PySem.F.plainAttrs_dict
abbrev ξ0:=@Option.bind_eq_some_iff
abbrev ξ1:=@List.filter_cons_of_pos
abbrev ξ2:=@List.filter_cons_of_neg
abbrev ξ3:=@Nat.lt_succ_self
abbrev ξ4:=@List.getElem_mem
abbrev ξ5:=@Option.map_eq_some_iff
abbrev ξ6:=@Option.map_some
abbrev ξ7:=@List.sum_append
abbrev ξ8:=@List.range_succ
abbrev ξ9:=@List.pairwise_reverse
namespace L2
open PySem PySem.Spec PyProof.Rows
abbrev Key:=Sum Int Str
def Yn:Key→Value→Bool
 | .inl k,v=>Value.isInt k v
 | .inr x,v=>Value.isStrOf x v
def keyH (w:World):Key→Int
 | .inl k=>hashInt k
 | .inr x=>hashStr w x
theorem yt:∀ {k:Key} {v:Value},Yn k v=true→(∃ i t,k=Sum.inl i∧v=Value.int i t)∨(∃ x t,k=Sum.inr x∧v=Value.str x t)
 | .inl i,v,h=>by
  obtain ⟨t,e⟩:=Value.isInt_shape (k:=i) (v:=v) h
  exact .inl ⟨i,t,rfl,e⟩
 | .inr x,v,h=>by
  obtain ⟨t,e⟩:=Value.isStrOf_shape (x:=x) (v:=v) h
  exact .inr ⟨x,t,rfl,e⟩
theorem U2 (i:Int) (t:Tok):Yn (.inl i) (.int i t)=true:=by simp [Yn,Value.isInt]
theorem U1 (x:Str) (t:Tok):Yn (.inr x) (.str x t)=true:=by simp [Yn,Value.isStrOf]
theorem zcU (a b:Int):decide ((Sum.inl a:Key)=Sum.inl b)=(a == b):=by
 by_cases e:a=b
 ·subst e; simp
 ·have h:¬ (Sum.inl a:Key)=Sum.inl b:=fun q=>e (Sum.inl.inj q)
  rw [decide_eq_false h]
  exact (beq_eq_false_iff_ne.mpr e).symm
theorem zcR (a b:Str):decide ((Sum.inr a:Key)=Sum.inr b)=decide (a=b):=by
 by_cases e:a=b
 ·subst e; simp
 ·have h:¬ (Sum.inr a:Key)=Sum.inr b:=fun q=>e (Sum.inr.inj q)
  rw [decide_eq_false h,decide_eq_false e]
theorem zcT (a:Int) (b:Str):decide ((Sum.inl a:Key)=Sum.inr b)=false:=decide_eq_false (fun q=>nomatch q)
theorem zcS (a:Str) (b:Int):decide ((Sum.inr a:Key)=Sum.inl b)=false:=decide_eq_false (fun q=>nomatch q)
def yh (prog:Program) (w:World):PySem.KeyKind prog w Key where
 is:=Yn
 hash:=keyH w
 inj:=fun v a b ha hb=>by
  rcases yt ha with ⟨i,t,rfl,rfl⟩ | ⟨x,t,rfl,rfl⟩
  ·rcases yt hb with ⟨j,u,rfl,e⟩ | ⟨y,u,rfl,e⟩
   ·injection e with e1 _; rw [e1]
   ·exact nomatch e
  ·rcases yt hb with ⟨j,u,rfl,e⟩ | ⟨y,u,rfl,e⟩
   ·exact nomatch e
   ·injection e with e1 _; rw [e1]
 byValue:=fun k v h=>by
  rcases yt h with ⟨i,t,rfl,rfl⟩ | ⟨x,t,rfl,rfl⟩ <;> rfl
 pyHash:=fun hv h=>by
  rcases yt hv with ⟨i,t,rfl,rfl⟩ | ⟨x,t,rfl,rfl⟩
  ·exact wpAny_pyHash_int h
  ·exact wpAny_pyHash_str h
 eqBool:=fun hu hv h=>by
  rcases yt hu with ⟨i,t,rfl,rfl⟩ | ⟨x,t,rfl,rfl⟩
  ·rcases yt hv with ⟨j,u,rfl,rfl⟩ | ⟨y,u,rfl,rfl⟩
   ·rw [zcU] at h; exact wpAny_eqBool_int h
   ·rw [zcT] at h; exact SeqAt.EqAt.int_str i t y u _ _ _ _ h
  ·rcases yt hv with ⟨j,u,rfl,rfl⟩ | ⟨y,u,rfl,rfl⟩
   ·rw [zcS] at h; exact SeqAt.EqAt.str_int x t j u _ _ _ _ h
   ·rw [zcR] at h; exact wpAny_eqBool_str h
 «strs»:=fun k x t v h=>by
  rcases yt h with ⟨i,u,rfl,e⟩ | ⟨y,u,rfl,e⟩
  ·exact nomatch e
  ·injection e with e1 _
   subst e1
   cases v <;> rfl
theorem Ws (prog:Program) (w:World) (i:Int) (t:Tok):(yh prog w).is (.inl i) (.int i t)=true:=U2 i t
theorem Wr (prog:Program) (w:World) (x:Str) (t:Tok):(yh prog w).is (.inr x) (.str x t)=true:=U1 x t
inductive V where
 | non | bl (b:Bool) | int (i:Int) | str (x:Str) | byt (b:Array UInt8) | flt (b:UInt64) | ref (a:Addr) | ty (n:String)
 deriving DecidableEq
def RelV:V→Value→Prop
 | .non,u=>u=Value.none
 | .bl b,u=>u=Value.bool b
 | .int i,u=>∃ t,u=Value.int i t
 | .str x,u=>∃ t,u=Value.str x t
 | .byt b,u=>∃ t,u=Value.bytes b t
 | .flt b,u=>∃ t,u=Value.float b t
 | .ref a,u=>u=Value.ref a
 | .ty n,u=>u=Value.type n
abbrev Vals:List V→List Value→Prop:=Paired RelV
theorem Vals.length {xs:List V} {us:List Value} (r:Vals xs us):xs.length=us.length:=Paired.length r
theorem Vals.get:∀ {xs:List V} {us:List Value} {i:Nat} {x:V},Vals xs us→xs[i]?=some x→∃ u,us[i]?=some u∧RelV x u
 | _,_,_,_,.nil,e=>by simp at e
 | _,_,0,_,.cons r _,e=>by simp at e; subst e; exact ⟨_,rfl,r⟩
 | _,_,i + 1,x,.cons _ t,e=>by
  obtain ⟨u,h1,h2⟩:=Vals.get (i:=i) (x:=x) t (by simpa using e)
  exact ⟨u,by simpa using h1,h2⟩
theorem Vals.set {x:V} {u:Value} (r:RelV x u):∀ {xs:List V} {us:List Value} (i:Nat),Vals xs us→Vals (xs.set i x) (us.set i u)
 | _,_,_,.nil=>.nil
 | _,_,0,.cons _ t=>.cons r t
 | _,_,i + 1,.cons q t=>.cons q (Vals.set r i t)
theorem Vals.append:∀ {xs ys:List V} {us ws:List Value},Vals xs us→Vals ys ws→Vals (xs ++ ys) (us ++ ws)
 | _,_,_,_,.nil,s=>s
 | _,_,_,_,.cons r t,s=>.cons r (Vals.append t s)
theorem Vals.take:∀ {xs:List V} {us:List Value} (n:Nat),Vals xs us→Vals (xs.take n) (us.take n)
 | _,_,0,_=>.nil
 | _,_,_ + 1,.nil=>.nil
 | _,_,n + 1,.cons r t=>.cons r (Vals.take n t)
theorem Vals.drop:∀ {xs:List V} {us:List Value} (n:Nat),Vals xs us→Vals (xs.drop n) (us.drop n)
 | _,_,0,r=>r
 | _,_,_ + 1,.nil=>.nil
 | _,_,n + 1,.cons _ t=>Vals.drop n t
def RelO:Option V→Option Value→Prop
 | some v,some u=>RelV v u
 | none,none=>True
 | _,_=>False
def KV {κ:Type}:List (κ×V)→List (κ×Value)→Prop:=Paired fun (p:κ×V) (q:κ×Value)=>p.1=q.1∧RelV p.2 q.2
def kV:Key→V
 | .inl i=>.int i
 | .inr x=>.str x
inductive HO where
 | lst (xs:List V)
 | tup (xs:List V)
 | dK (kvs:List (Key×V)) | dT (kvs:List (List Key×V))
 | set (S:Int→Bool) (n:Nat)
 | ins (C dx:Addr) (fs:List (Str×V))
 | own (x:Addr)
 | xd (fs:List (Str×V))
 | met (f x:Addr)
 | rng (lo hi:Int)
 | frz (o:Obj) (u:HO)
 | tbl (ps:Array Value)
 | ext (φ:Heap→Prop)
abbrev Hp:=Addr→Option HO
def upd (H:Hp) (a:Addr) (o:HO):Hp:=fun b=>if b=a then some o else H b
theorem zi {H:Hp} {a:Addr} {o:HO}:upd H a o a=some o:=by unfold upd; rw [if_pos rfl]
theorem zm {H:Hp} {a b:Addr} {o:HO} (h:b≠a):upd H a o b=H b:=by unfold upd; rw [if_neg h]
theorem Yi {H:Hp} {a b:Addr} {o u:HO} (h:H a=some o) (h':H b=some u) (d:o≠u):a≠b:=by
 intro e; subst e; rw [h] at h'; exact d (ζI h')
theorem zy {H:Hp} {a b:Addr} {o:HO} (h:H a=some o) (h':H b=none):a≠b:=by
 intro e; subst e; rw [h] at h'; cases h'
def tz (H:Hp) (b:Addr) (ys:List V):Prop:=H b=some (.tup ys)∨∃ o:Obj,(∀ v,o.data≠.cell v)∧H b=some (.frz o (.tup ys))
def tagQ (ps:Array Value):Str:=match (ps[0]?:Option Value) with | some (.str q _)=>q | _ => ""
section
variable (P:Program) (w:World)
def yk (H:Hp) (h:Heap) (a:Addr):HO→Prop
 | .lst xs=>xs.length≤sizeLine∧∃ (its:List Value) (n:Nat),Vals xs its∧h.get? a=some { cls:=.type "list", data:=.seq its.toArray n }
 | .tup xs=>xs.length≤sizeLine∧∃ its:List Value,Vals xs its∧IsTup h a its.toArray
 | .dK kvs=>kvs.length≤sizeLine∧(a == sysModules)=false∧∃ vs,KV kvs vs∧h.DictOf (yh P w) a vs
 | .dT kvs=>kvs.length≤sizeLine∧(a == sysModules)=false∧∃ xs:List (List Key×Addr×Value),
   Paired (fun (p:List Key×V) (q:List Key×Addr×Value)=>p.1=q.1∧tz H q.2.1 (p.1.map kV)∧RelV p.2 q.2.2) kvs xs ∧
   ∃ o es ep,h.get? a=some o∧o.ExactDict∧o.data=.dict es ep∧es.toList=xs.map (entryOfKey (tupleKind (yh P w)))∧(xs.map (·.1)).Nodup
 | .set S n=>h.SetOf (intKind P w) a S n
 | .ins C dx fs=>H dx=some (.own a)∧fs.length≤1000∧dx≠a∧h.get? a=some (PySem.W.instObj C dx) ∧
   ∃ mA,h.Ns1 dx mA∧(∀ f,RelO (fs.lookup f) (mA f))∧PySem.Within mA (fs.map (·.1))
 | .own _=>∃ o,h.get? a=some o
 | .xd fs=>∃ mA,h.Ns1 a mA∧∀ f,RelO (fs.lookup f) (mA f)
 | .rng lo hi=>∃ t u v,h.get? a=some { cls:=.type "range", data:=.fields #[.int lo t,.int hi u,.int 1 v] }
 | .frz o u=>h.get? a=some o∧yk H h a u
 | .tbl ps=>∃ vs:Array Value,h.get? a=some (PySem.W.tabObj vs)∧TriplesOk vs.toList∧∀ p v,codeAmong p vs.toList=some v→∃ b o fs t,v=.ref b∧H b=some (.frz o (.ext fun _=>True))∧o.data=.fields fs∧fs[1]?=some (.str (tagQ ps) t)
 | .met f x=>h.get? a=some (PySem.W.methodObj (.ref f) (.ref x))
 | .ext φ=>φ h∧(∃ o,h.get? a=some o)∧∀ h1 h2:Heap,φ h1→(∀ o,h1.get? a=some o→h2.get? a=some o)→φ h2
def HOk (H:Hp) (h:Heap):Prop:=∀ a o,H a=some o→yk P w H h a o
end
section
variable {P:Program} {w:World} {H H':Hp} {h h':Heap} {a:Addr} {o:HO}
theorem yk.lt (x:yk P w H h a o):a < h.objs.size:=by
 cases o with
 | lst xs=>obtain ⟨_,_,_,_,e⟩:=x; exact ζq e
 | tup xs=>obtain ⟨_,_,_,p⟩:=x; exact p.lt
 | dK kvs=>obtain ⟨_,_,_,_,o,_,_,e,_⟩:=x; exact ζq e
 | dT kvs=>obtain ⟨_,_,_,_,o,_,_,e,_⟩:=x; exact ζq e
 | set S n=>obtain ⟨o,_,_,_,e,_⟩:=x; exact ζq e
 | ins C dx fs=>obtain ⟨_,_,_,e,_⟩:=x; exact ζq e
 | own y=>obtain ⟨_,e⟩:=x; exact ζq e
 | xd fs=>obtain ⟨_,⟨_,_,_,e,_⟩,_⟩:=x; exact ζq e
 | rng lo hi=>obtain ⟨_,_,_,e⟩:=x; exact ζq e
 | frz ob u=>obtain ⟨e,_⟩:=x; exact ζq e
 | tbl ps=>obtain ⟨_,e,_⟩:=x; exact ζq e
 | met f y=>exact ζq (show h.get? a=some _ from x)
 | ext φ=>obtain ⟨_,⟨_,e⟩,_⟩:=x; exact ζq e
theorem Paired.mapP {α β:Type} {F G:α→β→Prop}:∀ {l₁:List α} {l₂:List β},Paired F l₁ l₂→(∀ a b,F a b→G a b)→Paired G l₁ l₂
 | _,_,.nil,_=>.nil
 | _,_,.cons r t,f=>.cons (f _ _ r) (Paired.mapP t f)
theorem yk.stay (x:yk P w H h a o) (k:∀ b u,(b=a∨H b=some (.own a))→h.get? b=some u→h'.get? b=some u)
  (ho:∀ b,H b=some (.own a)→H' b=some (.own a)) (ht:∀ b xs,H b=some (.tup xs)→H' b=some (.tup xs))
  (hc:∀ b o u,H b=some (.frz o u)→(∀ v,o.data≠.cell v)→H' b=some (.frz o u):=by first | exact fun _ _ _ q _=>q | (intro b o u z _; rw [zm (zy z (by assumption))]; exact z) | (intro b o u z _; rw [zm (fun e=>by subst e; simp_all [Mut])]; exact z)):yk P w H' h' a o:=by
 induction o with
 | lst xs=>obtain ⟨z,its,n,r,e⟩:=x; exact ⟨z,its,n,r,k _ _ (.inl rfl) e⟩
 | tup xs=>obtain ⟨z,its,r,ob,e,c⟩:=x; exact ⟨z,its,r,ob,k _ _ (.inl rfl) e,c⟩
 | dK kvs=>obtain ⟨z,y,vs,r,ob,es,ep,e,c⟩:=x; exact ⟨z,y,vs,r,ob,es,ep,k _ _ (.inl rfl) e,c⟩
 | dT kvs =>
  obtain ⟨z,y,xs,r,ob,es,ep,e,c⟩:=x
  exact ⟨z,y,xs,Paired.mapP r fun p q z=>⟨z.1,z.2.1.imp (ht _ _) fun ⟨o,n,y⟩=>⟨o,n,hc _ _ _ y n⟩,z.2.2⟩,ob,es,ep,k _ _ (.inl rfl) e,c⟩
 | set S n=>obtain ⟨ob,es,ep,t,e,c⟩:=x; exact ⟨ob,es,ep,t,k _ _ (.inl rfl) e,c⟩
 | ins C dx fs =>
  obtain ⟨d,z,ne,e,mA,⟨od,es,ep,e2,c⟩,r⟩:=x
  exact ⟨ho _ d,z,ne,k _ _ (.inl rfl) e,mA,⟨od,es,ep,k _ _ (.inr d) e2,c⟩,r⟩
 | own y=>obtain ⟨ob,e⟩:=x; exact ⟨ob,k _ _ (.inl rfl) e⟩
 | xd fs=>obtain ⟨mA,⟨od,es,ep,e,c⟩,r⟩:=x; exact ⟨mA,⟨od,es,ep,k _ _ (.inl rfl) e,c⟩,r⟩
 | rng lo hi=>obtain ⟨t,u,v,e⟩:=x; exact ⟨t,u,v,k _ _ (.inl rfl) e⟩
 | frz ob u ih=>obtain ⟨e,q⟩:=x; exact ⟨k _ _ (.inl rfl) e,ih q⟩
 | tbl ps=>obtain ⟨vs,e,t,z⟩:=x; exact ⟨vs,k _ _ (.inl rfl) e,t,fun p v y=>let ⟨b,o,fs,t,e1,e2,e3⟩:=z p v y; ⟨b,o,fs,t,e1,hc _ _ _ e2 (fun v y=>by rw [e3.1] at y; cases y),e3⟩⟩
 | met f y =>
  have e:h.get? a=some (PySem.W.methodObj (.ref f) (.ref y)):=x
  show h'.get? a=some (PySem.W.methodObj (.ref f) (.ref y))
  exact k a _ (.inl rfl) e
 | ext φ=>obtain ⟨p,⟨o,e⟩,st⟩:=x; exact ⟨st _ _ p fun o q=>k _ _ (.inl rfl) q,⟨o,k _ _ (.inl rfl) e⟩,st⟩
theorem HOk.lt (x:HOk P w H h) (e:H a=some o):a < h.objs.size:=(x a o e).lt
theorem HOk.fresh (x:HOk P w H h) (e:h.objs.size≤a):H a=none:=by
 cases q:H a with
 | none=>rfl
 | some u=>exact absurd (ζx (x.lt q) e) (ζ5 _)
theorem HOk.kept (x:HOk P w H h) (k:∀ b u,h.get? b=some u→h'.get? b=some u):HOk P w H h':=fun a o e =>
 (x a o e).stay (fun b u _ q=>k b u q) (fun _ q=>q) fun _ _ q=>q
theorem HOk.laid (x:HOk P w H h) (k:∀ b u,h.get? b=some u→h'.get? b=some u) (hp:h.objs.size≤a) (new:yk P w (upd H a o) h' a o):HOk P w (upd H a o) h':=fun b u e=>by
 have hn:=x.fresh hp
 by_cases hb:b=a
 ·subst hb; rw [zi] at e; cases e; exact new
 ·rw [zm hb] at e
  exact (x b u e).stay (fun c v _ q=>k c v q) (fun c q=>by rw [zm (zy q hn)]; exact q) fun c xs q=>by rw [zm (zy q hn)]; exact q
end
def Rd (H:Hp) (a:Addr) (u:HO):Prop:=H a=some u∨∃ o,H a=some (.frz o u)
theorem Rd.ok {P:Program} {w:World} {H:Hp} {h:Heap} {a:Addr} {u:HO} (r:Rd H a u) (x:HOk P w H h):yk P w H h a u:=by
 rcases r with r | ⟨o,r⟩
 ·exact x a u r
 ·obtain ⟨_,q⟩:=x a _ r
  exact q
def Mut:Option HO→Prop
 | some (.lst _)=>True
 | some (.dK _)=>True
 | some (.dT _)=>True
 | some (.set _ _)=>True
 | some (.ins _ _ _)=>True
 | some (.ext _)=>True
 | _=>False
section
variable {P:Program} {w:World} {H:Hp} {h h':Heap} {x e:Addr} {o':HO}
theorem HOk.write (ok:HOk P w H h) (mu:Mut (H x)) (he:e=x∨H e=some (.own x)) (k:∀ b u,b≠e→h.get? b=some u→h'.get? b=some u) (heo:∃ u,h'.get? e=some u)
  (new:yk P w (upd H x o') h' x o'):HOk P w (upd H x o') h':=fun b u q=>by
 have nown:∀ c y,H c=some (.own y)→c≠x:=fun c y r z=>by subst z; rw [r] at mu; exact mu
 have ntup:∀ c xs,H c=some (.tup xs)→c≠x:=fun c xs r z=>by subst z; rw [r] at mu; exact mu
 by_cases hb:b=x
 ·subst hb; rw [zi] at q; cases q; exact new
 ·rw [zm hb] at q
  by_cases hbe:b=e
  ·have q':H b=some (.own x):=by
    rcases he with z | z
    ·exact absurd (hbe.trans z) hb
    ·rw [hbe]; exact z
   rw [q] at q'; cases q'
   obtain ⟨v,hv⟩:=heo
   exact ⟨v,by rw [hbe]; exact hv⟩
  ·refine (ok b u q).stay (fun c v hc r=>k c v ?_ r) (fun c r=>by rw [zm (nown c b r)]; exact r) fun c xs r=>by rw [zm (ntup c xs r)]; exact r
   rcases hc with rfl | hc
   ·exact hbe
   ·rintro rfl
    rcases he with z | z
    ·exact nown c b hc z
    ·rw [hc] at z; cases z; exact hb rfl
end
structure Un (fs ex:List Addr) (H H':Hp) (h h':Heap):Prop where
 keep:∀ b o,h.get? b=some o→H b=none→b∉fs→b∉ex→h'.get? b=some o
 slot:∀ b o,h.get? b=some o→H b=none→b∈fs→b∉ex→∃ sl,h'.get? b=some { o with slots:=sl }
 free:∀ b o,h.get? b=some o→H b=none→b∉ex→H' b=none
 there:∀ b o,h.get? b=some o→b∉ex→∃ o',h'.get? b=some o'
 tups:∀ b xs,H b=some (.tup xs)→H' b=some (.tup xs)
 frzs:∀ b o u,H b=some (.frz o u)→H' b=some (.frz o u)
 tbls:∀ b ps,H b=some (.tbl ps)→∃ more,H' b=some (.tbl (ps ++ more))
section
variable {fs fs' ex ex':List Addr} {H H1 H2:Hp} {h h1 h2 h':Heap} {a x e:Addr} {o:HO}
theorem Un.any (u:Un fs ex H H1 h h1) {b:Addr} {ob:Obj} (q:h.get? b=some ob) (n:H b=none) (hx:b∉ex):∃ sl,h1.get? b=some { ob with slots:=sl }:=by
 by_cases hb:b∈fs
 ·exact u.slot b ob q n hb hx
 ·exact ⟨ob.slots,u.keep b ob q n hb hx⟩
theorem Un.trans (a:Un fs ex H H1 h h1) (b:Un fs ex H1 H2 h1 h2):Un fs ex H H2 h h2 where
 keep:=fun c ob q n hc hx=>b.keep c ob (a.keep c ob q n hc hx) (a.free c ob q n hx) hc hx
 slot:=fun c ob q n hc hx=>by
  obtain ⟨sl,e1⟩:=a.slot c ob q n hc hx
  obtain ⟨sl',e2⟩:=b.slot c _ e1 (a.free c ob q n hx) hc hx
  exact ⟨sl',e2⟩
 free:=fun c ob q n hx=>by
  obtain ⟨o',e1⟩:=a.there c ob q hx
  exact b.free c o' e1 (a.free c ob q n hx) hx
 there:=fun c ob q hx=>by
  obtain ⟨o',e1⟩:=a.there c ob q hx
  exact b.there c o' e1 hx
 tups:=fun c xs q=>b.tups c xs (a.tups c xs q)
 frzs:=fun c ob xs q=>b.frzs c ob xs (a.frzs c ob xs q)
 tbls:=fun c ps q=>by
  obtain ⟨m1,e1⟩:=a.tbls c ps q
  obtain ⟨m2,e2⟩:=b.tbls c _ e1
  exact ⟨m1 ++ m2,by rw [e2,Array.append_assoc]⟩
theorem Un.kept (k:∀ b u,h.get? b=some u→h'.get? b=some u):Un fs ex H H h h' :=
 ⟨fun b ob q _ _ _=>k b ob q,fun b ob q _ _ _=>⟨ob.slots,k b ob q⟩,fun _ _ _ n _=>n,fun b ob q _=>⟨ob,k b ob q⟩,fun _ _ q=>q,fun _ _ _ q=>q,fun _ ps q=>⟨#[],by rw [q]; simp⟩⟩
theorem Un.refl:Un fs ex H H h h:=Un.kept fun _ _ q=>q
theorem Un.laid (k:∀ b u,h.get? b=some u→h'.get? b=some u) (hp:h.objs.size≤a) (hn:H a=none):Un fs ex H (upd H a o) h h' where
 keep:=fun b u q _ _ _=>k b u q
 slot:=fun b u q _ _ _=>⟨u.slots,k b u q⟩
 free:=fun b u q n _=>by rw [zm (ζA (ζx (ζq q) hp))]; exact n
 there:=fun b u q _=>⟨u,k b u q⟩
 tups:=fun b xs q=>by rw [zm (zy q hn)]; exact q
 frzs:=fun b u xs q=>by rw [zm (zy q hn)]; exact q
 tbls:=fun b ps q=>⟨#[],by rw [zm (zy q hn),q]; simp⟩
theorem Un.write (mu:Mut (H x)) (he:e=x∨H e=some (.own x)) (k:∀ b u,b≠e→h.get? b=some u→h'.get? b=some u) (heo:∃ u,h'.get? e=some u):Un fs ex H (upd H x o) h h':=by
 have hx:∀ b,H b=none→b≠x:=fun b n z=>by subst z; rw [n] at mu; exact mu
 have hb:∀ b,H b=none→b≠e:=fun b n z=>by
  subst z
  rcases he with r | r
  ·exact hx b n r
  ·rw [n] at r; cases r
 have hm:∀ b u,H b=some u→¬ Mut (some u)→b≠x:=fun b u q nm z=>by subst z; rw [q] at mu; exact nm mu
 refine ⟨fun b u q n _ _=>k b u (hb b n) q,fun b u q n _ _=>⟨u.slots,k b u (hb b n) q⟩,fun b u q n _=>by rw [zm (hx b n)]; exact n,fun b u q _=>?_,
  fun b xs q=>by rw [zm (hm b _ q fun z=>z)]; exact q,fun b u xs q=>by rw [zm (hm b _ q fun z=>z)]; exact q,fun b ps q=>⟨#[],by rw [zm (hm b _ q fun z=>z),q]; simp⟩⟩
 by_cases hbe:b=e
 ·subst hbe; exact heo
 ·exact ⟨u,k b u hbe q⟩
theorem Un.mono (u:Un fs ex H H1 h h1) (hs:∀ b∈fs,b∈fs') (hx:∀ b∈ex,b∈ex'):Un fs' ex' H H1 h h1 :=
 ⟨fun b ob q n hb he=>u.keep b ob q n (fun z=>hb (hs b z)) fun z=>he (hx b z),fun _ _ q n _ he=>u.any q n fun z=>he (hx _ z),fun b ob q n he=>u.free b ob q n fun z=>he (hx b z),fun b ob q he=>u.there b ob q fun z=>he (hx b z),u.tups,u.frzs,u.tbls⟩
end
def trk (h:Heap) (H:Hp):List Addr:=(List.range h.objs.size).filter fun a=>(H a).isSome
def hidT (h:Heap) (H:Hp):Heap:=PySem.W.hideAll h (trk h H)
theorem U4 (h:Heap) (H:Hp):(hidT h H).objs.size=h.objs.size:=PySem.W.hideAll_size _ _
theorem QY {h:Heap} {H:Hp} {b:Addr} {o:Obj} (e:h.get? b=some o) (n:H b=none):(hidT h H).get? b=some o :=
 PySem.W.hideAll_get _ e fun hm=>by
  have q:(H b).isSome=true:=(ζp.mp hm).2
  rw [n] at q; simp at q
theorem za6 {h:Heap} {H:Hp} {b:Addr} {o:Obj} (e:(hidT h H).get? b=some o):h.get? b=some o∧H b=none:=by
 have e':h.get? b=some o:=PySem.W.of_hideAll (trk h H) e
 refine ⟨e',?_⟩
 cases q:H b with
 | none=>rfl
 | some x =>
  have hm:b∈trk h H:=List.mem_filter.mpr ⟨List.mem_range.mpr (Heap.lt_size e'),by simp [q]⟩
  have z:(hidT h H).get? b=none:=PySem.W.hideAll_none (trk h H) hm
  rw [z] at e; cases e
def zbH (g h:Heap) (L:Addr):List (Addr×Obj):=(List.range h.objs.size).filterMap fun a=>if a=L∨(g.get? a).isSome=true then none else (h.get? a).map fun o=>(a,o)
def rest (g h:Heap) (L d:Addr):List (Addr×Obj):=(zbH g h L).filter fun p=>decide (p.1≠d)
def QT:List Str:=["above", "beneath", "above_in", "clumps", "reach", "least_parting", "least_set", "why_not"]
def Tx (o:Obj):Option (Addr×Str):=match o.cls,o.data with
 | .type "code", .fields vs=>(match (vs[1]?:Option Value),(vs[11]?:Option Value) with
  | some (.str q _),some (.ref P)=>if QT.contains q then some (P,q ++ ".<locals>.<lambda>") else none
  | _,_=>none)
 | _,_=>none
def yn (K:ζa):List (Addr×Str):=K.filterMap fun p=>(K.lookup p.1).bind Tx
def YG (K:ζa):Bool:=(yn K).all fun p=>(K.lookup p.1).isNone && (yn K).all fun q=>decide (p.1=q.1→p.2=q.2)
def TbOk (K:ζa) (H:Hp):Prop:=∀ p∈yn K,∃ t more,H p.1=some (.tbl (#[.str p.2 t] ++ more))
theorem TbOk.un {K:ζa} {fs ex:List Addr} {H H':Hp} {h h':Heap} (t:TbOk K H) (u:Un fs ex H H' h h'):TbOk K H':=fun p hp=>by
 obtain ⟨k,m,e⟩:=t p hp
 obtain ⟨m',e'⟩:=u.tbls _ _ e
 exact ⟨k,m ++ m',by rw [e',Array.append_assoc]⟩
structure Mod (K:ζa) (mg:Str→Option Value) (base:Heap):Prop where
 kin:K.In base
 glob:base.Ns mainGlobals mg
 blt:∃ mb,base.Ns builtinsNs mb∧∀ x:Str,x ≠ "__name__" → mb x=bootBuiltins x
 nolimit:base.NoLimit
 bm:∃ bm ob,mg "__builtins__" = some (.ref bm)∧bm≠builtinsNs∧base.get? bm=some ob∧ob.cls=.type "module" ∧ ob.dict=some builtinsNs∧ob.data=.plain
structure Cx where
 prog:Program
 w:World
 K:ζa
 mg:Str→Option Value
 base:Heap
 A:Around
 N:List Str
 s₀:Shared
 H₀:Hp
 env:Env
 outer:List Env
 stack:List Env
 ex:List Addr
 fn:Str→Bool
 calm:Bool
 pn:List (Addr×Obj)
 xe:Value→Shared→Prop
def frs (l:List Env):List Addr:=l.filterMap (·.frame)
abbrev Cx.fs (X:Cx):List Addr:=frs X.outer
def Vis (sc:Scope) (x:Str):Prop:=sc.names.lookup x=some .local∨sc.names.lookup x=some .cell∨sc.names.lookup x=some .free
def Loc (sc:Scope) (x:Str):Prop:=sc.names.lookup x=some .local∨sc.names.lookup x=some .cell
def Look (env:Env) (h:Heap) (m:Str→Option Value) (x:Str) (u:Value):Prop :=
 (env.kindOf x=some .local∧m x=some u)∨((env.kindOf x=some .cell∨env.kindOf x=some .free)∧∃ c,env.cells.lookup x=some c∧h.IsCell c (some u))
structure Cx.Ok (X:Cx):Prop where
 mod:Mod X.K X.mg X.base
 kind:X.env.scope.kind=.function
 glob:X.env.globals=mainGlobals
 blt:X.env.builtins=builtinsNs
 above:X.s₀.heap.objs.size≤X.env.locals
 inj:∀ x y c,X.env.cells.lookup x=some c→X.env.cells.lookup y=some c→x=y
 has:∀ x,(X.env.kindOf x=some .cell∨X.env.kindOf x=some .free)→∃ c,X.env.cells.lookup x=some c
 cab:∀ x c,X.fn x=true→X.env.cells.lookup x=some c→X.s₀.heap.objs.size≤c
 hd:X.calm=true→X.A.handled=none
 frames:X.A.frames=some X.stack
 stk:X.stack=X.outer∨(X.stack=X.env :: X.outer∧X.env.frame=some X.env.locals)
 exf:∀ b∈X.ex,b≠X.env.locals∧∀ x c,X.env.cells.lookup x=some c→c≠b
 bs:∀ b o,X.base.get? b=some o→X.s₀.heap.get? b=some o∧X.H₀ b=none
 bsz:X.base.objs.size≤X.s₀.heap.objs.size
 noex:∀ b o,X.base.get? b=some o→b∉X.ex
 exfs:∀ b∈X.ex,b∉X.fs
 funs:X.s₀.heap.FunFrames X.base X.outer
 frf:∀ b∈X.fs,X.H₀ b=none
 tb:TbOk X.K X.H₀
structure Inv (X:Cx) (pins:List (Addr×Obj)) (σ:List (Option V)) (H:Hp) (s:Shared):Prop where
 ok:X.Ok
 os:s.os=X.s₀.os
 bare:AllBare s.gens
 base:Un X.fs X.ex X.H₀ H X.s₀.heap s.heap
 loc:∃ m,s.heap.Ns X.env.locals m∧∀ (i:Nat) (x:Str) (v:V),X.N[i]?=some x→σ[i]?=some (some v)→Vis X.env.scope x→∃ u,RelV v u∧Look X.env s.heap m x u
 cell:∀ x c,X.env.cells.lookup x=some c→∃ v,s.heap.IsCell c v
 free:H X.env.locals=none
 freeC:∀ x c,X.env.cells.lookup x=some c→H c=none∨X.fn x=false∧∃ o u,H c=some (.frz o u)
 pin:∀ p∈X.pn ++ pins,s.heap.get? p.1=some p.2∧H p.1=none∧p.1≠X.env.locals∧p.1∉X.fs∧∀ v,p.2.data≠.cell v
 hok:HOk X.prog X.w H s.heap
 len:σ.length=X.N.length
section
variable {X:Cx} {pins:List (Addr×Obj)} {σ:List (Option V)} {H H':Hp} {s:Shared} {h':Heap}
theorem Cx.Ok.nofr (ok:X.Ok) {b:Addr} {o:Obj} (e:X.base.get? b=some o):b∉X.fs:=fun hb=>by
 have:=(ok.funs.mem hb).1
 rw [e] at this; cases this
theorem Inv.bs (I:Inv X pins σ H s):∀ b o,X.base.get? b=some o→s.heap.get? b=some o∧H b=none:=fun b o e =>
 ⟨I.base.keep b o (I.ok.bs b o e).1 (I.ok.bs b o e).2 (I.ok.nofr e) (I.ok.noex b o e),I.base.free b o (I.ok.bs b o e).1 (I.ok.bs b o e).2 (I.ok.noex b o e)⟩
theorem Inv.bk (I:Inv X pins σ H s):∀ b o,X.base.get? b=some o→s.heap.get? b=some o:=fun b o e=>(I.bs b o e).1
theorem Inv.mod (I:Inv X pins σ H s):Mod X.K X.mg X.base:=I.ok.mod
theorem Inv.kIn (I:Inv X pins σ H s):X.K.In s.heap:=I.ok.mod.kin.keeps I.bk
theorem Inv.fr (I:Inv X pins σ H s):∃ m,Fr X.base X.env.locals s.heap m :=
 let ⟨m,hn,_⟩:=I.loc
 ⟨m,hn,I.bk,ζU I.ok.bsz I.ok.above⟩
theorem Inv.lt (I:Inv X pins σ H s):X.env.locals < s.heap.objs.size:=let ⟨_,hn,_⟩:=I.loc; hn.lt
theorem Inv.sz (I:Inv X pins σ H s):X.s₀.heap.objs.size≤s.heap.objs.size:=ζU I.ok.above (ξV I.lt)
theorem Inv.nofs (I:Inv X pins σ H s) {a:Addr} (h:s.heap.objs.size≤a):a∉X.fs:=fun hb=>by
 obtain ⟨_,o,ho,_⟩:=I.ok.funs.mem hb
 exact absurd (ζx (ζq ho) (ζU I.sz h)) (ζ5 _)
theorem Inv.cne (I:Inv X pins σ H s):∀ x c,X.env.cells.lookup x=some c→c≠X.env.locals:=fun x c e z=>by
 obtain ⟨v,o,ho,hd⟩:=I.cell x c e
 obtain ⟨m,⟨o',es,ep,ho',hd',_⟩,_⟩:=I.loc
 rw [z,ho'] at ho; cases ho; rw [hd'] at hd; cases hd
theorem Inv.funs (I:Inv X pins σ H s):s.heap.FunFrames X.base X.outer:=by
 have all:∀ (l:List Env),(∀ b∈frs l,b∈X.fs)→X.s₀.heap.FunFrames X.base l→s.heap.FunFrames X.base l:=by
  intro l
  induction l with
  | nil=>intro _ _; trivial
  | cons env r ih =>
   intro hs hl
   obtain ⟨hk,⟨L,o,hf,hn,ho,hd⟩,hr⟩:=hl
   have hL:L∈X.fs:=hs L (by unfold frs; rw [List.filterMap_cons,hf]; exact List.mem_cons_self)
   obtain ⟨sl,e⟩:=I.base.slot L o ho (I.ok.frf L hL) hL fun z=>I.ok.exfs L z hL
   exact ⟨hk,⟨L,_,hf,hn,e,hd⟩,ih (fun b hb=>hs b (by unfold frs; rw [List.filterMap_cons,hf]; exact List.mem_cons_of_mem _ hb)) hr⟩
 exact all X.outer (fun _ hb=>hb) I.ok.funs
theorem Inv.stack (I:Inv X pins σ H s):s.heap.FunFrames X.base X.stack:=by
 rcases I.ok.stk with e | ⟨e,hf⟩
 ·rw [e]; exact I.funs
 ·rw [e]
  obtain ⟨m,hn,_⟩:=I.loc
  refine .cons (by rw [I.ok.kind]; decide) hf hn ?_ I.funs
  exact Heap.get?_none_of_le (ζU I.ok.bsz I.ok.above)
theorem Inv.stkSub (I:Inv X pins σ H s):∀ b∈frs X.stack,b∈X.env.locals :: X.fs:=fun b hb=>by
 rcases I.ok.stk with e | ⟨e,hf⟩
 ·rw [e] at hb; exact ζl _ hb
 ·rw [e] at hb
  unfold frs at hb
  rw [List.filterMap_cons,hf] at hb
  exact hb
theorem Inv.stkFree (I:Inv X pins σ H s):∀ b∈frs X.stack,H b=none:=fun b hb=>by
 rcases ζo.mp (I.stkSub b hb) with e | hb
 ·rw [e]; exact I.free
 ·obtain ⟨_,o,ho,_⟩:=I.ok.funs.mem hb
  exact I.base.free b o ho (I.ok.frf b hb) fun z=>I.ok.exfs b z hb
theorem Inv.step {g':Array GenState} {t':Nat} {d':Drawn} {ch:List Addr} (I:Inv X pins σ H s)
  (hch:∀ b∈ch,(b∈X.ex∨X.s₀.heap.objs.size≤b)∧b≠X.env.locals∧(∀ x c,X.env.cells.lookup x=some c→c≠b)∧∀ p∈X.pn ++ pins,p.1≠b)
  (keep:∀ b o,b≠X.env.locals→b∉X.fs→b∉ch→s.heap.get? b=some o→H b=none→h'.get? b=some o)
  (slot:∀ b o,b≠X.env.locals→b∈X.fs→b∉ch→s.heap.get? b=some o→H b=none→∃ sl,h'.get? b=some { o with slots:=sl }) (free:∀ b o,b∉ch→s.heap.get? b=some o→H b=none→H' b=none)
  (there:∀ b o,b∉ch→s.heap.get? b=some o→∃ o',h'.get? b=some o')
  (tups:∀ b xs,H b=some (.tup xs)→H' b=some (.tup xs)) (frzs:∀ b o u,H b=some (.frz o u)→H' b=some (.frz o u)) (tbls:∀ b ps,H b=some (.tbl ps)→∃ more,H' b=some (.tbl (ps ++ more)))
  (ns:∀ m,s.heap.Ns X.env.locals m→h'.Ns X.env.locals m) (hok:HOk X.prog X.w H' h') (hg:AllBare g') :
  Inv X pins σ H' { s with heap:=h',gens:=g',drawn:=d',toks:=t' }:=by
 have neL:∀ b o,X.s₀.heap.get? b=some o→b≠X.env.locals:=fun b o e=>ζA (ζx (ζq e) I.ok.above)
 have neC:∀ b o,X.s₀.heap.get? b=some o→b∉X.ex→b∉ch:=fun b o e hx hb=>by
  rcases (hch b hb).1 with z | z
  ·exact hx z
  ·exact absurd (ζx (ζq e) z) (ζ5 _)
 have cellK:∀ x c,X.env.cells.lookup x=some c→∀ v,s.heap.IsCell c v→h'.IsCell c v:=fun x c e v ⟨o,ho,hd⟩=>by
  have nch:c∉ch:=fun z=>(hch c z).2.2.1 x c e rfl
  rcases I.freeC x c e with hn | ⟨_,o1,u1,hn⟩
  ·by_cases hc:c∈X.fs
   ·obtain ⟨sl,q⟩:=slot c o (I.cne x c e) hc nch ho hn
    exact ⟨_,q,hd⟩
   ·exact ⟨o,keep c o (I.cne x c e) hc nch ho hn,hd⟩
  ·have q1:=(I.hok c _ hn).1
   rw [ho] at q1
   cases q1
   exact ⟨o,(hok c _ (frzs c _ _ hn)).1,hd⟩
 refine ⟨I.ok,I.os,hg,⟨fun b o e n hb hx=>?_,fun b o e n hb hx=>?_,fun b o e n hx=>?_,fun b o e hx=>?_,fun b xs e=>tups b xs (I.base.tups b xs e),fun b o xs e=>frzs b o xs (I.base.frzs b o xs e),fun b ps e=>?_⟩,?_,fun x c e=>?_,?_,fun x c e=>?_,fun p hp=>?_,hok,I.len⟩
 ·exact keep b o (neL b o e) hb (neC b o e hx) (I.base.keep b o e n hb hx) (I.base.free b o e n hx)
 ·obtain ⟨sl,e1⟩:=I.base.slot b o e n hb hx
  obtain ⟨sl',e2⟩:=slot b _ (neL b o e) hb (neC b o e hx) e1 (I.base.free b o e n hx)
  exact ⟨sl',e2⟩
 ·obtain ⟨o',e1⟩:=I.base.there b o e hx
  exact free b o' (neC b o e hx) e1 (I.base.free b o e n hx)
 ·obtain ⟨o',e1⟩:=I.base.there b o e hx
  exact there b o' (neC b o e hx) e1
 ·obtain ⟨m1,e1⟩:=I.base.tbls b ps e
  obtain ⟨m2,e2⟩:=tbls b _ e1
  exact ⟨m1 ++ m2,by rw [e2,Array.append_assoc]⟩
 ·obtain ⟨m,hn,hl⟩:=I.loc
  refine ⟨m,ns m hn,fun i x v e1 e2 e3=>?_⟩
  obtain ⟨u,r,l⟩:=hl i x v e1 e2 e3
  refine ⟨u,r,?_⟩
  rcases l with l | ⟨k,c,e,z⟩
  ·exact .inl l
  ·exact .inr ⟨k,c,e,cellK x c e _ z⟩
 ·obtain ⟨v,z⟩:=I.cell x c e
  exact ⟨v,cellK x c e v z⟩
 ·obtain ⟨m,⟨o,_,_,ho,_⟩,_⟩:=I.loc
  exact free _ o (fun z=>(hch _ z).2.1 rfl) ho I.free
 ·obtain ⟨v,o,ho,hd⟩:=I.cell x c e
  exact (I.freeC x c e).elim (fun n=>.inl (free c o (fun z=>(hch c z).2.2.1 x c e rfl) ho n)) fun ⟨y1,o1,u1,y2⟩=>.inr ⟨y1,o1,u1,frzs c o1 u1 y2⟩
 ·obtain ⟨e,n,ne,nf,d⟩:=I.pin p hp
  have nch:p.1∉ch:=fun z=>(hch p.1 z).2.2.2 p hp rfl
  exact ⟨keep p.1 p.2 ne nf nch e n,free p.1 p.2 nch e n,ne,nf,d⟩
theorem Inv.un {t':Nat} (I:Inv X pins σ H s) (u:Un X.fs [] H H' s.heap h') (hok:HOk X.prog X.w H' h'):Inv X pins σ H' { s with heap:=h',toks:=t' }:=by
 obtain ⟨m,⟨o,es,ep,ho,r⟩,_⟩:=id I.loc
 obtain ⟨sl,hL⟩:=u.any ho I.free (by simp)
 exact I.step (g':=s.gens) (d':=s.drawn) (ch:=[]) (fun _ z=>nomatch z) (fun b o _ hb _ e n=>u.keep b o e n hb (by simp)) (fun b o _ hb _ e n=>u.slot b o e n hb (by simp)) (fun b o _ e n=>u.free b o e n (by simp)) (fun b o _ e=>u.there b o e (by simp)) u.tups u.frzs u.tbls (fun m' hm=>by
  obtain ⟨o',es',ep',ho',r'⟩:=hm
  rw [ho] at ho'; cases ho'
  exact ⟨_,es',ep',hL,r'⟩) hok I.bare
theorem Inv.call {g':Array GenState} {t':Nat} {d':Drawn} {ch:List Addr} (I:Inv X pins σ H s) (u:Un (frs X.stack) ch H H' s.heap h') (hok:HOk X.prog X.w H' h') (hg:AllBare g')
  (hch:∀ b∈ch,(b∈X.ex∨X.s₀.heap.objs.size≤b)∧b≠X.env.locals∧(∀ x c,X.env.cells.lookup x=some c→c≠b)∧∀ p∈X.pn ++ pins,p.1≠b) :
  Inv X pins σ H' { s with heap:=h',gens:=g',drawn:=d',toks:=t' }:=by
 obtain ⟨m,⟨o,es,ep,ho,r⟩,_⟩:=id I.loc
 obtain ⟨sl,hL⟩:=u.any ho I.free fun z=>(hch _ z).2.1 rfl
 exact I.step (ch:=ch) hch (fun b o hL hb hc e n=>u.keep b o e n (fun z=>(ζo.mp (I.stkSub b z)).elim hL hb) hc) (fun b o _ _ hc e n=>u.any e n hc) (fun b o hc e n=>u.free b o e n hc) (fun b o hc e=>u.there b o e hc) u.tups u.frzs u.tbls (fun m' hm=>by
  obtain ⟨o',es',ep',ho',r'⟩:=hm
  rw [ho] at ho'; cases ho'
  exact ⟨_,es',ep',hL,r'⟩) hok hg
theorem Inv.turned {t':Nat} {it:Addr} (I:Inv X pins σ H s) (k:∀ b o,b≠it→s.heap.get? b=some o→h'.get? b=some o) (hn:H it=none) (hL:it≠X.env.locals)
  (h1:it∈X.ex∨X.s₀.heap.objs.size≤it) (h2:∀ x c,X.env.cells.lookup x=some c→c≠it) (h3:∀ p∈X.pn ++ pins,p.1≠it):Inv X pins σ H { s with heap:=h',toks:=t' }:=by
 have nit:∀ b u,H b=some u→b≠it:=fun b u e z=>by rw [z,hn] at e; cases e
 refine I.step (g':=s.gens) (d':=s.drawn) (ch:=[it]) (fun b hb=>?_) (fun b o _ _ hc e _=>k b o (fun z=>hc (by simp [z])) e) (fun b o _ _ hc e _=>⟨o.slots,k b o (fun z=>hc (by simp [z])) e⟩) (fun _ _ _ _ n=>n)
  (fun b o hc e=>⟨o,k b o (fun z=>hc (by simp [z])) e⟩) (fun _ _ e=>e) (fun _ _ _ e=>e) (fun b ps e=>⟨#[],by rw [e]; simp⟩) (fun m hm=>?_) (fun b u e=>?_) I.bare
 ·have e:b=it:=by simpa using hb
  subst e
  exact ⟨h1,hL,h2,h3⟩
 ·obtain ⟨o,es,ep,ho,r⟩:=hm
  exact ⟨o,es,ep,k _ o (Ne.symm hL) ho,r⟩
 ·refine (I.hok b u e).stay (fun c v hc q=>k c v ?_ q) (fun _ q=>q) fun _ _ q=>q
  rcases hc with z | z
  ·rw [z]; exact nit b u e
  ·exact nit c _ z
theorem Inv.tok (I:Inv X pins σ H s) (t:Nat):Inv X pins σ H { s with toks:=t }:=I.un (h':=s.heap) (t':=t) Un.refl I.hok
theorem Inv.kept {t':Nat} (I:Inv X pins σ H s) (k:∀ b u,s.heap.get? b=some u→h'.get? b=some u):Inv X pins σ H { s with heap:=h',toks:=t' }:=I.un (Un.kept k) (I.hok.kept k)
theorem Inv.laid {a:Addr} {o:HO} {t':Nat} (I:Inv X pins σ H s) (k:∀ b u,s.heap.get? b=some u→h'.get? b=some u) (hp:s.heap.objs.size≤a) (new:yk X.prog X.w (upd H a o) h' a o) :
  Inv X pins σ (upd H a o) { s with heap:=h',toks:=t' }:=I.un (Un.laid k hp (I.hok.fresh hp)) (I.hok.laid k hp new)
theorem Inv.write {x e:Addr} {o:HO} {t':Nat} (I:Inv X pins σ H s) (mu:Mut (H x)) (he:e=x∨H e=some (.own x)) (k:∀ b u,b≠e→s.heap.get? b=some u→h'.get? b=some u) (heo:∃ u,h'.get? e=some u)
  (new:yk X.prog X.w (upd H x o) h' x o):Inv X pins σ (upd H x o) { s with heap:=h',toks:=t' }:=I.un (Un.write mu he k heo) (I.hok.write mu he k heo new)
theorem Inv.weak {σ':List (Option V)} (I:Inv X pins σ H s) (hl:σ'.length=σ.length) (w:∀ (i:Nat) v,σ'[i]?=some (some v)→σ[i]?=some (some v)):Inv X pins σ' H s :=
 ⟨I.ok,I.os,I.bare,I.base,let ⟨m,hn,hl'⟩:=I.loc; ⟨m,hn,fun i x v e1 e2 e3=>hl' i x v e1 (w i v e2) e3⟩,I.cell,I.free,I.freeC,I.pin,I.hok,hl.trans I.len⟩
theorem Inv.pins_of {pins':List (Addr×Obj)} (I:Inv X pins σ H s) (h:∀ p∈pins',s.heap.get? p.1=some p.2∧H p.1=none∧p.1≠X.env.locals∧p.1∉X.fs∧∀ v,p.2.data≠.cell v):Inv X pins' σ H s :=
 ⟨I.ok,I.os,I.bare,I.base,I.loc,I.cell,I.free,I.freeC,fun p hp=>(ζs.mp hp).elim (fun z=>I.pin p (ζz _ z)) (h p),I.hok,I.len⟩
theorem Wp {N:List Str} (hN:N.Nodup) {i j:Nat} {x:Str} (a:N[i]?=some x) (b:N[j]?=some x):i=j:=by
 obtain ⟨h1,e1⟩:=ζc.mp a
 obtain ⟨h2,e2⟩:=ζc.mp b
 exact (ξE hN).mp (e1.trans e2.symm)
theorem Z6 {M:Model} {A:Around} {E:Value→Shared→Prop} {i:Nat} {x:Str} {v:V} {u:Value} {Q:Unit→Shared→Prop} (I:Inv X pins σ H s) (hN:X.N.Nodup) (hi:X.N[i]?=some x) (hx:Loc X.env.scope x) (r:RelV v u)
  (h:∀ s',Inv X pins (σ.set i (some v)) H s'→(∃ a,Heap.SameBut a s.heap s'.heap∧(a=X.env.locals∨X.env.cells.lookup x=some a))→Q () s') (hf:X.fn x=true∨X.env.scope.names.lookup x=some .local:=by first | exact .inl rfl | exact .inr rfl | assumption):wpAny M A (storeName X.env x u) Q E s:=by
 obtain ⟨m,hn,hl⟩:=id I.loc
 have hcls:(X.env.scope.kind == .class || (X.env.scope.kind == .module && X.env.locals != X.env.globals))=false:=by rw [I.ok.kind]; rfl
 have hiσ:i < σ.length:=by rw [I.len]; exact (ζc.mp hi).1
 have cne:=I.cne
 have tracked:∀ {a:Addr} {h':Heap},(∃ o,s.heap.get? a=some o∧H a=none)→Heap.SameBut a s.heap h'→HOk X.prog X.w H h':=fun {a h'} ha hs b ob e=>by
  obtain ⟨_,_,hfree⟩:=ha
  refine (I.hok b ob e).stay (fun c w' hc q=>(hs.2 c ?_).trans q) (fun _ q=>q) fun _ _ q=>q
  rintro rfl
  rcases hc with rfl | hc
  ·rw [hfree] at e; cases e
  ·rw [hfree] at hc; cases hc
 rcases hx with hk | hk
 ·refine wpAny_storeName_local hk hn (fun h' hn' hs=>?_) hcls
  obtain ⟨oL,_,_,hoL,_⟩:=id hn
  refine h _ ⟨I.ok,I.os,I.bare,⟨fun b o e n hb hx=>?_,fun b o e n hb hx=>?_,I.base.free,fun b o e hx=>?_,I.base.tups,I.base.frzs,I.base.tbls⟩,⟨_,hn',fun j y v' e1 e2 e3=>?_⟩,fun y c e=>?_,I.free,I.freeC,fun p hp=>?_,tracked ⟨oL,hoL,I.free⟩ hs,by simpa using I.len⟩ ⟨_,hs,.inl rfl⟩
  ·exact (hs.2 b (ζA (ζx (ζq e) I.ok.above))).trans (I.base.keep b o e n hb hx)
  ·obtain ⟨sl,e1⟩:=I.base.slot b o e n hb hx
   exact ⟨sl,(hs.2 b (ζA (ζx (ζq e) I.ok.above))).trans e1⟩
  ·obtain ⟨o',e1⟩:=I.base.there b o e hx
   exact ⟨o',(hs.2 b (ζA (ζx (ζq e) I.ok.above))).trans e1⟩
  ·by_cases hj:j=i
   ·subst hj
    rw [hi] at e1; cases e1
    rw [ζt hiσ] at e2
    cases e2
    exact ⟨u,r,.inl ⟨hk,by simp⟩⟩
   ·rw [ζv (Ne.symm hj)] at e2
    obtain ⟨u',r',q⟩:=hl j y v' e1 e2 e3
    refine ⟨u',r',?_⟩
    rcases q with ⟨k,e⟩ | ⟨k,c,e,z⟩
    ·refine .inl ⟨k,?_⟩
     have:y≠x:=fun e=>hj (Wp hN e1 (e ▸ hi))
     simp [this,e]
    ·exact .inr ⟨k,c,e,z.sameBut hs (cne y c e)⟩
  ·obtain ⟨w',z⟩:=I.cell y c e
   exact ⟨w',z.sameBut hs (cne y c e)⟩
  ·obtain ⟨e,n,ne,nf,d⟩:=I.pin p hp
   exact ⟨(hs.2 p.1 ne).trans e,n,ne,nf,d⟩
 ·have hfn:X.fn x=true:=by
   rcases hf with z | z
   ·exact z
   ·rw [z] at hk; cases hk
  obtain ⟨c,hc⟩:=I.ok.has x (.inl hk)
  obtain ⟨w',z⟩:=I.cell x c hc
  refine wpAny_storeName_cell I.ok.kind hk hc z (fun h' hc' hs=>?_)
  obtain ⟨oc,hoc,hocd⟩:=id z
  refine h { s with heap:=h' } ⟨I.ok,I.os,I.bare,⟨fun b o e n hb hx=>?_,fun b o e n hb hx=>?_,I.base.free,fun b o e hx=>?_,I.base.tups,I.base.frzs,I.base.tbls⟩,⟨m,hn.sameBut hs (Ne.symm (cne x c hc)),fun j y v' e1 e2 e3=>?_⟩,fun y c' e=>?_,I.free,I.freeC,fun p hp=>?_,tracked ⟨oc,hoc,(I.freeC x c hc).elim (fun n=>n) fun z=>by rw [hfn] at z; cases z.1⟩ hs,by simpa using I.len⟩ ⟨c,hs,.inr hc⟩
  ·exact (hs.2 b (ζA (ζx (ζq e) (I.ok.cab x c hfn hc)))).trans (I.base.keep b o e n hb hx)
  ·obtain ⟨sl,e1⟩:=I.base.slot b o e n hb hx
   exact ⟨sl,(hs.2 b (ζA (ζx (ζq e) (I.ok.cab x c hfn hc)))).trans e1⟩
  ·obtain ⟨o',e1⟩:=I.base.there b o e hx
   exact ⟨o',(hs.2 b (ζA (ζx (ζq e) (I.ok.cab x c hfn hc)))).trans e1⟩
  ·by_cases hj:j=i
   ·subst hj
    rw [hi] at e1; cases e1
    rw [ζt hiσ] at e2
    cases e2
    exact ⟨u,r,.inr ⟨.inl hk,c,hc,hc'⟩⟩
   ·rw [ζv (Ne.symm hj)] at e2
    obtain ⟨u',r',q⟩:=hl j y v' e1 e2 e3
    refine ⟨u',r',?_⟩
    rcases q with q | ⟨k,c',e,z'⟩
    ·exact .inl q
    ·refine .inr ⟨k,c',e,z'.sameBut hs ?_⟩
     rintro rfl
     exact hj (Wp hN e1 (I.ok.inj _ _ _ e hc ▸ hi))
  ·by_cases hcc:c'=c
   ·subst hcc; exact ⟨_,hc'⟩
   ·obtain ⟨w2,z2⟩:=I.cell y c' e
    exact ⟨w2,z2.sameBut hs hcc⟩
  ·obtain ⟨e,n,ne,nf,d⟩:=I.pin p hp
   refine ⟨(hs.2 p.1 ?_).trans e,n,ne,nf,d⟩
   intro q
   rw [q,hoc] at e
   have q':oc=p.2:=ζI e
   exact d w' (by rw [← q']; exact hocd)
theorem XV {M:Model} {A:Around} {E:Value→Shared→Prop} {i:Nat} {x:Str} {v:V} {u:Value} {Q:Unit→Shared→Prop} (I:Inv X pins σ H s) (hN:X.N.Nodup) (hi:X.N[i]?=some x) (hx:Loc X.env.scope x) (r:RelV v u)
  (h:∀ s',Inv X pins (σ.set i (some v)) H s'→Q () s') (hf:X.fn x=true∨X.env.scope.names.lookup x=some .local:=by first | exact .inl rfl | exact .inr rfl | assumption):wpAny M A (storeName X.env x u) Q E s :=
 Z6 I hN hi hx r (fun s' I' _=>h s' I') hf
theorem Inv.call' {s':Shared} {ch:List Addr} (I:Inv X pins σ H s) (ho:s'.os=s.os) (u:Un (frs X.stack) ch H H' s.heap s'.heap) (hok:HOk X.prog X.w H' s'.heap) (hg:AllBare s'.gens)
  (hch:∀ b∈ch,(b∈X.ex∨X.s₀.heap.objs.size≤b)∧b≠X.env.locals∧(∀ x c,X.env.cells.lookup x=some c→c≠b)∧∀ p∈X.pn ++ pins,p.1≠b):Inv X pins σ H' s':=by
 obtain ⟨h',g',d',t',o'⟩:=s'
 have e:o'=s.os:=ho
 subst e
 exact I.call (g':=g') (t':=t') (d':=d') u hok hg hch
end
abbrev XK:=Value→Option Addr→Hp→Prop
abbrev St:=List (Option V)
abbrev VK:=V→Hp→Prop
abbrev TE:=St→Hp→VK→Prop
abbrev TT:=St→Hp→(Bool→Hp→Prop)→Prop
abbrev TA:=St→Hp→(List V→Hp→Prop)→Prop
structure Ends where
 nx:St→Hp→Prop
 rt:VK
 bk:St→Hp→Prop:=fun _ _=>False
 ct:St→Hp→Prop:=fun _ _=>False
abbrev TS:=Ends→St→Hp→Prop
def EP (X:Cx) (pins:List (Addr×Obj)) (σ:St) (Q:VK) (u:Value) (s':Shared):Prop:=∃ v H',Inv X pins σ H' s'∧RelV v u∧Q v H'
def TP (X:Cx) (pins:List (Addr×Obj)) (σ:St) (Q:Bool→Hp→Prop) (b:Bool) (s':Shared):Prop:=∃ H',Inv X pins σ H' s'∧Q b H'
def AP (X:Cx) (pins:List (Addr×Obj)) (σ:St) (Q:List V→Hp→Prop) (us:List Value) (s':Shared):Prop:=∃ vs H',Inv X pins σ H' s'∧Vals vs us∧Q vs H'
def SP (X:Cx) (pins:List (Addr×Obj)) (D:Ends) (f:Flow) (s':Shared):Prop :=
 match f with
 | .next=>∃ σ' H',Inv X pins σ' H' s'∧D.nx σ' H'
 | .brk=>∃ σ' H',Inv X pins σ' H' s'∧D.bk σ' H'
 | .cont=>∃ σ' H',Inv X pins σ' H' s'∧D.ct σ' H'
 | .ret u=>∃ v σ' H',Inv X pins σ' H' s'∧RelV v u∧D.rt v H'
def PE (X:Cx) (e:Expr) (t:TE):Prop :=
 ∀ (pins:List (Addr×Obj)) (s:Shared) (σ:St) (H:Hp) (Q:VK),Inv X pins σ H s→t σ H Q→wpAny (model X.prog X.w) X.A (eval e X.env) (EP X pins σ Q) X.xe s
def PT (X:Cx) (e:Expr) (t:TT):Prop :=
 ∀ (pins:List (Addr×Obj)) (s:Shared) (σ:St) (H:Hp) (Q:Bool→Hp→Prop),Inv X pins σ H s→t σ H Q→wpAny (model X.prog X.w) X.A (isTrue e X.env (eval e X.env)) (TP X pins σ Q) X.xe s
def PW (X:Cx) (e:Expr) (t:TT):Prop :=
 ∀ (whole:Sem Value) (pins:List (Addr×Obj)) (s:Shared) (σ:St) (H:Hp) (Q:Bool→Hp→Prop),Inv X pins σ H s→t σ H Q→wpAny (model X.prog X.w) X.A (isTrue e X.env whole) (TP X pins σ Q) X.xe s
theorem PW.pt {X:Cx} {e:Expr} {t:TT} (h:PW X e t):PT X e t:=h _
def PA (X:Cx) (es:List Expr) (t:TA):Prop :=
 ∀ (pos:Pos) (pins:List (Addr×Obj)) (s:Shared) (σ:St) (H:Hp) (Q:List V→Hp→Prop),Inv X pins σ H s→t σ H Q→wpAny (model X.prog X.w) X.A (spliced (backTo pos (starEach es X.env))) (AP X pins σ Q) X.xe s
def PS (X:Cx) (st:Stmt) (t:TS):Prop :=
 ∀ (pins:List (Addr×Obj)) (s:Shared) (σ:St) (H:Hp) (D:Ends),Inv X pins σ H s→t D σ H→wpAny (model X.prog X.w) X.A (exec st X.env) (SP X pins D) X.xe s
def PSs (X:Cx) (st:List Stmt) (t:TS):Prop :=
 ∀ (pins:List (Addr×Obj)) (s:Shared) (σ:St) (H:Hp) (D:Ends),Inv X pins σ H s→t D σ H→wpAny (model X.prog X.w) X.A (execs st X.env) (SP X pins D) X.xe s
theorem thn {α:Type} {t:Sem α} {Q Q':α→Shared→Prop} {M:Model} {A:Around} {E:Value→Shared→Prop} {s:Shared} (h:wpAny M A t Q E s) (hQ:∀ a s,Q a s→Q' a s):wpAny M A t Q' E s:=wpAny_mono h hQ fun _ _ x=>x
section
variable {X:Cx}
def tVar (i:Nat):TE:=fun σ H Q=>∃ v,σ[i]?=some (some v)∧Q v H
def tC (v:V):TE:=fun _ H Q=>Q v H
theorem Qk {i:Nat} {x:Str} {pos:Pos} (hN:X.N[i]?=some x) (hv:Vis X.env.scope x) (hd:(x == ("__debug__" : Str))=false:=by decide) (hcd:(x == ("__classdict__" : Str))=false:=by decide):PE X (.Name x pos) (tVar i):=by
 intro pins s σ H Q I h
 obtain ⟨v,e,h⟩:=h
 obtain ⟨m,hn,hl⟩:=I.loc
 obtain ⟨u,r,l⟩:=hl i x v hN e hv
 have fin:EP X pins σ Q u s:=⟨v,H,I,r,h⟩
 rcases l with ⟨hk,hm⟩ | ⟨hk,c,hc,hcell⟩
 ·exact wpAny_Name (wpAny_loadName_local I.ok.kind hk hn hm fin) hd
 ·rcases hk with hk | hk
  ·exact wpAny_Name (wpAny_loadName_cell I.ok.kind hk hc hcell fin) hd
  ·exact wpAny_Name (wpAny_loadName_free I.ok.kind hk hc hcell fin hcd) hd
theorem zg {i j pos}:PE X (.Constant (.int i) j pos) (tC (.int i)):=fun _ _ _ H _ I h=>wpAny_Constant_int ⟨.int i,H,I.tok _,⟨_,rfl⟩,h⟩
theorem xu {b j pos}:PE X (.Constant (.bool b) j pos) (tC (.bl b)):=fun _ _ _ H _ I h=>Constant_bool ⟨.bl b,H,I,rfl,h⟩
theorem t8 {j pos}:PE X (.Constant .none j pos) (tC .non):=fun _ _ _ H _ I h=>Constant_none ⟨.non,H,I,rfl,h⟩
def Gl (X:Cx) (x:Str):Prop:=X.env.kindOf x=some .globalImplicit
theorem Xo {E:Value→Shared→Prop} {pins:List (Addr×Obj)} {s:Shared} {σ:St} {H:Hp} {x:Str} {u:Value} {pos:Pos} {Q:Value→Shared→Prop} (I:Inv X pins σ H s) (hg:Gl X x) (hm:X.mg x=some u) (h:Q u s)
  (hd:(x == ("__debug__" : Str))=false:=by decide):wpAny (model X.prog X.w) X.A (eval (.Name x pos) X.env) Q E s :=
 Calls.Name_function_global I.ok.kind hg (Calls.loadGlobal_global (by rw [I.ok.glob]; exact I.mod.glob.keeps I.bk) hm h) hd
theorem v4 {E:Value→Shared→Prop} {pins:List (Addr×Obj)} {s:Shared} {σ:St} {H:Hp} {x:Str} {u:Value} {pos:Pos} {Q:Value→Shared→Prop} (I:Inv X pins σ H s) (hg:Gl X x) (hm:X.mg x=none) (hv:bootBuiltins x=some u) (h:Q u s)
  (hn:x ≠ "__name__" := by decide) (hd:(x == ("__debug__" : Str))=false:=by decide):wpAny (model X.prog X.w) X.A (eval (.Name x pos) X.env) Q E s:=by
 obtain ⟨mb,h1,h2⟩:=I.mod.blt
 exact Calls.Name_function_global I.ok.kind hg (Calls.loadGlobal_builtin (by rw [I.ok.glob]; exact I.mod.glob.keeps I.bk) hm (by rw [I.ok.blt]; exact h1.keeps I.bk) ((h2 x hn).trans hv) h) hd
theorem uA {x:Str} {v:V} {u:Value} {pos:Pos} (hg:Gl X x) (hm:X.mg x=some u) (r:RelV v u) (hd:(x == ("__debug__" : Str))=false:=by decide):PE X (.Name x pos) (tC v) :=
 fun _ _ _ H _ I h=>Xo I hg hm ⟨v,H,I,r,h⟩ hd
theorem tG {x:Str} {v:V} {u:Value} {pos:Pos} (hg:Gl X x) (hm:X.mg x=none) (hv:bootBuiltins x=some u) (r:RelV v u) (hn:x ≠ "__name__" := by decide) (hd:(x == ("__debug__" : Str))=false:=by decide):PE X (.Name x pos) (tC v) :=
 fun _ _ _ H _ I h=>v4 I hg hm hv ⟨v,H,I,r,h⟩ hn hd
variable {a b:Expr} {ta tb:TE} {pos:Pos}
def PC (X:Cx) (op:CmpOp) (a b:Expr) (t:TE):Prop :=
 ∀ (pins:List (Addr×Obj)) (s:Shared) (σ:St) (H:Hp) (Q:VK),Inv X pins σ H s→t σ H Q →
  wpAny (model X.prog X.w) X.A (eval a X.env) (fun v s₁=>wpAny (model X.prog X.w) X.A (eval b X.env) (fun u s₂=>wpAny (model X.prog X.w) X.A (compareOp op v u) (EP X pins σ Q) X.xe s₂) X.xe s₁) X.xe s
theorem Qx (b:Expr) {op:CmpOp} (h:op≠.In) (h2:op≠.NotIn):behindInMarks op b=false:=by
 have e1:(op == CmpOp.In)=false:=by cases op <;> first | rfl | exact absurd rfl h
 have e2:(op == CmpOp.NotIn)=false:=by cases op <;> first | rfl | exact absurd rfl h2
 cases b <;> simp [behindInMarks,e1,e2]
def tB (t:TE):TT:=fun σ H Q=>t σ H fun x H1=>∃ c,x=.bl c∧Q c H1
theorem Qc {op:CmpOp} {t:TE} (h:PC X op a b t) (h1:behindInMarks op b=false:=by first | exact Qx _ (by decide) (by decide) | rfl):PT X (.Compare a [op] [b] pos) (tB t):=by
 intro pins s σ H Q I hw
 refine wpAny_isTrue_Compare1 (thn (h pins s σ H _ I hw) fun v s1 h1=>thn h1 fun u s2 h2=>thn h2 fun c s3 ⟨x,H1,I1,r1,q1⟩=>?_) h1
 obtain ⟨d,rfl,q⟩:=q1
 cases r1
 exact wpAny_truthy_bool ⟨H1,I1,q⟩
theorem yq {e:Expr} {t:TE} (h:PE X e t) (he:∀ whole,isTrue e X.env whole=(do let v ← whole; standAt e.pos; holding [v] (truthy v)):=by intro _; rfl):PT X e (tB t):=by
 intro pins s σ H Q I hw
 refine isTrue_plain (thn (h pins s σ H _ I hw) fun v s1 ⟨x,H1,I1,r1,q1⟩=>?_) (he _)
 obtain ⟨d,rfl,q⟩:=q1
 cases r1
 exact wpAny_truthy_bool ⟨H1,I1,q⟩
variable {tA tB':TT} {rest:List Expr}
def tAnd (t u:TT):TT:=fun σ H Q=>t σ H fun c H1=>if c=true then u σ H1 Q else Q false H1
def tOr (t u:TT):TT:=fun σ H Q=>t σ H fun c H1=>if c=true then Q true H1 else u σ H1 Q
def tNot (t:TT):TT:=fun σ H Q=>t σ H fun c H1=>Q (!c) H1
theorem x5 (ha:PT X a tA):PW X (.BoolOp .And [a] pos) tA:=by
 intro wh pins s σ H Q I h
 refine isTrue_and (thn (ha pins s σ H Q I h) fun c s1 e=>?_)
 cases c with
 | true=>exact isTrue_and_nil e
 | false=>exact e
theorem tX (ha:PT X a tA):PW X (.BoolOp .Or [a] pos) tA:=by
 intro wh pins s σ H Q I h
 refine isTrue_or (thn (ha pins s σ H Q I h) fun c s1 e=>?_)
 cases c with
 | false=>exact isTrue_or_nil e
 | true=>exact e
theorem wV (ha:PT X a tA) (hb:PW X (.BoolOp .And (b :: rest) pos) tB'):PW X (.BoolOp .And (a :: b :: rest) pos) (tAnd tA tB'):=by
 intro wh pins s σ H Q I h
 refine isTrue_and (thn (ha pins s σ H _ I h) fun c s1 ⟨H1,I1,q1⟩=>?_)
 cases c with
 | true=>exact hb wh pins s1 σ H1 Q I1 q1
 | false=>exact ⟨H1,I1,q1⟩
theorem ut (ha:PT X a tA) (hb:PW X (.BoolOp .Or (b :: rest) pos) tB'):PW X (.BoolOp .Or (a :: b :: rest) pos) (tOr tA tB'):=by
 intro wh pins s σ H Q I h
 refine isTrue_or (thn (ha pins s σ H _ I h) fun c s1 ⟨H1,I1,q1⟩=>?_)
 cases c with
 | true=>exact ⟨H1,I1,q1⟩
 | false=>exact hb wh pins s1 σ H1 Q I1 q1
theorem xS (ha:PT X a tA):PT X (.UnaryOp .Not a pos) (tNot tA):=by
 intro pins s σ H Q I h
 exact isTrue_not (ha pins s σ H (fun c H1=>Q (!c) H1) I h)
def zbR (ta tb:TE):TE:=fun σ H Q=>ta σ H fun x H1=>∃ c,x=.bl c∧if c=true then tb σ H1 Q else Q (.bl false) H1
def tOrV (ta tb:TE):TE:=fun σ H Q=>ta σ H fun x H1=>∃ c,x=.bl c∧if c=true then Q (.bl true) H1 else tb σ H1 Q
def zbQ (ta:TE):TE:=fun σ H Q=>ta σ H fun x H1=>∃ c,x=.bl c∧Q (.bl (!c)) H1
theorem Y0 {op} {t:TE} (h:PE X a t):PE X (.BoolOp op [a] pos) t:=fun pins s σ H Q I hw=>BoolOp_one (h pins s σ H Q I hw)
theorem Y1 (ha:PE X a ta) (hb:PE X (.BoolOp .And (b :: rest) pos) tb):PE X (.BoolOp .And (a :: b :: rest) pos) (zbR ta tb):=by
 intro pins s σ H Q I h
 refine BoolOp_and (thn (ha pins s σ H _ I h) fun v s1 ⟨x,H1,I1,r1,q1⟩=>?_)
 obtain ⟨c,rfl,q1⟩:=q1
 cases r1
 refine wpAny_truthy_bool ?_
 cases c with
 | true=>exact hb pins s1 σ H1 Q I1 q1
 | false=>exact ⟨.bl false,H1,I1,rfl,q1⟩
theorem zdy (ha:PE X a ta) (hb:PE X (.BoolOp .Or (b :: rest) pos) tb):PE X (.BoolOp .Or (a :: b :: rest) pos) (tOrV ta tb):=by
 intro pins s σ H Q I h
 refine BoolOp_or (thn (ha pins s σ H _ I h) fun v s1 ⟨x,H1,I1,r1,q1⟩=>?_)
 obtain ⟨c,rfl,q1⟩:=q1
 cases r1
 refine wpAny_truthy_bool ?_
 cases c with
 | false=>exact hb pins s1 σ H1 Q I1 q1
 | true=>exact ⟨.bl true,H1,I1,rfl,q1⟩
theorem Ql (ha:PE X a ta):PE X (.UnaryOp .Not a pos) (zbQ ta):=by
 intro pins s σ H Q I h
 refine UnaryOp_ (thn (ha pins s σ H _ I h) fun v s1 ⟨x,H1,I1,r1,q1⟩=>?_)
 obtain ⟨c,rfl,q1⟩:=q1
 cases r1
 exact not_of (wpAny_truthy_bool ⟨.bl (!c),H1,I1,rfl,q1⟩)
def tIf (t:TT) (ta tb:TE):TE:=fun σ H Q=>t σ H fun c H1=>if c=true then ta σ H1 Q else tb σ H1 Q
theorem Wg {c:Expr} (hc:PT X c tA) (ha:PE X a ta) (hb:PE X b tb):PE X (.IfExp c a b pos) (tIf tA ta tb):=by
 intro pins s σ H Q I h
 refine wpAny_IfExp (thn (hc pins s σ H _ I h) fun d s1 ⟨H1,I1,q1⟩=>?_)
 cases d with
 | true=>exact ha pins s1 σ H1 Q I1 q1
 | false=>exact hb pins s1 σ H1 Q I1 q1
end
def SqL (K:ζa) (H:Hp) (a:Addr) (xs:List V):Prop :=
 Rd H a (.lst xs) ∨
  ∃ (o:Obj) (its:Array Value) (n:Nat),K.lookup a=some o∧o.cls=.type "list" ∧ o.dict=none∧o.data=.seq its n∧its.size≤sizeLine∧Vals xs its.toList
def SqT (K:ζa) (H:Hp) (a:Addr) (xs:List V):Prop :=
 Rd H a (.tup xs) ∨
  ∃ (o:Obj) (its:Array Value) (n:Nat),K.lookup a=some o∧o.cls=.type "tuple" ∧ o.data=.seq its n∧its.size≤sizeLine∧Vals xs its.toList
def absV:Value→Option V
 | .none=>some .non
 | .bool b=>some (.bl b)
 | .int i _=>some (.int i)
 | .str x _=>some (.str x)
 | .bytes b _=>some (.byt b)
 | .float b _=>some (.flt b)
 | .ref a=>some (.ref a)
 | .type n=>some (.ty n)
 | _=>none
theorem RelV.abs {x:V} {u:Value} (r:RelV x u):absV u=some x:=by
 cases x with
 | non=>cases r; rfl
 | bl _=>cases r; rfl
 | int _=>obtain ⟨t,rfl⟩:=r; rfl
 | str _=>obtain ⟨t,rfl⟩:=r; rfl
 | byt _=>obtain ⟨t,rfl⟩:=r; rfl
 | flt _=>obtain ⟨t,rfl⟩:=r; rfl
 | ref _=>cases r; rfl
 | ty _=>cases r; rfl
theorem RelV.inj {x y:V} {u:Value} (r:RelV x u) (q:RelV y u):x=y:=ζI (r.abs.symm.trans q.abs)
theorem Vals.inj:∀ {xs ys:List V} {us:List Value},Vals xs us→Vals ys us→xs=ys
 | _,_,_,.nil,.nil=>rfl
 | _,_,_,.cons r t,.cons r' t'=>by rw [r.inj r',Vals.inj t t']
section
variable {X:Cx} {pins:List (Addr×Obj)} {σ:St} {H:Hp} {s:Shared} {a:Addr} {xs ys:List V}
theorem SqL.of {K:ζa} (h:H a=some (.lst xs)):SqL K H a xs:=.inl (.inl h)
theorem SqT.of {K:ζa} (h:H a=some (.tup xs)):SqT K H a xs:=.inl (.inl h)
theorem Inv.list (I:Inv X pins σ H s) (h:SqL X.K H a xs):∃ its:List Value,Vals xs its∧PlainL s.heap a its.toArray∧xs.length≤sizeLine:=by
 rcases h with h | ⟨o,its,n,hk,hc,hd,hs,hz,r⟩
 ·obtain ⟨z,its,n,r,e⟩:=h.ok I.hok
  exact ⟨its,r,⟨_,n,e,rfl,rfl,rfl⟩,z⟩
 ·refine ⟨its.toList,r,⟨o,n,I.kIn a o hk,hc,hd,by simpa using hs⟩,?_⟩
  have e:=r.length
  simp only [Array.length_toList] at e
  omega
theorem Inv.tuple (I:Inv X pins σ H s) (h:SqT X.K H a xs):∃ its:List Value,Vals xs its∧IsTup s.heap a its.toArray∧xs.length≤sizeLine:=by
 rcases h with h | ⟨o,its,n,hk,hc,hs,hz,r⟩
 ·obtain ⟨z,its,r,p⟩:=h.ok I.hok
  exact ⟨its,r,p,z⟩
 ·refine ⟨its.toList,r,⟨o,I.kIn a o hk,hc,n,by simpa using hs⟩,?_⟩
  have e:=r.length
  simp only [Array.length_toList] at e
  omega
theorem Inv.list_inj (I:Inv X pins σ H s) (h:SqL X.K H a xs) (h':SqL X.K H a ys):xs=ys:=by
 obtain ⟨its,r,⟨o,n,e,_,_,d⟩,_⟩:=I.list h
 obtain ⟨its',r',⟨o',n',e',_,_,d'⟩,_⟩:=I.list h'
 rw [e] at e'; cases e'
 rw [d] at d'
 injection d' with d1 _
 have:its=its':=by simpa using congrArg Array.toList d1
 subst this
 exact r.inj r'
end
abbrev Cx.wish (X:Cx) (E:Value→Shared→Prop):Cx:={ X with xe:=E }
abbrev Cx.nox (X:Cx):Cx:=X.wish fun _ _=>False
theorem Cx.Ok.wish {X:Cx} (ok:X.Ok) (E:Value→Shared→Prop):(X.wish E).Ok :=
 ⟨ok.mod,ok.kind,ok.glob,ok.blt,ok.above,ok.inj,ok.has,ok.cab,ok.hd,ok.frames,ok.stk,ok.exf,ok.bs,ok.bsz,ok.noex,ok.exfs,ok.funs,ok.frf,ok.tb⟩
theorem Cx.Ok.unwish {X:Cx} {E:Value→Shared→Prop} (ok:(X.wish E).Ok):X.Ok :=
 ⟨ok.mod,ok.kind,ok.glob,ok.blt,ok.above,ok.inj,ok.has,ok.cab,ok.hd,ok.frames,ok.stk,ok.exf,ok.bs,ok.bsz,ok.noex,ok.exfs,ok.funs,ok.frf,ok.tb⟩
section
variable {X:Cx} {pins:List (Addr×Obj)} {σ:St} {H:Hp} {s:Shared} {E:Value→Shared→Prop}
theorem Inv.wish (I:Inv X pins σ H s) (E:Value→Shared→Prop):Inv (X.wish E) pins σ H s:=⟨I.ok.wish E,I.os,I.bare,I.base,I.loc,I.cell,I.free,I.freeC,I.pin,I.hok,I.len⟩
theorem Inv.unwish (I:Inv (X.wish E) pins σ H s):Inv X pins σ H s:=⟨I.ok.unwish,I.os,I.bare,I.base,I.loc,I.cell,I.free,I.freeC,I.pin,I.hok,I.len⟩
theorem SP.unwish {D:Ends} {f:Flow} {s':Shared} (h:SP (X.wish E) pins D f s'):SP X pins D f s':=by
 cases f with
 | next=>obtain ⟨σ',H',I,q⟩:=h; exact ⟨σ',H',I.unwish,q⟩
 | brk=>obtain ⟨σ',H',I,q⟩:=h; exact ⟨σ',H',I.unwish,q⟩
 | cont=>obtain ⟨σ',H',I,q⟩:=h; exact ⟨σ',H',I.unwish,q⟩
 | ret u=>obtain ⟨v,σ',H',I,r,q⟩:=h; exact ⟨v,σ',H',I.unwish,r,q⟩
theorem PSs.nox {st:List Stmt} {t:TS} (h:PSs X.nox st t):PSs X st t:=fun pins s σ H D I hw =>
 wpAny_mono (h pins s σ H D (I.wish _) hw) (fun _ _ q=>q.unwish) fun _ _ z=>False.elim z
end
section
variable {X:Cx} {st:Stmt} {rest:List Stmt} {t u:TS} {e:Expr} {te:TE} {pos:Pos}
def XS:TS:=fun D σ H=>D.nx σ H
def tSeq (t u:TS):TS:=fun D σ H=>t { D with nx:=u D } σ H
theorem zL:PSs X [] XS:=fun _ _ σ H _ I h=>wpAny_execs_nil ⟨σ,H,I,h⟩
theorem ze (h1:PS X st t) (h2:PSs X rest u):PSs X (st :: rest) (tSeq t u):=by
 intro pins s σ H D I h
 refine wpAny_execs_cons (thn (h1 pins s σ H { D with nx:=u D } I h) fun f s1 q=>?_)
 cases f with
 | next =>
  obtain ⟨σ',H',I',q⟩:=q
  exact h2 pins s1 σ' H' D I' q
 | ret v=>exact q
 | brk=>exact q
 | cont=>exact q
theorem zf (h1:PS X st t):PSs X [st] t:=by
 intro pins s σ H D I h
 refine wpAny_execs_cons (thn (h1 pins s σ H D I h) fun f s1 q=>?_)
 cases f with
 | next=>exact wpAny_execs_nil q
 | ret v=>exact q
 | brk=>exact q
 | cont=>exact q
theorem Inv.quiet {pins:List (Addr×Obj)} {σ:St} {H:Hp} {s:Shared} (I:Inv X pins σ H s):interactive X.env=false:=by simp [interactive,I.ok.kind]
def x3 (te:TE):TS:=fun D σ H=>te σ H fun _ H1=>D.nx σ H1
theorem yp (he:PE X e te) (hs:swapsWith e none pos.line X.env=pure false:=by rfl):PS X (.Expr e pos) (x3 te):=by
 intro pins s σ H D I h
 exact wpAny_Expr_any (thn (he pins s σ H _ I h) fun v s1 ⟨x,H1,I1,r1,q1⟩=>⟨σ,H1,I1,q1⟩) I.quiet hs
def tRet (te:TE):TS:=fun D σ H=>te σ H D.rt
theorem zD (he:PE X e te):PS X (.Return (some e) pos) (tRet te):=by
 intro pins s σ H D I h
 exact wpAny_Return_some (thn (he pins s σ H _ I h) fun v s1 ⟨x,H1,I1,r1,q1⟩=>⟨x,σ,H1,I1,r1,q1⟩)
def tIfS (c:TT) (t u:TS):TS:=fun D σ H=>c σ H fun b H1=>if b=true then t D σ H1 else u D σ H1
theorem yo {c:Expr} {a b:List Stmt} {tc:TT} (hc:PT X c tc) (ha:PSs X a t) (hb:PSs X b u):PS X (.If c a b pos) (tIfS tc t u):=by
 intro pins s σ H D I h
 refine wpAny_If (thn (hc pins s σ H _ I h) fun d s1 ⟨H1,I1,q1⟩=>?_)
 cases d with
 | true=>exact ha pins s1 σ H1 D I1 q1
 | false=>exact hb pins s1 σ H1 D I1 q1
end
abbrev TG:=V→St→Hp→(St→Hp→Prop)→Prop
def PG (X:Cx) (target:Expr) (t:TG):Prop :=
 ∀ (pins:List (Addr×Obj)) (s:Shared) (σ:St) (H:Hp) (v:V) (u:Value) (Q:St→Hp→Prop),Inv X pins σ H s→RelV v u→t v σ H Q →
  wpAny (model X.prog X.w) X.A (assign target X.env u) (fun _ s'=>∃ σ' H',Inv X pins σ' H' s'∧Q σ' H') X.xe s
section
variable {X:Cx} {pos:Pos}
def y9 (i:Nat):TG:=fun v σ H Q=>Q (σ.set i (some v)) H
theorem zH {i:Nat} {x:Str} (hN:X.N.Nodup) (hi:X.N[i]?=some x) (hx:Loc X.env.scope x) (hf:X.fn x=true∨X.env.scope.names.lookup x=some .local:=by first | exact .inl rfl | exact .inr rfl | assumption):PG X (.Name x pos) (y9 i):=by
 intro pins s σ H v u Q I r h
 exact wpAny_assign_Name (XV I hN hi hx r (fun s' I'=>⟨_,H,I',h⟩) hf)
def tAsg (te:TE) (g:TG):TS:=fun D σ H=>te σ H fun x H1=>g x σ H1 D.nx
theorem zu {i:Nat} {x:Str} {e:Expr} {te:TE} {pos':Pos} (hN:X.N.Nodup) (hi:X.N[i]?=some x) (hx:Loc X.env.scope x) (he:PE X e te) (hs:swapsWith e (some (.Name x pos')) pos.line X.env=pure false:=by rfl) (hf:X.fn x=true∨X.env.scope.names.lookup x=some .local:=by first | exact .inl rfl | exact .inr rfl | assumption) :
  PS X (.Assign [.Name x pos'] e pos) (tAsg te (y9 i)):=by
 intro pins s σ H D I h
 refine wpAny_Assign_Name (thn (he pins s σ H _ I h) fun v s1 ⟨y,H1,I1,r1,q1⟩=>?_) hs
 exact XV I1 hN hi hx r1 (fun s2 I2=>⟨_,H1,I2,q1⟩) hf
def Ty (c:TT) (tb:TS):TS:=fun D σ H=>∃ W:Nat→St→Hp→Prop,(∃ m,W m σ H)∧∀ m σ H,W m σ H →
 c σ H fun b H1=>if b=true then ∃ N:St→Hp→Prop,(∀ σ' H',N σ' H'→∃ m',m' < m∧W m' σ' H')∧tb { D with nx:=N,ct:=N,bk:=D.nx } σ H1 else D.nx σ H1
theorem xT {c:Expr} {body:List Stmt} {tc:TT} {tb:TS} (hp:PassesOwn (model X.prog X.w) X.A X.env X.xe) (hc:PT X c tc) (hb:PSs X body tb):PS X (.While c body [] pos) (Ty tc tb):=by
 intro pins s σ H D I h
 obtain ⟨W,⟨m0,w0⟩,turn⟩:=h
 refine wpAny_While (codeAny_whileLoop (fun n s'=>∃ σ' H',Inv X pins σ' H' s'∧W n σ' H') ?_ m0 ⟨σ,H,I,w0⟩)
 rintro n s1 ⟨σ1,H1,I1,w1⟩
 refine wpAny_passesOwn hp (thn (hc pins s1 σ1 H1 _ I1 (turn n σ1 H1 w1)) fun b s2 ⟨H2,I2,q2⟩=>?_)
 cases b with
 | true =>
  obtain ⟨N,hN,q2⟩:=q2
  rw [if_pos rfl]
  refine wpAny_passesOwn hp (thn (hb pins s2 σ1 H2 _ I2 q2) fun f s3 q3=>?_)
  cases f with
  | next =>
   obtain ⟨σ3,H3,I3,n3⟩:=q3
   obtain ⟨m',hm,w3⟩:=hN σ3 H3 n3
   exact ⟨m',hm,σ3,H3,I3,w3⟩
  | cont =>
   obtain ⟨σ3,H3,I3,n3⟩:=q3
   obtain ⟨m',hm,w3⟩:=hN σ3 H3 n3
   exact ⟨m',hm,σ3,H3,I3,w3⟩
  | brk=>exact q3
  | ret v=>exact q3
 | false =>
  rw [if_neg ζw]
  exact wpAny_execs_nil ⟨σ1,H2,I2,q2⟩
end
structure It where
 go:Nat→Hp→Prop
 yld:Nat→Hp→V→Hp→Prop
 stop:Nat→Hp→Prop
def FpOk (X:Cx) (pins:List (Addr×Obj)) (H:Hp) (b:Addr):Prop :=
 H b=none∧b≠X.env.locals∧b∉X.fs∧(b∈X.ex∨X.s₀.heap.objs.size≤b)∧(∀ x c,X.env.cells.lookup x=some c→c≠b)∧∀ p∈X.pn ++ pins,p.1≠b
theorem Inv.fpOk {X:Cx} {pins:List (Addr×Obj)} {σ:St} {H H':Hp} {s:Shared} {b:Addr} (I:Inv X pins σ H s) (hb:s.heap.objs.size≤b) (hn:H' b=none):FpOk X pins H' b:=by
 refine ⟨hn,ξs (ζx I.lt hb),I.nofs hb,.inr (ζU I.sz hb),fun x c e z=>?_,fun p hp z=>?_⟩
 ·obtain ⟨v,q⟩:=I.cell x c e
  exact absurd (ζx q.lt (by rw [z]; exact hb)) (ζ5 _)
 ·exact absurd (ζx (ζq (I.pin p hp).1) (by rw [z]; exact hb)) (ζ5 _)
structure Turn (P:Program) (w:World) (K:ζa) (tg:Expr) (J:It) (fp:List Addr) (it:Addr) (tn:Nat→Heap→Prop):Prop where
 mem:it∈fp
 obj:∀ i h,tn i h→∀ b∈fp,∃ o,h.get? b=some o∧∀ v,o.data≠.cell v
 keep:∀ i h h',tn i h→(∀ b∈fp,∀ o,h.get? b=some o→h'.get? b=some o)→tn i h'
 item:∀ (X:Cx),X.prog=P→X.w=w→X.K=K→X.calm=true→∀ (i:Nat) (pins:List (Addr×Obj)) (s:Shared) (σ:St) (H:Hp) (E:Value→Shared→Prop),Inv X pins σ H s→(∀ b∈fp,FpOk X pins H b)→tn i s.heap→J.go i H →
  wpAny (model P w) X.A (pyNext (.ref it)) (fun r s1=>∃ u,r=some u ∧
   wpAny (model P w) X.A (letOwnedTupleGo tg (.ref it) u) (fun _ s2=>∃ x H',Inv X pins σ H' s2∧RelV x u∧J.yld i H x H'∧tn (i + 1) s2.heap∧∀ b∈fp,H' b=none) E s1) E s
 done:∀ (X:Cx),X.prog=P→X.w=w→X.K=K→X.calm=true→∀ (i:Nat) (pins:List (Addr×Obj)) (s:Shared) (σ:St) (H:Hp) (E:Value→Shared→Prop),Inv X pins σ H s→(∀ b∈fp,FpOk X pins H b)→tn i s.heap→J.stop i H →
  wpAny (model P w) X.A (pyNext (.ref it)) (fun r s1=>r=none∧Inv X pins σ H s1) E s
 self:∀ (A:Around) (i:Nat) (s:Shared) (Q:Value→Shared→Prop) (E:Value→Shared→Prop),tn i s.heap→Q (.ref it) s→wpAny (model P w) A (pyIter (.ref it)) Q E s
abbrev TI:=St→Hp→(It→Hp→Prop)→Prop
def PIE (X:Cx) (pins:List (Addr×Obj)) (σ:St) (tg:Expr) (R:It→Hp→Prop) (itv:Value) (s2:Shared):Prop :=
 ∃ (it:Addr) (fp:List Addr) (tn:Nat→Heap→Prop) (J:It) (H':Hp),itv=.ref it∧Inv X pins σ H' s2∧Turn X.prog X.w X.K tg J fp it tn∧tn 0 s2.heap∧(∀ b∈fp,FpOk X pins H' b)∧R J H'
def PI (X:Cx) (tg iter:Expr) (wi:TI):Prop :=
 ∀ (pins:List (Addr×Obj)) (s:Shared) (σ:St) (H:Hp) (R:It→Hp→Prop),Inv X pins σ H s→wi σ H R →
  wpAny (model X.prog X.w) X.A (eval iter X.env) (fun v s1=>wpAny (model X.prog X.w) X.A (pyIter v) (PIE X pins σ tg R) X.xe s1) X.xe s
theorem zb3 {M:Model} {A:Around} {E:Value→Shared→Prop} {s:Shared} {tg:Expr} {it:Addr} {u:Value} {o:Obj} {n:String} {vs:Array Value} {Q:Unit→Shared→Prop} (ho:s.heap.get? it=some o) (hc:o.cls=.type n) (hd:o.data=.fields vs)
  (hn:["enumerate", "zip", "dict_itemiterator", "dict_reverseitemiterator", "odict_iterator", "itertools.zip_longest", "itertools.pairwise"].contains n=false) (hQ:Q () s):wpAny M A (letOwnedTupleGo tg (.ref it) u) Q E s:=by
 unfold letOwnedTupleGo
 cases tg <;> first
  | exact wpAny_pure hQ
  | (cases u <;> first
    | exact wpAny_pure hQ
    | (refine wpAny_bind (wpAny_load ho ?_)
       rw [hc,hd]
       show wpAny M A (if (["enumerate", "zip", "dict_itemiterator", "dict_reverseitemiterator", "odict_iterator", "itertools.zip_longest", "itertools.pairwise"].contains n && vs[0]? == some (rawInt _))=true then _ else _) Q E s
       rw [if_neg (by intro h; rw [hn,Bool.false_and] at h; cases h)]
       exact wpAny_pure hQ))
def Itl (K:ζa) (a:Addr):It :=
 ⟨fun i H=>∃ xs x,SqL K H a xs∧xs[i]?=some x,fun i H x H'=>H'=H∧∀ xs,SqL K H a xs→xs[i]?=some x,fun i H=>∃ xs,SqL K H a xs∧xs.length≤i⟩
def Itr (lo:Int) (n:Nat):It:=⟨fun i _=>i < n,fun i H x H'=>H'=H∧x=.int (lo + i),fun i _=>n≤i⟩
theorem UC {P:Program} {w:World} {K:ζa} {tg:Expr} (a it:Addr):Turn P w K tg (Itl K a) [it] it (fun i h=>h.IsListIter it a i) where
 mem:=by simp
 obj:=fun i h st b hb=>by
  have e:b=it:=by simpa using hb
  subst e
  obtain ⟨o,e,c,d⟩:=st
  exact ⟨o,e,fun v z=>by rw [d] at z; cases z⟩
 keep:=fun i h h' st k=>st.at fun o e=>k it (by simp) o e
 item:=by
  intro X hP hw hK hc i pins s σ H E I hf st hg
  subst hP hw hK
  obtain ⟨xs,x,hq,hx⟩:=hg
  obtain ⟨its,rv,p,hz⟩:=I.list hq
  obtain ⟨u,hu,ru⟩:=rv.get hx
  obtain ⟨f0,f1,f2,f3,f4,f5⟩:=hf it (by simp)
  refine wpAny_pyNext_list_item st p.isList (x:=u) (by simpa using hu) fun h' st' sb=>?_
  have I1:Inv X pins σ H { s with heap:=h' }:=I.turned (t':=s.toks) (fun b o hb e=>(sb.2 b hb).trans e) f0 f1 f3 f4 f5
  obtain ⟨o,e,c,d⟩:=id st'
  exact ⟨u,rfl,zb3 (s:={ s with heap:=h' }) e c d (by decide) ⟨x,H,I1,ru,⟨rfl,fun ys hy=>by rw [I.list_inj hy hq]; exact hx⟩,st',fun b hb=>(hf b hb).1⟩⟩
 done:=by
  intro X hP hw hK hc i pins s σ H E I hf st hg
  subst hP hw hK
  obtain ⟨xs,hq,hx⟩:=hg
  obtain ⟨its,rv,p,hz⟩:=I.list hq
  obtain ⟨f0,f1,f2,f3,f4,f5⟩:=hf it (by simp)
  have hl:=rv.length
  exact wpAny_pyNext_list_end (I.ok.hd hc) st p.isList (by simp; omega) fun h' eb=>⟨rfl,I.turned (t':=s.toks) (fun b o hb e=>eb b o hb e) f0 f1 f3 f4 f5⟩
 self:=fun _ _ _ _ _ st h=>wpAny_pyIter_listiter st h
theorem WZ {P:Program} {w:World} {K:ζa} {tg:Expr} (it:Addr) (lo:Int) (n:Nat):Turn P w K tg (Itr lo n) [it] it (fun i h=>IsRangeIter h it (lo + (i:Nat) * 1) ((n:Int) - (i:Nat)) 1) where
 mem:=by simp
 obj:=fun i h st b hb=>by
  have e:b=it:=by simpa using hb
  subst e
  exact ⟨_,st,fun v z=>by
   have z':Data.fields _=Data.cell v:=z
   cases z'⟩
 keep:=fun i h h' st k=>k it (by simp) _ st
 item:=by
  intro X hP hw hK hc i pins s σ H E I hf st hg
  subst hP hw hK
  obtain ⟨f0,f1,f2,f3,f4,f5⟩:=hf it (by simp)
  have W:=Walks.range (prog:=X.prog) (w:=X.w) (I.ok.hd hc) it lo 1 n
  refine W.item i s _ _ hg st fun v h' tk hv st' kk=>?_
  obtain ⟨t,rfl⟩:=hv
  have I1:Inv X pins σ H { s with heap:=h',toks:=tk }:=I.turned (fun b o hb e=>kk b o (by simpa using hb) e) f0 f1 f3 f4 f5
  refine ⟨_,rfl,zb3 (s:={ s with heap:=h',toks:=tk }) (n := "range_iterator") st' rfl rfl (by decide) ⟨.int (lo + i),H,I1,⟨t,?_⟩,⟨rfl,rfl⟩,st',fun b hb=>(hf b hb).1⟩⟩
  rw [Int.mul_one]
 done:=by
  intro X hP hw hK hc i pins s σ H E I hf st hg
  subst hP hw hK
  obtain ⟨f0,f1,f2,f3,f4,f5⟩:=hf it (by simp)
  exact wpAny_pyNext_range_end (I.ok.hd hc) st (by have:n≤i:=hg; omega) fun h' eb=>⟨rfl,I.turned (t':=s.toks) (fun b o hb e=>eb b o hb e) f0 f1 f3 f4 f5⟩
 self:=fun _ _ _ _ _ st h=>wpAny_pyIter_rangeiter st h
section
variable {X:Cx} {tg:Expr}
def QX (K:ζa) (tl:TE):TI:=fun σ H R=>tl σ H fun x H1=>∃ a,x=.ref a∧(∃ xs,SqL K H1 a xs)∧R (Itl K a) H1
theorem zaX {l:Expr} {tl:TE} (hl:PE X l tl):PI X tg l (QX X.K tl):=by
 intro pins s σ H R I h
 refine thn (hl pins s σ H _ I h) fun v s1 ⟨x,H1,I1,r1,q1⟩=>?_
 obtain ⟨a,e,⟨xs,hq⟩,q⟩:=q1
 subst e
 cases r1
 obtain ⟨its,rv,p,hz⟩:=I1.list hq
 refine wpAny_pyIter_list p.isList ?_
 refine ⟨s1.heap.objs.size,[s1.heap.objs.size],_,_,H1,rfl,I1.kept (t':=s1.toks) fun b o e=>ζh _ e,UC a _,⟨_,ζB _ rfl,rfl,rfl⟩,fun b hb=>?_,q⟩
 have e:b=s1.heap.objs.size:=by simpa using hb
 subst e
 exact I1.fpOk (ζi _) (I1.hok.fresh (ζi _))
theorem X9 {pins:List (Addr×Obj)} {σ:St} {H:Hp} {s:Shared} {R:It→Hp→Prop} {E:Value→Shared→Prop} {lo hi:Int} {t u v:Tok} {tk:Nat} (I:Inv X pins σ H s) (h1:-(2 ^ 62)≤lo) (h2:lo < 2 ^ 62) (h3:-(2 ^ 62)≤hi) (h4:hi < 2 ^ 62)
  (q:R (Itr lo (hi - lo).toNat) H):wpAny (model X.prog X.w) X.A (pyIter (.ref s.heap.objs.size)) (PIE X pins σ tg R) E { s with heap:=s.heap.push { cls:=.type "range", data:=.fields #[.int lo t,.int hi u,.int 1 v] },toks:=tk }:=by
 refine wpAny_pyIter_range (IsRange.new ..) (small_one h1 h2 h3 h4) ?_
 have I1:Inv X pins σ H { s with heap:=s.heap.push { cls:=.type "range", data:=.fields #[.int lo t,.int hi u,.int 1 v] },toks:=tk }:=I.kept fun b o e=>ζh _ e
 refine ⟨(s.heap.push { cls:=.type "range", data:=.fields #[.int lo t,.int hi u,.int 1 v] }).objs.size,[(s.heap.push { cls:=.type "range", data:=.fields #[.int lo t,.int hi u,.int 1 v] }).objs.size],_,_,H,rfl,
  I1.kept (t':=tk) fun b o e=>ζh _ e,WZ _ lo (hi - lo).toNat,?_,fun b hb=>?_,q⟩
 ·have e1:lo + ((0:Nat):Int) * 1=lo:=by simp
  have e2:(((hi - lo).toNat:Nat):Int) - ((0:Nat):Int)=Builtin.Range.rangeSize lo hi 1:=by rw [rangeSize_one]; split <;> omega
  show IsRangeIter _ _ (lo + ((0:Nat):Int) * 1) ((((hi - lo).toNat:Nat):Int) - ((0:Nat):Int)) 1
  rw [e1,e2]
  exact ζB _ rfl
 ·have e:b=(s.heap.push { cls:=.type "range", data:=.fields #[.int lo t,.int hi u,.int 1 v] }).objs.size:=by simpa using hb
  subst e
  exact I1.fpOk (ζi _) (I1.hok.fresh (ζi _))
def QW (ta:TA):TI:=fun σ H R=>ta σ H fun vs H1=>∃ j:Int,vs=[.int j]∧-(2 ^ 62)≤j∧j < 2 ^ 62∧R (Itr 0 j.toNat) H1
def zb2 (ta:TA):TI:=fun σ H R=>ta σ H fun vs H1=>∃ i j:Int,vs=[.int i,.int j]∧(-(2 ^ 62)≤i∧i < 2 ^ 62∧-(2 ^ 62)≤j∧j < 2 ^ 62)∧R (Itr i (j - i).toNat) H1
theorem xj {a:Expr} {ta:TA} {p pos:Pos} (hg:Gl X "range") (hm:X.mg "range" = none) (ha:PA X [a] ta) (hs:starEach [a] X.env=[(false,eval a X.env)]:=by rfl):PI X tg (.Call (.Name "range" p) [a] [] pos) (QW ta):=by
 intro pins s σ H R I h
 refine Call_ (v4 I hg hm boot_range (PyProof.Rows.callWith_type1 (thn (ha pos pins s σ H _ I h) fun us s1 ⟨vs,H1,I1,r1,q1⟩=>?_) hs rfl))
 obtain ⟨j,e,q1,q2,q⟩:=q1
 subst e
 cases r1 with
 | cons r rr =>
  cases rr
  obtain ⟨t,rfl⟩:=r
  exact call_range_1 (X9 I1 (by omega) (by omega) q1 q2 (by simpa using q))
theorem wu {a b:Expr} {ta:TA} {p pos:Pos} (hg:Gl X "range") (hm:X.mg "range" = none) (ha:PA X [a,b] ta) (hs:starEach [a,b] X.env=[(false,eval a X.env),(false,eval b X.env)]:=by rfl) (hs2:starEach [b] X.env=[(false,eval b X.env)]:=by rfl) :
  PI X tg (.Call (.Name "range" p) [a,b] [] pos) (zb2 ta):=by
 intro pins s σ H R I h
 refine Call_ (v4 I hg hm boot_range (PyProof.Rows.callWith_type1 (thn (ha pos pins s σ H _ I h) fun us s1 ⟨vs,H1,I1,r1,q1⟩=>?_) (by rw [hs,hs2]) (by rw [hs2]; rfl)))
 obtain ⟨i,j,e,⟨q1,q2,q3,q4⟩,q⟩:=q1
 subst e
 cases r1 with
 | cons r rr =>
  cases rr with
  | cons r' rr =>
   cases rr
   obtain ⟨t,rfl⟩:=r
   obtain ⟨t',rfl⟩:=r'
   exact call_range_2 (X9 I1 q1 q2 q3 q4 q)
def tFor (wi:TI) (g:TG) (tb:TS):TS:=fun D σ H=>wi σ H fun J H1=>∃ W:Nat→Nat→St→Hp→Prop,(∃ m,W 0 m σ H1)∧∀ i m σ H,W i m σ H →
 (J.stop i H∧D.nx σ H)∨(J.go i H∧∃ N:St→Hp→Prop,(∀ σ' H',N σ' H'→∃ m',m' < m∧W (i + 1) m' σ' H')∧∀ x H',J.yld i H x H'→g x σ H' fun σ2 H2=>tb { D with nx:=N,ct:=N,bk:=D.nx } σ2 H2)
def t6 (fp:List Addr) (h:Heap):List (Addr×Obj):=fp.filterMap fun b=>(h.get? b).map fun o=>(b,o)
theorem wM {fp:List Addr} {h:Heap} {b:Addr} {o:Obj} (hb:b∈fp) (e:h.get? b=some o):(b,o)∈t6 fp h:=ξr.mpr ⟨b,hb,by rw [e]; rfl⟩
theorem UR {fp:List Addr} {h:Heap} {p:Addr×Obj} (hp:p∈t6 fp h):p.1∈fp∧h.get? p.1=some p.2:=by
 obtain ⟨b,hb,e⟩:=ξr.mp hp
 cases q:h.get? b with
 | none=>rw [q] at e; cases e
 | some o =>
  rw [q] at e
  have e':(b,o)=p:=ζI e
  subst e'
  exact ⟨hb,q⟩
theorem Inv.pinned {pins:List (Addr×Obj)} {σ:St} {H:Hp} {s:Shared} {fp:List Addr} (I:Inv X pins σ H s) (hf:∀ b∈fp,FpOk X pins H b) (ho:∀ b∈fp,∃ o,s.heap.get? b=some o∧∀ v,o.data≠.cell v):Inv X (pins ++ t6 fp s.heap) σ H s :=
 I.pins_of fun p hp=>(ζs.mp hp).elim (fun z=>I.pin p (ζk _ z)) fun z=>by
  obtain ⟨hb,e⟩:=UR z
  obtain ⟨f0,f1,f2,_⟩:=hf p.1 hb
  obtain ⟨o,e',d⟩:=ho p.1 hb
  rw [e] at e'; cases e'
  exact ⟨e,f0,f1,f2,d⟩
theorem Inv.unpinned {pins pl:List (Addr×Obj)} {σ:St} {H:Hp} {s:Shared} (I:Inv X (pins ++ pl) σ H s):Inv X pins σ H s:=I.pins_of fun p hp=>I.pin p (ζk _ (ζz _ hp))
theorem yD {iter:Expr} {body:List Stmt} {wi:TI} {g:TG} {tb:TS} {pos:Pos} (hp:PassesOwn (model X.prog X.w) X.A X.env X.xe) (hc:X.calm=true) (hi:PI X tg iter wi) (hg:PG X tg g) (hb:PSs X body tb)
  (hs:∀ x,foldedSetIterable iter X.env x=pure x:=by intro _; rfl):PS X (.For tg iter body [] pos) (tFor wi g tb):=by
 intro pins s σ H D I h
 refine wpAny_For (thn (hi pins s σ H _ I h) fun v s1 h1=>thn h1 fun itv s2 h2=>?_) hs
 obtain ⟨it,fp,tn,J,H2,e,I2,T,st2,f2,W,⟨m0,w0⟩,turn⟩:=h2
 subst e
 have stat:∀ {H':Hp},(∀ b∈fp,H' b=none)→∀ b∈fp,FpOk X pins H' b:=fun hn b hb=>⟨hn b hb,(f2 b hb).2⟩
 refine codeAny_forLoop_any (fun n s'=>∃ i σ' H',Inv X pins σ' H' s'∧tn i s'.heap∧(∀ b∈fp,H' b=none)∧W i n σ' H') ?_ m0 ⟨0,σ,H2,I2,st2,fun b hb=>(f2 b hb).1,w0⟩
 rintro n s3 ⟨i,σ3,H3,I3,st3,fr3,w3⟩
 rcases turn i n σ3 H3 w3 with ⟨stop,qn⟩ | ⟨go,N,hN,step⟩
 ·refine wpAny_passesOwn hp (thn (T.done X rfl rfl rfl hc i pins s3 σ3 H3 X.xe I3 (stat fr3) st3 stop) fun r s4 ⟨hr,I4⟩=>?_)
  subst hr
  exact wpAny_execs_nil ⟨σ3,H3,I4,qn⟩
 ·refine wpAny_passesOwn hp (thn (T.item X rfl rfl rfl hc i pins s3 σ3 H3 X.xe I3 (stat fr3) st3 go) fun r s4 ⟨u,hr,h4⟩=>?_)
  subst hr
  refine wpAny_passesOwn hp (thn h4 fun _ s5 ⟨x,H5,I5,r5,y5,st5,fr5⟩=>?_)
  have I5':=I5.pinned (stat fr5) (T.obj _ _ st5)
  refine wpAny_passesOwn hp (thn (hg _ s5 σ3 H5 x u _ I5' r5 (step x H5 y5)) fun _ s6 ⟨σ6,H6,I6,q6⟩=>?_)
  refine wpAny_passesOwn hp (thn (hb _ s6 σ6 H6 _ I6 q6) fun f s7 q7=>?_)
  have again:∀ {σ7:St} {H7:Hp},Inv X (pins ++ t6 fp s5.heap) σ7 H7 s7→N σ7 H7→∃ m,m < n∧∃ i σ' H',Inv X pins σ' H' s7∧tn i s7.heap∧(∀ b∈fp,H' b=none)∧W i m σ' H':=fun {σ7 H7} I7 n7=>by
   obtain ⟨m',hm,w7⟩:=hN σ7 H7 n7
   refine ⟨m',hm,i + 1,σ7,H7,I7.unpinned,T.keep _ _ _ st5 fun b hb o e=>(I7.pin (b,o) (ζk _ (ζk _ (wM hb e)))).1,fun b hb=>?_,w7⟩
   obtain ⟨o,e,d⟩:=T.obj _ _ st5 b hb
   exact (I7.pin (b,o) (ζk _ (ζk _ (wM hb e)))).2.1
  cases f with
  | next=>obtain ⟨σ7,H7,I7,n7⟩:=q7; exact again I7 n7
  | cont=>obtain ⟨σ7,H7,I7,n7⟩:=q7; exact again I7 n7
  | brk=>obtain ⟨σ7,H7,I7,q7⟩:=q7; exact ⟨σ7,H7,I7.unpinned,q7⟩
  | ret v=>obtain ⟨x7,σ7,H7,I7,r7,q7⟩:=q7; exact ⟨x7,σ7,H7,I7.unpinned,r7,q7⟩
end
abbrev R2:=V→V→Hp→VK→Prop
def OpR (X:Cx) (f:Value→Value→Sem Value) (r:R2):Prop :=
 ∀ (pins:List (Addr×Obj)) (s:Shared) (σ:St) (H:Hp) (x y:V) (v u:Value) (Q:VK),Inv X pins σ H s→RelV x v→RelV y u→r x y H Q →
  wpAny (model X.prog X.w) X.A (f v u) (EP X pins σ Q) X.xe s
def UnR (X:Cx) (f:Value→Sem Value) (r:V→Hp→VK→Prop):Prop :=
 ∀ (pins:List (Addr×Obj)) (s:Shared) (σ:St) (H:Hp) (x:V) (v:Value) (Q:VK),Inv X pins σ H s→RelV x v→r x H Q →
  wpAny (model X.prog X.w) X.A (f v) (EP X pins σ Q) X.xe s
def yQ (X:Cx) (f:Value) (r:List V→Hp→VK→Prop):Prop :=
 ∀ (pins:List (Addr×Obj)) (s:Shared) (σ:St) (H:Hp) (xs:List V) (us:List Value) (Q:VK),Inv X pins σ H s→Vals xs us→r xs H Q →
  wpAny (model X.prog X.w) X.A (call f us) (EP X pins σ Q) X.xe s
def tOp (r:R2) (ta tb:TE):TE:=fun σ H Q=>ta σ H fun x H1=>tb σ H1 fun y H2=>r x y H2 Q
def tUn (r:V→Hp→VK→Prop) (ta:TE):TE:=fun σ H Q=>ta σ H fun x H1=>r x H1 Q
def rI (C:Int→Int→Prop) (g:Int→Int→V):R2:=fun x y H Q=>∃ i j,x=.int i∧y=.int j∧C i j∧Q (g i j) H
def rI0 (g:Int→Int→V):R2:=fun x y H Q=>∃ i j,x=.int i∧y=.int j∧Q (g i j) H
def rU (g:Int→V):V→Hp→VK→Prop:=fun x H Q=>∃ i,x=.int i∧Q (g i) H
section
variable {X:Cx} {a b c:Expr} {ta tb tc:TE} {pos:Pos}
theorem binT (ha:PE X a ta) (hb:PE X b tb) {pins:List (Addr×Obj)} {s:Shared} {σ:St} {H:Hp} {R:V→V→Hp→Prop} (I:Inv X pins σ H s)
  (h:ta σ H fun x H1=>tb σ H1 fun y H2=>R x y H2) {Q:Value→Shared→Prop} {f:Value→Value→Sem Value}
  (hf:∀ v u s2 x y H2,Inv X pins σ H2 s2→RelV x v→RelV y u→R x y H2→wpAny (model X.prog X.w) X.A (f v u) Q X.xe s2) :
  wpAny (model X.prog X.w) X.A (eval a X.env) (fun v s₁=>wpAny (model X.prog X.w) X.A (eval b X.env) (fun u s₂=>wpAny (model X.prog X.w) X.A (f v u) Q X.xe s₂) X.xe s₁) X.xe s:=by
 refine thn (ha pins s σ H _ I h) fun v s1 ⟨x,H1,I1,r1,q1⟩=>?_
 refine thn (hb pins s1 σ H1 _ I1 q1) fun u s2 ⟨y,H2,I2,r2,q2⟩=>?_
 exact hf v u s2 x y H2 I2 r1 r2 q2
theorem zw {op:Operator} {r:R2} (ho:OpR X (binaryOp op) r) (ha:PE X a ta) (hb:PE X b tb):PE X (.BinOp a op b pos) (tOp r ta tb):=by
 intro pins s σ H Q I h
 exact wpAny_BinOp (binT ha hb I h fun v u s2 x y H2 I2 rx ry q=>ho pins s2 σ H2 x y v u Q I2 rx ry q)
theorem uz {op:UnaryOp} {r:V→Hp→VK→Prop} (ho:UnR X (unaryOp op) r) (ha:PE X a ta):PE X (.UnaryOp op a pos) (tUn r ta):=by
 intro pins s σ H Q I h
 exact UnaryOp_ (thn (ha pins s σ H _ I h) fun v s1 ⟨x,H1,I1,r1,q1⟩=>ho pins s1 σ H1 x v Q I1 r1 q1)
theorem opI {f:Value→Value→Sem Value} {C:Int→Int→Prop} {g:Int→Int→Int}
  (rule:∀ (i j:Int) (t u:Tok) (s:Shared) (Q:Value→Shared→Prop) (E:Value→Shared→Prop),C i j→Q (.int (g i j) s.toks) { s with toks:=s.toks + 1 }→wpAny (model X.prog X.w) X.A (f (.int i t) (.int j u)) Q E s) :
  OpR X f (rI C fun i j=>.int (g i j)):=by
 intro pins s σ H x y v u Q I rx ry h
 obtain ⟨i,j,rfl,rfl,hc,q⟩:=h
 obtain ⟨t,rfl⟩:=rx
 obtain ⟨t',rfl⟩:=ry
 exact rule i j t t' s _ _ hc ⟨.int (g i j),H,I.tok _,⟨_,rfl⟩,q⟩
theorem opI0 {f:Value→Value→Sem Value} {g:Int→Int→Int}
  (rule:∀ (i j:Int) (t u:Tok) (s:Shared) (Q:Value→Shared→Prop) (E:Value→Shared→Prop),Q (.int (g i j) s.toks) { s with toks:=s.toks + 1 }→wpAny (model X.prog X.w) X.A (f (.int i t) (.int j u)) Q E s) :
  OpR X f (rI0 fun i j=>.int (g i j)):=by
 intro pins s σ H x y v u Q I rx ry h
 obtain ⟨i,j,rfl,rfl,q⟩:=h
 obtain ⟨t,rfl⟩:=rx
 obtain ⟨t',rfl⟩:=ry
 exact rule i j t t' s _ _ ⟨.int (g i j),H,I.tok _,⟨_,rfl⟩,q⟩
theorem opB0 {f:Value→Value→Sem Value} {g:Int→Int→Bool}
  (rule:∀ (i j:Int) (t u:Tok) (s:Shared) (Q:Value→Shared→Prop) (E:Value→Shared→Prop),Q (.bool (g i j)) s→wpAny (model X.prog X.w) X.A (f (.int i t) (.int j u)) Q E s) :
  OpR X f (rI0 fun i j=>.bl (g i j)):=by
 intro pins s σ H x y v u Q I rx ry h
 obtain ⟨i,j,rfl,rfl,q⟩:=h
 obtain ⟨t,rfl⟩:=rx
 obtain ⟨t',rfl⟩:=ry
 exact rule i j t t' s _ _ ⟨.bl (g i j),H,I,rfl,q⟩
def CDiv (i j:Int):Prop:=0 < j∧j < 1073741824
theorem yu:OpR X (binaryOp .Add) (rI0 fun i j=>.int (i + j)):=opI0 fun _ _ _ _ _ _ _ q=>add_int q
theorem yT:OpR X (binaryOp .Sub) (rI0 fun i j=>.int (i - j)):=opI0 fun _ _ _ _ _ _ _ q=>sub_int q
theorem tH:OpR X (binaryOp .FloorDiv) (rI CDiv fun i j=>.int (i / j)):=opI fun i j _ _ _ _ _ hc q=>by
 have h1:(0:Int) < j:=hc.1
 have h2:j < 1073741824:=hc.2
 exact floordiv_int (by omega) (by rw [Int.fdiv_eq_ediv_of_nonneg i (by omega)]; exact q) (.inl (PyProof.noPylong_small (by omega)))
theorem yA:OpR X (binaryOp .Mod) (rI (fun _ j=>0 < j) fun i j=>.int (i % j)):=opI fun i j _ _ _ _ _ hc q=>by
 have h1:(0:Int) < j:=hc
 exact mod_int' (by omega) (by rw [Int.fmod_eq_emod_of_nonneg i (by omega)]; exact q)
theorem unI {f:Value→Sem Value} {g:Int→Int}
  (rule:∀ (i:Int) (t:Tok) (s:Shared) (Q:Value→Shared→Prop) (E:Value→Shared→Prop),Q (.int (g i) s.toks) { s with toks:=s.toks + 1 }→wpAny (model X.prog X.w) X.A (f (.int i t)) Q E s) :
  UnR X f (rU fun i=>.int (g i)):=by
 intro pins s σ H x v Q I rx h
 obtain ⟨i,rfl,q⟩:=h
 obtain ⟨t,rfl⟩:=rx
 exact rule i t s _ _ ⟨.int (g i),H,I.tok _,⟨_,rfl⟩,q⟩
theorem wC:UnR X (unaryOp .USub) (rU fun i=>.int (-i)):=unI fun _ _ _ _ _ q=>neg_int q
end
def scal:V→V→Bool
 | .non,.non=>true | .non,.int _=>true | .int _,.non=>true | .non,.bl _=>true | .bl _,.non=>true | .non,.str _=>true | .str _,.non=>true
 | .int _,.int _=>true | .bl _,.bl _=>true | .str _,.str _=>true | .byt _,.byt _=>true
 | .int _,.str _=>true | .str _,.int _=>true | .bl _,.str _=>true | .str _,.bl _=>true
 | _,_=>false
def rEq:R2:=fun x y H Q=>scal x y=true∧Q (.bl (decide (x=y))) H
def rNe:R2:=fun x y H Q=>scal x y=true∧Q (.bl (!decide (x=y))) H
theorem uJ {i j:Int}:decide (V.int i=V.int j)=(i == j):=by
 rw [ξR]
 simp
theorem zaj {i j:Bool}:decide (V.bl i=V.bl j)=(i == j):=by
 rw [ξR]
 simp
theorem Ur {i j:Str}:decide (V.str i=V.str j)=(i == j):=by
 rw [ξR]
 simp
theorem Us {i j:Array UInt8}:decide (V.byt i=V.byt j)=(i.toList == j.toList):=by
 rw [ξR]
 cases i
 cases j
 simp
section
variable {X:Cx} {a b c:Expr} {ta tb tc:TE} {pos:Pos}
theorem zV {pins:List (Addr×Obj)} {σ:St} {H:Hp} {s:Shared} {Q:VK} {k k':Bool} (I:Inv X pins σ H s) (q:Q (.bl k) H) (e:k=k'):EP X pins σ Q (.bool k') s:=by
 subst e
 exact ⟨.bl k,H,I,rfl,q⟩
theorem Yf:OpR X (compareOp .Eq) rEq:=by
 intro pins s σ H x y v u Q I rx ry h
 obtain ⟨hs,q⟩:=h
 cases x with
 | non =>
  cases rx
  cases y with
  | non=>cases ry; exact PySem.EqNone.eq_none_none (zV I q (by simp))
  | bl j=>cases ry; exact PySem.EqNone.eq_none_bool (zV I q (by simp))
  | int j=>obtain ⟨t',rfl⟩:=ry; exact PySem.EqNone.eq_none_int (zV I q (by simp))
  | str j=>obtain ⟨t',rfl⟩:=ry; exact PySem.EqNone.eq_none_str (zV I q (by simp))
  | _=>exact absurd (show false=true from hs) ζw
 | bl i =>
  cases rx
  cases y with
  | non=>cases ry; exact PySem.EqNone.eq_bool_none (zV I q (by simp))
  | bl j=>cases ry; exact eq_bool (zV I q zaj)
  | str j=>obtain ⟨t',rfl⟩:=ry; exact PySem.EqMixed.eq_bool_str (zV I q (by simp))
  | _=>exact absurd (show false=true from hs) ζw
 | int i =>
  obtain ⟨t,rfl⟩:=rx
  cases y with
  | non=>cases ry; exact PySem.EqNone.eq_int_none (zV I q (by simp))
  | int j=>obtain ⟨t',rfl⟩:=ry; exact eq_int (zV I q uJ)
  | str j=>obtain ⟨t',rfl⟩:=ry; exact PySem.EqMixed.eq_int_str (zV I q (by simp))
  | _=>exact absurd (show false=true from hs) ζw
 | str i =>
  obtain ⟨t,rfl⟩:=rx
  cases y with
  | non=>cases ry; exact PySem.EqNone.eq_str_none (zV I q (by simp))
  | bl j=>cases ry; exact PySem.EqMixed.eq_str_bool (zV I q (by simp))
  | int j=>obtain ⟨t',rfl⟩:=ry; exact PySem.EqMixed.eq_str_int (zV I q (by simp))
  | str j=>obtain ⟨t',rfl⟩:=ry; exact eq_str (zV I q Ur)
  | _=>exact absurd (show false=true from hs) ζw
 | byt i =>
  obtain ⟨t,rfl⟩:=rx
  cases y with
  | byt j=>obtain ⟨t',rfl⟩:=ry; exact PySem.W.eq_bytes (zV I q Us)
  | _=>exact absurd (show false=true from hs) ζw
 | _=>cases y <;> exact absurd (show false=true from hs) ζw
theorem Qs:OpR X (compareOp .NotEq) rNe:=by
 intro pins s σ H x y v u Q I rx ry h
 obtain ⟨hs,q⟩:=h
 cases x with
 | non =>
  cases rx
  cases y with
  | non=>cases ry; exact PySem.EqNone.ne_none_none (zV I q (by simp))
  | bl j=>cases ry; exact PySem.EqNone.ne_none_bool (zV I q (by simp))
  | int j=>obtain ⟨t',rfl⟩:=ry; exact PySem.EqNone.ne_none_int (zV I q (by simp))
  | str j=>obtain ⟨t',rfl⟩:=ry; exact PySem.EqNone.ne_none_str (zV I q (by simp))
  | _=>exact absurd (show false=true from hs) ζw
 | bl i =>
  cases rx
  cases y with
  | non=>cases ry; exact PySem.EqNone.ne_bool_none (zV I q (by simp))
  | bl j=>cases ry; exact ne_bool (zV I q (congrArg not zaj))
  | str j=>obtain ⟨t',rfl⟩:=ry; exact PySem.EqMixed.ne_bool_str (zV I q (by simp))
  | _=>exact absurd (show false=true from hs) ζw
 | int i =>
  obtain ⟨t,rfl⟩:=rx
  cases y with
  | non=>cases ry; exact PySem.EqNone.ne_int_none (zV I q (by simp))
  | int j=>obtain ⟨t',rfl⟩:=ry; exact ne_int (zV I q (congrArg not uJ))
  | str j=>obtain ⟨t',rfl⟩:=ry; exact PySem.EqMixed.ne_int_str (zV I q (by simp))
  | _=>exact absurd (show false=true from hs) ζw
 | str i =>
  obtain ⟨t,rfl⟩:=rx
  cases y with
  | non=>cases ry; exact PySem.EqNone.ne_str_none (zV I q (by simp))
  | bl j=>cases ry; exact PySem.EqMixed.ne_str_bool (zV I q (by simp))
  | int j=>obtain ⟨t',rfl⟩:=ry; exact PySem.EqMixed.ne_str_int (zV I q (by simp))
  | str j=>obtain ⟨t',rfl⟩:=ry; exact ne_str (zV I q (congrArg not Ur))
  | _=>exact absurd (show false=true from hs) ζw
 | byt i =>
  obtain ⟨t,rfl⟩:=rx
  cases y with
  | byt j=>obtain ⟨t',rfl⟩:=ry; exact PySem.W.ne_bytes (zV I q (congrArg not Us))
  | _=>exact absurd (show false=true from hs) ζw
 | _=>cases y <;> exact absurd (show false=true from hs) ζw
theorem Ye:OpR X (compareOp .Lt) (rI0 fun i j=>.bl (decide (i < j))):=opB0 fun _ _ _ _ _ _ _ q=>lt_int q
theorem Za:OpR X (compareOp .Gt) (rI0 fun i j=>.bl (decide (j < i))):=opB0 fun _ _ _ _ _ _ _ q=>gt_int q
theorem zdC:OpR X (compareOp .GtE) (rI0 fun i j=>.bl (decide (j≤i))):=opB0 fun _ _ _ _ _ _ _ q=>ge_int q
theorem zcB:OpR X (compareOp .Is) (fun x y H Q=>y=.non∧Q (.bl (decide (x=.non))) H):=by
 intro pins s σ H x y v u Q I rx ry h
 obtain ⟨rfl,q⟩:=h
 cases ry
 refine is_none_gen (zV I q ?_)
 cases x <;> first
  | (cases rx; rfl)
  | (obtain ⟨t,rfl⟩:=rx; rfl)
theorem zU (b:Expr) {op:CmpOp} (h:op≠.In:=by decide) (h2:op≠.NotIn:=by decide):behindInMarks op b=false:=by
 have e1:(op == CmpOp.In)=false:=by cases op <;> first | rfl | exact absurd rfl h
 have e2:(op == CmpOp.NotIn)=false:=by cases op <;> first | rfl | exact absurd rfl h2
 cases b <;> simp [behindInMarks,e1,e2]
theorem yR {op:CmpOp} {r:R2} (ho:OpR X (compareOp op) r) (ha:PE X a ta) (hb:PE X b tb) (hm:behindInMarks op b=false):PE X (.Compare a [op] [b] pos) (tOp r ta tb):=by
 intro pins s σ H Q I h
 exact wpAny_Compare1 (binT ha hb I h fun v u s2 x y H2 I2 rx ry q=>ho pins s2 σ H2 x y v u Q I2 rx ry q) hm
def Tz (t:TE):TT:=fun σ H Q=>t σ H fun x H'=>∃ k,x=.bl k∧Q k H'
theorem zB {op:CmpOp} {r:R2} (ho:OpR X (compareOp op) r) (ha:PE X a ta) (hb:PE X b tb) (hm:behindInMarks op b=false):PT X (.Compare a [op] [b] pos) (Tz (tOp r ta tb)):=by
 intro pins s σ H Q I h
 refine wpAny_isTrue_Compare1 (thn (ha pins s σ H _ I h) fun v s1 ⟨x,H1,I1,r1,q1⟩=>thn (hb pins s1 σ H1 _ I1 q1) fun u s2 ⟨y,H2,I2,r2,q2⟩ =>
  thn (ho pins s2 σ H2 x y v u _ I2 r1 r2 q2) fun c s3 ⟨z,H3,I3,r3,k,e,q3⟩=>?_) hm
 subst e
 cases r3
 exact wpAny_truthy_bool ⟨H3,I3,q3⟩
theorem Vt:(sizeLine:Nat) < 2 ^ 63:=by rw [sizeLine_eq]; decide
theorem vP {x:V} {us:List Value} (r:Vals [x] us):∃ u,us=[u]∧RelV x u:=by
 cases r with
 | cons r1 r2=>cases r2; exact ⟨_,rfl,r1⟩
theorem zbK {x y:V} {us:List Value} (r:Vals [x,y] us):∃ u w',us=[u,w']∧RelV x u∧RelV y w':=by
 cases r with
 | cons r1 r2 =>
  cases r2 with
  | cons r3 r4=>cases r4; exact ⟨_,_,rfl,r1,r3⟩
theorem Yz (hc:X.calm=true):yQ X (.builtin "max") (fun xs H Q=>∃ i j,xs=[.int i,.int j]∧Q (.int (if j > i then j else i)) H):=by
 intro pins s σ H xs us Q I r h
 obtain ⟨i,j,rfl,q⟩:=h
 obtain ⟨u,w',rfl,⟨t,rfl⟩,⟨t',rfl⟩⟩:=zbK r
 refine max_two_ints (I.ok.hd hc) fun h' tk k=>⟨_,H,I.kept k,?_,q⟩
 by_cases hj:j > i
 ·rw [if_pos hj,if_pos hj]; exact ⟨_,rfl⟩
 ·rw [if_neg hj,if_neg hj]; exact ⟨_,rfl⟩
end
section
variable {prog:Program} {w:World} {A:Around} {E:Value→Shared→Prop} {s:Shared} {K:ζa} {x dx C f:Addr} {mA:Str→Option Value} {name:Str} {v:Value}
end
theorem RelO.some_of {v:V} {o:Option Value} (r:RelO (some v) o):∃ u,o=some u∧RelV v u:=by
 cases o with
 | none=>exact (show False from r).elim
 | some u=>exact ⟨u,rfl,r⟩
section
variable {P:Program} {w:World} {H H':Hp} {h h':Heap} {a C dx:Addr} {fs fs':List (Str×V)}
end
section
variable {X:Cx} {pins:List (Addr×Obj)} {σ:St} {H:Hp} {s:Shared} {a C dx:Addr} {fs:List (Str×V)} {f:Str} {v:V} {A:Around} {E:Value→Shared→Prop}
end
section
variable {X:Cx} {o e value:Expr} {f:Str} {pos pos' tpos:Pos} {ta tv:TE}
end
section
variable {X:Cx} {pins:List (Addr×Obj)} {σ:St} {H:Hp} {s:Shared} {A:Around} {E:Value→Shared→Prop} {Q:Value→Shared→Prop} {c:Value} {b:Bool}
end
structure Room (k:Nat) (A:Around):Prop where
 hd:A.handled=none
 dp:A.depth + 3 * k + 5 < recursionLimit
 un:A.units + 16 * k + 200 < cLine
theorem Room.mono {j k:Nat} {A:Around} (r:Room k A) (h:j≤k):Room j A:=⟨r.hd,by have:=r.dp; omega,by have:=r.un; omega⟩
theorem Room.deeper {k:Nat} {A:Around} (r:Room (k + 1) A) (env:Env):Room k (A.deeper env) :=
 ⟨r.hd,by have:=r.dp; show A.depth + 1 + 3 * k + 5 < _; omega,by have:=r.un; show A.units + 3 + 16 * k + 200 < _; omega⟩
theorem Room.depth {k:Nat} {A:Around} (r:Room k A):A.depth < recursionLimit:=by have:=r.dp; omega
theorem Room.units {k:Nat} {A:Around} (r:Room k A):A.units + 64 < cLine:=by have:=r.un; omega
def tNil:TA:=fun _ H Q=>Q [] H
def ye (ta:TE) (tr:TA):TA:=fun σ H Q=>ta σ H fun x H1=>tr σ H1 fun xs H2=>Q (x :: xs) H2
section
variable {X:Cx} {e:Expr} {es:List Expr} {te:TE} {t:TA} {pos:Pos}
theorem zd:PA X [] tNil:=fun _ _ _ _ H Q I h=>Calls.spliced_nil ⟨[],H,I,.nil,h⟩
theorem zb (ha:PE X e te) (hr:PA X es t) (hs:starEach (e :: es) X.env=(false,eval e X.env) :: starEach es X.env:=by rfl):PA X (e :: es) (ye te t):=by
 intro pos pins s σ H Q I h
 rw [hs]
 show wpAny _ _ (spliced ((false,eval e X.env) :: backTo pos (starEach es X.env))) _ _ s
 refine Calls.spliced_cons (thn (ha pins s σ H _ I h) fun u s1 ⟨x,H1,I1,r1,q1⟩=>?_)
 exact thn (hr pos pins s1 σ H1 _ I1 q1) fun us s2 ⟨xs,H2,I2,r2,q2⟩=>⟨x :: xs,H2,I2,.cons r1 r2,q2⟩
def tTup (t:TA):TE:=fun σ H Q=>t σ H fun xs H1=>xs.length≤sizeLine∧∀ p,H1 p=none→Q (.ref p) (upd H1 p (.tup xs))
def tLst (t:TA):TE:=fun σ H Q=>t σ H fun xs H1=>xs.length≤sizeLine∧∀ p,H1 p=none→Q (.ref p) (upd H1 p (.lst xs))
theorem uR {x1} (h:PA X es t):PE X (.Tuple es x1 pos) (tTup t):=by
 intro pins s σ H Q I hq
 refine wpAny_Tuple_spliced (thn (h pos pins s σ H _ I hq) fun us s1 ⟨xs,H1,I1,r,z,q⟩=>⟨by rw [← r.length]; exact z,?_⟩)
 have hf:H1 s1.heap.objs.size=none:=I1.hok.fresh (ζi _)
 refine ⟨.ref s1.heap.objs.size,upd H1 s1.heap.objs.size (.tup xs),I1.laid (t':=s1.toks) (fun b u e=>ζh _ e) (ζi _) ?_,rfl,q _ hf⟩
 exact ⟨z,us,r,⟨_,ζB _ rfl,rfl,_,rfl⟩⟩
theorem yb (h:PA X es t):PE X (.List es pos) (tLst t):=by
 intro pins s σ H Q I hq
 refine wpAny_List_spliced (thn (h pos pins s σ H _ I hq) fun us s1 ⟨xs,H1,I1,r,z,q⟩=>⟨by rw [← r.length]; exact z,?_⟩)
 have hf:H1 s1.heap.objs.size=none:=I1.hok.fresh (ζi _)
 refine ⟨.ref s1.heap.objs.size,upd H1 s1.heap.objs.size (.lst xs),I1.laid (t':=s1.toks) (fun b u e=>ζh _ e) (ζi _) ?_,rfl,q _ hf⟩
 exact ⟨z,us,0,r,ζB _ rfl⟩
end
abbrev Sp:=List V→Hp→VK→XK→Prop
abbrev CXT:=List Env→Hp→Shared→XK→Value→Shared→Prop
structure Env0 (P:Program) (w:World) (K:ζa) (mg:Str→Option Value) (base:Heap) (A:Around) (outer:List Env) (s:Shared) (H:Hp):Prop where
 frames:A.frames=some outer
 mod:Mod K mg base
 bs:∀ b o,base.get? b=some o→s.heap.get? b=some o∧H b=none
 bsz:base.objs.size≤s.heap.objs.size
 funs:s.heap.FunFrames base outer
 frf:∀ b∈frs outer,H b=none
 hok:HOk P w H s.heap
 bare:AllBare s.gens
 tb:TbOk K H
def CE (outer:List Env) (P:Program) (w:World) (H:Hp) (s:Shared) (Q:VK) (u:Value) (s':Shared):Prop :=
 ∃ v H',s'.os=s.os∧AllBare s'.gens∧Un (frs outer) [] H H' s.heap s'.heap∧HOk P w H' s'.heap∧RelV v u∧Q v H'
def CR (CX:CXT) (outer:List Env) (P:Program) (w:World) (H:Hp) (s:Shared) (Q:VK) (E:XK) (r:Result) (s':Shared):Prop :=
 match r with
 | .ok (.ret u)=>CE outer P w H s Q u s'
 | .ok _=>False
 | .error e=>CX outer H s E e s'
structure FnOk (P:Program) (w:World) (K:ζa) (mg:Str→Option Value) (base:Heap) (CX:CXT) (k:Nat) (f:Addr) (fd:FuncData) (ps:List Str) (sp:Sp):Prop where
 len:∀ vs H Q E,sp vs H Q E→vs.length=ps.length
 run:∀ (A:Around) (outer:List Env) (s:Shared) (H:Hp) (args:Args) (us:List Value) (vs:List V) (Q:VK) (E:XK),Room k A→Env0 P w K mg base A outer s H→BindsTo s fd args (ps.zip us)→Vals vs us→sp vs H Q E →
  codeAny (model P w) A (.call (.ref f) args) (CR CX outer P w H s Q E) s
theorem FnOk.mono {P:Program} {w:World} {K:ζa} {mg:Str→Option Value} {base:Heap} {CX:CXT} {j k:Nat} {f:Addr} {fd:FuncData} {ps:List Str} {sp:Sp} (F:FnOk P w K mg base CX j f fd ps sp) (h:j≤k) :
  FnOk P w K mg base CX k f fd ps sp:=⟨F.len,fun A outer s H args us vs Q E hr=>F.run A outer s H args us vs Q E (hr.mono h)⟩
section
variable {X:Cx} {pins:List (Addr×Obj)} {σ:St} {H:Hp} {s s':Shared}
theorem Inv.env0 (I:Inv X pins σ H s):Env0 X.prog X.w X.K X.mg X.base X.A X.stack s H :=
 ⟨I.ok.frames,I.ok.mod,I.bs,ζU I.ok.bsz I.sz,I.stack,I.stkFree,I.hok,I.bare,I.ok.tb.un I.base⟩
theorem Inv.after {Q:VK} {u:Value} (I:Inv X pins σ H s) (h:CE X.stack X.prog X.w H s Q u s'):EP X pins σ Q u s':=by
 obtain ⟨v,H',os,bare,un,hok,r,q⟩:=h
 obtain ⟨hh,g,d,t,os'⟩:=s'
 obtain rfl:os'=s.os:=os
 exact ⟨v,H',I.call (h':=hh) (g':=g) (d':=d) (t':=t) (ch:=[]) un hok bare (fun b z=>absurd z (by simp)),r,q⟩
end
def u0 (sp:Sp) (dvs:List V) (E:XK) (t:TA):TE:=fun σ H Q=>t σ H fun vs H1=>sp (vs ++ dvs) H1 Q E
def x9 (K:ζa) (fd:FuncData) (ps:List Str) (ds:List Value):Prop :=
 ∀ (s:Shared) (us:List Value),K.In s.heap→(us ++ ds).length=ps.length→BindsTo s fd ⟨us,[]⟩ (ps.zip (us ++ ds))
theorem x9.all {K:ζa} {fd:FuncData} {ps:List Str} (h:∀ us:List Value,us.length=ps.length→bindArgs fd ⟨us,[]⟩=pure (ps.zip us)):x9 K fd ps []:=fun s us _ hl=>by
 rw [ζJ] at hl ⊢
 exact .of_eq (h us hl)
def XJ (CX:CXT) (X:Cx) (E:XK):Prop:=∀ (pins:List (Addr×Obj)) (σ:St) (H:Hp) (s:Shared) (e:Value) (s':Shared),Inv X pins σ H s→CX X.stack H s E e s'→X.xe e s'
section
variable {X:Cx} {CX:CXT} {k:Nat} {f C:Addr} {fd:FuncData} {ps:List Str} {sp:Sp} {dvs:List V} {ds:List Value} {E:XK} {x m:Str} {p pos apos:Pos} {e o:Expr} {es:List Expr} {ta:TE} {t:TA}
theorem TR {pins:List (Addr×Obj)} {σ:St} {H:Hp} {s:Shared} {Q:VK} {us:List Value} {vs:List V} (F:FnOk X.prog X.w X.K X.mg X.base CX k f fd ps sp) (hr:Room k X.A) (hb:x9 X.K fd ps ds) (hd:Vals dvs ds) (hx:XJ CX X E)
  (I:Inv X pins σ H s) (r:Vals vs us) (h:sp (vs ++ dvs) H Q E):wpAny (model X.prog X.w) X.A (call (.ref f) us) (EP X pins σ Q) X.xe s:=by
 have r2:Vals (vs ++ dvs) (us ++ ds):=r.append hd
 have hl:(us ++ ds).length=ps.length:=by rw [← r2.length]; exact F.len _ _ _ _ h
 refine wpAny_call (codeAny_mono (F.run X.A X.stack s H ⟨us,[]⟩ (us ++ ds) (vs ++ dvs) Q E hr I.env0 (hb s us I.kIn hl) r2 h) fun r s' hq=>?_)
 cases r with
 | error e=>exact hx pins σ H s e s' I hq
 | ok fl =>
  cases fl with
  | ret u=>exact I.after hq
  | next=>exact False.elim hq
  | brk=>exact False.elim hq
  | cont=>exact False.elim hq
theorem zaY (F:FnOk X.prog X.w X.K X.mg X.base CX k f fd ps sp) (hr:Room k X.A) (hg:Gl X x) (hm:X.mg x=some (.ref f)) (hk:PySem.W.keepIn X.K (.ref f)=true) (hb:x9 X.K fd ps ds) (hd:Vals dvs ds) (hx:XJ CX X E)
  (ha:PA X (e :: es) t) (hdb:(x == ("__debug__" : Str))=false:=by decide) (he:starEach (e :: es) X.env=(false,eval e X.env) :: starEach es X.env:=by rfl) (hpl:(backTo pos (starEach es X.env)).any (·.1)=false:=by rfl) :
  PE X (.Call (.Name x p) (e :: es) [] pos) (u0 sp dvs E t):=by
 intro pins s σ H Q I h
 refine wpAny_Call_Name_kw (Xo I hg hm ?_ hdb)
 refine PySem.W.callWith_K (h₀:=X.base) I.ok.mod.kin hk (thn (ha pos pins s σ H _ I h) fun us s1 ⟨vs,H1,I1,r,q⟩=>⟨I1.kIn,?_⟩) he hpl
 exact TR F hr hb hd hx I1 r q
end
section
variable {X:Cx} {CX:CXT} {k:Nat} {f C:Addr} {fd:FuncData} {ps ks:List Str} {sp:Sp} {E:XK} {x m:Str} {p pos apos kpos:Pos} {e o:Expr} {es:List Expr} {kws:List Keyword} {te ta:TE} {t tk:TA} {nm:Option Str}
variable {g:List Value→List Value→List Value} {gV:List V→List V→List V}
end
structure zI (N P:List Str) (sc:Scope):Prop where
 kind:sc.kind=.function
 co:sc.isCoroutine=false
 gen:sc.isGenerator=false
 nd:N.Nodup
 pre:N.take P.length=P
 par:∀ x∈P,sc.names.lookup x=some .local∨sc.names.lookup x=some .cell
 nofree:∀ y∈sc.names,y.2≠.free
theorem YA {kindOf:Str→Option NameKind} {x:Str}:∀ {binds:List (Str×Value)} {m:Str→Option Value},(∀ v,(x,v)∉binds)→bindL kindOf binds m x=m x
 | [],_,_=>rfl
 | (n,v) :: r,m,h=>by
  unfold bindL
  rw [YA fun w hw=>h w (ζl _ hw)]
  split
  ·have:x≠n:=by rintro rfl; exact h v ζg
   simp [this]
  ·rfl
theorem YC {kindOf:Str→Option NameKind} {x:Str}:∀ {binds:List (Str×Value)} {m:Str→Option Value},(∀ v,(x,v)∉binds)→bindC kindOf binds m x=m x
 | [],_,_=>rfl
 | (n,v) :: r,m,h=>by
  unfold bindC
  rw [YC fun w hw=>h w (ζl _ hw)]
  split
  ·rfl
  ·have:x≠n:=by rintro rfl; exact h v ζg
   simp [this]
theorem YB {kindOf:Str→Option NameKind} {x:Str} {v:Value}:∀ {P:List Str} {vs:List Value} {i:Nat} {m:Str→Option Value},P.Nodup→P[i]?=some x→vs[i]?=some v→kindOf x=some .local →
  bindL kindOf (P.zip vs) m x=some v
 | [],_,_,_,_,h,_,_=>by simp at h
 | _ :: _,[],_,_,_,_,h,_=>by simp at h
 | p :: P,w :: vs,0,m,nd,h1,h2,hk=>by
  simp at h1 h2; subst h1; subst h2
  show bindL kindOf ((p,w) :: P.zip vs) m p=_
  unfold bindL
  rw [YA fun v hv=>(ζC.mp nd).1 (List.of_mem_zip hv).1,if_pos hk]
  simp
 | p :: P,w :: vs,i + 1,m,nd,h1,h2,hk=>by
  show bindL kindOf ((p,w) :: P.zip vs) m x=_
  unfold bindL
  exact YB (i:=i) (List.nodup_cons.mp nd).2 (by simpa using h1) (by simpa using h2) hk
theorem YD {kindOf:Str→Option NameKind} {x:Str} {v:Value}:∀ {P:List Str} {vs:List Value} {i:Nat} {m:Str→Option Value},P.Nodup→P[i]?=some x→vs[i]?=some v→kindOf x≠some .local →
  bindC kindOf (P.zip vs) m x=some v
 | [],_,_,_,_,h,_,_=>by simp at h
 | _ :: _,[],_,_,_,_,h,_=>by simp at h
 | p :: P,w :: vs,0,m,nd,h1,h2,hk=>by
  simp at h1 h2; subst h1; subst h2
  show bindC kindOf ((p,w) :: P.zip vs) m p=_
  unfold bindC
  rw [YC fun v hv=>(ζC.mp nd).1 (List.of_mem_zip hv).1,if_neg hk]
  simp
 | p :: P,w :: vs,i + 1,m,nd,h1,h2,hk=>by
  show bindC kindOf ((p,w) :: P.zip vs) m x=_
  unfold bindC
  exact YD (i:=i) (List.nodup_cons.mp nd).2 (by simpa using h1) (by simpa using h2) hk
def start (N:List Str) (vs:List V):St:=vs.map some ++ List.replicate (N.length - vs.length) none
def cxOf (CX:CXT) (P:Program) (w:World) (K:ζa) (mg:Str→Option Value) (base:Heap) (N:List Str) (qual:Str) (scope:Scope) (f:Addr) (cd:Value) (A:Around) (outer:List Env) (s:Shared) (H:Hp) (E:XK):Cx where
 prog:=P
 w:=w
 K:=K
 mg:=mg
 base:=base
 A:=A.deeper (envOfC qual scope s.heap.objs.size f cd)
 N:=N
 s₀:=s
 H₀:=H
 env:=envOfC qual scope s.heap.objs.size f cd
 outer:=outer
 stack:=envOfC qual scope s.heap.objs.size f cd :: outer
 ex:=[]
 calm:=true
 fn:=fun _=>true
 pn:=[]
 xe:=fun e s'=>wpAny (model P w) (A.deeper (envOfC qual scope s.heap.objs.size f cd)) (leaving (envOfC qual scope s.heap.objs.size f cd) e) (fun _ s''=>CX outer H s E e s'') (fun e' s''=>CX outer H s E e' s'') s'
theorem WR {sc:Scope} {n:Nat} {x:Str} (h:sc.names.lookup x=some .cell):∃ c,(cellsFrom n sc.names []).lookup x=some c:=by
 have q:=PySem.W.cellsFrom_some sc.names n [] (.inl h)
 exact ξo.mp q
theorem U3 {CX:CXT} {P:Program} {w:World} {K:ζa} {mg:Str→Option Value} {base:Heap} {N ps:List Str} {qual:Str} {scope:Scope} {f:Addr} {cd:Value} {A:Around} {outer:List Env} {s s1:Shared} {H:Hp} {E:XK} {us:List Value} {vs:List V}
  (S:zI N ps scope) (hd:A.handled=none) (e0:Env0 P w K mg base A outer s H) (hl:vs.length=ps.length) (r:Vals vs us)
  (x:InCallC s s.heap.objs.size (bindL (envOfC qual scope s.heap.objs.size f cd).kindOf (ps.zip us) fun _=>none) (cellsFrom (s.heap.objs.size + 1) scope.names []) (bindC (envOfC qual scope s.heap.objs.size f cd).kindOf (ps.zip us) fun _=>none) s1) :
  Inv (cxOf CX P w K mg base N qual scope f cd A outer s H E) [] (start N vs) H s1:=by
 have hpl:ps.length≤N.length:=by have:=congrArg List.length S.pre; rw [ζS] at this; omega
 obtain ⟨h1,tk,rfl,hk⟩:=x.done
 have noA:∀ b:Addr,b∉(cxOf CX P w K mg base N qual scope f cd A outer s H E).ex:=fun b z=>absurd (show b∈([]:List Addr) from z) (by simp)
 refine ⟨⟨e0.mod,S.kind,rfl,rfl,ζi _,fun y z c h1 h2=>?_,fun y hy=>?_,fun y c _ h=>?_,fun _=>hd,Around.frames_deeper e0.frames,.inr ⟨rfl,rfl⟩,fun b z=>absurd z (noA b),e0.bs,e0.bsz,fun b _ _=>noA b,fun b z=>absurd z (noA b),e0.funs,e0.frf,e0.tb⟩,
  rfl,e0.bare,Un.kept hk,⟨_,x.toInCall.ns,fun i y v h1 h2 h3=>?_⟩,fun y c h=>⟨_,x.cell y c h⟩,e0.hok.fresh (Nat.le_refl _),fun y c h=>?_,fun p hp=>absurd (show p∈([]:List (Addr×Obj)) from hp) (by simp),e0.hok.kept hk,?_⟩
 ·exact name_of_addr x.apart (PySem.mem_of_lookup h1) (PySem.mem_of_lookup h2)
 ·have hy:scope.names.lookup y=some .cell∨scope.names.lookup y=some .free:=hy
  rcases hy with hy | hy
  ·exact WR hy
  ·exact absurd rfl (S.nofree _ (PySem.mem_of_lookup hy))
 ·exact ξV (x.above y c (PySem.mem_of_lookup h))
 ·have hi:i < vs.length:=by
   unfold start at h2
   by_cases hi:i < vs.length
   ·exact hi
   ·rw [List.getElem?_append_right (by simpa using hi)] at h2
    rw [ξJ] at h2
    split at h2 <;> cases h2
  have ha:vs[i]?=some v:=by
   unfold start at h2
   rw [List.getElem?_append_left (by simpa using hi),List.getElem?_map] at h2
   cases e:vs[i]? with
   | none=>rw [e] at h2; cases h2
   | some a=>rw [e] at h2; cases h2; rfl
  obtain ⟨u,hu,rv⟩:=r.get ha
  have hp:ps[i]?=some y:=by
   rw [← S.pre,ζT (by omega)]; exact h1
  have ndP:ps.Nodup:=by rw [← S.pre]; exact S.nd.sublist (List.take_sublist _ _)
  refine ⟨u,rv,?_⟩
  rcases S.par y (ζj hp) with k | k
  ·exact .inl ⟨k,YB ndP hp hu k⟩
  ·obtain ⟨c,e⟩:=WR (n:=s.heap.objs.size + 1) k
   refine .inr ⟨.inl k,c,e,?_⟩
   have q:=x.cell y c e
   rw [YD ndP hp hu (by show scope.names.lookup y≠_; rw [k]; decide)] at q
   exact q
 ·exact .inl (e0.hok.fresh (ξV (x.above y c (PySem.mem_of_lookup h))))
 ·unfold start
  show _=N.length
  rw [ζd,ζb,List.length_replicate]
  omega
theorem zb5 {CX:CXT} {P:Program} {w:World} {K:ζa} {mg:Str→Option Value} {base:Heap} {k:Nat} {f:Addr} {name qual:Str} {params:Arguments} {body:List Stmt} {scope:Scope} {dV kV doc pm cdv ct oc:Value} {an od:Option Addr}
  {osl:Array (Option Value)} {N ps:List Str} {sp:Sp} (lk:K.lookup f=some ⟨oc,od,.func (PySem.W.fnOf name qual params body scope dV kV doc pm an cdv ct),osl⟩) (hcd:PySem.W.codeIn K cdv qual=true) (S:zI N ps scope)
  (len:∀ vs H Q E,sp vs H Q E→vs.length=ps.length)
  (hbody:∀ (A:Around) (outer:List Env) (s:Shared) (H:Hp) (vs:List V) (Q:VK) (E:XK),Room k (A.deeper (envOfC qual scope s.heap.objs.size f cdv))→sp vs H Q E →
   ∃ t,PSs (cxOf CX P w K mg base N qual scope f cdv A outer s H E) body t∧t { nx:=fun _ H'=>Q .non H',rt:=Q } (start N vs) H) :
  FnOk P w K mg base CX (k + 1) f (PySem.W.fnOf name qual params body scope dV kV doc pm an cdv ct) ps sp:=by
 refine ⟨len,fun A outer s H args us vs Q E hr e0 hb r hsp=>?_⟩
 have hl:=len _ _ _ _ hsp
 have KX:K.In s.heap:=e0.mod.kin.keeps fun b o e=>(e0.bs b o e).1
 have lim:s.heap.NoLimit:=e0.mod.nolimit.keeps fun b o e=>(e0.bs b o e).1
 have hkind:∀ y∈ps.zip us,scope.names.lookup y.1=some .local∨(scope.names.lookup y.1=some .cell∧((cellsFrom (s.heap.objs.size + 1) scope.names []).lookup y.1).isSome=true):=fun ⟨n,v⟩ hy=>by
  rcases S.par n (List.of_mem_zip hy).1 with q | q
  ·exact .inl q
  ·exact .inr ⟨q,PySem.W.cellsFrom_some _ _ _ (.inl q)⟩
 refine codeAny_call_function hr.depth (KX _ _ lk) rfl S.co S.gen rfl (PySem.W.codeRec_of KX hcd) (hb _ _ _ _ ?_)
 refine wpAny_newFunctionEnv_cells S.kind hkind fun env he s1 x=>?_
 subst he
 refine ⟨lim.keeps x.toInCall.keep,codeAny_func ?_⟩
 obtain ⟨t,ht,hq⟩:=hbody A outer s H vs Q E (hr.deeper _) hsp
 have I:Inv (cxOf CX P w K mg base N qual scope f cdv A outer s H E) [] (start N vs) H s1:=U3 S hr.hd e0 hl r x
 refine wpAny_mono (ht [] s1 (start N vs) H _ I hq) (fun fl s' hs=>?_) fun e s' hs=>hs
 have fin:∀ {σ':St} {H':Hp} {v:V} {u:Value},Inv (cxOf CX P w K mg base N qual scope f cdv A outer s H E) [] σ' H' s'→RelV v u→Q v H'→CE outer P w H s Q u s' :=
  fun {σ' H' v u} J rv q=>⟨v,H',J.os,J.bare,J.base,J.hok,rv,q⟩
 cases fl with
 | ret u =>
  obtain ⟨v,σ',H',J,rv,q⟩:=hs
  exact fin J rv q
 | next =>
  obtain ⟨σ',H',J,q⟩:=hs
  exact fin (v:=V.non) (u:=Value.none) J rfl q
 | brk =>
  obtain ⟨_,_,_,q⟩:=hs
  exact False.elim q
 | cont =>
  obtain ⟨_,_,_,q⟩:=hs
  exact False.elim q
section
variable {X:Cx} {x:Str} {p pos:Pos} {e:Expr} {es:List Expr} {t:TA} {id T:String} {r:List V→Hp→VK→Prop}
def tCB (r:List V→Hp→VK→Prop) (t:TA):TE:=fun σ H Q=>t σ H fun vs H1=>r vs H1 Q
theorem zA (hc:yQ X (.builtin id) r) (hg:Gl X x) (hm:X.mg x=none) (hv:bootBuiltins x=some (.builtin id)) (ha:PA X (e :: es) t) (hn:x ≠ "__name__" := by decide) (hdb:(x == ("__debug__" : Str))=false:=by decide)
  (he:starEach (e :: es) X.env=(false,eval e X.env) :: starEach es X.env:=by rfl) (hpl:(backTo pos (starEach es X.env)).any (·.1)=false:=by rfl):PE X (.Call (.Name x p) (e :: es) [] pos) (tCB r t):=by
 intro pins s σ H Q I h
 refine wpAny_Call_Name_kw (v4 I hg hm hv ?_ hn hdb)
 exact PyProof.Rows.callWith_builtin1 (thn (ha pos pins s σ H _ I h) fun us s1 ⟨vs,H1,I1,r1,q1⟩=>hc pins s1 σ H1 vs us Q I1 r1 q1) he hpl
theorem zW (hc:yQ X (.type T) r) (hg:Gl X x) (hm:X.mg x=none) (hv:bootBuiltins x=some (.type T)) (ha:PA X (e :: es) t) (hn:x ≠ "__name__" := by decide) (hdb:(x == ("__debug__" : Str))=false:=by decide)
  (he:starEach (e :: es) X.env=(false,eval e X.env) :: starEach es X.env:=by rfl) (hpl:(backTo pos (starEach es X.env)).any (·.1)=false:=by rfl):PE X (.Call (.Name x p) (e :: es) [] pos) (tCB r t):=by
 intro pins s σ H Q I h
 refine wpAny_Call_Name_kw (v4 I hg hm hv ?_ hn hdb)
 exact PyProof.Rows.callWith_type1 (thn (ha pos pins s σ H _ I h) fun us s1 ⟨vs,H1,I1,r1,q1⟩=>hc pins s1 σ H1 vs us Q I1 r1 q1) he hpl
end
end L2
namespace HT
open PySem PyProof.Rows
section
open PySem.SeqAt
open PySem.AutoSeq1 (wpAny_loadPart')
open PySem.MeetsSeq PySem.MeetsSeq2 PySem.MeetsSeq3
end
section
variable {prog:Program} {w:World} {A:Around} {E:Value→Shared→Prop} {s:Shared}
def sIx (n d:Nat):Option Int→Nat
 | none=>d
 | some v=>if v < 0 then (v + (n:Int)).toNat else min v.toNat n
theorem YR (n d k:Nat):sIx n d (some (k:Int))=min k n:=by
 show (if (k:Int) < 0 then ((k:Int) + (n:Int)).toNat else min (k:Int).toNat n)=min k n
 rw [if_neg (by omega),Int.toNat_natCast]
end
end HT
namespace L2
open PySem PySem.Spec PyProof.Rows
abbrev TO:=St→Hp→(Option Int→Hp→Prop)→Prop
def PO (X:Cx) (e:Option Expr) (t:TO):Prop :=
 ∀ (pins:List (Addr×Obj)) (s:Shared) (σ:St) (H:Hp) (Q:Option Int→Hp→Prop),Inv X pins σ H s→t σ H Q →
  wpAny (model X.prog X.w) X.A (evalPart e X.env) (fun u s'=>∃ o H',Inv X pins σ H' s'∧IsPart u o∧Q o H') X.xe s
def VX:TO:=fun _ H Q=>Q none H
def zbP (t:TE):TO:=fun σ H Q=>t σ H fun x H1=>∃ i,x=.int i∧Q (some i) H1
theorem v5 {ns:List Int}:∀ {us:List Value},Vals (ns.map V.int) us→IntsAre us ns:=by
 induction ns with
 | nil=>intro us r; rw [List.map_nil] at r; cases r; exact .nil
 | cons n ns ih =>
  intro us r
  rw [ζN] at r
  cases r with
  | cons r1 r2 =>
   obtain ⟨t,e⟩:=r1
   subst e
   exact .cons n t (ih r2)
section
variable {X:Cx} {e:Expr} {te:TE} {lo hi:Option Expr} {tl th:TO} {pos p2:Pos}
theorem uy:PO X none VX:=by
 intro pins s σ H Q I h
 rw [evalPart_none]
 exact wpAny_pure ⟨none,H,I,.none,h⟩
theorem ux (h:PE X e te):PO X (some e) (zbP te):=by
 intro pins s σ H Q I hw
 rw [evalPart_some]
 refine thn (h pins s σ H _ I hw) fun u s1 ⟨x,H1,I1,r1,q1⟩=>?_
 obtain ⟨i,rfl,q⟩:=q1
 obtain ⟨t,rfl⟩:=r1
 exact ⟨some i,H1,I1,.int i t,q⟩
def SlR (X:Cx) (r:V→Option Int→Option Int→Hp→VK→Prop):Prop :=
 ∀ (pins:List (Addr×Obj)) (s:Shared) (σ:St) (H:Hp) (x:V) (v vl vu:Value) (lo hi:Option Int) (sl:Addr) (Q:VK),Inv X pins σ H s→RelV x v→s.heap.IsSliceOf sl vl vu .none→IsPart vl lo→IsPart vu hi→r x lo hi H Q →
  ∃ T id,typeLookup (.type T) "__getitem__" = pure (some (.builtin id))∧s.TypeIs v T∧wpAny (model X.prog X.w) X.A (getItem v (.ref sl)) (EP X pins σ Q) X.xe s
def tSl (r:V→Option Int→Option Int→Hp→VK→Prop) (te:TE) (tl th:TO):TE:=fun σ H Q=>te σ H fun x H1=>tl σ H1 fun l H2=>th σ H2 fun u H3=>r x l u H3 Q
theorem wZ {r:V→Option Int→Option Int→Hp→VK→Prop} (hr:SlR X r) (he:PE X e te) (hl:PO X lo tl) (hu:PO X hi th):PE X (.Subscript e (.Slice lo hi none p2) pos) (tSl r te tl th):=by
 intro pins s σ H Q I h
 refine Subscript_ (thn (he pins s σ H _ I h) fun v s1 ⟨x,H1,I1,r1,q1⟩=>?_)
 refine wpAny_Slice (thn (hl pins s1 σ H1 _ I1 q1) fun vl s2 ⟨l,H2,I2,pl,q2⟩=>thn (hu pins s2 σ H2 _ I2 q2) fun vu s3 ⟨u,H3,I3,pu,q3⟩=>?_)
 rw [evalPart_none]
 refine wpAny_pure ?_
 have I4:Inv X pins σ H3 { s3 with heap:=s3.heap.push { cls:=.type "slice", data:=.fields #[vl,vu,.none] } }:=I3.kept (t':=s3.toks) fun b ob q=>ζh _ q
 obtain ⟨T,id,hT,ht,hg⟩:=hr pins { s3 with heap:=s3.heap.push { cls:=.type "slice", data:=.fields #[vl,vu,.none] } } σ H3 x v vl vu l u s3.heap.objs.size Q I4 r1 (Heap.IsSliceOf.new ..) pl pu q3
 show wpAny (model X.prog X.w) X.A (subscriptTail e (.Slice lo hi none p2) v (.ref s3.heap.objs.size)) (EP X pins σ Q) X.xe { s3 with heap:=s3.heap.push { cls:=.type "slice", data:=.fields #[vl,vu,.none] } }
 exact tail_any (ops:=[.ref s3.heap.objs.size,v]) ht hT hg (by with_unfolding_all rfl)
def cutV (xs:List V) (lo hi:Option Int):List V:=(xs.drop (HT.sIx xs.length 0 lo)).take (HT.sIx xs.length xs.length hi - HT.sIx xs.length 0 lo)
theorem WQ (xs:List V) (lo hi:Option Int):(cutV xs lo hi).length≤xs.length:=by
 unfold cutV
 rw [ζS,ξd]
 omega
end
def ixN (n:Nat) (i:Int):Option Nat:=if 0≤i then (if i < n then some i.toNat else none) else if -(n:Int)≤i then some (i + n).toNat else none
def atI {α:Type} (xs:List α) (i:Int):Option α:=(ixN xs.length i).bind fun j=>xs[j]?
theorem zbg {n:Nat} {i:Int} {j:Nat} (h:ixN n i=some j):seqIndex? i n=some j∧j < n∧-(n:Int)≤i∧i < n:=by
 unfold ixN at h
 by_cases h0:0≤i
 ·rw [if_pos h0] at h
  by_cases h1:i < n
  ·rw [if_pos h1] at h
   have e:i.toNat=j:=ζI h
   exact ⟨by rw [seqIndex_of h0 h1,e],by omega,by omega,h1⟩
  ·rw [if_neg h1] at h; cases h
 ·rw [if_neg h0] at h
  by_cases h1:-(n:Int)≤i
  ·rw [if_pos h1] at h
   have e:(i + n).toNat=j:=ζI h
   exact ⟨by rw [seqIndex_neg (by omega) h1,e],by omega,h1,by omega⟩
  ·rw [if_neg h1] at h; cases h
theorem Uy {α:Type} {xs:List α} {i:Int} {v:α} (h:atI xs i=some v):∃ j,seqIndex? i xs.length=some j∧xs[j]?=some v∧j < xs.length∧-(xs.length:Int)≤i∧i < xs.length:=by
 unfold atI at h
 cases e:ixN xs.length i with
 | none=>rw [e] at h; cases h
 | some j =>
  rw [e] at h
  obtain ⟨h1,h2,h3,h4⟩:=zbg e
  exact ⟨j,h1,h,h2,h3,h4⟩
theorem zbD {α:Type} {xs:List α} {j:Nat} {v:α} (h:xs[j]?=some v):atI xs (j:Int)=some v:=by
 have hj:j < xs.length:=(ζc.mp h).1
 have e:ixN xs.length (j:Int)=some j:=by
  unfold ixN
  rw [if_pos (by omega),if_pos (by omega)]; simp
 unfold atI; rw [e]; exact h
theorem vx {α:Type} (xs:List α) (v:α):atI (xs ++ [v]) (-1)=some v:=by
 have hl:(xs ++ [v]).length=xs.length + 1:=by simp
 have e:ixN (xs ++ [v]).length (-1)=some xs.length:=by
  unfold ixN
  rw [hl,if_neg (by decide),if_pos (by omega)]
  congr 1
  omega
 unfold atI
 rw [e]
 show (xs ++ [v])[xs.length]?=some v
 simp
def zbI (b:Expr):Prop:=∀ o i,subscripted b false o i=operate [o,i] (getItem o i)
def IxR (X:Cx) (r:R2):Prop :=
 ∀ (value slice:Expr) (pins:List (Addr×Obj)) (s:Shared) (σ:St) (H:Hp) (x y:V) (v u:Value) (Q:VK),Inv X pins σ H s→RelV x v→RelV y u→r x y H Q →
  subscripted slice false v u=operate [v,u] (getItem v u)→wpAny (model X.prog X.w) X.A (subscriptTail value slice v u) (EP X pins σ Q) X.xe s
def MtR (X:Cx) (id:String) (r:V→List V→Hp→VK→Prop):Prop :=
 ∀ (pins:List (Addr×Obj)) (s:Shared) (σ:St) (H:Hp) (x:V) (xs:List V) (v:Value) (us:List Value) (Q:VK),Inv X pins σ H s→RelV x v→Vals xs us→r x xs H Q →
  wpAny (model X.prog X.w) X.A (call (.builtin id) (v :: us)) (EP X pins σ Q) X.xe s
section
variable {X:Cx} {a b:Expr} {ta tb:TE} {pos:Pos}
theorem zz {r:R2} (hr:IxR X r) (ha:PE X a ta) (hb:PE X b tb) (hs:zbI b):PE X (.Subscript a b pos) (tOp r ta tb):=by
 intro pins s σ H Q I h
 exact Subscript_ (binT ha hb I h fun v u s2 x y H2 I2 rx ry q=>hr a b pins s2 σ H2 x y v u Q I2 rx ry q (hs _ _))
def rIxL (K:ζa):R2:=fun x y H Q=>∃ p xs i v,x=.ref p∧y=.int i∧SqL K H p xs∧atI xs i=some v∧Q v H
def rIxT (K:ζa):R2:=fun x y H Q=>∃ p xs i v,x=.ref p∧y=.int i∧SqT K H p xs∧atI xs i=some v∧Q v H
theorem zbf:IxR X (rIxL X.K):=by
 intro value slice pins s σ H x y v u Q I rx ry h hs
 obtain ⟨p,xs,i,z,rfl,rfl,hq,he,q⟩:=h
 cases rx
 obtain ⟨t,rfl⟩:=ry
 obtain ⟨its,r,pl,hz⟩:=I.list hq
 obtain ⟨j,h1,h2,h3,h4,h5⟩:=Uy he
 obtain ⟨w,ew,rw'⟩:=r.get h2
 have hl:=r.length
 have hn:=Vt
 have fin:EP X pins σ Q w s:=⟨z,H,I,rw',q⟩
 by_cases h0:0≤i
 ·have hj:i.toNat=j:=by
   rw [seqIndex_of h0 h5] at h1
   exact ζI h1
  exact item_listR pl.isList h0 (by omega) (by rw [hj]; simpa using ew) fin hs
 ·have hj:(i + (its.toArray.size:Int)).toNat=j:=by
   rw [seqIndex_neg (by omega) h4] at h1
   rw [ζQ,← hl]
   exact ζI h1
  exact subscriptTail_builtinR (x:=w) pl.isList.typeIs slot_list_getitem.lookup
   (wpAny_getItem_list_neg (Q:=fun r s'=>r=w∧EP X pins σ Q r s') pl.isList (by omega) (by rw [List.size_toArray] <;> omega) (by omega) (by rw [hj]; simpa using ew) ⟨rfl,fin⟩) hs
theorem zcV:IxR X (rIxT X.K):=by
 intro value slice pins s σ H x y v u Q I rx ry h hs
 obtain ⟨p,xs,i,z,rfl,rfl,hq,he,q⟩:=h
 cases rx
 obtain ⟨t,rfl⟩:=ry
 obtain ⟨its,r,pl,hz⟩:=I.tuple hq
 obtain ⟨j,h1,h2,h3,h4,h5⟩:=Uy he
 obtain ⟨w,ew,rw'⟩:=r.get h2
 have hl:=r.length
 have hn:=Vt
 have fin:EP X pins σ Q w s:=⟨z,H,I,rw',q⟩
 exact subscriptTail_builtinR (x:=w) pl.typeIs slot_tuple_getitem.lookup
  (getItem_tuple (j:=j) (Q:=fun r s'=>r=w∧EP X pins σ Q r s') pl (by omega) (by omega) (by rw [List.size_toArray,← hl]; exact h1) (by simpa using ew) ⟨rfl,fin⟩) hs
theorem Inv.lst {pins:List (Addr×Obj)} {σ:St} {H:Hp} {s:Shared} {p:Addr} {xs:List V} (I:Inv X pins σ H s) (h:H p=some (.lst xs)) :
  ∃ (its:List Value) (n:Nat),Vals xs its∧s.heap.get? p=some { cls:=.type "list", data:=.seq its.toArray n }∧xs.length≤sizeLine:=by
 obtain ⟨z,its,n,r,e⟩:=I.hok p _ h
 exact ⟨its,n,r,e,z⟩
theorem YI (lo hi:Option Int) (n:Nat):(sliceBounds lo hi none n).1=((HT.sIx n 0 lo:Nat):Int)∧(sliceBounds lo hi none n).2.1=((HT.sIx n n hi:Nat):Int)∧(sliceBounds lo hi none n).2.2=1:=by
 refine ⟨?_,?_,rfl⟩
 ·cases lo with
  | none=>simp [sliceBounds,HT.sIx]
  | some i =>
   simp only [sliceBounds,HT.sIx,Option.getD_none,show (1:Int) > 0 by decide,if_true]
   by_cases h:i < 0
   ·simp only [h,if_true] <;> omega
   ·simp only [h,if_false] <;> omega
 ·cases hi with
  | none=>simp [sliceBounds,HT.sIx]
  | some i =>
   simp only [sliceBounds,HT.sIx,Option.getD_none,show (1:Int) > 0 by decide,if_true]
   by_cases h:i < 0
   ·simp only [h,if_true] <;> omega
   ·simp only [h,if_false] <;> omega
theorem ZJ (its:List Value) (lo hi:Option Int):slicePick its.toArray lo hi none=((its.drop (HT.sIx its.length 0 lo)).take (HT.sIx its.length its.length hi - HT.sIx its.length 0 lo)).toArray:=by
 obtain ⟨h1,h2,h3⟩:=YI lo hi its.toArray.size
 unfold slicePick
 rw [h1,h2,h3]
 simp only [sliceRange_one,pick_run,List.size_toArray] <;> rfl
def rSlL (K:ζa):V→Option Int→Option Int→Hp→VK→Prop:=fun x lo hi H Q=>∃ a xs,x=.ref a∧SqL K H a xs∧∀ p,H p=none→Q (.ref p) (upd H p (.lst (cutV xs lo hi)))
theorem zaL:SlR X (rSlL X.K):=by
 intro pins s σ H x v vl vu lo hi sl Q I rx hs pl pu h
 obtain ⟨a,xs,rfl,hx,q⟩:=h
 cases rx
 obtain ⟨its,r,ht,hz⟩:=I.list hx
 have hlen:=r.length
 refine ⟨"list", _,slot_list_getitem.lookup,ht.isList.typeIs,?_⟩
 refine wpAny_getItem_list_slice ht.isList hs pl pu .none (by simp) ?_ (by rw [List.size_toArray] <;> omega)
 rw [ZJ,← hlen]
 refine ⟨.ref s.heap.objs.size,_,I.laid (t':=s.toks) (o:=.lst (cutV xs lo hi)) (fun b ob q=>ζh _ q) (ζi _) ?_,rfl,q _ (I.hok.fresh (ζi _))⟩
 exact ⟨ζU (WQ xs lo hi) hz,_,0,(r.drop (HT.sIx xs.length 0 lo)).take (HT.sIx xs.length xs.length hi - HT.sIx xs.length 0 lo),ζB _ rfl⟩
def uF:V→Bool
 | .non=>true
 | .bl _=>true
 | .int _=>true
 | .str _=>true
 | _=>false
def eqV:V→V→Bool
 | .non,.non=>true
 | .bl a,.bl b=>a == b
 | .bl a,.int b=>(if a then 1 else 0) == b
 | .int a,.bl b=>a == (if b then 1 else 0)
 | .int a,.int b=>a == b
 | .str a,.str b=>a == b
 | _,_=>false
theorem zc6 {A:Around} {s:Shared} {y x:V} {u v:Value} (ry:RelV y u) (rx:RelV x v) (fy:uF y=true) (fx:uF x=true):SeqAt.EqAt A s u v (eqV y x):=by
 cases y with
 | non =>
  cases ry
  cases x with
  | non=>cases rx; exact SeqAt.EqAt.same _
  | bl b=>cases rx; exact SeqAt.EqAt.none_bool b
  | int b=>obtain ⟨t,rfl⟩:=rx; exact SeqAt.EqAt.none_int b t
  | str b=>obtain ⟨t,rfl⟩:=rx; exact SeqAt.EqAt.none_str b t
  | _=>exact absurd (show false=true from fx) ζw
 | bl a =>
  cases ry
  cases x with
  | non=>cases rx; exact SeqAt.EqAt.bool_none a
  | bl b=>cases rx; exact SeqAt.EqAt.bool_bool a b
  | int b=>obtain ⟨t,rfl⟩:=rx; exact SeqAt.EqAt.bool_int a b t
  | str b=>obtain ⟨t,rfl⟩:=rx; exact SeqAt.EqAt.bool_str a b t
  | _=>exact absurd (show false=true from fx) ζw
 | int a =>
  obtain ⟨t',rfl⟩:=ry
  cases x with
  | non=>cases rx; exact SeqAt.EqAt.int_none a t'
  | bl b=>cases rx; exact SeqAt.EqAt.int_bool a t' b
  | int b=>obtain ⟨t,rfl⟩:=rx; exact SeqAt.EqAt.int_int a t' b t
  | str b=>obtain ⟨t,rfl⟩:=rx; exact SeqAt.EqAt.int_str a t' b t
  | _=>exact absurd (show false=true from fx) ζw
 | str a =>
  obtain ⟨t',rfl⟩:=ry
  cases x with
  | non=>cases rx; exact SeqAt.EqAt.str_none a t'
  | bl b=>cases rx; exact SeqAt.EqAt.str_bool a t' b
  | int b=>obtain ⟨t,rfl⟩:=rx; exact SeqAt.EqAt.str_int a t' b t
  | str b=>obtain ⟨t,rfl⟩:=rx; exact SeqAt.EqAt.str_str a t' b t
  | _=>exact absurd (show false=true from fx) ζw
 | _=>exact absurd (show false=true from fy) ζw
def eqU (x:V) (u:Value):Bool:=match u with
 | .none=>eqV .non x
 | .bool b=>eqV (.bl b) x
 | .int i _=>eqV (.int i) x
 | .str z _=>eqV (.str z) x
 | _=>false
theorem zad {x y:V} {u:Value} (r:RelV y u) (f:uF y=true):eqU x u=eqV y x:=by
 cases y with
 | non=>cases r; rfl
 | bl b=>cases r; rfl
 | int i=>obtain ⟨t,rfl⟩:=r; rfl
 | str z=>obtain ⟨t,rfl⟩:=r; rfl
 | _=>exact absurd (show false=true from f) ζw
theorem uL {x:V}:∀ {xs:List V} {us:List Value},Vals xs us→xs.all uF=true→us.any (eqU x)=xs.any fun y=>eqV y x
 | _,_,.nil,_=>rfl
 | y :: xs,u :: us,.cons r t,f=>by
  rw [List.all_cons,ξF] at f
  rw [ξx,ξx,zad r f.1,uL t f.2]
theorem w6 {A:Around} {s:Shared} {x:V} {v:Value} (rx:RelV x v) (fx:uF x=true):∀ {xs:List V} {us:List Value},Vals xs us→xs.all uF=true→∀ u∈us,SeqAt.EqAt A s u v (eqU x u)
 | _,_,.nil,_=>fun u hu=>by cases hu
 | y :: xs,u :: us,.cons r t,f=>fun u' hu=>by
  rw [List.all_cons,ξF] at f
  rcases ζo.mp hu with rfl | hu
  ·rw [zad r f.1]; exact zc6 r rx f.1 fx
  ·exact w6 rx fx t f.2 u' hu
def inV (x:V) (xs:List V):Bool:=xs.any fun y=>eqV y x
def rIn (K:ζa) (neg:Bool):R2:=fun x y H Q=>∃ p xs,y=.ref p∧(SqL K H p xs∨SqT K H p xs)∧uF x=true∧xs.all uF=true∧Q (.bl (if neg then !inV x xs else inV x xs)) H
theorem UN:OpR X (compareOp .In) (rIn X.K false):=by
 intro pins s σ H x y v u Q I rx ry h
 obtain ⟨p,xs,rfl,hq,fx,fs,q⟩:=h
 cases ry
 rcases hq with hq | hq
 ·obtain ⟨its,r,pl,hz⟩:=I.list hq
  refine SeqAt.in_listAt (eqU x) pl.isList (fun w hw=>w6 rx fx r fs w (by simpa using hw)) ⟨.bl _,H,I,rfl,?_⟩
  rw [show its.toArray.any (eqU x)=its.any (eqU x) by simp,uL r fs]
  exact q
 ·obtain ⟨its,r,pl,hz⟩:=I.tuple hq
  refine SeqAt.in_tupleAt (eqU x) pl (fun w hw=>w6 rx fx r fs w (by simpa using hw)) ⟨.bl _,H,I,rfl,?_⟩
  rw [show its.toArray.any (eqU x)=its.any (eqU x) by simp,uL r fs]
  exact q
theorem Y2:OpR X (compareOp .NotIn) (rIn X.K true):=by
 intro pins s σ H x y v u Q I rx ry h
 obtain ⟨p,xs,rfl,hq,fx,fs,q⟩:=h
 cases ry
 rcases hq with hq | hq
 ·obtain ⟨its,r,pl,hz⟩:=I.list hq
  refine SeqAt.notIn_listAt (eqU x) pl.isList (fun w hw=>w6 rx fx r fs w (by simpa using hw)) ⟨.bl _,H,I,rfl,?_⟩
  rw [show its.toArray.any (eqU x)=its.any (eqU x) by simp,uL r fs]
  exact q
 ·obtain ⟨its,r,pl,hz⟩:=I.tuple hq
  refine SeqAt.notIn_tupleAt (eqU x) pl (fun w hw=>w6 rx fx r fs w (by simpa using hw)) ⟨.bl _,H,I,rfl,?_⟩
  rw [show its.toArray.any (eqU x)=its.any (eqU x) by simp,uL r fs]
  exact q
theorem XF:yQ X (.builtin "len") (fun xs H Q=>∃ p ys,xs=[.ref p]∧(SqL X.K H p ys∨SqT X.K H p ys)∧Q (.int ys.length) H):=by
 intro pins s σ H xs us Q I r h
 obtain ⟨p,ys,rfl,hq,q⟩:=h
 obtain ⟨u,rfl,rx⟩:=vP r
 cases rx
 have hn:=Vt
 rcases hq with hq | hq
 ·obtain ⟨its,r',pl,hz⟩:=I.list hq
  have hlen:=r'.length
  exact Calls.call_len_list pl.isList (by simp only [List.size_toArray] <;> omega) ⟨.int ys.length,H,I.tok _,⟨s.toks + 1,by rw [List.size_toArray,hlen]⟩,q⟩
 ·obtain ⟨its,r',pl,hz⟩:=I.tuple hq
  have hlen:=r'.length
  exact len_tuple pl (by simp only [List.size_toArray] <;> omega) ⟨.int ys.length,H,I.tok _,⟨s.toks + 1,by rw [List.size_toArray,hlen]⟩,q⟩
theorem XD:yQ X (.type "list") (fun xs H Q=>∃ p ys,xs=[.ref p]∧(SqL X.K H p ys∨SqT X.K H p ys)∧∀ l,H l=none→Q (.ref l) (upd H l (.lst ys))):=by
 intro pins s σ H xs us Q I r h
 obtain ⟨p,ys,rfl,hq,q⟩:=h
 obtain ⟨u,rfl,rx⟩:=vP r
 cases rx
 have fin:∀ (its:List Value),Vals ys its→ys.length≤sizeLine→∀ (h':Heap) (c':Nat),(∀ b o',s.heap.get? b=some o'→h'.get? b=some o') →
   h'.get? s.heap.objs.size=some { cls:=.type "list", dict:=none,data:=.seq its.toArray c',slots:=#[] }→EP X pins σ Q (.ref s.heap.objs.size) { s with heap:=h' }:=fun its r' hz h' c' kp e =>
  ⟨.ref s.heap.objs.size,_,I.laid (t':=s.toks) kp (ζi _) (show yk X.prog X.w _ h' _ (.lst ys) from ⟨hz,its,c',r',e⟩),rfl,q _ (I.hok.fresh (ζi _))⟩
 rcases hq with hq | hq
 ·obtain ⟨its,r',pl,hz⟩:=I.list hq
  have hlen:=r'.length
  obtain ⟨o,ho,hc,n,hd⟩:=pl.isList
  exact call_list_seq p (.inl rfl) ho hc hd (fun h' c' kp e=>fin its r' hz h' c' kp e) (by simp only [List.size_toArray] <;> omega)
 ·obtain ⟨its,r',pl,hz⟩:=I.tuple hq
  have hlen:=r'.length
  obtain ⟨o,ho,hc,n,hd⟩:=pl
  exact call_list_seq p (.inr rfl) ho hc hd (fun h' c' kp e=>fin its r' hz h' c' kp e) (by simp only [List.size_toArray] <;> omega)
def tyV (K:ζa) (T:String) (x:V) (H:Hp):Prop:=match x with
 | .str _=>T = "str"
 | .int _=>T = "int"
 | .ref p=>(T = "list" ∧ ∃ xs,SqL K H p xs)∨(T = "tuple" ∧ ∃ o,K.lookup p=some o∧o.cls=.type "tuple" ∧ o.dict=none) ∨
   (T = "dict" ∧ ((∃ kvs,H p=some (.dK kvs))∨∃ kvs,H p=some (.dT kvs)))∨(T = "set" ∧ ∃ S n,H p=some (.set S n))
 | _=>False
theorem Tu {pins:List (Addr×Obj)} {σ:St} {H:Hp} {s:Shared} {T:String} {x:V} {v:Value} (I:Inv X pins σ H s) (r:RelV x v) (ty:tyV X.K T x H) :
  s.TypeIs v T∧∀ a,v=.ref a→∃ ob,s.heap.get? a=some ob∧ob.dict=none:=by
 cases x with
 | str z =>
  obtain ⟨t,rfl⟩:=r
  cases (show T = "str" from ty)
  exact ⟨typeIs_str s z t,fun _ e=>nomatch e⟩
 | int i =>
  obtain ⟨t,rfl⟩:=r
  cases (show T = "int" from ty)
  exact ⟨typeIs_int s i t,fun _ e=>nomatch e⟩
 | ref p =>
  cases r
  rcases ty with ⟨rfl,xs,hq⟩ | ⟨rfl,o,hk,hc,hd⟩ | ⟨rfl,hk⟩ | ⟨rfl,S,n,hk⟩
  ·obtain ⟨its,_,pl,_⟩:=I.list hq
   refine ⟨pl.isList.typeIs,fun a e=>?_⟩
   cases e
   obtain ⟨o,n,e,c,hd,_⟩:=pl
   exact ⟨o,e,hd⟩
  ·refine ⟨⟨o,I.kIn p o hk,hc⟩,fun a e=>?_⟩
   cases e
   exact ⟨o,I.kIn _ o hk,hd⟩
  ·have z:∃ o,s.heap.get? p=some o∧o.ExactDict:=by
    rcases hk with ⟨kvs,hk⟩ | ⟨kvs,hk⟩
    ·obtain ⟨_,_,_,_,o,_,_,e,ex,_⟩:=I.hok p _ hk
     exact ⟨o,e,ex⟩
    ·obtain ⟨_,_,_,_,o,_,_,e,ex,_⟩:=I.hok p _ hk
     exact ⟨o,e,ex⟩
   obtain ⟨o,e,ex⟩:=z
   refine ⟨⟨o,e,ex.1⟩,fun a e2=>?_⟩
   cases e2
   exact ⟨o,e,ex.2.1⟩
  ·obtain ⟨o,_,_,_,e,ex,_⟩:=I.hok p _ hk
   refine ⟨⟨o,e,ex.1⟩,fun a e2=>?_⟩
   cases e2
   exact ⟨o,e,ex.2.1⟩
 | _=>exact False.elim ty
def tBM0 (K:ζa) (T:String) (r:V→List V→Hp→VK→Prop) (to:TE):TE:=fun σ H Q=>to σ H fun x H1=>tyV K T x H1∧r x [] H1 Q
def tBM (K:ζa) (T:String) (r:V→List V→Hp→VK→Prop) (to:TE) (t:TA):TE:=fun σ H Q=>to σ H fun x H1=>tyV K T x H1∧t σ H1 fun xs H2=>r x xs H2 Q
variable {o e:Expr} {es:List Expr} {to:TE} {t:TA} {name:Str} {apos cpos:Pos} {T id:String} {r:V→List V→Hp→VK→Prop}
theorem zcy (pa:PlainAttrs T) (slot:Slot T name id) (hty:typeOf (.builtin id)=pure (.type "method_descriptor")) (hm:MtR X id r) (ho:PE X o to)
  (hbase:attributeBase o name X.env (eval o X.env)=eval o X.env:=by rfl) (hline:(apos.endLine == cpos.line)=true:=by rfl):PE X (.Call (.Attribute o name apos) [] [] cpos) (tBM0 X.K T r to):=by
 intro pins s σ H Q I h
 refine wpAny_Call_method0_late hbase hline (thn (ho pins s σ H _ I h) fun v s1 ⟨x,H1,I1,r1,ty,q1⟩=>?_)
 obtain ⟨h1,h2⟩:=Tu I1 r1 ty
 exact ⟨T,id,pa,slot,hty,h1,h2,Calls.callWith_builtin rfl (PySem.evalArgs_none (hm pins s1 σ H1 x [] v [] Q I1 r1 .nil q1))⟩
theorem zdz (pa:PlainAttrs T) (slot:Slot T name id) (hty:typeOf (.builtin id)=pure (.type "method_descriptor")) (hm:MtR X id r) (ho:PE X o to) (ha:PA X (e :: es) t)
  (hbase:attributeBase o name X.env (eval o X.env)=eval o X.env:=by rfl)
  (hfew:((backTo cpos (starEach (e :: es) X.env)).all (fun x=>!x.1) && (backToKw cpos (keywordEach [] X.env)).all (fun x=>x.1.isSome)
   && decide ((e :: es).length + ([]:List Keyword).length + (if ([]:List Keyword).isEmpty then 0 else 1) < 30))=true:=by rfl)
  (hline:(apos.endLine == cpos.line)=true:=by rfl) (hs:starEach (e :: es) X.env=(false,eval e X.env) :: starEach es X.env:=by rfl) (hplain:(backTo cpos (starEach es X.env)).any (·.1)=false:=by rfl) :
  PE X (.Call (.Attribute o name apos) (e :: es) [] cpos) (tBM X.K T r to t):=by
 intro pins s σ H Q I h
 refine wpAny_Call_method_late hbase hfew hline rfl (thn (ho pins s σ H _ I h) fun v s1 ⟨x,H1,I1,r1,ty,q1⟩=>?_)
 obtain ⟨h1,h2⟩:=Tu I1 r1 ty
 refine ⟨T,id,pa,slot,hty,h1,h2,?_⟩
 have hA:=ha cpos pins s1 σ H1 _ I1 q1
 rw [hs] at hA ⊢
 refine Calls.callWith_builtin (by show (false || (backTo cpos (starEach es X.env)).any (·.1))=false; rw [hplain] <;> rfl) (Calls.evalArgs_plain ?_)
 exact thn hA fun us s2 ⟨vs,H2,I2,r2,q2⟩=>hm pins s2 σ H2 x vs v us Q I2 r1 r2 q2
end
def MtM (X:Cx) (id:String) (r:V→List V→Hp→VK→Prop):Prop :=
 ∀ (pins:List (Addr×Obj)) (s:Shared) (σ:St) (H:Hp) (x:V) (xs:List V) (v:Value) (us:List Value) (Q:VK),Inv X pins σ H s→RelV x v→Vals xs us→r x xs H Q →
  wpAny (model X.prog X.w) X.A (call (.builtin id) (v :: us)) (EP X pins σ Q) X.xe s
theorem Vals.one:∀ {x:V} {us:List Value},Vals [x] us→∃ u,us=[u]∧RelV x u
 | _,_,.cons r .nil=>⟨_,rfl,r⟩
theorem Vals.two:∀ {x y:V} {us:List Value},Vals [x,y] us→∃ u v,us=[u,v]∧RelV x u∧RelV y v
 | _,_,_,.cons r (.cons q .nil)=>⟨_,_,rfl,r,q⟩
theorem Vals.zero:∀ {us:List Value},Vals [] us→us=[]
 | _,.nil=>rfl
theorem Vals.dropLast {xs:List V} {us:List Value} (h:Vals xs us):Vals xs.dropLast us.dropLast:=by
 induction h with
 | nil=>exact .nil
 | cons r t ih =>
  cases t with
  | nil=>exact .nil
  | cons q t'=>exact .cons r ih
theorem Vals.reverse {xs:List V} {us:List Value} (h:Vals xs us):Vals xs.reverse us.reverse:=by
 induction h with
 | nil=>exact .nil
 | cons r t ih=>rw [ζW,ζW]; exact Vals.append ih (.cons r .nil)
theorem VG {α:Type} (l:List α):l.eraseIdx (l.length - 1)=l.dropLast:=by
 induction l with
 | nil=>rfl
 | cons a r ih =>
  cases r with
  | nil=>rfl
  | cons b r =>
   have e:(a :: b :: r).length - 1=((b :: r).length - 1) + 1:=by
    have h1:(a :: b :: r).length=r.length + 2:=rfl
    have h2:(b :: r).length=r.length + 1:=rfl
    omega
   rw [e,List.eraseIdx_cons_succ,ih]
   all_goals rfl
section
variable {X:Cx} {pins:List (Addr×Obj)} {σ:St} {H:Hp} {s:Shared} {l b:Addr} {xs ys zs:List V}
theorem Inv.lset {its its':List Value} {n:Nat} {f:Array Value→Array Value} {t':Nat} (I:Inv X pins σ H s) (hH:H l=some (.lst xs))
  (e:s.heap.get? l=some { cls:=.type "list", data:=.seq its.toArray n }) (hf:f its.toArray=its'.toArray) (hv:Vals ys its') (hz:ys.length≤sizeLine) :
  Inv X pins σ (upd H l (.lst ys)) { s with heap:=s.heap.update l (Obj.mapSeq f),toks:=t' }:=by
 have q:=PySem.IsL.update e f
 rw [hf] at q
 refine I.write (x:=l) (e:=l) (by rw [hH]; exact trivial) (.inl rfl) (fun b' u hb hu=>(ξn s.heap (Obj.mapSeq f) (Ne.symm hb)).trans hu) ⟨_,q⟩ ?_
 exact ⟨hz,its',_,hv,q⟩
theorem Inv.lnew {its:List Value} {t':Nat} (I:Inv X pins σ H s) (hv:Vals ys its) (hz:ys.length≤sizeLine) :
  Inv X pins σ (upd H s.heap.objs.size (.lst ys)) { s with heap:=s.heap.push { cls:=.type "list", data:=.seq its.toArray },toks:=t' } :=
 I.laid (fun _ _ q=>ζh _ q) (ζi _) ⟨hz,its,0,hv,ζB _ rfl⟩
theorem Inv.fresh (I:Inv X pins σ H s):H s.heap.objs.size=none:=I.hok.fresh (ζi _)
theorem Inv.lstM (I:Inv X pins σ H s) (hH:H l=some (.lst xs)):xs.length≤sizeLine∧∃ (its:List Value) (n:Nat),Vals xs its∧xs.length=its.length∧s.heap.get? l=some { cls:=.type "list", data:=.seq its.toArray n }:=by
 obtain ⟨z,its,n,r,e⟩:=I.hok l _ hH
 exact ⟨z,its,n,r,r.length,e⟩
theorem Qw {n:Nat} (h:n≤sizeLine):Builtin.List.listTooLong n=false:=by
 unfold Builtin.List.listTooLong
 exact decide_eq_false (by omega)
end
section
variable {X:Cx}
def wF:V→List V→Hp→VK→Prop:=fun x vs H Q=>∃ l xs y,x=.ref l∧vs=[y]∧H l=some (.lst xs)∧xs.length < sizeLine∧Q .non (upd H l (.lst (xs ++ [y])))
theorem yy:MtM X "list.append" wF:=by
 intro pins s σ H x vs v us Q I rx rv h
 obtain ⟨l,xs,y,rfl,rfl,hH,hz,q⟩:=h
 cases rx
 obtain ⟨u,rfl,ru⟩:=rv.one
 obtain ⟨z,its,n,r,hl,e⟩:=I.lstM hH
 refine call_meets F.slot_list_append ⟨_,e,rfl⟩ F.entry_list_append (F.args_list_append_2 _ _) (PySem.list_append l its.toArray n u (by rw [ζQ]; omega)) ⟨e,?_⟩
 refine ⟨.non,_,I.lset (its':=its ++ [u]) hH e (by simp) (r.append (.cons ru .nil)) ?_,rfl,q⟩
 rw [ζd,List.length_singleton]
 omega
def rPop:V→List V→Hp→VK→Prop:=fun x vs H Q=>∃ l xs y,x=.ref l∧vs=[]∧H l=some (.lst xs)∧xs[xs.length - 1]?=some y∧Q y (upd H l (.lst xs.dropLast))
theorem QD:MtM X "list.pop" rPop:=by
 intro pins s σ H x vs v us Q I rx rv h
 obtain ⟨l,xs,y,rfl,rfl,hH,hy,q⟩:=h
 cases rx
 have hus:=rv.zero
 subst hus
 obtain ⟨z,its,n,r,hl,e⟩:=I.lstM hH
 obtain ⟨u,hu,ru⟩:=r.get hy
 have hy':its.toArray[its.toArray.size - 1]?=some u:=by
  show its.toArray[its.length - 1]?=some u
  rw [← ξb,← hl]
  exact hu
 refine call_meets F.slot_list_pop ⟨_,e,rfl⟩ F.entry_list_pop (F.args_list_pop_1 _) (MeetsSeq.list_pop_last l its.toArray n u hy' (by rw [ζQ]; omega)) ⟨e,?_⟩
 refine ⟨y,_,I.lset (its':=its.dropLast) hH e ?_ r.dropLast ?_,ru,q⟩
 ·show its.toArray.eraseIdxIfInBounds (its.toArray.size - 1)=its.dropLast.toArray
  rw [ζQ,List.eraseIdxIfInBounds_toArray,VG]
 ·rw [ξO]
  omega
def Wa:V→List V→Hp→VK→Prop:=fun x vs H Q=>∃ l xs,x=.ref l∧vs=[]∧H l=some (.lst xs)∧Q .non (upd H l (.lst xs.reverse))
theorem Vn:MtM X "list.reverse" Wa:=by
 intro pins s σ H x vs v us Q I rx rv h
 obtain ⟨l,xs,rfl,rfl,hH,q⟩:=h
 cases rx
 have hus:=rv.zero
 subst hus
 obtain ⟨z,its,n,r,hl,e⟩:=I.lstM hH
 refine call_meets F.slot_list_reverse ⟨_,e,rfl⟩ F.entry_list_reverse (F.args_list_reverse_1 _) (AutoSeq1.list_reverse_list_0 l its.toArray n (by rw [ζQ]; omega)) ⟨e,?_⟩
 refine ⟨.non,_,I.lset (its':=its.reverse) hH e (by simp) r.reverse ?_,rfl,q⟩
 rw [List.length_reverse]
 omega
def Vb:V→List V→Hp→VK→Prop:=fun x vs H Q=>∃ l xs,x=.ref l∧vs=[]∧H l=some (.lst xs)∧Q .non (upd H l (.lst []))
theorem Wq:MtM X "list.clear" Vb:=by
 intro pins s σ H x vs v us Q I rx rv h
 obtain ⟨l,xs,rfl,rfl,hH,q⟩:=h
 cases rx
 have hus:=rv.zero
 subst hus
 obtain ⟨z,its,n,r,hl,e⟩:=I.lstM hH
 refine call_meets F.slot_list_clear ⟨_,e,rfl⟩ F.entry_list_clear (F.args_list_clear_1 _) (AutoSeq1.list_clear_list_0 l its.toArray n (by rw [ζQ]; omega)) ⟨e,?_⟩
 exact ⟨.non,_,I.lset (its':=[]) (ys:=[]) hH e rfl .nil (ζE _),rfl,q⟩
end
section
variable {prog:Program} {w:World} {A:Around} {E:Value→Shared→Prop} {s:Shared}
end
section
variable {X:Cx}
end
end L2
namespace Att
open PySem PySem.W PySem.Calls PyProof.Rows
theorem tF {P:Params} {h:Heap}:∀ (ns:List Int) (vs:List Value),WellAll P h vs (ns.map WData.int)→IntsAre vs ns:=by
 intro ns
 induction ns with
 | nil =>
  intro vs w
  rw [List.map_nil] at w
  cases w
  exact .nil
 | cons n ns ih =>
  intro vs w
  rw [ζN] at w
  cases w with
  | cons a b =>
   cases a
   exact .cons _ _ (ih _ b)
theorem UE {l:OpenLaw} {n:Nat} (hn:l.most=some n) {P:Params} {h:Heap} {args:List WData} {vals:List Value}
  (hpre:l.row.toRowW.claim.pre args=true) (hwl:WellAll P h vals args) :
  ∃ a vs ns,vals=[Value.ref a]∧args=[WData.list (ns.map WData.int)]∧h.get? a=some { cls:=.type "list", data:=.seq vs.toArray }∧IntsAre vs ns∧ns.length≤n:=by
 have hsh:WShape.hasAll [] args [.list .int]=true:=(pre_splitW hpre).1
 have hc:l.pre.holds [] { args:=args }=true:=(pre_splitW hpre).2
 obtain ⟨d,r,rfl,h1,h2⟩:=hasAllW_cons hsh
 obtain rfl:=hasAllW_nil h2
 obtain ⟨xs,rfl,h3⟩:=hasW_list h1
 obtain ⟨ns,rfl⟩:=items_int h3
 have hlen:ns.length≤n:=by
  unfold OpenLaw.pre at hc
  have h4:(WTm.not (.lt (.lit (.int (n:Int))) (.len (.arg 0)))).holds [] { args:=[.list (ns.map .int)] }=true:=by
   have h4:=(holds_andW hc).1
   rw [hn] at h4
   exact h4
  have h5:=condW_of h4 (w_not (w_lt w_lit (w_len_list (w_arg rfl))))
  rw [ζb] at h5
  refine Nat.le_of_not_lt fun q=>?_
  have q':(n:Int) < ((ns.length:Nat):Int):=by omega
  first
   | (rw [decide_eq_true q'] at h5; exact absurd h5 (by decide))
   | (simp at h5; omega)
 cases hwl with
 | cons w1 w2 =>
  cases w2
  cases w1 with
  | list ho hall=>exact ⟨_,_,ns,rfl,rfl,ho,tF ns _ hall,hlen⟩
theorem UJ (l:OpenLaw) (args:List WData):l.row.toRowW.claim.post args (.bool true) args=true :=
 postW_of (r:=l.row.toRowW) (X:=(true == true))
  (show WShape.has [] (.bool true) .bool=true by first | rfl | decide | simp [WShape.has,WShape.arms,WShape.armsAll])
  (show (WTm.eq .res (.lit (.bool true))).value [] { args:=args,res:=some (.bool true),after:=args }=some (.bool (true == true)) from w_eq_bool (w_res rfl) w_lit) rfl
theorem WV {l:OpenLaw} {n:Nat} {q:Program} {loose:List Str} {XP:(Str→Option Value)→Heap→Prop} {YP:World→Heap→Prop} {d:DefRec}
  (hn:l.most=some n) (hdf:d.params.defaults=[])
  (call:∀ (w:World) (s₀ s₁:Shared) (mg mb:Str→Option Value) (fa:Addr) (o:Obj) (pm cd doc:Value) (a:Addr) (vs:List Value) (ns:List Int),
   Ground q loose [] XP w s₀ mg mb s₁.heap→YP w s₁.heap →
   s₁.heap.get? fa=some o→o.data=.func (docDef d.name d.params d.body d.scope pm cd doc)→s₁.heap.CodeRec cd d.name→mg d.name=some (.ref fa) →
   s₁.heap.get? a=some { cls:=.type "list", data:=.seq vs.toArray }→IntsAre vs ns→ns.length≤n→s₁.gens=#[] →
   codeAny (model l.prog w) callerA (.call (.ref fa) ⟨[.ref a],[]⟩) (fun r s'=>r=.ok (.ret (.bool true))∧OldK s₁.heap s'.heap∧s'.os=s₁.os∧AllBare s'.gens) s₁) :
  WalkO q loose XP YP l.row.toRowW d [] (fun f vs=>PySem.call f vs):=by
 intro w s₀ s₁ mg mb G Y fa o pm cd doc dV kV ho hd hcd hD hmg hg args vals as hpre hlay hrd hwl hlo
 obtain rfl:dV=.none:=Dflts.none hD hdf
 obtain rfl:kV=.none:=Dflts.noKw hD
 obtain ⟨a,vs,ns,rfl,rfl,hobj,hints,hlen⟩:=UE hn hpre hwl
 refine enter_call (codeAny_mono (call w s₀ s₁ mg mb fa o pm cd doc a vs ns G Y ho (fd_plain hd) hcd hmg hobj hints hlen hg) fun r s' hq=>?_)
 obtain ⟨rfl,h2,h3,h4⟩:=hq
 exact ⟨.inl ⟨.bool true,.bool true,[],rfl,fun _=>rfl,.bool true,UJ l _,fun _=>⟨List.Pairwise.nil,fun _ hm=>(nomatch hm)⟩⟩,h2,h3,h4⟩
section
variable {prog:Program} {w:World} {A:Around} {E:Value→Shared→Prop} {s:Shared} {K:Frag}
end
end Att
namespace L2
open PySem PySem.Spec PyProof.Rows
theorem Z3:∀ {vs:List Value} {ns:List Int},IntsAre vs ns→Vals (ns.map V.int) vs
 | _,_,.nil=>.nil
 | _,_,.cons n t h=>.cons ⟨t,rfl⟩ (Z3 h)
theorem W0 {K:ζa} {p:Addr×Str} (h:p∈yn K):∃ c o vs,K.lookup c=some o∧o.cls=.type "code" ∧ o.data=.fields vs∧vs[11]?=some (.ref p.1):=by
 obtain ⟨⟨c,_⟩,_,e⟩:=ξr.mp h
 obtain ⟨o,e1,e2⟩:=ξ0.mp e
 unfold Tx at e2
 split at e2
 ·rename_i vs h1 h2
  split at e2
  ·rename_i q t P h3 h4
   split at e2
   ·cases e2
    exact ⟨c,o,vs,e1,h1,h2,h4⟩
   ·cases e2
  ·cases e2
 ·cases e2
theorem QR {P:Program} {w:World} {K:ζa} {mg mb:Str→Option Value} {CX:CXT} {k:Nat} {fa a:Addr} {fd:FuncData} {x:Str} {sp:Sp} {s₁:Shared} {vs:List Value} {ns:List Int}
  (KX:K.In s₁.heap) (hT0:(∀ p∈yn K,s₁.heap.get? p.1=some (PySem.W.tabObj #[]))∧YG K=true)
  (hbm:∃ bm ob,mg "__builtins__" = some (.ref bm)∧bm≠builtinsNs∧s₁.heap.get? bm=some ob∧ob.cls=.type "module" ∧ ob.dict=some builtinsNs∧ob.data=.plain)
  (hns:s₁.heap.Ns mainGlobals mg) (hb:s₁.heap.Ns builtinsNs mb) (hbb:∀ x:Str,x ≠ "__name__" → mb x=bootBuiltins x) (hlim:s₁.heap.NoLimit) (hg:s₁.gens=#[])
  (ha:s₁.heap.get? a=some { cls:=.type "list", data:=.seq vs.toArray }) (hi:IntsAre vs ns) (hl:ns.length≤sizeLine) (hr:Room k callerA)
  (F:∀ base:Heap,K.In base→base.Ns mainGlobals mg→FnOk P w K mg base CX k fa fd [x] sp) (hbind:∀ (s:Shared) (u:Value),BindsTo s fd ⟨[u],[]⟩ [(x,u)])
  (hsp:∀ H:Hp,SqL K H a (ns.map V.int)→sp [.ref a] H (fun v _=>v=.bl true) fun _ _ _=>False)
  (hCX:∀ H e s',CX [] H s₁ (fun _ _ _=>False) e s'→False) :
  codeAny (model P w) callerA (.call (.ref fa) ⟨[.ref a],[]⟩) (fun r s'=>r=.ok (.ret (.bool true))∧OldK s₁.heap s'.heap∧s'.os=s₁.os∧AllBare s'.gens) s₁:=by
 have uq:=hT0.2
 unfold YG at uq
 have hT:∀ p∈yn K,s₁.heap.get? p.1=some (PySem.W.tabObj #[])∧K.lookup p.1=none:=fun p hp=>⟨hT0.1 p hp,by
  have:=ξi.mp uq p hp
  simp only [Bool.and_eq_true] at this
  exact Option.isNone_iff_eq_none.mp this.1⟩
 have one:∀ p q:Addr×Str,p∈yn K→q∈yn K→p.1=q.1→p.2=q.2:=fun p q hp hq e=>by
  have:=ξi.mp uq p hp
  simp only [Bool.and_eq_true] at this
  have:=ξi.mp this.2 q hq
  simpa [e] using this
 have rv:=Z3 hi
 have lenV:=hi.length
 have core:∀ H:Hp,SqL K H a (ns.map V.int)→HOk P w H s₁.heap→(∀ b,H b=none∨(b=a∧∃ o xs,H b=some (.frz o (.lst xs)))∨∃ p∈yn K,b=p.1∧∃ ps,H b=some (.tbl ps))→(H a≠none→K.lookup a=none)→TbOk K H →
   codeAny (model P w) callerA (.call (.ref fa) ⟨[.ref a],[]⟩) (fun r s'=>r=.ok (.ret (.bool true))∧OldK s₁.heap s'.heap∧s'.os=s₁.os∧AllBare s'.gens) s₁:=by
  intro H hS hok hA hK hTb
  have base_of:∀ {b:Addr} {o:Obj},s₁.heap.get? b=some o→H b=none→(hidT s₁.heap H).get? b=some o:=fun e n=>QY e n
  have noA:∀ {b:Addr} {o:Obj},s₁.heap.get? b=some o→(∀ vs:Array Value,∀ n,o.data≠.seq vs n)→(∀ vs,o.data≠.fields vs)→H b=none:=fun {b o} e d1 d2=>by
   rcases hA b with z | ⟨rfl,_⟩ | ⟨p,hp,rfl,_⟩
   ·exact z
   ·rw [ha] at e; cases e
    exact absurd rfl (d1 _ _)
   ·rw [(hT p hp).1] at e; cases e
    exact absurd rfl (d2 _)
  have nsK:∀ {b:Addr} {m:Str→Option Value},s₁.heap.Ns b m→(hidT s₁.heap H).Ns b m:=fun {b m} ⟨o,es,ep,e,d,r⟩=>⟨o,es,ep,base_of e (noA e (fun _ _ z=>by rw [d] at z; cases z) fun _ z=>by rw [d] at z; cases z),d,r⟩
  have hKb:K.In (hidT s₁.heap H):=fun b o e=>base_of (KX b o e) (by
   rcases hA b with z | ⟨rfl,_,_,z⟩ | ⟨p,hp,rfl,_⟩
   ·exact z
   ·rw [hK (by rw [z]; simp)] at e; cases e
   ·rw [(hT p hp).2] at e; cases e)
  have hM:Mod K mg (hidT s₁.heap H):=⟨hKb,nsK hns,⟨mb,nsK hb,hbb⟩,let ⟨mc,h1,h2⟩:=hlim; ⟨mc,nsK h1,h2⟩,let ⟨bm,ob,q1,q2,q3,q4,q5,q6⟩:=hbm; ⟨bm,ob,q1,q2,base_of q3 (noA q3 (fun _ _ z=>by rw [q6] at z; cases z) fun _ z=>by rw [q6] at z; cases z),q4,q5,q6⟩⟩
  have e0:Env0 P w K mg (hidT s₁.heap H) callerA [] s₁ H:=⟨rfl,hM,fun b o e=>za6 e,Nat.le_of_eq (U4 _ _),trivial,fun b hb=>absurd (show b∈([]:List Addr) from hb) (by simp),hok,.of_eq hg,hTb⟩
  refine codeAny_mono ((F _ hKb (nsK hns)).run callerA [] s₁ H ⟨[.ref a],[]⟩ [.ref a] [.ref a] _ _ hr e0 (hbind s₁ (.ref a)) (.cons rfl .nil) (hsp H hS)) fun r s' h=>?_
  cases r with
  | error e=>exact (hCX H e s' h).elim
  | ok fl =>
   cases fl with
   | next=>exact False.elim h
   | brk=>exact False.elim h
   | cont=>exact False.elim h
   | ret u =>
    obtain ⟨v,H',os,bare,un,hok',r',q⟩:=h
    have q':v=.bl true:=q
    subst q'
    obtain rfl:u=Value.bool true:=r'
    refine ⟨rfl,⟨fun b o e=>?_,fun b o e=>un.there b o e (by simp)⟩,os,bare⟩
    rcases hA b with z | ⟨rfl,ob,xs,z⟩ | ⟨p,hp,rfl,ps,z⟩
    ·exact .inl (un.keep b o e z (by intro z; exact absurd (show b∈([]:List Addr) from z) (by simp)) (by simp))
    ·have z2:=un.frzs _ ob _ z
     obtain ⟨e1,_⟩:=hok _ _ z
     obtain ⟨e2,_⟩:=hok' _ _ z2
     rw [e] at e1; cases e1
     exact .inl e2
    ·obtain ⟨m,z2⟩:=un.tbls _ _ z
     obtain ⟨vs',e2,_⟩:=hok' _ _ z2
     obtain ⟨c,oc,cs,k1,k2,k3,k4⟩:=W0 hp
     rw [(hT p hp).1] at e
     cases e
     exact .inr (.inl ⟨⟨c,oc,cs,KX _ _ k1,k2,k3,k4⟩,rfl,#[],vs',rfl,by simpa using e2⟩)
 have tabH:∀ {H:Hp} {p:Addr×Str},p∈yn K→yk P w H s₁.heap p.1 (.tbl #[.str p.2 0]):=fun {H p} hp=>⟨#[],(hT p hp).1,trivial,fun q v z=>by cases z⟩
 let HT:Hp:=fun b=>((yn K).find? fun p=>p.1 == b).map fun p=>HO.tbl #[.str p.2 0]
 have HTat:∀ b,HT b=none∨∃ p∈yn K,b=p.1∧HT b=some (.tbl #[.str p.2 0]):=fun b=>by
  cases q:(yn K).find? fun p=>p.1 == b with
  | none=>exact .inl (by show Option.map _ _=none; rw [q]; rfl)
  | some p=>exact .inr ⟨p,List.mem_of_find?_eq_some q,(show p.1=b by have:=List.find?_some q; simpa using this).symm,by show Option.map _ _=_; rw [q]; rfl⟩
 have HTok:TbOk K HT:=fun p hp=>by
  rcases HTat p.1 with z | ⟨q,hq,e,z⟩
  ·exfalso
   have z':Option.map _ ((yn K).find? fun q=>q.1 == p.1)=none:=z
   rw [Option.map_eq_none_iff,List.find?_eq_none] at z'
   exact z' p hp (by simp)
  ·exact ⟨0,#[],by rw [z,one p q hp hq e]; simp⟩
 cases hk:K.lookup a with
 | some o =>
  have e:=KX a o hk
  rw [ha] at e
  cases e
  refine core HT (.inr ⟨_,vs.toArray,_,hk,rfl,rfl,rfl,by rw [List.size_toArray,lenV]; exact hl,by simpa using rv⟩) (fun b u z=>?_) (fun b=>?_) (fun z=>?_) HTok
  ·rcases HTat b with y | ⟨p,hp,rfl,y⟩
   ·rw [y] at z; cases z
   ·rw [y] at z; cases z; exact tabH hp
  ·rcases HTat b with y | ⟨p,hp,e,y⟩
   ·exact .inl y
   ·exact .inr (.inr ⟨p,hp,e,_,y⟩)
  ·rcases HTat a with y | ⟨p,hp,rfl,y⟩
   ·exact absurd y z
   ·exact (hT p hp).2
 | none =>
  have na:∀ p∈yn K,p.1≠a:=fun p hp e=>by
   have:=(hT p hp).1
   rw [e,ha] at this; cases this
  refine core (fun b=>if b=a then some (.frz { cls:=.type "list", data:=.seq vs.toArray } (.lst (ns.map V.int))) else HT b) (.inl (.inr ⟨{ cls:=.type "list", data:=.seq vs.toArray },if_pos rfl⟩)) (fun b u z=>?_) (fun b=>?_) (fun _=>hk) fun p hp=>?_
  ·by_cases hb:b=a
   ·have z':=(if_pos hb).symm.trans z
    cases z'
    subst hb
    exact ⟨ha,by rw [ζb]; exact hl,vs,_,rv,ha⟩
   ·have z':=(if_neg hb).symm.trans z
    rcases HTat b with y | ⟨p,hp,rfl,y⟩
    ·rw [y] at z'; cases z'
    ·rw [y] at z'; cases z'; exact tabH hp
  ·by_cases hb:b=a
   ·exact .inr (.inl ⟨hb,_,_,if_pos hb⟩)
   ·rcases HTat b with y | ⟨p,hp,e,y⟩
    ·exact .inl ((if_neg hb).trans y)
    ·exact .inr (.inr ⟨p,hp,e,_,(if_neg hb).trans y⟩)
  ·obtain ⟨t,m,e⟩:=HTok p hp
   exact ⟨t,m,(if_neg (na p hp)).trans e⟩
theorem zaz {l:PySem.W.OpenLaw} {n k:Nat} {q:Program} {loose:List Str} {XP:(Str→Option Value)→Heap→Prop} {YP:World→Heap→Prop} {d:DefRec} {K:Params→ζa} {CX:World→CXT} {sp:World→Sp} {x:Str}
  (hn:l.most=some n) (hn2:n≤sizeLine) (hdf:d.params.defaults=[]) (hr:Room k callerA)
  (hY:∀ (w:World) (h:Heap),YP w h→(K w.params).In h) (hT:∀ (w:World) (h:Heap),YP w h→(∀ p∈yn (K w.params),h.get? p.1=some (PySem.W.tabObj #[]))∧YG (K w.params)=true)
  (F:∀ (w:World) (mg:Str→Option Value) (fa:Addr) (h:Heap),(K w.params).In h→h.Ns mainGlobals mg→mg d.name=some (.ref fa) →
   ∃ fd:FuncData,(∀ (s:Shared) (u:Value),BindsTo s fd ⟨[u],[]⟩ [(x,u)]) ∧
    ∀ base:Heap,(K w.params).In base→base.Ns mainGlobals mg→FnOk l.prog w (K w.params) mg base (CX w) k fa fd [x] (sp w))
  (hsp:∀ (w:World) (H:Hp) (a:Addr) (ns:List Int),ns.length≤n→SqL (K w.params) H a (ns.map V.int)→sp w [.ref a] H (fun v _=>v=.bl true) fun _ _ _=>False)
  (hCX:∀ (w:World) (H:Hp) (s:Shared) (e:Value) (s':Shared),CX w [] H s (fun _ _ _=>False) e s'→False) :
  PySem.W.WalkO q loose XP YP l.row.toRowW d [] (fun f vs=>PySem.call f vs):=by
 refine Att.WV hn hdf fun w s₀ s₁ mg mb fa o pm cd doc a vs ns G Y ho hd hcd hmg hobj hints hlen hg=>?_
 have KX:=hY w _ Y
 obtain ⟨fd,hb,hF⟩:=F w mg fa _ KX G.T.g hmg
 exact QR KX (hT w _ Y) G.T.bmain G.T.g G.T.b G.T.builtins G.T.nolimit hg hobj hints (ζU hlen hn2) hr hF hb (fun H hS=>hsp w H a ns hlen hS) fun H e s'=>hCX w H s₁ e s'
def x8 (s:Stmt):Arguments:=match s with
 | .FunctionDef _ a _ _ _ _ _ _ _ _=>a
 | _=>{ posonlyargs:=[],args:=[],vararg:=none,kwonlyargs:=[],kw_defaults:=[],kwarg:=none,defaults:=[] }
def xt (s:Stmt):List Stmt:=match s with
 | .FunctionDef _ _ b _ _ _ _ _ _ _=>b
 | _=>[]
def zo (s:Stmt):Scope:=match s with
 | .FunctionDef _ _ _ _ _ _ sc _ _ _=>sc
 | _=>{ kind:=.function,names:=[],isGenerator:=false,isCoroutine:=false }
abbrev CX0:CXT:=fun _ _ _ _ _ _=>False
abbrev E0:XK:=fun _ _ _=>False
theorem zM {X:Cx}:XJ CX0 X E0:=fun _ _ _ _ _ _ _ h=>h.elim
structure Fun (K:ζa) (x qual:Str) (st:Stmt) (f:Addr) (fd:FuncData):Prop where
 ex:∃ (oc:Value) (od:Option Addr) (kV doc pm:Value) (an:Option Addr) (cdv ct:Value) (osl:Array (Option Value)),
  fd=PySem.W.fnOf x qual (x8 st) (xt st) (zo st) .none kV doc pm an cdv ct∧K.lookup f=some ⟨oc,od,.func fd,osl⟩∧PySem.W.codeIn K cdv qual=true
 kp:PySem.W.keepIn K (.ref f)=true
section
variable {P:Program} {w:World} {K:ζa} {mg:Str→Option Value} {base:Heap}
theorem Fun.ok {x qual:Str} {st:Stmt} {f:Addr} {fd:FuncData} {N ps:List Str} {k:Nat} {sp:Sp} (F:Fun K x qual st f fd) (S:zI N ps (zo st)) (len:∀ vs H Q E,sp vs H Q E→vs.length=ps.length)
  (hbody:∀ (cdv:Value) (A:Around) (outer:List Env) (s:Shared) (H:Hp) (vs:List V) (Q:VK) (E:XK),Room k (A.deeper (envOfC qual (zo st) s.heap.objs.size f cdv))→sp vs H Q E →
   ∃ t,PSs (cxOf CX0 P w K mg base N qual (zo st) f cdv A outer s H E).nox (xt st) t∧t { nx:=fun _ H'=>Q .non H',rt:=Q } (start N vs) H):FnOk P w K mg base CX0 (k + 1) f fd ps sp:=by
 obtain ⟨oc,od,kV,doc,pm,an,cdv,ct,osl,rfl,lk,hcd⟩:=F.ex
 refine zb5 lk hcd S len fun A outer s H vs Q E hr hsp=>?_
 obtain ⟨t,h,q⟩:=hbody cdv A outer s H vs Q E hr hsp
 exact ⟨t,h.nox,q⟩
theorem Fun.binds {x qual:Str} {st:Stmt} {f:Addr} {fd:FuncData} {ps:List Str} (F:Fun K x qual st f fd)
  (h:∀ (kV doc pm:Value) (an:Option Addr) (cdv ct:Value) (us:List Value),us.length=ps.length→bindArgs (PySem.W.fnOf x qual (x8 st) (xt st) (zo st) .none kV doc pm an cdv ct) ⟨us,[]⟩=pure (ps.zip us)):x9 K fd ps []:=by
 obtain ⟨oc,od,kV,doc,pm,an,cdv,ct,osl,rfl,lk,hcd⟩:=F.ex
 exact .all (h kV doc pm an cdv ct)
theorem VB {x qual:Str} {st:Stmt} {f:Addr} {oc:Value} {od an:Option Addr} {osl:Array (Option Value)} {kV doc pm cdv ct:Value} (l:K.lookup f=some ⟨oc,od,.func (PySem.W.fnOf x qual (x8 st) (xt st) (zo st) .none kV doc pm an cdv ct),osl⟩)
  (c:PySem.W.codeIn K cdv qual=true) (k:PySem.W.keepIn K (.ref f)=true):Fun K x qual st f (PySem.W.fnOf x qual (x8 st) (xt st) (zo st) .none kV doc pm an cdv ct):=⟨⟨oc,od,kV,doc,pm,an,cdv,ct,osl,rfl,l,c⟩,k⟩
end
theorem w9 {A:Around} {k:Nat} (hr:Room k A):A.units + 1 < cLine:=ξU (Nat.add_le_add_left (by decide:1≤64) _) hr.units
section
variable {X:Cx}
theorem pv (i:Nat) {x:Str} {pos:Pos} (hN:X.N[i]?=some x:=by rfl) (hv:Vis X.env.scope x:=by first | exact Or.inl rfl | exact Or.inr (Or.inl rfl) | exact Or.inr (Or.inr rfl)) (hd:(x == ("__debug__" : Str))=false:=by decide)
  (hcd:(x == ("__classdict__" : Str))=false:=by decide):PE X (.Name x pos) (tVar i):=Qk hN hv hd hcd
end
theorem iteF {A B:Prop} (h:B):if false=true then A else B:=by
 rw [if_neg ζw]
 exact h
theorem iteT {A B:Prop} (h:A):if true=true then A else B:=by
 rw [if_pos rfl]
 exact h
def Same (H H':Hp):Prop:=∀ b o,H b=some o→H' b=some o
theorem Same.refl (H:Hp):Same H H:=fun _ _ h=>h
theorem Same.trans {H H1 H2:Hp} (a:Same H H1) (b:Same H1 H2):Same H H2:=fun c o h=>b c o (a c o h)
theorem Same.free {H H':Hp} (e:Same H H') {l:Addr} (h:H' l=Option.none):H l=Option.none:=by
 cases q:H l with
 | none=>rfl
 | some o =>
  rw [e l o q] at h
  cases h
theorem Same.seq {K:ζa} {H H':Hp} {a:Addr} {xs:List V} (e:Same H H') (h:SqL K H a xs):SqL K H' a xs:=by
 rcases h with (h | ⟨o,h⟩) | h
 ·exact .inl (.inl (e _ _ h))
 ·exact .inl (.inr ⟨o,e _ _ h⟩)
 ·exact .inr h
end L2
set_option maxHeartbeats 1000000
namespace Sh
abbrev co (a b:Int):Prop:=Int.gcd a b=1
theorem Qg {m n:Nat} (h:m≤n):2 ^ m≤2 ^ n:=ξy (by decide) h
theorem up {a:Int} {m n:Nat} (h1:a.natAbs < 2 ^ m) (h:m≤n):a.natAbs < 2 ^ n:=ζx h1 (Qg h)
theorem dn {a b:Int} {m:Nat} (h:a.natAbs≤b.natAbs) (h1:b.natAbs < 2 ^ m):a.natAbs < 2 ^ m:=ξU h h1
end Sh
namespace Wd
def rk:List Int→List Int→Int
 | s :: r,d :: e=>rk r e * s + d
 | _,_=>0
def rng (n:Nat):List Int:=(List.range n).map fun (i:Nat)=>(i:Int)
def grow (hs:List (List Int)) (cs:List Int):List (List Int):=hs.flatMap fun h=>cs.map fun c=>h ++ [c]
def nxt:List Int→List Int→Option (List Int)
 | s :: r,d :: e=>if d + 1 < s then some ((d + 1) :: e) else (nxt r e).map fun x=>0 :: x
 | _,_=>none
end Wd
namespace L2
open PySem PySem.Spec PyProof.Rows PySem.SeqAt
section
variable {X:Cx}
theorem xI:OpR X (binaryOp .Mult) (rI IntMulOk fun i j=>.int (i * j)):=opI fun _ _ _ _ _ _ _ hc q=>mul_int q hc
mutual
inductive Dp (K:ζa) (H:Hp):V→PyData→Prop
 | non:Dp K H .non .none
 | bl (b:Bool):Dp K H (.bl b) (.bool b)
 | int (i:Int):Dp K H (.int i) (.int i)
 | str (x:Str):Dp K H (.str x) (.str x)
 | lst {a:Addr} {xs:List V} {ds:List PyData}:SqL K H a xs→zE K H xs ds→Dp K H (.ref a) (.list ds)
 | tup {a:Addr} {xs:List V} {ds:List PyData}:SqT K H a xs→zE K H xs ds→Dp K H (.ref a) (.tuple ds)
inductive zE (K:ζa) (H:Hp):List V→List PyData→Prop
 | nil:zE K H [] []
 | cons {v:V} {vs:List V} {d:PyData} {ds:List PyData}:Dp K H v d→zE K H vs ds→zE K H (v :: vs) (d :: ds)
end
mutual
theorem Dp.reads {pins:List (Addr×Obj)} {σ:St} {H:Hp} {s:Shared} (I:Inv X pins σ H s):∀ {x:V} {d:PyData} {u:Value},Dp X.K H x d→RelV x u→∃ as,Reads s.heap u d as
 | _,_,u,.non,r=>by cases (show u=Value.none from r); exact ⟨_,.none⟩
 | _,_,u,.bl b,r=>by cases (show u=Value.bool b from r); exact ⟨_,.bool b⟩
 | _,_,u,.int i,r=>by obtain ⟨t,e⟩:=(show ∃ t,u=Value.int i t from r); subst e; exact ⟨_,.int i t⟩
 | _,_,u,.str x,r=>by obtain ⟨t,e⟩:=(show ∃ t,u=Value.str x t from r); subst e; exact ⟨_,.str x t⟩
 | _,_,u,@Dp.lst _ _ a xs ds h k,r=>by
  cases (show u=Value.ref a from r)
  obtain ⟨its,rv,⟨o,n,e,c,_,d⟩,_⟩:=I.list h
  obtain ⟨as,ra⟩:=zE.reads I k rv
  exact ⟨_,.list e c d (by simpa using ra)⟩
 | _,_,u,@Dp.tup _ _ a xs ds h k,r=>by
  cases (show u=Value.ref a from r)
  obtain ⟨its,rv,⟨o,e,c,n,d⟩,_⟩:=I.tuple h
  obtain ⟨as,ra⟩:=zE.reads I k rv
  exact ⟨_,.tuple e c d (by simpa using ra)⟩
theorem zE.reads {pins:List (Addr×Obj)} {σ:St} {H:Hp} {s:Shared} (I:Inv X pins σ H s):∀ {xs:List V} {ds:List PyData} {us:List Value},zE X.K H xs ds→Vals xs us→∃ as,ReadsAll s.heap us ds as
 | _,_,_,.nil,.nil=>⟨_,.nil⟩
 | _,_,_,.cons h k,.cons r t=>by
  obtain ⟨as,ra⟩:=Dp.reads I h r
  obtain ⟨bs,rb⟩:=zE.reads I k t
  exact ⟨_,.cons ra rb⟩
end
def rEqD (K:ζa) (neg:Bool):R2:=fun x y H Q=>∃ d e,Dp K H x d∧Dp K H y e∧shaped d=true∧shaped e=true∧Q (.bl (if neg then !PyData.eqv d e else PyData.eqv d e)) H
theorem zcD (hu:X.A.units + 64 < cLine):OpR X (compareOp .Eq) (rEqD X.K false):=by
 intro pins s σ H x y v u Q I rx ry h
 obtain ⟨d,e,h1,h2,z1,z2,q⟩:=h
 obtain ⟨as,ra⟩:=h1.reads I rx
 obtain ⟨bs,rb⟩:=h2.reads I ry
 exact eq_dataH ra rb z1 z2 hu ⟨.bl (PyData.eqv d e),H,I,rfl,q⟩
theorem zcA (hu:X.A.units + 64 < cLine):OpR X (compareOp .NotEq) (rEqD X.K true):=by
 intro pins s σ H x y v u Q I rx ry h
 obtain ⟨d,e,h1,h2,z1,z2,q⟩:=h
 obtain ⟨as,ra⟩:=h1.reads I rx
 obtain ⟨bs,rb⟩:=h2.reads I ry
 exact ne_dataH ra rb z1 z2 hu ⟨.bl (!PyData.eqv d e),H,I,rfl,q⟩
theorem Inv.turnNew {pins:List (Addr×Obj)} {σ:St} {H:Hp} {s:Shared} {h':Heap} {fp:List Addr} {T:Addr} {o:HO} {t':Nat} (I:Inv X pins σ H s) (hf:∀ b∈fp,FpOk X pins H b)
  (k:∀ b u,b∉fp→s.heap.get? b=some u→h'.get? b=some u) (hT:s.heap.objs.size≤T) (new:yk X.prog X.w (upd H T o) h' T o):Inv X pins σ (upd H T o) { s with heap:=h',toks:=t' }:=by
 have hn:H T=none:=I.hok.fresh hT
 have nfp:∀ b u,H b=some u→b∉fp:=fun b u e z=>by rw [(hf b z).1] at e; cases e
 have neT:∀ b u,s.heap.get? b=some u→b≠T:=fun b u e=>ζA (ζx (ζq e) hT)
 refine I.step (g':=s.gens) (d':=s.drawn) (ch:=fp) (fun b hb=>⟨(hf b hb).2.2.2.1,(hf b hb).2.1,(hf b hb).2.2.2.2.1,(hf b hb).2.2.2.2.2⟩) (fun b u _ _ hc e _=>k b u hc e) (fun b u _ _ hc e _=>⟨u.slots,k b u hc e⟩)
  (fun b u _ e n=>by rw [zm (neT b u e)]; exact n) (fun b u hc e=>⟨u,k b u hc e⟩) (fun b xs e=>by rw [zm (zy e hn)]; exact e) (fun b u v e=>by rw [zm (zy e hn)]; exact e) (fun b ps e=>⟨#[],by rw [zm (zy e hn),e]; simp⟩)
  (fun m hm=>?_) (fun b u e=>?_) I.bare
 ·obtain ⟨ob,es,ep,ho,r⟩:=hm
  exact ⟨ob,es,ep,k _ ob (fun z=>(hf _ z).2.1 rfl) ho,r⟩
 ·by_cases hb:b=T
  ·subst hb; rw [zi] at e; cases e; exact new
  ·rw [zm hb] at e
   refine (I.hok b u e).stay (fun c v hc q=>k c v ?_ q) (fun c q=>by rw [zm (zy q hn)]; exact q) fun c xs q=>by rw [zm (zy q hn)]; exact q
   rcases hc with z | z
   ·rw [z]; exact nfp b u e
   ·exact nfp c _ z
end
theorem ad {m n:Nat} (h:m≠n):(show Addr from m)≠(show Addr from n):=h
section
variable {X:Cx}
end
end L2
namespace L2
open PySem PySem.Spec PyProof.Rows
def Cx.blk (X:Cx) (N:List Str) (scope:Scope) (cl:List (Str×Addr)) (C:Addr) (s:Shared) (H:Hp) (fp:List Addr):Cx :=
 { X with N:=N,s₀:=s,H₀:=H,env:=compEnvC scope cl C X.env,outer:=X.stack,stack:=X.stack,ex:=fp,fn:=fun _=>false,pn:=[],xe:=fun _ _=>False }
def capt (js:List (Option Nat)) (σ:St):St:=js.map fun o=>match o with | none=>none | some j=>(σ[j]?).join
structure vB (X:Cx) (N:List Str) (scope:Scope) (cl:List (Str×Addr)) (js:List (Option Nat)):Prop where
 clos:closureFor scope X.env=pure cl
 nocell:∀ y∈scope.names,y.2≠.cell
 kind:scope.kind=.function
 names:∀ y∈scope.names,y.2=.local→scope.names.lookup y.1=some .local
 cells:∀ p∈cl,X.env.cells.lookup p.1=some p.2
 has:∀ y∈scope.names,y.2=.free→(cl.lookup y.1).isSome=true
 len:js.length=N.length
 cap:∀ (i j:Nat),js[i]?=some (some j)→∃ x,N[i]?=some x∧X.N[j]?=some x∧scope.names.lookup x=some .free∧(X.env.scope.names.lookup x=some .cell∨X.env.scope.names.lookup x=some .free)
def Sub (σ σ':St):Prop:=σ.length=σ'.length∧∀ (i:Nat) v,σ[i]?=some (some v)→σ'[i]?=some (some v)
theorem Sub.set {σ:St} {i:Nat} {x:Option V} (h:σ[i]?=some none):Sub σ (σ.set i x):=by
 refine ⟨by simp,fun j v e=>?_⟩
 have ne:j≠i:=by rintro rfl; rw [h] at e; cases e
 rw [ζv (Ne.symm ne)]
 exact e
theorem Sub.trans {a b c:St} (h:Sub a b) (k:Sub b c):Sub a c:=⟨h.1.trans k.1,fun i v e=>k.2 i v (h.2 i v e)⟩
theorem uk {env:Env} (hk:env.scope.kind=.function):∀ {names:List (Str×NameKind)} {x:Str},names.lookup x=some .free→env.scope.names.lookup x=some .cell →
  (names.map fun (n,k)=>if (k == NameKind.free && env.scope.kind == .function && env.kindOf n == some .cell) then (n,NameKind.cell) else (n,k)).lookup x=some .cell
 | [],_,h,_=>by simp at h
 | (n,k) :: r,x,h,hc=>by
  have ih:=@uk env hk r x
  show List.lookup x ((if (k == NameKind.free && env.scope.kind == .function && env.kindOf n == some .cell)=true then (n,NameKind.cell) else (n,k)) :: _)=_
  cases hx:x == n with
  | true =>
   have e:x=n:=by simpa using hx
   subst e
   simp only [List.lookup_cons,hx] at h
   cases h
   have c:(NameKind.free == NameKind.free && env.scope.kind == .function && env.kindOf x == some .cell)=true:=by
    have q:env.kindOf x=some .cell:=hc
    rw [hk,q]; rfl
   rw [if_pos c,ξD,hx]
  | false =>
   simp only [List.lookup_cons,hx] at h
   by_cases hcc:(k == NameKind.free && env.scope.kind == .function && env.kindOf n == some .cell)=true
   ·rw [if_pos hcc,ξD,hx]; exact ih h hc
   ·rw [if_neg hcc,ξD,hx]; exact ih h hc
theorem uj {env:Env}:∀ {names:List (Str×NameKind)} {x:Str},names.lookup x=some .free→env.scope.names.lookup x=some .free →
  (names.map fun (n,k)=>if (k == NameKind.free && env.scope.kind == .function && env.kindOf n == some .cell) then (n,NameKind.cell) else (n,k)).lookup x=some .free
 | [],_,h,_=>by simp at h
 | (n,k) :: r,x,h,hc=>by
  have ih:=@uj env r x
  show List.lookup x ((if (k == NameKind.free && env.scope.kind == .function && env.kindOf n == some .cell)=true then (n,NameKind.cell) else (n,k)) :: _)=_
  cases hx:x == n with
  | true =>
   have e:x=n:=by simpa using hx
   subst e
   simp only [List.lookup_cons,hx] at h
   cases h
   have q:env.kindOf x=some .free:=hc
   rw [if_neg (by rw [q]; simp),List.lookup_cons,hx]
  | false =>
   simp only [List.lookup_cons,hx] at h
   by_cases hcc:(k == NameKind.free && env.scope.kind == .function && env.kindOf n == some .cell)=true
   ·rw [if_pos hcc,ξD,hx]; exact ih h hc
   ·rw [if_neg hcc,ξD,hx]; exact ih h hc
theorem uo {env:Env}:∀ {names:List (Str×NameKind)} {x:Str},(∀ y∈names,y.2≠.cell) →
  ((names.map fun (n,k)=>if (k == NameKind.free && env.scope.kind == .function && env.kindOf n == some .cell) then (n,NameKind.cell) else (n,k)).lookup x=some .cell ∨
   (names.map fun (n,k)=>if (k == NameKind.free && env.scope.kind == .function && env.kindOf n == some .cell) then (n,NameKind.cell) else (n,k)).lookup x=some .free)→∃ y∈names,y.1=x∧y.2=.free
 | [],_,_,h=>by simp at h
 | (n,k) :: r,x,hn,h=>by
  have ih:=@uo env r x (fun y hy=>hn y (ζl _ hy))
  have h':List.lookup x ((if (k == NameKind.free && env.scope.kind == .function && env.kindOf n == some .cell)=true then (n,NameKind.cell) else (n,k)) :: (r.map fun (n,k)=>if (k == NameKind.free && env.scope.kind == .function && env.kindOf n == some .cell) then (n,NameKind.cell) else (n,k)))=some .cell ∨
   List.lookup x ((if (k == NameKind.free && env.scope.kind == .function && env.kindOf n == some .cell)=true then (n,NameKind.cell) else (n,k)) :: (r.map fun (n,k)=>if (k == NameKind.free && env.scope.kind == .function && env.kindOf n == some .cell) then (n,NameKind.cell) else (n,k)))=some .free:=h
  cases hx:x == n with
  | true =>
   have e:x=n:=by simpa using hx
   subst e
   by_cases hcc:(k == NameKind.free && env.scope.kind == .function && env.kindOf x == some .cell)=true
   ·have kf:k=.free:=by
     cases k <;> first | rfl | (simp at hcc)
    exact ⟨(x,k),ζg,rfl,kf⟩
   ·rw [if_neg hcc] at h'
    simp only [List.lookup_cons,hx] at h'
    rcases h' with q | q
    ·cases q; exact absurd rfl (hn (x,.cell) ζg)
    ·cases q; exact ⟨(x,.free),ζg,rfl,rfl⟩
  | false =>
   by_cases hcc:(k == NameKind.free && env.scope.kind == .function && env.kindOf n == some .cell)=true
   ·rw [if_pos hcc] at h'
    simp only [List.lookup_cons,hx] at h'
    obtain ⟨y,hy,e⟩:=ih h'
    exact ⟨y,ζl _ hy,e⟩
   ·rw [if_neg hcc] at h'
    simp only [List.lookup_cons,hx] at h'
    obtain ⟨y,hy,e⟩:=ih h'
    exact ⟨y,ζl _ hy,e⟩
section
variable {X:Cx} {N:List Str} {scope:Scope} {cl:List (Str×Addr)} {js:List (Option Nat)} {pins:List (Addr×Obj)} {σ:St} {H:Hp} {s:Shared} {fp:List Addr}
theorem Tk (K:vB X N scope cl js) (I:Inv X pins σ H s) (hf:∀ b∈fp,FpOk X pins H b) (hlt:∀ b∈fp,b < s.heap.objs.size) {h1:Heap} {m1:Str→Option Value} {tk:Nat} (hn:h1.Ns s.heap.objs.size m1)
  (hk:∀ b o,s.heap.get? b=some o→h1.get? b=some o) :
  Inv (X.blk N scope cl s.heap.objs.size s H fp) [] (capt js σ) H { s with heap:=h1,toks:=tk }:=by
 have bigC:∀ b∈fp,b≠s.heap.objs.size:=fun b hb=>ζA (hlt b hb)
 have hcl:∀ x c,cl.lookup x=some c→X.env.cells.lookup x=some c:=fun x c e=>K.cells (x,c) (PySem.mem_of_lookup e)
 refine ⟨⟨I.ok.mod,K.kind,I.ok.glob,I.ok.blt,ζi _,fun x y c e1 e2=>I.ok.inj x y c (hcl x c e1) (hcl y c e2),fun x hx=>?_,fun x c z _=>absurd z (by intro q; cases q),I.ok.hd,I.ok.frames,.inl rfl,fun b hb=>⟨bigC b hb,fun x c e=>(hf b hb).2.2.2.2.1 x c (hcl x c e)⟩,
  I.bs,Nat.le_trans I.ok.bsz I.sz,fun b o e hb=>?_,fun b hb z=>?_,I.stack,I.stkFree,I.ok.tb.un I.base⟩,rfl,I.bare,Un.kept hk,⟨m1,hn,fun i x v e1 e2 e3=>?_⟩,fun x c e=>?_,I.hok.fresh (Nat.le_refl _),fun x c e=>(I.freeC x c (hcl x c e)).imp id fun z=>⟨rfl,z.2⟩,fun p hp=>absurd (show p∈([]:List (Addr×Obj)) from hp) (by simp),I.hok.kept hk,?_⟩
 ·obtain ⟨y,hy,e1,e2⟩:=uo K.nocell hx
  have q:=K.has y hy e2
  rw [e1] at q
  exact ξo.mp q
 ·rcases (hf b hb).2.2.2.1 with z | z
  ·exact I.ok.noex b o e z
  ·exact absurd (ζx (ζq e) (ζU I.ok.bsz z)) (ζ5 _)
 ·rcases ζo.mp (I.stkSub b z) with q | q
  ·exact (hf b hb).2.1 q
  ·exact (hf b hb).2.2.1 q
 ·
  have hi:(capt js σ)[i]?=some (some v):=e2
  unfold capt at hi
  rw [ζG] at hi
  cases ej:js[i]? with
  | none=>rw [ej] at hi; cases hi
  | some o =>
   rw [ej] at hi
   cases o with
   | none=>cases hi
   | some j =>
    obtain ⟨y,h1',h2',h3',h4'⟩:=K.cap i j ej
    have e1':N[i]?=some x:=e1
    rw [h1'] at e1'
    cases e1'
    have hj:σ[j]?=some (some v):=by
     cases q:σ[j]? with
     | none=>have hi':(Option.join σ[j]?)=some v:=ζI hi; rw [q] at hi'; cases hi'
     | some w=>have hi':(Option.join σ[j]?)=some v:=ζI hi; rw [q] at hi'; cases w with
      | none=>cases hi'
      | some w=>exact congrArg some hi'
    obtain ⟨m,_,hl⟩:=I.loc
    obtain ⟨u,r,l⟩:=hl j x v h2' hj (.inr h4')
    refine ⟨u,r,.inr ⟨h4'.imp (fun z=>uk I.ok.kind h3' z) (fun z=>uj h3' z),?_⟩⟩
    rcases l with ⟨k,_⟩ | ⟨_,c,ec,hc⟩
    ·rcases h4' with h4' | h4' <;> exact absurd (k.symm.trans h4') (by intro z; cases z)
    ·obtain ⟨c',ec'⟩:=ξo.mp (K.has (x,.free) (PySem.mem_of_lookup h3') rfl)
     have e3':=hcl x c' ec'
     rw [ec] at e3'
     cases e3'
     exact ⟨c,ec',hc.keeps hk⟩
 ·obtain ⟨v,hv⟩:=I.cell x c (hcl x c e)
  exact ⟨v,hv.keeps hk⟩
 ·show (capt js σ).length=N.length
  unfold capt
  rw [ζb]
  exact K.len
theorem Uv {σ':St} {H':Hp} {s':Shared} {h':Heap} (I:Inv X pins σ H s) (hf:∀ b∈fp,FpOk X pins H b) (J:Inv (X.blk N scope cl s.heap.objs.size s H fp) [] σ' H' s') (hs:Heap.SameBut s.heap.objs.size s'.heap h') :
  Inv X pins σ H' { s' with heap:=h' }:=by
 have neC:∀ b o,s.heap.get? b=some o→b≠s.heap.objs.size:=fun b o e=>ζA (ζq e)
 have u:=J.base
 have u':Un (frs X.stack) fp H H' s.heap s'.heap:=u
 refine I.call' (s':={ s' with heap:=h' }) (ch:=fp) J.os ⟨fun b o e n hb hx=>?_,fun b o e n hb hx=>?_,u'.free,fun b o e hx=>?_,u'.tups,u'.frzs,u'.tbls⟩ (fun b ob e=>?_) J.bare fun b hb=>?_
 ·exact (hs.2 b (neC b o e)).trans (u'.keep b o e n hb hx)
 ·obtain ⟨sl,q⟩:=u'.slot b o e n hb hx
  exact ⟨sl,(hs.2 b (neC b o e)).trans q⟩
 ·obtain ⟨o',q⟩:=u'.there b o e hx
  exact ⟨o',(hs.2 b (neC b o e)).trans q⟩
 ·have hfree:H' s.heap.objs.size=none:=J.free
  refine (J.hok b ob e).stay (fun c w' hc q=>(hs.2 c ?_).trans q) (fun _ q=>q) fun _ _ q=>q
  rintro rfl
  rcases hc with rfl | hc
  ·rw [hfree] at e; cases e
  ·rw [hfree] at hc; cases hc
 ·obtain ⟨f0,f1,f2,f3,f4,f5⟩:=hf b hb
  exact ⟨f3,f1,f4,f5⟩
end
def PIf (X:Cx) (ifs:List Expr) (t:TT):Prop :=
 ∀ (pins:List (Addr×Obj)) (s:Shared) (σ:St) (H:Hp) (Q:Bool→Hp→Prop),Inv X pins σ H s→t σ H Q →
  wpAny (model X.prog X.w) X.A (forIn ifs true fun c r=>if r=true then (do let ok ← isTrue c X.env (eval c X.env); pure (ForInStep.yield ok)) else pure (ForInStep.yield r)) (TP X pins σ Q) X.xe s
def tYes:TT:=fun _ H Q=>Q true H
theorem xH {X:Cx}:PIf X [] tYes:=fun _ _ _ H _ I h=>wpAny_tests_nil ⟨H,I,h⟩
theorem xq {X:Cx} {c:Expr} {t:TT} (h:PT X c t):PIf X [c] t:=fun pins s σ H Q I q=>wpAny_tests_one (h pins s σ H Q I q)
def zca (J:It) (g:TG) (tt:TT) (te:TE) (σc:St) (Q:VK) (H1:Hp):Prop:=∀ D,H1 D=none →
 ∃ W:Nat→Nat→List V→Hp→Prop,(∃ m,W 0 m [] (upd H1 D (.lst [])))∧∀ i m ys H,W i m ys H →
  (J.stop i H∧Q (.ref D) H) ∨
  (J.go i H∧∃ N:List V→Hp→Prop,(∀ zs H',N zs H'→∃ m',m' < m∧W (i + 1) m' zs H')∧∀ x H',J.yld i H x H'→g x σc H' fun σ2 H2=>Sub σc σ2∧tt σ2 H2 fun b H3 =>
   if b=true then te σ2 H3 fun v H4=>H4 D=some (.lst ys)∧ys.length < sizeLine∧N (ys ++ [v]) (upd H4 D (.lst (ys ++ [v]))) else N ys H3)
def uf (js:List (Option Nat)) (wi:TI) (g:TG) (tt:TT) (te:TE):TE:=fun σ H Q=>wi σ H fun J H1=>zca J g tt te (capt js σ) Q H1
section
variable {prog:Program} {w:World} {A:Around} {R:Result→Shared→Prop} {s:Shared}
theorem Te {elt tg iter:Expr} {ifs:List Expr} {scope:Scope} {pos:Pos} {it acc:Value} {env:Env} (Iv:Nat→Shared→Prop) (F:Value→Shared→Prop) (hF:∀ e s,¬ F e s)
  (turn:∀ n s,Iv n s→wpAny (model prog w) A (pyNext it) (fun r s1=>(r=none→R (.ok .next) s1)∧∀ v,r=some v →
   wpAny (model prog w) A (letOwnedTupleGo tg it v) (fun _ s2=>wpAny (model prog w) A (assign tg env v) (fun _ s3 =>
    wpAny (model prog w) A (forIn ifs true fun c r=>if r=true then (do let ok ← isTrue c env (eval c env); pure (ForInStep.yield ok)) else pure (ForInStep.yield r)) (fun ok s4 =>
     (ok=false→∃ m,m < n∧Iv m s4)∧(ok=true→wpAny (model prog w) A (eval elt env) (fun x s5=>wpAny (model prog w) A (call (.builtin "list.append") [acc,x]) (fun _ s6=>∃ m,m < n∧Iv m s6) F s5) F s4)) F s3) F s2) F s1) F s)
  (n:Nat) (h:Iv n s):codeAny (model prog w) A (.compLoop (.ListComp elt [⟨tg,iter,ifs,0⟩] scope pos) 0 it acc env) R s:=by
 refine codeAny_loop rfl Iv (fun n s hI=>?_) n h
 show wpAny _ A (Sem.onRaise (compTurn (.ListComp elt [⟨tg,iter,ifs,0⟩] scope pos) 0 it acc env) (fun x=>do noteFrame x env; theTreesLotGoes x)) _ _ s
 refine wpAny_noted ?_
 rw [compTurn_list]
 have ff:∀ {E:Value→Shared→Prop} (e:Value) (s:Shared),F e s→E e s:=fun e s z=>(hF e s z).elim
 refine wpAny_bind (wpAny_standAt (wpAny_bind (wpAny_mono (turn n s hI) (fun r s1 h1=>?_) ff)))
 obtain ⟨h0,h1⟩:=h1
 cases r with
 | none=>exact wpAny_pure (h0 rfl)
 | some v =>
  refine wpAny_bind (wpAny_mono (h1 v rfl) (fun _ s2 h2=>?_) ff)
  refine wpAny_bind (wpAny_mono h2 (fun _ s3 h3=>?_) ff)
  refine wpAny_bind (wpAny_mono h3 (fun ok s4 h4=>?_) ff)
  cases ok with
  | false=>exact wpAny_pure ⟨rfl,h4.1 rfl⟩
  | true =>
   refine wpAny_bind (wpAny_bind (wpAny_mono (h4.2 rfl) (fun x s5 h5=>?_) ff))
   exact wpAny_bind (wpAny_mono h5 (fun _ s6 h6=>wpAny_pure (wpAny_pure ⟨rfl,h6⟩)) ff)
end
section
variable {X:Cx} {N:List Str} {scope:Scope} {cl:List (Str×Addr)} {js:List (Option Nat)} {pins:List (Addr×Obj)} {σ:St} {H:Hp} {s:Shared}
theorem Yx {elt tg iter:Expr} {ifs:List Expr} {pos:Pos} {J:It} {fp:List Addr} {it:Addr} {tn:Nat→Heap→Prop} {g:TG} {tt:TT} {te:TE} {Q:VK} {E:Value→Shared→Prop} {RR:Value→Addr→Result→Shared→Prop}
  (hc:X.calm=true) (K:vB X N scope cl js) (I:Inv X pins σ H s) (T:Turn X.prog X.w X.K tg J fp it tn) (st:tn 0 s.heap) (hf:∀ b∈fp,FpOk X pins H b)
  (hg:∀ C s H fp,PG (X.blk N scope cl C s H fp) tg g) (ht:∀ C s H fp,PIf (X.blk N scope cl C s H fp) ifs tt) (he:∀ C s H fp,PE (X.blk N scope cl C s H fp) elt te)
  (hq:zca J g tt te (capt js σ) Q H)
  (hRR:∀ (D:Addr) (s3 s':Shared) (H':Hp) (σ':St),Inv X pins σ (upd H D (.lst [])) s3→(∀ b∈fp,FpOk X pins (upd H D (.lst [])) b)→Inv (X.blk N scope cl s3.heap.objs.size s3 (upd H D (.lst [])) fp) [] σ' H' s'→Q (.ref D) H'→RR (.ref D) s3.heap.objs.size (.ok .next) s') :
  wpAny (model X.prog X.w) X.A (newList []) (fun acc s3=>wpAny (model X.prog X.w) X.A (newFunctionEnv scope X.env.globals cl [] X.env.qual none .none (some X.env)) (fun cenv s4 =>
   codeAny (model X.prog X.w) X.A (.compStart (.ListComp elt [⟨tg,iter,ifs,0⟩] scope pos) 0 (.ref it) acc { cenv with scope:=relabel scope X.env }) (RR acc cenv.locals) s4) E s3) E s:=by
 have fresh:H s.heap.objs.size=none:=I.fresh
 have lt:∀ b∈fp,b < s.heap.objs.size:=fun b hb=>by
  obtain ⟨o,e,_⟩:=T.obj _ _ st b hb
  exact ζq e
 obtain ⟨W,⟨m0,w0⟩,step⟩:=hq _ fresh
 refine wpAny_newObj_type ?_
 have I3:=I.lnew (ys:=[]) (its:=[]) (t':=s.toks) .nil (ζE _)
 have f3:∀ b∈fp,FpOk X pins (upd H s.heap.objs.size (.lst [])) b:=fun b hb=>⟨by rw [zm (ζA (lt b hb))]; exact (hf b hb).1,(hf b hb).2⟩
 generalize e3:({ s with heap:=s.heap.push { cls:=.type "list", data:=.seq ([]:List Value).toArray },toks:=s.toks }:Shared)=s3 at I3
 have st3:tn 0 s3.heap:=by
  rw [← e3]
  exact T.keep _ _ _ st fun b _ o e=>ζh _ e
 have lt3:∀ b∈fp,b < s3.heap.objs.size:=fun b hb=>by
  obtain ⟨o,e,_⟩:=T.obj _ _ st3 b hb
  exact ζq e
 refine wpAny_newFunctionEnv K.nocell (by intro y hy; simp at hy) (fun h4 n4 k4=>?_) K.kind
 have old:∀ b o,s3.heap.get? b=some o→h4.get? b=some o:=fun b o e=>(k4.2 b (ζA (ζq e))).trans (ζh _ e)
 have I4:=Tk K I3 f3 lt3 (tk:=s3.toks + ([]:List (Str×Value)).length) n4 old
 have st4:tn 0 h4:=T.keep _ _ _ st3 fun b _ o e=>old b o e
 have fpB:∀ {H':Hp},(∀ b∈fp,H' b=none)→∀ b∈fp,FpOk (X.blk N scope cl s3.heap.objs.size s3 (upd H s.heap.objs.size (.lst [])) fp) [] H' b:=fun hn b hb =>
  ⟨hn b hb,Nat.ne_of_lt (lt3 b hb),fun z=>(List.mem_cons.mp (I3.stkSub b z)).elim (f3 b hb).2.1 (f3 b hb).2.2.1,.inl hb,fun x c e=>(f3 b hb).2.2.2.2.1 x c (K.cells (x,c) (PySem.mem_of_lookup e)),fun p hp=>absurd (show p∈([]:List (Addr×Obj)) from hp) (by simp)⟩
 have loop:codeAny (model X.prog X.w) X.A (.compLoop (.ListComp elt [⟨tg,iter,ifs,0⟩] scope pos) 0 (.ref it) (.ref s.heap.objs.size) (compEnvC scope cl s3.heap.objs.size X.env)) (RR (.ref s.heap.objs.size) s3.heap.objs.size)
   ({ s3 with heap:=h4,toks:=s3.toks + ([]:List (Str×Value)).length }:Shared):=by
  refine Te (fun n s'=>∃ i ys H',Inv (X.blk N scope cl s3.heap.objs.size s3 (upd H s.heap.objs.size (.lst [])) fp) [] (capt js σ) H' s'∧tn i s'.heap∧(∀ b∈fp,H' b=none)∧W i n ys H') (fun _ _=>False) (fun _ _ z=>z) ?_ m0
   ⟨0,[],_,I4,st4,fun b hb=>(f3 b hb).1,w0⟩
  rintro n s5 ⟨i,ys,H5,I5,st5,fr5,w5⟩
  rcases step i n ys H5 w5 with ⟨stop,qn⟩ | ⟨go,Nn,hN,nxt⟩
  ·refine thn (T.done (X.blk N scope cl s3.heap.objs.size s3 (upd H s.heap.objs.size (.lst [])) fp) rfl rfl rfl hc i [] s5 (capt js σ) H5 _ I5 (fpB fr5) st5 stop) fun r s6 ⟨hr,I6⟩=>⟨fun _=>?_,fun v e=>?_⟩
   ·exact hRR _ s3 s6 H5 _ I3 f3 I6 qn
   ·rw [hr] at e; cases e
  ·refine thn (T.item (X.blk N scope cl s3.heap.objs.size s3 (upd H s.heap.objs.size (.lst [])) fp) rfl rfl rfl hc i [] s5 (capt js σ) H5 _ I5 (fpB fr5) st5 go) fun r s6 ⟨u,hr,h6⟩=>⟨fun e=>?_,fun v e=>?_⟩
   ·rw [hr] at e; cases e
   rw [hr] at e; cases e
   refine thn h6 fun _ s7 ⟨x,H7,I7,r7,y7,st7,fr7⟩=>?_
   have I7':=I7.pinned (fpB fr7) (T.obj _ _ st7)
   have back:∀ {σ':St} {H':Hp} {s':Shared} {i' n':Nat} {zs:List V},Inv (X.blk N scope cl s3.heap.objs.size s3 (upd H s.heap.objs.size (.lst [])) fp) ([] ++ t6 fp s7.heap) σ' H' s'→Sub (capt js σ) σ'→W (i + 1) n' zs H' →
     ∃ i ys H',Inv (X.blk N scope cl s3.heap.objs.size s3 (upd H s.heap.objs.size (.lst [])) fp) [] (capt js σ) H' s'∧tn i s'.heap∧(∀ b∈fp,H' b=none)∧W i n' ys H':=fun {σ' H' s' i' n' zs} I' sb w'=>by
    refine ⟨i + 1,zs,H',(I'.unpinned).weak sb.1 sb.2,T.keep _ _ _ st7 fun b hb o e=>(I'.pin (b,o) (ζk _ (ζk _ (wM hb e)))).1,fun b hb=>?_,w'⟩
    obtain ⟨o,e,_⟩:=T.obj _ _ st7 b hb
    exact (I'.pin (b,o) (ζk _ (ζk _ (wM hb e)))).2.1
   refine thn (hg _ _ _ _ _ s7 (capt js σ) H7 x _ _ I7' r7 (nxt x H7 y7)) fun _ s8 ⟨σ8,H8,I8,sb8,q8⟩=>?_
   refine thn (ht _ _ _ _ _ s8 σ8 H8 _ I8 q8) fun ok s9 ⟨H9,I9,q9⟩=>⟨fun e=>?_,fun e=>?_⟩
   ·rw [e,if_neg ζw] at q9
    obtain ⟨m',hm,w'⟩:=hN _ _ q9
    exact ⟨m',hm,back (i':=0) I9 sb8 w'⟩
   ·rw [e,if_pos rfl] at q9
    refine thn (he _ _ _ _ _ s9 σ8 H9 _ I9 q9) fun xv sa ⟨v,Ha,Ia,ra,qa,za,nn⟩=>?_
    obtain ⟨m',hm,w'⟩:=hN _ _ nn
    refine thn (yy (X:=X.blk N scope cl s3.heap.objs.size s3 (upd H s.heap.objs.size (.lst [])) fp) _ sa σ8 Ha (.ref s.heap.objs.size) [v] (.ref s.heap.objs.size) [xv] (fun y H'=>H'=upd Ha s.heap.objs.size (.lst (ys ++ [v]))) Ia rfl (.cons ra .nil) ⟨_,ys,v,rfl,rfl,qa,za,rfl⟩) fun y sb ⟨z,Hb,Ib,_,eb⟩=>?_
    rw [eb] at Ib
    exact ⟨m',hm,back (i':=0) Ib sb8 w'⟩
 exact codeAny_compStart_list loop (T.self _ 0 _ _ _ st4 loop)
theorem yM {elt tg iter:Expr} {ifs:List Expr} {pos:Pos} {wi:TI} {g:TG} {tt:TT} {te:TE} (hc:X.calm=true) (K:vB X N scope cl js) (hi:PI X tg iter wi)
  (hg:∀ C s H fp,PG (X.blk N scope cl C s H fp) tg g) (ht:∀ C s H fp,PIf (X.blk N scope cl C s H fp) ifs tt) (he:∀ C s H fp,PE (X.blk N scope cl C s H fp) elt te)
  (hs:∀ x,foldedSetIterable iter X.env x=pure x:=by intro _; rfl):PE X (.ListComp elt [⟨tg,iter,ifs,0⟩] scope pos) (uf js wi g tt te):=by
 intro pins s σ H Q I h
 rw [eval_ListComp]
 refine wpAny_comprehension_free (use:=none) rfl hs K.clos K.kind K.names (thn (hi pins s σ H _ I h) fun v s1 h1=>thn h1 fun itv s2 h2=>?_)
 obtain ⟨it,fp,tn,J,H2,e,I2,T,st2,f2,hq⟩:=h2
 subst e
 refine Yx (RR:=fun acc C=>compPost (model X.prog X.w) X.A X.xe none (EP X pins σ Q) acc C) hc K I2 T st2 f2 hg ht he hq ?_
 intro D s3 s' H' σ' I3 f3 J' q
 obtain ⟨m,hn,_⟩:=J'.loc
 exact ⟨m,hn,fun h'' hs''=>⟨.ref D,H',Uv I3 f3 J' hs'',rfl,q⟩⟩
theorem xh {elt tg iter:Expr} {ifs:List Expr} {pos spos py:Pos} {i:Nat} {y:Str} {wi:TI} {g:TG} {tt:TT} {te:TE} (hc:X.calm=true) (hN:X.N.Nodup) (hiN:X.N[i]?=some y) (hy:X.env.scope.names.lookup y=some .local) (K:vB X N scope cl js) (hi:PI X tg iter wi)
  (hg:∀ C s H fp,PG (X.blk N scope cl C s H fp) tg g) (ht:∀ C s H fp,PIf (X.blk N scope cl C s H fp) ifs tt) (he:∀ C s H fp,PE (X.blk N scope cl C s H fp) elt te)
  (hsw:swapsWith (.ListComp elt [⟨tg,iter,ifs,0⟩] scope pos) (some (.Name y py)) spos.line X.env=pure true:=by rfl)
  (hs:∀ x,foldedSetIterable iter X.env x=pure x:=by intro _; rfl):PS X (.Assign [.Name y py] (.ListComp elt [⟨tg,iter,ifs,0⟩] scope pos) spos) (tAsg (uf js wi g tt te) (y9 i)):=by
 intro pins s σ H D I h
 rw [exec_Assign_Name_used _ _ _ _ hsw]
 refine wpAny_bind (wpAny_standAt (wpAny_bind ?_))
 show wpAny _ X.A (do let _ ← comprehension (.ListComp elt [⟨tg,iter,ifs,0⟩] scope pos) scope X.env _ (newList []) false (eval iter X.env) (some (assign (.Name y py) X.env))) _ _ s
 refine wpAny_bind (wpAny_mono (wpAny_comprehension_free (use:=some (assign (.Name y py) X.env)) (Q:=fun _ s'=>SP X pins D .next s') rfl hs K.clos K.kind K.names
  (thn (hi pins s σ H _ I h) fun v s1 h1=>thn h1 fun itv s2 h2=>?_)) (fun _ s' hq=>wpAny_pure (wpAny_pure hq)) fun _ _ e=>e)
 obtain ⟨it,fp,tn,J,H2,e,I2,T,st2,f2,hq⟩:=h2
 subst e
 refine Yx (RR:=fun acc C=>compPost (model X.prog X.w) X.A X.xe (some (assign (.Name y py) X.env)) (fun _ s'=>SP X pins D .next s') acc C) hc K I2 T st2 f2 hg ht he hq ?_
 intro Dl s3 s' H' σ' I3 f3 J' q
 have I':Inv X pins σ H' s':=Uv I3 f3 J' (Heap.SameBut.refl ..)
 obtain ⟨m,hn,_⟩:=J'.loc
 have hC:s3.heap.objs.size≠X.env.locals:=Ne.symm (ζA I3.lt)
 have hcell:∀ x c,X.env.cells.lookup x=some c→c≠s3.heap.objs.size:=fun x c e z=>by
  obtain ⟨v,q⟩:=I3.cell x c e
  exact absurd q.lt (by rw [z]; exact ζ5 _)
 show wpAny _ X.A (assign (.Name y py) X.env (.ref Dl)) _ _ _
 refine wpAny_assign_Name (Z6 I' hN hiN (.inl hy) (v:=.ref Dl) rfl (fun s'' I'' ⟨a,hs2,ha⟩=>?_) (.inr hy))
 have ha':s3.heap.objs.size≠a:=by
  rcases ha with ha | ha
  ·rw [ha]; exact hC
  ·exact Ne.symm (hcell y a ha)
 refine ⟨m,hn.sameBut hs2 ha',fun h3 hs3=>?_⟩
 refine ⟨_,H',I''.turned (t':=s''.toks) (it:=s3.heap.objs.size) (fun b o hb e=>(hs3.2 b hb).trans e) J'.free hC (.inr I3.sz) hcell (fun p hp z=>?_),q⟩
 exact absurd (ζq (I3.pin p hp).1) (by rw [z]; exact ζ5 _)
end
structure zF (P:Program) (w:World) (K:ζa) (mg:Str→Option Value) (base:Heap) (CX:CXT) (x:Str) (ps:List Str) (k:Nat) (sp:Sp):Prop where
 ex:∃ f fd,FnOk P w K mg base CX k f fd ps sp∧mg x=some (.ref f)∧PySem.W.keepIn K (.ref f)=true∧x9 K fd ps []
section
variable {X:Cx} {CX:CXT} {k:Nat} {ps:List Str} {sp:Sp} {E:XK} {x:Str} {p pos:Pos} {e:Expr} {es:List Expr} {t:TA}
theorem zN (C:zF X.prog X.w X.K X.mg X.base CX x ps k sp) (hr:Room k X.A) (hg:Gl X x) (hx:XJ CX X E) (ha:PA X (e :: es) t)
  (hdb:(x == ("__debug__" : Str))=false:=by decide) (he:starEach (e :: es) X.env=(false,eval e X.env) :: starEach es X.env:=by rfl) (hpl:(backTo pos (starEach es X.env)).any (·.1)=false:=by rfl) :
  PE X (.Call (.Name x p) (e :: es) [] pos) (u0 sp [] E t):=by
 intro pins s σ H Q I h
 obtain ⟨f,fd,F,hm,hk,hb⟩:=C.ex
 exact (zaY F hr hg hm hk hb .nil hx ha hdb he hpl) pins s σ H Q I h
end
theorem vB.of {X:Cx} {N:List Str} {scope:Scope} {cl:List (Str×Addr)} {js:List (Option Nat)} (clos:closureFor scope X.env=pure cl) (nc:(scope.names.all fun y=>y.2 != .cell)=true) (kind:scope.kind=.function)
  (nm:(scope.names.all fun y=>y.2 != .local || (scope.names.lookup y.1 == some .local))=true) (cells:∀ p∈cl,X.env.cells.lookup p.1=some p.2) (has:(scope.names.all fun y=>y.2 != .free || (cl.lookup y.1).isSome)=true)
  (len:js.length=N.length) (cap:((js.zip N).all fun p=>match p.1 with | none=>true | some j=>(X.N[j]? == some p.2) && (scope.names.lookup p.2 == some .free) && (X.env.scope.names.lookup p.2 == some .cell || X.env.scope.names.lookup p.2 == some .free))=true):vB X N scope cl js:=by
 rw [ξi] at nc nm has cap
 refine ⟨clos,fun y hy=>by simpa using nc y hy,kind,fun y hy e=>?_,cells,fun y hy e=>?_,len,fun i j e=>?_⟩
 ·have q:=nm y hy
  rw [e] at q
  simpa using q
 ·have q:=has y hy
  rw [e] at q
  simpa using q
 ·have hi:i < js.length:=(ζc.mp e).1
  have hx:N[i]?=some (N[i]'(by omega)):=ζm (by omega)
  have hz:(js.zip N)[i]?=some (some j,N[i]'(by omega)):=by
   rw [List.getElem?_zip_eq_some]
   exact ⟨e,hx⟩
  have q:=cap _ (ζj hz)
  simp only [Bool.and_eq_true,Bool.or_eq_true,beq_iff_eq] at q
  exact ⟨_,hx,q.1.1,q.1.2,q.2⟩
theorem Same.new {H:Hp} {p:Addr} (h:H p=none) (o:HO):Same H (upd H p o):=fun b u q=>by rw [zm (zy q h)]; exact q
def VZ (K:ζa):Sp:=fun vs H Q _=>∃ (a:Addr) (ns:List Int),vs=[.ref a]∧SqL K H a (ns.map V.int)∧ns.length≤63∧∀ H',Q (.bl true) H'
theorem Ul {K:ζa} {H:Hp}:∀ ns:List Int,zE K H (ns.map V.int) (ns.map PyData.int)
 | []=>.nil
 | n :: r=>.cons (.int n) (Ul r)
end L2
namespace PySem
theorem Vs:typeLookup (.type "list_reverseiterator") "__len__" = pure none:=by rw [typeLookup_type,builtinLookup_eq_fast]; kernel_rfl
theorem QL:typeLookup (.type "list_reverseiterator") "__length_hint__" = pure (some (.builtin "list_reverseiterator.__length_hint__")):=by rw [typeLookup_type,builtinLookup_eq_fast]; kernel_rfl
section
variable {prog:Program} {w:World} {A:Around} {E:Value→Shared→Prop} {s:Shared} {R:Result→Shared→Prop}
theorem Wu {it:Addr} {Q:Bool→Shared→Prop} (hT:s.TypeIs (.ref it) "list_reverseiterator") (h:Q false s):wpAny (model prog w) A (Builtin.List.listLengthHint (.ref it)) Q E s:=by
 unfold Builtin.List.listLengthHint
 refine wpAny_bind (wpAny_specialOf hT Vs ?_)
 refine wpAny_bind (wpAny_specialOf hT QL ?_)
 generalize hid:("list_reverseiterator.__length_hint__" : String)=id0
 wp_delta
 rw [show splitId id0=some ("list_reverseiterator", "__length_hint__") from by subst hid; decide +kernel]
 subst hid
 refine wpAny_bind (wpAny_isInstance (T := "list_reverseiterator") (b:=true) hT (by rw [isSubtype_type]; kernel_rfl) ?_)
 refine wpAny_ite_split (fun hab=>absurd hab (by decide)) (fun _=>?_)
 refine wpAny_ite_split (fun _=>?_) (fun hab=>absurd (by decide +kernel) hab)
 refine wpAny_ite_split (fun hab=>absurd hab (by decide +kernel)) (fun _=>?_)
 exact wpAny_pure h
theorem VC {it l:Addr} {items:Array Value} (hh:A.handled=none) (hit:s.heap.IsRevIter it l ((items.size:Int) - 1)) (hl:s.heap.IsList l items) (hne:l≠it) (S:Addr) (res:Value) (c0:Nat) (hS:s.heap.get? S=some { cls:=.type "list", data:=.seq #[] c0 }) (hSi:S≠it) (hSl:S≠l) (hz:items.size≤sizeLine)
  (hR:∀ h' tk acc' c',(∀ b o,b≠S→b≠it→s.heap.get? b=some o→h'.get? b=some o)→h'.get? S=some { cls:=.type "list", dict:=none,data:=.seq acc' c',slots:=#[] }→ItemsOf (fun i v=>items[items.size - 1 - i]?=some v) acc' items.size→R (.ok (.ret res)) { s with heap:=h',toks:=tk }) :
  wpAny (model prog w) A.in1 (Builtin.List.listExtendWith (.ref S) (.ref it) res)
   (fun fin s'=>match fin with | .done f=>R (.ok f) s' | .again c'=>c'.quiet=true∧codeAny (model prog w) A c' R s') (fun e s'=>R (.error e) s') s:=by
 have W:=(Walks.listRev (prog:=prog) (w:=w) (A:=A.in1) hh it l hne items).toS
 have hT:s.TypeIs (.ref it) "list_reverseiterator" := hit.typeIs
 unfold Builtin.List.listExtendWith
 refine wpAny_bind (wpAny_typeOf hT ?_)
 have h1:Builtin.List.listSameRef (.ref S) (.ref it)=false:=by simp [Builtin.List.listSameRef,hSi]
 have h2:(Value.type "list_reverseiterator" == Value.type "list")=false:=by decide
 have h3:(Value.type "list_reverseiterator" == Value.type "tuple")=false:=by decide
 simp only [h1,h2,h3,Bool.or_false,Bool.false_eq_true,if_false]
 refine wpAny_bind (wpAny_pyIter_revIter hit ?_)
 refine wpAny_bind (wpAny_holding (Wu hT ?_))
 refine wpAny_ite_split (fun hab=>absurd hab (by decide +kernel)) (fun _=>?_)
 refine wpAny_pure ⟨plainId_quiet F.plain_extend_loop _,codeAny_extend_loopS W hz S (by simp [hSi,hSl]) res items.size 0 _ #[] c0 rfl (Nat.zero_le _) ⟨Nat.zero_le _,by simpa using hit,hl⟩ hS (ItemsOf.nil _) fun s' acc' c' hm hS' hacc=>?_⟩
 rw [Moved.eq_with hm]
 exact hR s'.heap s'.toks acc' c' (fun b o hb hi e=>hm.heap b o (by simp [hb,hi]) e) hS' hacc
theorem Z0 {it l:Addr} {items:Array Value} {Q:Value→Shared→Prop} (hh:A.handled=none) (hit:s.heap.IsRevIter it l ((items.size:Int) - 1)) (hl:s.heap.IsList l items) (hne:l≠it) (hz:items.size≤sizeLine)
  (hQ:∀ h' tk acc' c',(∀ b o,b≠it→s.heap.get? b=some o→h'.get? b=some o)→h'.get? s.heap.objs.size=some { cls:=.type "list", dict:=none,data:=.seq acc' c',slots:=#[] }→ItemsOf (fun i v=>items[items.size - 1 - i]?=some v) acc' items.size→Q (.ref s.heap.objs.size) { s with heap:=h',toks:=tk }) :
  wpAny (model prog w) A (call (.type "list") [.ref it]) Q E s:=by
 have lt:∀ {b o},s.heap.get? b=some o→s.heap.objs.size≠b:=fun e=>ξs (ζq e)
 refine callType_codes (Q₁:=fun obj s₁=>obj=.ref s.heap.objs.size∧s₁={ s with heap:=s.heap.push { cls:=.type "list", data:=.seq #[] } }) F.called_list (F.typeCall_list_1 _) F.entry_list_init
  (code_list_new _ ⟨rfl,rfl⟩) fun obj s₁ h₁=>?_
 obtain ⟨rfl,rfl⟩:=h₁
 have hS:(s.heap.push { cls:=.type "list", data:=.seq #[] }).get? s.heap.objs.size=some { cls:=.type "list", data:=.seq #[] }:=ζB _ rfl
 obtain ⟨oi,ei,_⟩:=id hit
 obtain ⟨ol,el,_⟩:=id hl
 refine ⟨⟨_,hS,rfl⟩,F.args_list_init_2 _ _,?_⟩
 show wpAny _ A.in1.in1 (do let old ← Builtin.List.listItems (.ref s.heap.objs.size); Builtin.List.listUpdate (.ref s.heap.objs.size) (fun _=>#[]); letGo old.toList.reverse; Builtin.List.listExtendWith (.ref s.heap.objs.size) (.ref it) .none) _ _ _
 refine wpAny_bind ?_
 unfold Builtin.List.listItems
 refine wpAny_bind (wpAny_seqItems hS rfl (wpAny_pure ?_))
 refine wpAny_bind (m:=updateSeq s.heap.objs.size (fun _=>#[])) (wpAny_updateSeq hS rfl ?_)
 have hS₂:=Heap.get?_update_self (Obj.mapSeq (fun _=>(#[]:Array Value))) hS rfl
 have oth:∀ b o,s.heap.get? b=some o→((s.heap.push { cls:=.type "list", data:=.seq #[] }).update s.heap.objs.size (Obj.mapSeq (fun _=>(#[]:Array Value)))).get? b=some o :=
  fun b o e=>(ξn _ _ (lt e)).trans (ζh _ e)
 refine wpAny_bind (wpAny_letGo ?_)
 refine VC (A:=A.in1) hh (hit.at fun o e=>oth _ o e) (hl.at fun o e=>oth _ o e) hne _ .none _ hS₂ (lt ei) (lt el) hz fun h' tk acc' c' hk hS' hacc=>?_
 exact ⟨rfl,hQ h' tk acc' c' (fun b o hb e=>hk b o (Ne.symm (lt e)) hb (oth b o e)) hS' hacc⟩
end
end PySem
namespace L2
open PySem PySem.Spec PyProof.Rows
section
variable {X:Cx}
theorem T3 {xs:List V} {its:List Value} {acc:Array Value} (r:Vals xs its) (h:ItemsOf (fun i v=>its.toArray[its.toArray.size - 1 - i]?=some v) acc its.toArray.size):Vals xs.reverse acc.toList:=by
 have e:acc.toList=its.reverse:=by
  have hs:acc.size=its.length:=by rw [h.1,ζQ]
  refine List.ext_getElem? fun i=>?_
  by_cases hi:i < its.length
  ·have ha:acc[i]?=some (acc[i]'(by omega)):=Array.getElem?_eq_getElem (by omega)
   have q:=h.2 i _ ha
   rw [List.getElem?_reverse hi,ξb,ha,← q,ζQ,List.getElem?_toArray]
  ·rw [ξa (by rw [ζ0]; omega),ξa (by rw [List.length_reverse]; omega)]
 rw [e]
 exact r.reverse
def tQ (K:ζa) (ta:TA):TE:=fun σ H Q=>ta σ H fun vs H1=>∃ a xs,vs=[.ref a]∧SqL K H1 a xs∧∀ p,H1 p=none→Q (.ref p) (upd H1 p (.lst xs.reverse))
theorem Vd {a:Expr} {ta:TA} {p p2 pos pos2:Pos} (hc:X.calm=true) (hg:Gl X "list") (hm:X.mg "list" = none) (hg2:Gl X "reversed") (hm2:X.mg "reversed" = none) (ha:PA X [a] ta) (he:starEach (a :: []) X.env=(false,eval a X.env) :: starEach [] X.env:=by rfl)
  (he2:starEach (Expr.Call (.Name "reversed" p2) [a] [] pos2 :: []) X.env=(false,eval (.Call (.Name "reversed" p2) [a] [] pos2) X.env) :: starEach [] X.env:=by rfl) :
  PE X (.Call (.Name "list" p) [.Call (.Name "reversed" p2) [a] [] pos2] [] pos) (tQ X.K ta):=by
 intro pins s σ H Q I h
 refine wpAny_Call_Name_kw (v4 I hg hm (u:=.type "list") (by decide +kernel) ?_ (by decide) (by decide))
 refine PyProof.Rows.callWith_type1 ?_ he2 (by rfl)
 rw [he2]
 show wpAny _ _ (spliced ((false,eval (.Call (.Name "reversed" p2) [a] [] pos2) X.env) :: backTo pos (starEach [] X.env))) _ _ s
 refine Calls.spliced_cons ?_
 refine wpAny_Call_Name_kw (v4 I hg2 hm2 (u:=.type "reversed") (by decide +kernel) ?_ (by decide) (by decide))
 refine PyProof.Rows.callWith_type1 (thn (ha pos2 pins s σ H _ I h) fun us s1 ⟨vs,H1,I1,r1,q1⟩=>?_) he (by rfl)
 obtain ⟨a1,xs,rfl,hx,q⟩:=q1
 obtain ⟨u,rfl,ru⟩:=r1.one
 cases (show u=Value.ref a1 from ru)
 obtain ⟨its,rx,px,zx⟩:=I1.list hx
 refine call_reversed_list px.isList ?_
 refine Calls.spliced_nil ?_
 have hl:=rx.length
 have hne:a1≠s1.heap.objs.size:=by
  obtain ⟨o,e,_⟩:=px.isList
  exact ζA (ζq e)
 have I2:Inv X pins σ H1 { s1 with heap:=s1.heap.push (revObj a1 ((its.toArray.size:Int) - 1)) }:=I1.kept (t':=s1.toks) fun b o e=>ζh _ e
 refine Z0 (s:={ s1 with heap:=s1.heap.push (revObj a1 ((its.toArray.size:Int) - 1)) }) (I1.ok.hd hc) ⟨_,ζB _ rfl,rfl,rfl⟩ (px.isList.at fun o e=>ζh _ e) hne (by rw [ζQ]; omega) fun h' tk acc' c' hk hS' hacc=>?_
 have hp:H1 (s1.heap.push (revObj a1 ((its.toArray.size:Int) - 1))).objs.size=none:=I2.fresh
 have rv:=T3 rx hacc
 refine ⟨.ref _,_,I2.turnNew (fp:=[s1.heap.objs.size]) (t':=tk) (fun b hb=>?_) (fun b u hb e=>hk b u (by simpa using hb) e) (Nat.le_refl _) ?_,rfl,q _ hp⟩
 ·have e:b=s1.heap.objs.size:=by simpa using hb
  subst e
  exact I1.fpOk (ζi _) (I1.hok.fresh (ζi _))
 ·exact ⟨by rw [List.length_reverse]; exact zx,acc'.toList,c',rv,by simpa using hS'⟩
end
section
variable {X:Cx} {K:ζa}
theorem zh (hK:X.K=K):IxR X (rIxL K):=by subst hK; exact zbf
theorem Xq (hK:X.K=K):IxR X (rIxT K):=by subst hK; exact zcV
theorem zp (hK:X.K=K):yQ X (.builtin "len") (fun xs H Q=>∃ p ys,xs=[.ref p]∧(SqL K H p ys∨SqT K H p ys)∧Q (.int ys.length) H):=by subst hK; exact XF
theorem zS (hK:X.K=K):yQ X (.type "list") (fun xs H Q=>∃ p ys,xs=[.ref p]∧(SqL K H p ys∨SqT K H p ys)∧∀ l,H l=none→Q (.ref l) (upd H l (.lst ys))):=by subst hK; exact XD
theorem V6 (hK:X.K=K) (hu:X.A.units + 64 < cLine):OpR X (compareOp .Eq) (rEqD K false):=by subst hK; exact zcD hu
theorem za0 (hK:X.K=K) (hu:X.A.units + 64 < cLine):OpR X (compareOp .NotEq) (rEqD K true):=by subst hK; exact zcA hu
theorem wT (hK:X.K=K):SlR X (rSlL K):=by subst hK; exact zaL
theorem yd (hK:X.K=K):OpR X (compareOp .In) (rIn K false):=by subst hK; exact UN
theorem zZ (hK:X.K=K):OpR X (compareOp .NotIn) (rIn K true):=by subst hK; exact Y2
end
end L2
namespace L2
open PySem PySem.Spec PyProof.Rows PySem.SeqAt
section
variable {X:Cx} {K:ζa}
def rEqS (K:ζa):R2:=fun x y H Q=>∃ d,Dp K H x d∧Dp K H y d∧shaped d=true∧Q (.bl true) H
def rNeS (K:ζa):R2:=fun x y H Q=>∃ d,Dp K H x d∧Dp K H y d∧shaped d=true∧Q (.bl false) H
theorem zcC (hu:X.A.units + 64 < cLine):OpR X (compareOp .Eq) (rEqS X.K):=by
 intro pins s σ H x y v u Q I rx ry h
 obtain ⟨d,h1,h2,z,q⟩:=h
 obtain ⟨as,ra⟩:=h1.reads I rx
 obtain ⟨bs,rb⟩:=h2.reads I ry
 refine eq_dataH ra rb z z hu ?_
 rw [eqv_refl d (canLay_of_shaped z)]
 exact ⟨.bl true,H,I,rfl,q⟩
theorem zcz (hu:X.A.units + 64 < cLine):OpR X (compareOp .NotEq) (rNeS X.K):=by
 intro pins s σ H x y v u Q I rx ry h
 obtain ⟨d,h1,h2,z,q⟩:=h
 obtain ⟨as,ra⟩:=h1.reads I rx
 obtain ⟨bs,rb⟩:=h2.reads I ry
 refine ne_dataH ra rb z z hu ?_
 rw [eqv_refl d (canLay_of_shaped z)]
 exact ⟨.bl false,H,I,rfl,q⟩
theorem za1 (hK:X.K=K) (hu:X.A.units + 64 < cLine):OpR X (compareOp .Eq) (rEqS K):=by subst hK; exact zcC hu
theorem Y3 (hK:X.K=K) (hu:X.A.units + 64 < cLine):OpR X (compareOp .NotEq) (rNeS K):=by subst hK; exact zcz hu
end
end L2
namespace L2
open PySem PySem.Spec PyProof.Rows
section
end
end L2
namespace Cm
open PySem L2
theorem take_succ {α:Type} {xs:List α} {i:Nat} {x:α} (h:xs[i]?=some x):xs.take (i + 1)=xs.take i ++ [x]:=by
 rw [List.take_add_one,h]; rfl
theorem zR {P:Program} {w:World} {K:ζa} {mg:Str→Option Value} {base:Heap} {x:Str} {st:Stmt} {f:Addr} {fd:FuncData} {ps:List Str} {k:Nat} {sp:Sp} (F:Fun K x x st f fd) (hm:mg x=some (.ref f)) (hb:x9 K fd ps []) (G:FnOk P w K mg base CX0 k f fd ps sp) :
  zF P w K mg base CX0 x ps k sp:=⟨f,fd,G,hm,F.kp,hb⟩
structure At (K:ζa) (x:Str) (st:Stmt) (f:Addr) (fd:FuncData):Prop where
 ns:PySem.W.nsIn K mainGlobals x=some (some (.ref f))
 fn:Fun K x x st f fd
theorem zY {K:ζa} {x:Str} {st:Stmt} {f:Addr} {oc:Value} {od an:Option Addr} {osl:Array (Option Value)} {kV doc pm cdv ct:Value} (a:PySem.W.nsIn K mainGlobals x=some (some (.ref f)))
  (l:K.lookup f=some ⟨oc,od,.func (PySem.W.fnOf x x (x8 st) (xt st) (zo st) .none kV doc pm an cdv ct),osl⟩) (c:PySem.W.codeIn K cdv x=true) (k:PySem.W.keepIn K (.ref f)=true):∃ f fd,At K x st f fd:=⟨f,_,a,VB l c k⟩
def Each (H:Hp):List Addr→List (List Int)→Prop
 | [],[]=>True
 | a :: r,x :: s=>H a=some (.lst (x.map V.int))∧Each H r s
 | _,_=>False
theorem Each.len {H:Hp}:∀ {rs:List Addr} {xs:List (List Int)},Each H rs xs→rs.length=xs.length
 | [],[],_=>rfl
 | _ :: _,_ :: _,h=>congrArg (· + 1) (Each.len h.2)
 | [],_ :: _,h=>h.elim
 | _ :: _,[],h=>h.elim
end Cm
namespace PD
open PySem L2
variable {K:ζa}
theorem Same.seqT {H H':Hp} {a:Addr} {xs:List V} (e:Same H H') (h:SqT K H a xs):SqT K H' a xs:=by
 rcases h with (h | ⟨o,h⟩) | h
 ·exact .inl (.inl (e _ _ h))
 ·exact .inl (.inr ⟨o,e _ _ h⟩)
 ·exact .inr h
mutual
theorem xa {F F':Hp} (e:Same F F'):∀ {v:V} {d:PyData},Dp K F v d→Dp K F' v d
 | _,_,.non=>.non
 | _,_,.bl b=>.bl b
 | _,_,.int i=>.int i
 | _,_,.str x=>.str x
 | _,_,.lst h k=>.lst (e.seq h) (x0 e k)
 | _,_,.tup h k=>.tup (Same.seqT e h) (x0 e k)
theorem x0 {F F':Hp} (e:Same F F'):∀ {vs:List V} {ds:List PyData},zE K F vs ds→zE K F' vs ds
 | _,_,.nil=>.nil
 | _,_,.cons h k=>.cons (xa e h) (x0 e k)
end
theorem zE.length {F:Hp}:∀ {vs:List V} {ds:List PyData},zE K F vs ds→vs.length=ds.length
 | _,_,.nil=>rfl
 | _,_,.cons _ k=>congrArg (· + 1) (zE.length k)
theorem zE.get {F:Hp}:∀ {vs:List V} {ds:List PyData} {i:Nat} {d:PyData},zE K F vs ds→ds[i]?=some d→∃ v,vs[i]?=some v∧Dp K F v d
 | _,_,_,_,.nil,e=>by simp at e
 | _,_,0,_,.cons h _,e=>by simp at e; subst e; exact ⟨_,rfl,h⟩
 | _,_,i + 1,d,.cons _ k,e=>by
  obtain ⟨v,h1,h2⟩:=zE.get (i:=i) k (by simpa using e)
  exact ⟨v,by simpa using h1,h2⟩
theorem zE.append {F:Hp}:∀ {vs ws:List V} {ds es:List PyData},zE K F vs ds→zE K F ws es→zE K F (vs ++ ws) (ds ++ es)
 | _,_,_,_,.nil,k=>k
 | _,_,_,_,.cons h t,k=>.cons h (zE.append t k)
theorem zE.take {F:Hp}:∀ {vs:List V} {ds:List PyData} (n:Nat),zE K F vs ds→zE K F (vs.take n) (ds.take n)
 | _,_,0,_=>.nil
 | _,_,_ + 1,.nil=>.nil
 | _,_,n + 1,.cons h t=>.cons h (zE.take n t)
theorem zE.drop {F:Hp}:∀ {vs:List V} {ds:List PyData} (n:Nat),zE K F vs ds→zE K F (vs.drop n) (ds.drop n)
 | _,_,0,r=>r
 | _,_,_ + 1,.nil=>.nil
 | _,_,n + 1,.cons _ t=>zE.drop n t
theorem zE.set {F:Hp} {v:V} {d:PyData} (h:Dp K F v d):∀ {vs:List V} {ds:List PyData} (n:Nat),zE K F vs ds→zE K F (vs.set n v) (ds.set n d)
 | _,_,_,.nil=>.nil
 | _,_,0,.cons _ t=>.cons h t
 | _,_,n + 1,.cons q t=>.cons q (zE.set h n t)
theorem zE.reverse {F:Hp}:∀ {vs:List V} {ds:List PyData},zE K F vs ds→zE K F vs.reverse ds.reverse
 | _,_,.nil=>.nil
 | _,_,.cons h t=>by
  rw [ζW,ζW]
  exact zE.append (zE.reverse t) (.cons h .nil)
theorem v8 {F:Hp} (ns:List Int):zE K F (ns.map V.int) (ns.map PyData.int):=Ul ns
theorem yj {F:Hp}:∀ {vs:List V} {ns:List Int},zE K F vs (ns.map PyData.int)→vs=ns.map V.int
 | _,[],.nil=>rfl
 | _,n :: r,.cons h t=>by cases h; rw [ζN,yj t]
theorem vo {F:Hp} {v:V} {i:Int} (h:Dp K F v (.int i)):v=.int i:=by cases h; rfl
structure Gr (H F H' F':Hp):Prop where
 h:Same H H'
 f:Same F F'
 le:Same F' H'
 ap:∀ a o,H a=some o→F a=none→F' a=none
theorem Gr.refl {H F:Hp} (le:Same F H):Gr H F H F:=⟨.refl _,.refl _,le,fun _ _ _ h=>h⟩
theorem Gr.trans {H F H1 F1 H2 F2:Hp} (a:Gr H F H1 F1) (b:Gr H1 F1 H2 F2):Gr H F H2 F2:=⟨a.h.trans b.h,a.f.trans b.f,b.le,fun c o q n=>b.ap c o (a.h _ _ q) (a.ap c o q n)⟩
theorem Gr.new {H F:Hp} {p:Addr} (le:Same F H) (hp:H p=none) (o:HO):Gr H F (upd H p o) (upd F p o):=by
 have fp:F p=none:=le.free hp
 refine ⟨Same.new hp o,Same.new fp o,fun b u q=>?_,fun b u q n=>?_⟩
 ·by_cases e:b=p
  ·subst e; rw [zi] at q ⊢; exact q
  ·rw [zm e] at q ⊢; exact le _ _ q
 ·rw [zm (zy q hp)]; exact n
theorem Gr.newO {H F:Hp} {p:Addr} (le:Same F H) (hp:H p=none) (o:HO):Gr H F (upd H p o) F:=⟨Same.new hp o,.refl _,fun b u q=>by rw [zm (zy (le _ _ q) hp)]; exact le _ _ q,fun _ _ _ n=>n⟩
inductive Sx where
 | fresh | spoil (T:Addr→Prop)
def Sx.has (S:Sx) (H0:Hp) (a:Addr):Prop:=match S with | .fresh=>H0 a≠none | .spoil T=>H0 a≠none∨T a
def LN (K:ζa) (κ:Bool) (S:Sx) (H0 F:Hp) (a:Addr) (xs:List V):Prop:=match κ with
 | true=>F a=some (.lst xs)∧¬ S.has H0 a
 | false=>SqL K F a xs
theorem LN.sq {κ:Bool} {S:Sx} {H0 F:Hp} {a:Addr} {xs:List V} (h:LN K κ S H0 F a xs):SqL K F a xs:=by
 cases κ with
 | true=>exact SqL.of h.1
 | false=>exact h
theorem LN.mono {κ:Bool} {S:Sx} {H0 F F':Hp} {a:Addr} {xs:List V} (h:LN K κ S H0 F a xs) (e:Same F F'):LN K κ S H0 F' a xs:=by
 cases κ with
 | true=>exact ⟨e _ _ h.1,h.2⟩
 | false=>exact e.seq h
theorem LN.new {κ:Bool} {S:Sx} {H0 F:Hp} {a:Addr} {xs:List V} (h:¬ S.has H0 a):LN K κ S H0 (upd F a (.lst xs)) a xs:=by
 cases κ with
 | true=>exact ⟨zi,h⟩
 | false=>exact SqL.of zi
mutual
inductive Rp (K:ζa) (κ:Bool) (S:Sx) (H0 F:Hp):V→PyData→Prop
 | non:Rp K κ S H0 F .non .none
 | bl (b:Bool):Rp K κ S H0 F (.bl b) (.bool b)
 | int (i:Int):Rp K κ S H0 F (.int i) (.int i)
 | str (x:Str):Rp K κ S H0 F (.str x) (.str x)
 | lst {a:Addr} {xs:List V} {ds:List PyData}:LN K κ S H0 F a xs→zn K κ S H0 F xs ds→Rp K κ S H0 F (.ref a) (.list ds)
 | tup {a:Addr} {xs:List V} {ds:List PyData}:SqT K F a xs→zn K κ S H0 F xs ds→Rp K κ S H0 F (.ref a) (.tuple ds)
inductive zn (K:ζa) (κ:Bool) (S:Sx) (H0 F:Hp):List V→List PyData→Prop
 | nil:zn K κ S H0 F [] []
 | cons {v:V} {vs:List V} {d:PyData} {ds:List PyData}:Rp K κ S H0 F v d→zn K κ S H0 F vs ds→zn K κ S H0 F (v :: vs) (d :: ds)
end
section
variable {κ κ':Bool} {S S':Sx} {H0 H0' F F':Hp}
mutual
theorem wc (hl:∀ a xs,LN K κ S H0 F a xs→LN K κ' S' H0' F' a xs) (ht:∀ a xs,SqT K F a xs→SqT K F' a xs):∀ {v:V} {d:PyData},Rp K κ S H0 F v d→Rp K κ' S' H0' F' v d
 | _,_,.non=>.non
 | _,_,.bl b=>.bl b
 | _,_,.int i=>.int i
 | _,_,.str x=>.str x
 | _,_,.lst h k=>.lst (hl _ _ h) (vD hl ht k)
 | _,_,.tup h k=>.tup (ht _ _ h) (vD hl ht k)
theorem vD (hl:∀ a xs,LN K κ S H0 F a xs→LN K κ' S' H0' F' a xs) (ht:∀ a xs,SqT K F a xs→SqT K F' a xs):∀ {vs:List V} {ds:List PyData},zn K κ S H0 F vs ds→zn K κ' S' H0' F' vs ds
 | _,_,.nil=>.nil
 | _,_,.cons h k=>.cons (wc hl ht h) (vD hl ht k)
end
theorem yX (e:Same F F') {v:V} {d:PyData} (h:Rp K κ S H0 F v d):Rp K κ S H0 F' v d:=wc (fun _ _ z=>z.mono e) (fun _ _ z=>Same.seqT e z) h
theorem zq (e:Same F F') {vs:List V} {ds:List PyData} (h:zn K κ S H0 F vs ds):zn K κ S H0 F' vs ds:=vD (fun _ _ z=>z.mono e) (fun _ _ z=>Same.seqT e z) h
mutual
theorem x4:∀ {v:V} {d:PyData},Rp K κ S H0 F v d→Dp K F v d
 | _,_,.non=>.non
 | _,_,.bl b=>.bl b
 | _,_,.int i=>.int i
 | _,_,.str x=>.str x
 | _,_,.lst h k=>.lst h.sq (ya k)
 | _,_,.tup h k=>.tup h (ya k)
theorem ya:∀ {vs:List V} {ds:List PyData},zn K κ S H0 F vs ds→zE K F vs ds
 | _,_,.nil=>.nil
 | _,_,.cons h k=>.cons (x4 h) (ya k)
end
mutual
theorem tq:∀ {v:V} {d:PyData},Dp K F v d→Rp K false S H0 F v d
 | _,_,.non=>.non
 | _,_,.bl b=>.bl b
 | _,_,.int i=>.int i
 | _,_,.str x=>.str x
 | _,_,.lst h k=>.lst h (uI k)
 | _,_,.tup h k=>.tup h (uI k)
theorem uI:∀ {vs:List V} {ds:List PyData},zE K F vs ds→zn K false S H0 F vs ds
 | _,_,.nil=>.nil
 | _,_,.cons h k=>.cons (tq h) (uI k)
end
theorem vC (hk:κ'=true→κ=true) {v:V} {d:PyData} (h:Rp K κ S H0 F v d):Rp K κ' S H0 F v d:=by
 cases κ' with
 | false=>exact tq (x4 h)
 | true=>rw [hk rfl] at h; exact h
theorem zn.length {vs:List V} {ds:List PyData} (h:zn K κ S H0 F vs ds):vs.length=ds.length:=zE.length (ya h)
theorem zn.get:∀ {vs:List V} {ds:List PyData} {i:Nat} {d:PyData},zn K κ S H0 F vs ds→ds[i]?=some d→∃ v,vs[i]?=some v∧Rp K κ S H0 F v d
 | _,_,_,_,.nil,e=>by simp at e
 | _,_,0,_,.cons h _,e=>by simp at e; subst e; exact ⟨_,rfl,h⟩
 | _,_,i + 1,d,.cons _ k,e=>by
  obtain ⟨v,h1,h2⟩:=zn.get (i:=i) k (by simpa using e)
  exact ⟨v,by simpa using h1,h2⟩
theorem zn.get':∀ {vs:List V} {ds:List PyData} {i:Nat} {v:V},zn K κ S H0 F vs ds→vs[i]?=some v→∃ d,ds[i]?=some d∧Rp K κ S H0 F v d
 | _,_,_,_,.nil,e=>by simp at e
 | _,_,0,_,.cons h _,e=>by simp at e; subst e; exact ⟨_,rfl,h⟩
 | _,_,i + 1,d,.cons _ k,e=>by
  obtain ⟨v,h1,h2⟩:=zn.get' (i:=i) k (by simpa using e)
  exact ⟨v,by simpa using h1,h2⟩
theorem zn.append:∀ {vs ws:List V} {ds es:List PyData},zn K κ S H0 F vs ds→zn K κ S H0 F ws es→zn K κ S H0 F (vs ++ ws) (ds ++ es)
 | _,_,_,_,.nil,k=>k
 | _,_,_,_,.cons h t,k=>.cons h (zn.append t k)
theorem zn.take:∀ {vs:List V} {ds:List PyData} (n:Nat),zn K κ S H0 F vs ds→zn K κ S H0 F (vs.take n) (ds.take n)
 | _,_,0,_=>.nil
 | _,_,_ + 1,.nil=>.nil
 | _,_,n + 1,.cons h t=>.cons h (zn.take n t)
theorem zn.drop:∀ {vs:List V} {ds:List PyData} (n:Nat),zn K κ S H0 F vs ds→zn K κ S H0 F (vs.drop n) (ds.drop n)
 | _,_,0,r=>r
 | _,_,_ + 1,.nil=>.nil
 | _,_,n + 1,.cons _ t=>zn.drop n t
theorem zn.set {v:V} {d:PyData} (h:Rp K κ S H0 F v d):∀ {vs:List V} {ds:List PyData} (n:Nat),zn K κ S H0 F vs ds→zn K κ S H0 F (vs.set n v) (ds.set n d)
 | _,_,_,.nil=>.nil
 | _,_,0,.cons _ t=>.cons h t
 | _,_,n + 1,.cons q t=>.cons q (zn.set h n t)
theorem zn.reverse:∀ {vs:List V} {ds:List PyData},zn K κ S H0 F vs ds→zn K κ S H0 F vs.reverse ds.reverse
 | _,_,.nil=>.nil
 | _,_,.cons h t=>by
  rw [ζW,ζW]
  exact zn.append (zn.reverse t) (.cons h .nil)
theorem yf {v:V} {i:Int} (h:Rp K κ S H0 F v (.int i)):v=.int i:=by cases h; rfl
theorem u7 {v:V} {b:Bool} (h:Rp K κ S H0 F v (.bool b)):v=.bl b:=by cases h; rfl
theorem tU {v:V} {ds:List PyData} (h:Rp K κ S H0 F v (.list ds)):∃ a vs,v=.ref a∧LN K κ S H0 F a vs∧zn K κ S H0 F vs ds:=by cases h with | lst h k=>exact ⟨_,_,rfl,h,k⟩
theorem Va {v:V} {ds:List PyData} (h:Rp K κ S H0 F v (.tuple ds)):∃ a vs,v=.ref a∧SqT K F a vs∧zn K κ S H0 F vs ds:=by cases h with | tup h k=>exact ⟨_,_,rfl,h,k⟩
end
def imm:PyData→Bool
 | .none=>true
 | .bool _=>true
 | .int _=>true
 | .str _=>true
 | .tuple ds=>immAll ds
 | _=>false
where immAll:List PyData→Bool
 | []=>true
 | d :: r=>imm d && immAll r
mutual
theorem VH {κ:Bool} {S:Sx} {H0 F:Hp}:∀ {v:V} {d:PyData},imm d=true→Dp K F v d→Rp K κ S H0 F v d
 | _,_,_,.non=>.non
 | _,_,_,.bl b=>.bl b
 | _,_,_,.int i=>.int i
 | _,_,_,.str x=>.str x
 | _,_,h,.lst _ _=>by unfold imm at h; cases h
 | _,_,h,.tup q k=>.tup q (uX (by unfold imm at h; exact h) k)
theorem uX {κ:Bool} {S:Sx} {H0 F:Hp}:∀ {vs:List V} {ds:List PyData},imm.immAll ds=true→zE K F vs ds→zn K κ S H0 F vs ds
 | _,_,_,.nil=>.nil
 | _,_,h,.cons p k=>by
  unfold imm.immAll at h
  rw [ξF] at h
  exact .cons (VH h.1 p) (uX h.2 k)
end
theorem wP {κ:Bool} {S:Sx} {H0 F:Hp} {vs:List V} {ds:List PyData} (h:∀ d∈ds,imm d=true) (k:zE K F vs ds):zn K κ S H0 F vs ds:=by
 refine uX ?_ k
 clear k
 induction ds with
 | nil=>rfl
 | cons d r ih =>
  unfold imm.immAll
  rw [h d ζg,ih fun x hx=>h x (ζl _ hx)]
  rfl
inductive DV where
 | fz (κ:Bool) (d:PyData) | ow (κ:Bool) (ds:List PyData) | tn (d:PyData) | ox | o2 (r:Option Addr) (dss:List (List PyData)) | fn (a:Addr) | xn (o:Addr→HO) | oa (a:Addr) (κ:Bool) (ds:List PyData) | xp (φ:Hp→V→Prop) | od (o:HO) | og (ad:Hp→V→Addr→Prop) (ψ:Sx→Hp→Hp→Hp→V→Prop)
abbrev Ctx:=List (Option DV)
structure OwnO (S:Sx) (H0 H F:Hp) (a:Addr) (o:HO):Prop where
 h:H a=some o
 f:F a=none
 n:H0 a=none
 s:¬ S.has H0 a
abbrev ZF (S:Sx) (H0 H F:Hp) (a:Addr) (vs:List V):Prop:=OwnO S H0 H F a (.lst vs)
structure IdA (r:Option Addr) (v:V) (a:Addr):Prop where
 eq:v=.ref a
 id:∀ b,r=some b→a=b
structure GOk (ad:Hp→V→Addr→Prop) (ψ:Sx→Hp→Hp→Hp→V→Prop):Prop where
 pl:∀ H H' v,(∀ a,ad H v a→H' a=H a)→∀ a,ad H' v a↔ad H v a
 ps:∀ S H0 H H' F F' v,(∀ a,ad H v a→H' a=H a)→Same F F'→ψ S H0 H F v→ψ S H0 H' F' v
def HasV (K:ζa) (S:Sx) (H0 H F:Hp) (v:V):DV→Prop
 | .fz κ d=>Rp K κ S H0 F v d
 | .ow κ ds=>∃ a vs,v=.ref a∧ZF S H0 H F a vs∧zn K κ S H0 F vs ds
 | .tn d=>∃ T,S=.spoil T∧Rp K true (.spoil fun a=>¬ T a) (fun _=>none) F v d
 | .ox=>∃ a vs,v=.ref a∧ZF S H0 H F a vs
 | .fn a=>v=.ref a
 | .xn o=>∃ a,v=.ref a∧F a=some (o a)
 | .oa a κ ds=>v=.ref a∧∃ vs,ZF S H0 H F a vs∧zn K κ S H0 F vs ds
 | .xp φ=>∃ F1,Same F1 F∧φ F1 v
 | .od o=>∃ a,v=.ref a∧OwnO S H0 H F a o
 | .og ad ψ=>GOk ad ψ∧(∀ a,ad H v a→∃ o,OwnO S H0 H F a o)∧ψ S H0 H F v
 | .o2 r dss=>∃ a vs,IdA r v a∧ZF S H0 H F a vs∧V.ref a∉vs∧vs.Nodup∧vs.length=dss.length∧∀ (j:Nat) x,vs[j]?=some x→∃ b us ds,x=.ref b∧ZF S H0 H F b us∧dss[j]?=some ds∧zn K true S H0 F us ds
def Owns (H:Hp) (v:V):DV→Addr→Prop
 | .ow _ _,a=>v=.ref a
 | .ox,a=>v=.ref a
 | .oa _ _ _,a=>v=.ref a
 | .od _,a=>v=.ref a
 | .og ad _,a=>ad H v a
 | .o2 _ _,a=>v=.ref a∨∃ p vs,v=.ref p∧H p=some (.lst vs)∧V.ref a∈vs
 | _,_=>False
structure DEnv (K:ζa) (S:Sx) (H0 F0 H F:Hp) (σ:St) (Γ:Ctx):Prop where
 gr:Gr H0 F0 H F
 l0:Same F0 H0
 sd:∀ a,S.has H0 a→∃ o,H a=some o
 s0:∀ T,S=.spoil T→∀ a,T a→H0 a=none
 len:σ.length=Γ.length
 has:∀ (i:Nat) (x:DV),Γ[i]?=some (some x)→∃ v,σ[i]?=some (some v)∧HasV K S H0 H F v x
 ne:∀ (i j:Nat) (x y:DV) (v w:V) (a:Addr),Γ[i]?=some (some x)→Γ[j]?=some (some y)→σ[i]?=some (some v)→σ[j]?=some (some w)→Owns H v x a→Owns H w y a→i=j
variable {S:Sx} {κ:Bool}
theorem DEnv.le {H0 F0 H F:Hp} {σ:St} {Γ:Ctx} (e:DEnv K S H0 F0 H F σ Γ):Same F H:=e.gr.le
theorem DEnv.out {H0 F0 H F:Hp} {σ:St} {Γ:Ctx} (e:DEnv K S H0 F0 H F σ Γ) {p:Addr} (hp:H p=none):¬ S.has H0 p:=fun c=>by
 obtain ⟨o,q⟩:=e.sd p c
 rw [hp] at q; cases q
theorem OwnO.mono {H0 H F H' F':Hp} {a:Addr} {u:HO} (o:OwnO S H0 H F a u) (g:Gr H F H' F'):OwnO S H0 H' F' a u:=⟨g.h _ _ o.h,g.ap _ _ o.h o.f,o.n,o.s⟩
theorem HasV.mono {H0 H F H' F':Hp} {v:V} {x:DV} (h:HasV K S H0 H F v x) (g:Gr H F H' F'):HasV K S H0 H' F' v x:=by
 cases x with
 | fz κ d=>exact yX g.f h
 | ow κ ds=>obtain ⟨a,vs,e,o,k⟩:=h; exact ⟨a,vs,e,o.mono g,zq g.f k⟩
 | tn d=>obtain ⟨T,e,k⟩:=h; exact ⟨T,e,yX g.f k⟩
 | ox=>obtain ⟨a,vs,e,o⟩:=h; exact ⟨a,vs,e,o.mono g⟩
 | o2 r dss =>
  obtain ⟨a,vs,e,o,n1,n2,l,k⟩:=h
  refine ⟨a,vs,e,o.mono g,n1,n2,l,fun j x hx=>?_⟩
  obtain ⟨b,us,ds,e2,o2,h2,k2⟩:=k j x hx
  exact ⟨b,us,ds,e2,o2.mono g,h2,zq g.f k2⟩
 | fn a=>exact h
 | xn φ=>obtain ⟨a,e,k⟩:=h; exact ⟨a,e,g.f _ _ k⟩
 | oa a κ ds=>obtain ⟨e,vs,o,k⟩:=h; exact ⟨e,vs,o.mono g,zq g.f k⟩
 | xp φ=>obtain ⟨F1,s,k⟩:=h; exact ⟨F1,s.trans g.f,k⟩
 | od u=>obtain ⟨a,e,o⟩:=h; exact ⟨a,e,o.mono g⟩
 | og ad ψ =>
  obtain ⟨ok,w,p⟩:=h
  have eq:∀ a,ad H v a→H' a=H a:=fun a z=>by
   obtain ⟨o,y⟩:=w a z
   rw [y.h]
   exact g.h _ _ y.h
  refine ⟨ok,fun a z=>?_,ok.ps S H0 H H' F F' v eq g.f p⟩
  obtain ⟨o,y⟩:=w a ((ok.pl H H' v eq a).mp z)
  exact ⟨o,y.mono g⟩
theorem HasV.owns {H0 H F:Hp} {v:V} {x:DV} {a:Addr} (h:HasV K S H0 H F v x) (o:Owns H v x a):∃ u,OwnO S H0 H F a u:=by
 cases x with
 | fz _ _=>exact o.elim
 | tn _=>exact o.elim
 | ow κ ds=>obtain ⟨b,vs,e,w,_⟩:=h; cases (show v=.ref a from o); cases e; exact ⟨_,w⟩
 | ox=>obtain ⟨b,vs,e,w⟩:=h; cases (show v=.ref a from o); cases e; exact ⟨_,w⟩
 | o2 r dss =>
  obtain ⟨b,vs,e,w,_,_,_,k⟩:=h
  rcases o with o | ⟨p,us,e2,hp,hm⟩
  ·cases o; cases e.eq; exact ⟨_,w⟩
  ·cases e.eq
   cases e2
   have hw:=w.h
   rw [hp] at hw
   cases hw
   obtain ⟨j,hj⟩:=ζ9.mp hm
   obtain ⟨c,ws,ds,e3,o3,_⟩:=k j _ hj
   cases e3
   exact ⟨_,o3⟩
 | fn _=>exact o.elim
 | xn _=>exact o.elim
 | oa b κ ds=>obtain ⟨e,vs,w,_⟩:=h; cases (show v=.ref a from o); cases e; exact ⟨_,w⟩
 | xp _=>exact o.elim
 | od u=>obtain ⟨b,e,w⟩:=h; cases (show v=.ref a from o); cases e; exact ⟨u,w⟩
 | og ad ψ=>exact h.2.1 a o
theorem Owns.back {H0 H F H':Hp} {v:V} {x:DV} {a:Addr} (h:HasV K S H0 H F v x) (g:∀ b u,OwnO S H0 H F b u→H' b=some u) (o:Owns H' v x a):Owns H v x a:=by
 cases x with
 | fz _ _=>exact o.elim
 | tn _=>exact o.elim
 | ow κ ds=>exact o
 | ox=>exact o
 | o2 r dss =>
  rcases o with o | ⟨p,us,e2,hp,hm⟩
  ·exact .inl o
  ·obtain ⟨b,vs,e',w,_⟩:=h
   have e:=e'.eq
   rw [e2] at e
   cases e
   rw [g _ _ w] at hp
   cases hp
   exact .inr ⟨p,_,e2,w.h,hm⟩
 | fn _=>exact o.elim
 | xn _=>exact o.elim
 | oa b κ ds=>exact o
 | xp _=>exact o.elim
 | od _=>exact o
 | og ad ψ =>
  obtain ⟨ok,w,p⟩:=h
  exact (ok.pl H H' v (fun b z=>by
   obtain ⟨u,y⟩:=w b z
   rw [g _ _ y,y.h]) a).mp o
theorem DEnv.mono {H0 F0 H F H' F':Hp} {σ:St} {Γ:Ctx} (e:DEnv K S H0 F0 H F σ Γ) (g:Gr H F H' F'):DEnv K S H0 F0 H' F' σ Γ where
 gr:=e.gr.trans g
 l0:=e.l0
 sd:=fun a h=>let ⟨o,q⟩:=e.sd a h; ⟨o,g.h _ _ q⟩
 s0:=e.s0
 len:=e.len
 has:=fun i x h=>let ⟨v,a,b⟩:=e.has i x h; ⟨v,a,b.mono g⟩
 ne:=fun i j x y v w a h1 h2 h3 h4 o1 o2=>by
  obtain ⟨v',q1,q2⟩:=e.has i x h1
  obtain ⟨w',q3,q4⟩:=e.has j y h2
  rw [h3] at q1
  cases q1
  rw [h4] at q3
  cases q3
  exact e.ne i j x y v w a h1 h2 h3 h4 (o1.back q2 fun _ _ z=>g.h _ _ z.h) (o2.back q4 fun _ _ z=>g.h _ _ z.h)
section
variable {Γ:Ctx}
def EvE (K:ζa) (S:Sx) (κ:Bool) (t:TE) (Γ:Ctx) (d:PyData):Prop:=∀ (H0 F0 H F:Hp) (σ:St),DEnv K S H0 F0 H F σ Γ→∀ Q:VK,(∀ v H' F',Gr H F H' F'→Rp K κ S H0 F' v d→Q v H')→t σ H Q
def EvO (K:ζa) (S:Sx) (κ:Bool) (t:TE) (Γ:Ctx) (ds:List PyData):Prop:=∀ (H0 F0 H F:Hp) (σ:St),DEnv K S H0 F0 H F σ Γ→∀ Q:VK,(∀ a vs H' F',Gr H F H' F'→H a=none→H' a=some (.lst vs)→F' a=none→zn K κ S H0 F' vs ds→Q (.ref a) H')→t σ H Q
def EvL (K:ζa) (S:Sx) (κ:Bool) (t:TE) (Γ:Ctx) (ds:List PyData):Prop:=∀ (H0 F0 H F:Hp) (σ:St),DEnv K S H0 F0 H F σ Γ→∀ Q:VK,(∀ a vs H' F',Gr H F H' F'→SqL K H' a vs→zn K κ S H0 F' vs ds→Q (.ref a) H')→t σ H Q
def EvD (K:ζa) (S:Sx) (t:TE) (Γ:Ctx) (d:PyData):Prop:=∀ (H0 F0 H F:Hp) (σ:St),DEnv K S H0 F0 H F σ Γ→∀ Q:VK,(∀ v H' F',Gr H F H' F'→Dp K H' v d→Q v H')→t σ H Q
def EvT (K:ζa) (S:Sx) (t:TT) (Γ:Ctx) (b:Bool):Prop:=∀ (H0 F0 H F:Hp) (σ:St),DEnv K S H0 F0 H F σ Γ→∀ Q:Bool→Hp→Prop,(∀ H' F',Gr H F H' F'→Q b H')→t σ H Q
def EvA (K:ζa) (S:Sx) (κ:Bool) (t:TA) (Γ:Ctx) (ds:List PyData):Prop:=∀ (H0 F0 H F:Hp) (σ:St),DEnv K S H0 F0 H F σ Γ→∀ Q:List V→Hp→Prop,(∀ vs H' F',Gr H F H' F'→zn K κ S H0 F' vs ds→Q vs H')→t σ H Q
def EvP (K:ζa) (S:Sx) (t:TO) (Γ:Ctx) (o:Option Int):Prop:=∀ (H0 F0 H F:Hp) (σ:St),DEnv K S H0 F0 H F σ Γ→∀ Q:Option Int→Hp→Prop,(∀ H' F',Gr H F H' F'→Q o H')→t σ H Q
theorem EvE.toD {t:TE} {d:PyData} (h:EvE K S κ t Γ d):EvD K S t Γ d:=fun H0 F0 H F σ e Q q=>h H0 F0 H F σ e Q fun v H' F' g p=>q v H' F' g (xa g.le (x4 p))
theorem EvE.weak {κ':Bool} {t:TE} {d:PyData} (h:EvE K S κ t Γ d) (hk:κ'=true→κ=true):EvE K S κ' t Γ d:=fun H0 F0 H F σ e Q q=>h H0 F0 H F σ e Q fun v H' F' g p=>q v H' F' g (vC hk p)
theorem EvE.imm {κ':Bool} {t:TE} {d:PyData} (h:EvE K S κ t Γ d) (hk:imm d=true):EvE K S κ' t Γ d:=fun H0 F0 H F σ e Q q=>h H0 F0 H F σ e Q fun v H' F' g p=>q v H' F' g (VH hk (x4 p))
theorem EvE.toL {t:TE} {ds:List PyData} (h:EvE K S κ t Γ (.list ds)):EvL K S κ t Γ ds:=fun H0 F0 H F σ e Q q=>h H0 F0 H F σ e Q fun v H' F' g p=>by
 obtain ⟨a,vs,rfl,h1,h2⟩:=tU p
 exact q a vs H' F' g (g.le.seq h1.sq) h2
theorem EvL.imm {κ':Bool} {t:TE} {ds:List PyData} (h:EvL K S κ t Γ ds) (hk:∀ d∈ds,imm d=true):EvL K S κ' t Γ ds:=fun H0 F0 H F σ e Q q=>h H0 F0 H F σ e Q fun a vs H' F' g p k=>q a vs H' F' g p (wP hk (ya k))
theorem EvO.toL {t:TE} {ds:List PyData} (h:EvO K S κ t Γ ds):EvL K S κ t Γ ds:=fun H0 F0 H F σ e Q q=>h H0 F0 H F σ e Q fun a vs H' F' g _ p _ k=>q a vs H' F' g (SqL.of p) k
theorem EvO.toE {t:TE} {ds:List PyData} (h:EvO K S κ t Γ ds):EvE K S κ t Γ (.list ds):=fun H0 F0 H F σ e Q q=>h H0 F0 H F σ e Q fun a vs H' F' g n p f k=>by
 have s:Same F' (upd F' a (.lst vs)):=Same.new f _
 refine q (.ref a) H' (upd F' a (.lst vs)) ⟨g.h,g.f.trans s,fun b u z=>?_,fun b u z y=>?_⟩ (.lst (LN.new (e.out n)) (zq s k))
 ·by_cases eb:b=a
  ·subst eb; rw [zi] at z; rw [← z]; exact p
  ·rw [zm eb] at z; exact g.le _ _ z
 ·rw [zm (zy z n)]; exact g.ap _ _ z y
theorem EvL.toD {t:TE} {ds:List PyData} (h:EvL K S κ t Γ ds):EvD K S t Γ (.list ds):=fun H0 F0 H F σ e Q q=>h H0 F0 H F σ e Q fun a vs H' F' g p k=>q _ H' F' g (.lst p (x0 g.le (ya k)))
theorem zbt {i:Nat} {ds:List PyData} (h:Γ[i]?=some (some (.ow κ ds))):EvL K S κ (tVar i) Γ ds:=fun H0 F0 H F σ e Q q=>by
 obtain ⟨v,h1,a,vs,rfl,o,k⟩:=e.has i _ h
 exact ⟨_,h1,q a vs H F (.refl e.le) (SqL.of o.h) k⟩
theorem vi {i:Nat} {d:PyData} (h:Γ[i]?=some (some (.fz κ d))):EvE K S κ (tVar i) Γ d:=fun H0 F0 H F σ e Q q=>by
 obtain ⟨v,hv,hd⟩:=e.has i _ h
 exact ⟨v,hv,q v H F (.refl e.le) hd⟩
theorem zc3 {i:Int}:EvE K S κ (tC (.int i)) Γ (.int i):=fun _ _ H F _ e _ q=>q _ H F (.refl e.le) (.int i)
theorem zdH {b:Bool}:EvE K S κ (tC (.bl b)) Γ (.bool b):=fun _ _ H F _ e _ q=>q _ H F (.refl e.le) (.bl b)
theorem zc1:EvE K S κ (tC .non) Γ .none:=fun _ _ H F _ e _ q=>q _ H F (.refl e.le) .non
theorem Ug {r:R2} {ta tb:TE} {x y d:PyData} (ha:EvE K S false ta Γ x) (hb:EvE K S false tb Γ y) (hr:∀ v w H F (Q:VK),Same F H→Dp K F v x→Dp K F w y→(∀ z,(∀ F,Dp K F z d)→Q z H)→r v w H Q) (hi:imm d=true:=by rfl):EvE K S κ (tOp r ta tb) Γ d:=fun H0 F0 H F σ e Q q =>
 ha H0 F0 H F σ e _ fun v H1 F1 g1 p1=>hb H0 F0 H1 F1 σ (e.mono g1) _ fun w H2 F2 g2 p2=>by
  exact hr v w H2 F2 Q g2.le (xa g2.f (x4 p1)) (x4 p2) fun z p3=>q z H2 F2 (g1.trans g2) (VH hi (p3 F2))
theorem WM {g:Int→Int→V} {ta tb:TE} {i j:Int} {d:PyData} (hi:imm d=true) (hg:∀ F,Dp K F (g i j) d) (ha:EvE K S false ta Γ (.int i)) (hb:EvE K S false tb Γ (.int j)):EvE K S κ (tOp (rI0 g) ta tb) Γ d :=
 Ug ha hb (fun v w H F Q le p1 p2 k=>by cases vo p1; cases vo p2; exact ⟨i,j,rfl,rfl,k _ hg⟩) hi
theorem ev_I {C:Int→Int→Prop} {g:Int→Int→V} {ta tb:TE} {i j:Int} {d:PyData} (hi:imm d=true) (hg:∀ F,Dp K F (g i j) d) (ha:EvE K S false ta Γ (.int i)) (hb:EvE K S false tb Γ (.int j)) (hc:C i j):EvE K S κ (tOp (rI C g) ta tb) Γ d :=
 Ug ha hb (fun v w H F Q le p1 p2 k=>by cases vo p1; cases vo p2; exact ⟨i,j,rfl,rfl,hc,k _ hg⟩) hi
theorem vk {ta tb:TE} {i j:Int} (ha:EvE K S false ta Γ (.int i)) (hb:EvE K S false tb Γ (.int j)):EvE K S κ (tOp (rI0 fun i j=>.int (i + j)) ta tb) Γ (.int (i + j)):=WM rfl (fun _=>.int _) ha hb
theorem wN {ta tb:TE} {i j:Int} (ha:EvE K S false ta Γ (.int i)) (hb:EvE K S false tb Γ (.int j)):EvE K S κ (tOp (rI0 fun i j=>.int (i - j)) ta tb) Γ (.int (i - j)):=WM rfl (fun _=>.int _) ha hb
theorem Zm {ta tb:TE} {i j:Int} (ha:EvE K S false ta Γ (.int i)) (hb:EvE K S false tb Γ (.int j)):EvE K S κ (tOp (rI0 fun i j=>.bl (decide (i < j))) ta tb) Γ (.bool (decide (i < j))):=WM rfl (fun _=>.bl _) ha hb
theorem Zn {ta tb:TE} {i j:Int} (ha:EvE K S false ta Γ (.int i)) (hb:EvE K S false tb Γ (.int j)):EvE K S κ (tOp (rI0 fun i j=>.bl (decide (j < i))) ta tb) Γ (.bool (decide (j < i))):=WM rfl (fun _=>.bl _) ha hb
theorem zdG {ta tb:TE} {i j:Int} (ha:EvE K S false ta Γ (.int i)) (hb:EvE K S false tb Γ (.int j)):EvE K S κ (tOp (rI0 fun i j=>.bl (decide (j≤i))) ta tb) Γ (.bool (decide (j≤i))):=WM rfl (fun _=>.bl _) ha hb
theorem Xx {ta tb:TE} {i j:Int} (ha:EvE K S false ta Γ (.int i)) (hb:EvE K S false tb Γ (.int j)) (hc:IntMulOk i j):EvE K S κ (tOp (rI IntMulOk fun i j=>.int (i * j)) ta tb) Γ (.int (i * j)):=ev_I rfl (fun _=>.int _) ha hb hc
theorem tL {ta tb:TE} {i j:Int} (ha:EvE K S false ta Γ (.int i)) (hb:EvE K S false tb Γ (.int j)) (hc:CDiv i j):EvE K S κ (tOp (rI CDiv fun i j=>.int (i / j)) ta tb) Γ (.int (i / j)):=ev_I rfl (fun _=>.int _) ha hb hc
theorem yE {ta tb:TE} {i j:Int} (ha:EvE K S false ta Γ (.int i)) (hb:EvE K S false tb Γ (.int j)) (hc:0 < j):EvE K S κ (tOp (rI (fun _ j=>0 < j) fun i j=>.int (i % j)) ta tb) Γ (.int (i % j)):=ev_I rfl (fun _=>.int _) ha hb hc
theorem vj {ta:TE} {i:Int} (ha:EvE K S false ta Γ (.int i)):EvE K S κ (tUn (rU fun i=>.int (-i)) ta) Γ (.int (-i)):=fun H0 F0 H F σ e Q q =>
 ha H0 F0 H F σ e _ fun v H1 F1 g1 p1=>by cases yf p1; exact ⟨i,rfl,q _ H1 F1 g1 (.int _)⟩
theorem uJ (i j:Int):decide (V.int i=V.int j)=decide (i=j):=by by_cases h:i=j <;> simp [h]
theorem v7 {ta tb:TE} {i j:Int} (ha:EvE K S false ta Γ (.int i)) (hb:EvE K S false tb Γ (.int j)):EvE K S κ (tOp rEq ta tb) Γ (.bool (decide (i=j))) :=
 Ug ha hb fun v w H F Q le p1 p2 k=>by
  cases vo p1; cases vo p2
  refine ⟨rfl,?_⟩
  rw [uJ]; exact k _ fun _=>.bl _
theorem Xw {ta tb:TE} {i j:Int} (ha:EvE K S false ta Γ (.int i)) (hb:EvE K S false tb Γ (.int j)):EvE K S κ (tOp rNe ta tb) Γ (.bool (!(decide (i=j)))) :=
 Ug ha hb fun v w H F Q le p1 p2 k=>by
  cases vo p1; cases vo p2
  refine ⟨rfl,?_⟩
  rw [uJ]; exact k _ fun _=>.bl _
def isNone:PyData→Bool
 | .none=>true
 | _=>false
theorem QU {F:Hp} {v:V} {d:PyData} (h:Dp K F v d):decide (v=.non)=isNone d:=by
 cases h <;> first | rfl | exact decide_eq_false (by intro e; cases e)
theorem VF {ta:TE} {d:PyData} (ha:EvD K S ta Γ d):EvE K S κ (tOp (fun x y H Q=>y=.non∧Q (.bl (decide (x=.non))) H) ta (tC .non)) Γ (.bool (isNone d)):=fun H0 F0 H F σ e Q q =>
 ha H0 F0 H F σ e _ fun v H1 F1 g1 p1=>⟨rfl,by rw [QU p1]; exact q _ H1 F1 g1 (.bl _)⟩
theorem Xz {neg:Bool} {ta tb:TE} {d f:PyData} (ha:EvD K S ta Γ d) (hb:EvD K S tb Γ f) (z1:SeqAt.shaped d=true) (z2:SeqAt.shaped f=true):EvE K S κ (tOp (rEqD K neg) ta tb) Γ (.bool (if neg then !PyData.eqv d f else PyData.eqv d f)):=fun H0 F0 H F σ e Q q =>
 ha H0 F0 H F σ e _ fun v H1 F1 g1 p1=>hb H0 F0 H1 F1 σ (e.mono g1) _ fun w H2 F2 g2 p2=>⟨d,f,xa g2.h p1,p2,z1,z2,q _ H2 F2 (g1.trans g2) (.bl _)⟩
theorem zbu {ta tb:TE} {d:PyData} (ha:EvD K S ta Γ d) (hb:EvD K S tb Γ d) (z:SeqAt.shaped d=true):EvE K S κ (tOp (rEqS K) ta tb) Γ (.bool true):=fun H0 F0 H F σ e Q q =>
 ha H0 F0 H F σ e _ fun v H1 F1 g1 p1=>hb H0 F0 H1 F1 σ (e.mono g1) _ fun w H2 F2 g2 p2=>⟨d,xa g2.h p1,p2,z,q _ H2 F2 (g1.trans g2) (.bl _)⟩
theorem Xv {ta tb:TE} {d:PyData} (ha:EvD K S ta Γ d) (hb:EvD K S tb Γ d) (z:SeqAt.shaped d=true):EvE K S κ (tOp (rNeS K) ta tb) Γ (.bool false):=fun H0 F0 H F σ e Q q =>
 ha H0 F0 H F σ e _ fun v H1 F1 g1 p1=>hb H0 F0 H1 F1 σ (e.mono g1) _ fun w H2 F2 g2 p2=>⟨d,xa g2.h p1,p2,z,q _ H2 F2 (g1.trans g2) (.bl _)⟩
theorem zaw {H0 F:Hp} {vs:List V} {ds:List PyData} {i:Int} {d:PyData} (k:zn K κ S H0 F vs ds) (h:atI ds i=some d):∃ v,atI vs i=some v∧Rp K κ S H0 F v d:=by
 unfold atI at h ⊢
 rw [zn.length k]
 cases e:ixN ds.length i with
 | none=>rw [e] at h; cases h
 | some j=>rw [e] at h; exact zn.get k h
theorem zr {ta tb:TE} {ds:List PyData} {i:Int} {d:PyData} (ha:EvL K S κ ta Γ ds) (hb:EvE K S false tb Γ (.int i)) (h:atI ds i=some d):EvE K S κ (tOp (rIxL K) ta tb) Γ d:=fun H0 F0 H F σ e Q q =>
 ha H0 F0 H F σ e _ fun a vs H1 F1 g1 p1 k1=>hb H0 F0 H1 F1 σ (e.mono g1) _ fun w H2 F2 g2 p2=>by
  cases yf p2
  obtain ⟨v,h1,h2⟩:=zaw (zq g2.f k1) h
  exact ⟨a,vs,i,v,rfl,rfl,g2.h.seq p1,h1,q _ H2 F2 (g1.trans g2) h2⟩
theorem Xy {ta tb:TE} {ds:List PyData} {i:Int} {d:PyData} (ha:EvE K S κ ta Γ (.tuple ds)) (hb:EvE K S false tb Γ (.int i)) (h:atI ds i=some d):EvE K S κ (tOp (rIxT K) ta tb) Γ d:=fun H0 F0 H F σ e Q q =>
 ha H0 F0 H F σ e _ fun v H1 F1 g1 p1=>hb H0 F0 H1 F1 σ (e.mono g1) _ fun w H2 F2 g2 p2=>by
  cases yf p2
  obtain ⟨a,vs,rfl,h1,h2⟩:=Va p1
  obtain ⟨v,h3,h4⟩:=zaw (zq g2.f h2) h
  exact ⟨a,vs,i,v,rfl,rfl,Same.seqT (g1.le.trans g2.h) h1,h3,q _ H2 F2 (g1.trans g2) h4⟩
theorem Zq {ta tb:TE} {a b:Bool} (ha:EvE K S false ta Γ (.bool a)) (hb:a=true→EvE K S false tb Γ (.bool b)):EvE K S κ (zbR ta tb) Γ (.bool (a && b)):=fun H0 F0 H F σ e Q q =>
 ha H0 F0 H F σ e _ fun v H1 F1 g1 p1=>by
  cases u7 p1
  refine ⟨a,rfl,?_⟩
  cases a with
  | true=>exact iteT (hb rfl H0 F0 H1 F1 σ (e.mono g1) Q fun v H2 F2 g2 p2=>by cases u7 p2; exact q _ H2 F2 (g1.trans g2) (.bl _))
  | false=>exact iteF (q _ H1 F1 g1 (.bl _))
theorem zb7 {ta tb:TE} {a b:Bool} (ha:EvE K S false ta Γ (.bool a)) (hb:a=false→EvE K S false tb Γ (.bool b)):EvE K S κ (tOrV ta tb) Γ (.bool (a || b)):=fun H0 F0 H F σ e Q q =>
 ha H0 F0 H F σ e _ fun v H1 F1 g1 p1=>by
  cases u7 p1
  refine ⟨a,rfl,?_⟩
  cases a with
  | false=>exact iteF (hb rfl H0 F0 H1 F1 σ (e.mono g1) Q fun v H2 F2 g2 p2=>by cases u7 p2; exact q _ H2 F2 (g1.trans g2) (.bl _))
  | true=>exact iteT (q _ H1 F1 g1 (.bl _))
theorem VE {ta:TE} {a:Bool} (ha:EvE K S false ta Γ (.bool a)):EvE K S κ (zbQ ta) Γ (.bool (!a)):=fun H0 F0 H F σ e Q q =>
 ha H0 F0 H F σ e _ fun v H1 F1 g1 p1=>by cases u7 p1; exact ⟨a,rfl,q _ H1 F1 g1 (.bl _)⟩
theorem zC {t:TE} {b:Bool} (h:EvE K S false t Γ (.bool b)):EvT K S (Tz t) Γ b:=fun H0 F0 H F σ e Q q =>
 h H0 F0 H F σ e _ fun v H1 F1 g1 p1=>by cases u7 p1; exact ⟨b,rfl,q H1 F1 g1⟩
theorem et_B {t:TE} {b:Bool} (h:EvE K S false t Γ (.bool b)):EvT K S (tB t) Γ b:=fun H0 F0 H F σ e Q q =>
 h H0 F0 H F σ e _ fun v H1 F1 g1 p1=>by cases u7 p1; exact ⟨b,rfl,q H1 F1 g1⟩
theorem wO {t u:TT} {a b:Bool} (ha:EvT K S t Γ a) (hb:a=true→EvT K S u Γ b):EvT K S (tAnd t u) Γ (a && b):=fun H0 F0 H F σ e Q q =>
 ha H0 F0 H F σ e _ fun H1 F1 g1=>by
  cases a with
  | true=>exact iteT (hb rfl H0 F0 H1 F1 σ (e.mono g1) Q fun H2 F2 g2=>q H2 F2 (g1.trans g2))
  | false=>exact iteF (q H1 F1 g1)
theorem vR {t u:TT} {a b:Bool} (ha:EvT K S t Γ a) (hb:a=false→EvT K S u Γ b):EvT K S (tOr t u) Γ (a || b):=fun H0 F0 H F σ e Q q =>
 ha H0 F0 H F σ e _ fun H1 F1 g1=>by
  cases a with
  | false=>exact iteF (hb rfl H0 F0 H1 F1 σ (e.mono g1) Q fun H2 F2 g2=>q H2 F2 (g1.trans g2))
  | true=>exact iteT (q H1 F1 g1)
theorem xA {t:TT} {a:Bool} (ha:EvT K S t Γ a):EvT K S (tNot t) Γ (!a):=fun H0 F0 H F σ e Q q=>ha H0 F0 H F σ e _ fun H1 F1 g1=>q H1 F1 g1
theorem zab:EvT K S tYes Γ true:=fun H0 F0 H F σ e Q q=>q H F (.refl e.le)
theorem EvT.eq {t:TT} {a b:Bool} (h:EvT K S t Γ a) (e:a=b):EvT K S t Γ b:=e ▸ h
theorem EvE.eq {t:TE} {a b:PyData} (h:EvE K S κ t Γ a) (e:a=b):EvE K S κ t Γ b:=e ▸ h
theorem EvO.eq {t:TE} {a b:List PyData} (h:EvO K S κ t Γ a) (e:a=b):EvO K S κ t Γ b:=e ▸ h
theorem zG:EvA K S κ tNil Γ []:=fun H0 F0 H F σ e Q q=>q [] H F (.refl e.le) .nil
theorem zk {t:TE} {u:TA} {d:PyData} {ds:List PyData} (h:EvE K S κ t Γ d) (k:EvA K S κ u Γ ds):EvA K S κ (ye t u) Γ (d :: ds):=fun H0 F0 H F σ e Q q =>
 h H0 F0 H F σ e _ fun v H1 F1 g1 p1=>k H0 F0 H1 F1 σ (e.mono g1) _ fun vs H2 F2 g2 p2=>q _ H2 F2 (g1.trans g2) (.cons (yX g2.f p1) p2)
theorem v6 {t:TA} {ds:List PyData} (h:EvA K S κ t Γ ds) (hz:ds.length≤sizeLine):EvE K S κ (tTup t) Γ (.tuple ds):=fun H0 F0 H F σ e Q q =>
 h H0 F0 H F σ e _ fun vs H1 F1 g1 p1=>⟨by rw [zn.length p1]; exact hz,fun p hp=>q _ _ (upd F1 p (.tup vs)) (g1.trans (.new g1.le hp _)) (.tup (SqT.of zi) (zq (Same.new (g1.le.free hp) _) p1))⟩
theorem zQ {t:TA} {ds:List PyData} (h:EvA K S κ t Γ ds) (hz:ds.length≤sizeLine):EvO K S κ (tLst t) Γ ds:=fun H0 F0 H F σ e Q q =>
 h H0 F0 H F σ e _ fun vs H1 F1 g1 p1=>⟨by rw [zn.length p1]; exact hz,fun p hp=>q p vs _ F1 (g1.trans (.newO g1.le hp _)) (g1.h.free hp) zi (g1.le.free hp) p1⟩
def spD (K:ζa) (κ:Bool) (pre:List PyData→PyData→Prop):Sp:=fun vs H Q _=>∃ F ds d,Same F H∧zE K F vs ds∧pre ds d∧∀ v H' F',Gr H F H' F'→Rp K κ .fresh H F' v d→Q v H'
theorem zv {pre:List PyData→PyData→Prop} {E:XK} {t:TA} {ds:List PyData} {d:PyData} (h:EvA K S false t Γ ds) (hp:pre ds d):EvE K S κ (u0 (spD K true pre) [] E t) Γ d:=fun H0 F0 H F σ e Q q =>
 h H0 F0 H F σ e _ fun vs H1 F1 g1 p1=>⟨F1,ds,d,g1.le,by rw [ζJ]; exact ya p1,hp,fun v H2 F2 g2 p2=>q v H2 F2 (g1.trans g2) (vC (κ:=true) (fun _=>rfl) (wc (κ:=true) (κ':=true) (S':=S) (H0':=H0) (fun a xs z=>⟨z.1,fun c=>by
  obtain ⟨u,hu⟩:=(e.mono g1).sd a c
  exact z.2 (by show H1 a≠none; rw [hu]; simp)⟩) (fun _ _ z=>z) p2))⟩
theorem yg {ta:TE} {ds:List PyData} (h:EvL K S false ta Γ ds):EvE K S κ (tCB (fun xs H Q=>∃ p ys,xs=[.ref p]∧(SqL K H p ys∨SqT K H p ys)∧Q (.int ys.length) H) (ye ta tNil)) Γ (.int ds.length):=fun H0 F0 H F σ e Q q =>
 h H0 F0 H F σ e _ fun a vs H1 F1 g1 p1 k1=>⟨a,vs,rfl,.inl p1,q _ H1 F1 g1 (by rw [zn.length k1]; exact .int _)⟩
theorem yz {ta:TE} {ds:List PyData} (h:EvL K S κ ta Γ ds):EvO K S κ (tCB (fun xs H Q=>∃ p ys,xs=[.ref p]∧(SqL K H p ys∨SqT K H p ys)∧∀ l,H l=none→Q (.ref l) (upd H l (.lst ys))) (ye ta tNil)) Γ ds:=fun H0 F0 H F σ e Q q =>
 h H0 F0 H F σ e _ fun a vs H1 F1 g1 p1 k1=>⟨a,vs,rfl,.inl p1,fun p hp=>q p vs _ F1 (g1.trans (.newO g1.le hp _)) (g1.h.free hp) zi (g1.le.free hp) k1⟩
def cutD (xs:List PyData) (lo hi:Option Int):List PyData:=(xs.drop (HT.sIx xs.length 0 lo)).take (HT.sIx xs.length xs.length hi - HT.sIx xs.length 0 lo)
theorem zap {H0 F:Hp} {vs:List V} {ds:List PyData} {lo hi:Option Int} (k:zn K κ S H0 F vs ds):zn K κ S H0 F (cutV vs lo hi) (cutD ds lo hi):=by
 unfold cutV cutD
 rw [zn.length k]
 exact zn.take _ (zn.drop _ k)
theorem vJ:EvP K S VX Γ none:=fun H0 F0 H F σ e Q q=>q H F (.refl e.le)
theorem vI {t:TE} {i:Int} (h:EvE K S false t Γ (.int i)):EvP K S (zbP t) Γ (some i):=fun H0 F0 H F σ e Q q =>
 h H0 F0 H F σ e _ fun v H1 F1 g1 p1=>by cases yf p1; exact ⟨i,rfl,q H1 F1 g1⟩
theorem xQ {t:TE} {tl th:TO} {ds:List PyData} {lo hi:Option Int} (h:EvL K S κ t Γ ds) (hl:EvP K S tl Γ lo) (hh:EvP K S th Γ hi):EvO K S κ (tSl (rSlL K) t tl th) Γ (cutD ds lo hi):=fun H0 F0 H F σ e Q q =>
 h H0 F0 H F σ e _ fun a vs H1 F1 g1 p1 k1=>hl H0 F0 H1 F1 σ (e.mono g1) _ fun H2 F2 g2=>hh H0 F0 H2 F2 σ ((e.mono g1).mono g2) _ fun H3 F3 g3 =>
  ⟨a,vs,rfl,(g2.h.trans g3.h).seq p1,fun p hp=>q p _ _ F3 (((g1.trans g2).trans g3).trans (.newO g3.le hp _)) (((g1.trans g2).trans g3).h.free hp) zi (g3.le.free hp) (zap (zq (g2.f.trans g3.f) k1))⟩
end
end PD
namespace L2
open PySem PySem.Spec PyProof.Rows
section
variable {X:Cx} {K:ζa}
def V2 (K:ζa):R2:=fun x y H Q=>∃ l b xs zs,x=.ref l∧y=.ref b∧SqL K H l xs∧SqL K H b zs∧xs.length + zs.length≤sizeLine∧∀ p,H p=none→Q (.ref p) (upd H p (.lst (xs ++ zs)))
theorem za2:OpR X (binaryOp .Add) (V2 X.K):=by
 intro pins s σ H x y v u Q I rx ry h
 obtain ⟨l,b,xs,zs,rfl,rfl,hH,hB,hz,q⟩:=h
 cases rx
 cases ry
 obtain ⟨its,r,pl,z⟩:=I.list hH
 obtain ⟨its2,r2,pl2,z2⟩:=I.list hB
 have l1:=r.length
 have l2:=r2.length
 obtain ⟨⟨cls,dd,data,sl⟩,ho,hc,n,hd⟩:=pl.isList
 obtain ⟨⟨cls2,dd2,data2,sl2⟩,ho2,hc2,n2,hd2⟩:=pl2.isList
 simp only at hc hd hc2 hd2
 subst hc hd hc2 hd2
 have e:its.toArray ++ its2.toArray=(its ++ its2).toArray:=by simp
 refine concat_meets ⟨_,ho,rfl⟩ ⟨_,ho2,rfl⟩ noFill_list_add seq_list_add PySem.F.slot_list_add PySem.F.entry_list_add (PySem.F.args_list_add_2 _ _) (list_addW l b its.toArray its2.toArray n n2 dd dd2 sl sl2 (by simp only [List.size_toArray]; omega)) ⟨ho,ho2,?_⟩
 rw [e]
 exact ⟨.ref _,_,I.lnew (t':=s.toks) (r.append r2) (by rw [ζd]; omega),rfl,q _ I.fresh⟩
def tyD:PyData→String
 | .none => "NoneType"
 | .bool _ => "bool"
 | .int _ => "int"
 | .str _ => "str"
 | .list _ => "list"
 | .tuple _ => "tuple"
 | _ => "object"
def Qa (K:ζa):List V→Hp→VK→Prop:=fun xs H Q=>∃ x d T b,xs=[x,.ty T]∧Dp K H x d∧PySem.W.kitOne K (.type (tyD d)) (.type T)=some b∧Q (.bl b) H
theorem Tj:yQ X (.builtin "isinstance") (Qa X.K):=by
 intro pins s σ H xs us Q I r h
 obtain ⟨x,d,T,b,rfl,dp,e,q⟩:=h
 obtain ⟨u,v,rfl,ru,rv⟩:=r.two
 cases (show v=Value.type T from rv)
 have fin:∀ tk,EP X pins σ Q (.bool b) { s with toks:=tk }:=fun tk=>⟨.bl b,H,I.tok tk,rfl,q⟩
 cases dp with
 | non=>cases (show u=Value.none from ru); exact PySem.W.kia_one PySem.W.kitx_none I.kIn True.intro e (fun z=>nomatch z) fin
 | bl y=>cases (show u=Value.bool y from ru); exact PySem.W.kia_one PySem.W.kitx_bool I.kIn True.intro e (fun z=>nomatch z) fin
 | int i=>obtain ⟨t,z⟩:=(show ∃ t,u=Value.int i t from ru); cases z; exact PySem.W.kia_one PySem.W.kitx_int I.kIn True.intro e (fun z=>nomatch z) fin
 | str y=>obtain ⟨t,z⟩:=(show ∃ t,u=Value.str y t from ru); cases z; exact PySem.W.kia_one PySem.W.kitx_str I.kIn True.intro e (fun z=>nomatch z) fin
 | @lst a xs ds h k =>
  cases (show u=Value.ref a from ru)
  obtain ⟨its,rv,⟨o,n,h1,h2,_⟩,_⟩:=I.list h
  exact PySem.W.kia_one PySem.W.kitx_list I.kIn ⟨_,h1,h2⟩ e (fun z=>nomatch z) fin
 | @tup a xs ds h k =>
  cases (show u=Value.ref a from ru)
  obtain ⟨its,rv,⟨o,h1,h2,_⟩,_⟩:=I.tuple h
  exact PySem.W.kia_one PySem.W.kitx_tuple I.kIn ⟨_,h1,h2⟩ e (fun z=>nomatch z) fin
theorem wR (hK:X.K=K):yQ X (.builtin "isinstance") (Qa K):=by subst hK; exact Tj
theorem xw (hK:X.K=K):OpR X (binaryOp .Add) (V2 K):=by subst hK; exact za2
end
end L2
namespace PD
open PySem L2
section
variable {K:ζa} {S:Sx} {κ:Bool} {Γ:Ctx}
theorem xK {ta tb:TE} {xs ys:List PyData} (ha:EvL K S κ ta Γ xs) (hb:EvL K S κ tb Γ ys) (hz:xs.length + ys.length≤sizeLine):EvO K S κ (tOp (V2 K) ta tb) Γ (xs ++ ys):=fun H0 F0 H F σ e Q q =>
 ha H0 F0 H F σ e _ fun a vs H1 F1 g1 p1 k1=>hb H0 F0 H1 F1 σ (e.mono g1) _ fun b ws H2 F2 g2 p2 k2 =>
  ⟨a,b,vs,ws,rfl,rfl,g2.h.seq p1,p2,by rw [zn.length k1,zn.length k2]; exact hz,fun p hp=>q p _ _ F2 ((g1.trans g2).trans (.newO g2.le hp _)) ((g1.trans g2).h.free hp) zi (g2.le.free hp) (zn.append (zq g2.f k1) k2)⟩
theorem zc2 {ta:TE} {d:PyData} {T:String} {b:Bool} (h:EvD K S ta Γ d) (hi:PySem.W.kitOne K (.type (tyD d)) (.type T)=some b):EvE K S κ (tCB (Qa K) (ye ta (ye (tC (.ty T)) tNil))) Γ (.bool b):=fun H0 F0 H F σ e Q q =>
 h H0 F0 H F σ e _ fun v H1 F1 g1 p1=>⟨v,d,T,b,rfl,p1,hi,q _ H1 F1 g1 (.bl b)⟩
theorem WG (ns:List Int):(ns.map V.int).all uF=true:=by
 rw [ξi]
 intro v hv
 obtain ⟨n,_,rfl⟩:=ζr.mp hv
 rfl
theorem Ub (i:Int) (ns:List Int):inV (.int i) (ns.map V.int)=decide (i∈ns):=by
 unfold inV
 rw [List.any_map]
 by_cases h:i∈ns
 ·rw [decide_eq_true h,ξq]
  exact ⟨i,h,by show eqV (.int i) (.int i)=true; simp [eqV]⟩
 ·rw [decide_eq_false h,List.any_eq_false]
  intro x hx hq
  have:x=i:=by
   have q:eqV (.int x) (.int i)=true:=hq
   simpa [eqV] using q
  exact h (this ▸ hx)
theorem yr {neg:Bool} {ta tb:TE} {i:Int} {ns:List Int} (ha:EvE K S false ta Γ (.int i)) (hb:EvL K S false tb Γ (ns.map .int)):EvE K S κ (tOp (rIn K neg) ta tb) Γ (.bool (if neg then !decide (i∈ns) else decide (i∈ns))):=fun H0 F0 H F σ e Q q =>
 ha H0 F0 H F σ e _ fun v H1 F1 g1 p1=>hb H0 F0 H1 F1 σ (e.mono g1) _ fun b ws H2 F2 g2 p2 k2=>by
  cases yf p1
  cases yj (ya k2)
  refine ⟨b,_,rfl,.inl p2,rfl,WG ns,?_⟩
  rw [Ub]
  exact q _ H2 F2 (g1.trans g2) (.bl _)
def ExG (K:ζa) (S:Sx) (κ:Bool) (g:TG) (js:List Nat) (d:PyData) (Γ:Ctx) (k:Ctx→Prop):Prop:=∀ (H0 F0 H F:Hp) (σ:St) (v:V),DEnv K S H0 F0 H F σ Γ→Rp K κ S H0 F v d→∀ Q:St→Hp→Prop,
 (∀ Γ' σ' H' F',k Γ'→Gr H F H' F'→DEnv K S H0 F0 H' F' σ' Γ'→σ'.length=σ.length→(∀ j,j∉js→σ'[j]?=σ[j]?)→Q σ' H')→g v σ H Q
theorem DEnv.set {H0 F0 H F:Hp} {σ:St} {i:Nat} {v:V} {x:DV} (e:DEnv K S H0 F0 H F σ Γ) (p:HasV K S H0 H F v x)
  (hne:∀ a,Owns H v x a→∀ (j:Nat) y w,j≠i→Γ[j]?=some (some y)→σ[j]?=some (some w)→¬ Owns H w y a):DEnv K S H0 F0 H F (σ.set i (some v)) (Γ.set i (some x)):=by
 refine ⟨e.gr,e.l0,e.sd,e.s0,by simp [e.len],fun j f h=>?_,fun j k' x1 y1 v1 w1 b g1 g2 g3 g4 o1 o2=>?_⟩
 ·by_cases hj:j=i
  ·subst hj
   by_cases hl:j < Γ.length
   ·rw [ζt hl] at h
    cases h
    exact ⟨v,by rw [ζt (by rw [e.len]; exact hl)],p⟩
   ·rw [List.getElem?_eq_none (by simp; omega)] at h
    cases h
  ·rw [ζv (Ne.symm hj)] at h ⊢
   exact e.has j f h
 ·have li:∀ {j:Nat} {y:DV},(Γ.set i (some x))[j]?=some (some y)→j < Γ.length:=fun {j y} z=>by
   have:=(ζc.mp z).1
   rw [List.length_set] at this
   exact this
  by_cases hj:j=i
  ·subst hj
   by_cases hk:k'=j
   ·exact hk.symm
   ·rw [ζt (by rw [e.len]; exact li g1)] at g3
    rw [ζt (li g1)] at g1
    cases g1
    cases g3
    rw [ζv (Ne.symm hk)] at g4 g2
    exact absurd o2 (hne b o1 k' y1 w1 hk g2 g4)
  ·rw [ζv (Ne.symm hj)] at g3 g1
   by_cases hk:k'=i
   ·subst hk
    rw [ζt (by rw [e.len]; exact li g2)] at g4
    rw [ζt (li g2)] at g2
    cases g2
    cases g4
    exact absurd o1 (hne b o2 j x1 v1 hj g1 g3)
   ·rw [ζv (Ne.symm hk)] at g4 g2
    exact e.ne j k' x1 y1 v1 w1 b g1 g2 g3 g4 o1 o2
theorem DEnv.setF {H0 F0 H F:Hp} {σ:St} {i:Nat} {v:V} {d:PyData} (e:DEnv K S H0 F0 H F σ Γ) (p:Rp K κ S H0 F v d):DEnv K S H0 F0 H F (σ.set i (some v)) (Γ.set i (some (.fz κ d))):=e.set (x:=.fz κ d) p fun _ z=>z.elim
theorem OwnO.other {H0 H F:Hp} {a b:Addr} {u oo:HO} (w:OwnO S H0 H F b u) (h:b≠a):OwnO S H0 (upd H a oo) F b u:=⟨by rw [zm h]; exact w.h,w.f,w.n,w.s⟩
theorem HasV.other {H0 H F:Hp} {a:Addr} {v:V} {x:DV} {oo:HO} (h:HasV K S H0 H F v x) (n:¬ Owns H v x a):HasV K S H0 (upd H a oo) F v x:=by
 cases x with
 | fz κ d=>exact h
 | tn d=>exact h
 | ow κ ds=>obtain ⟨b,us,eb,wo,kk⟩:=h; exact ⟨b,us,eb,wo.other fun z=>n (by rw [eb,z]; rfl),kk⟩
 | ox=>obtain ⟨b,us,eb,wo⟩:=h; exact ⟨b,us,eb,wo.other fun z=>n (by rw [eb,z]; rfl)⟩
 | o2 r dss =>
  obtain ⟨b,us,eb,wo,n1,n2,l,k⟩:=h
  refine ⟨b,us,eb,wo.other fun z=>n (.inl (by rw [eb.eq,z])),n1,n2,l,fun j y hy=>?_⟩
  obtain ⟨c,ws,ds,e2,o2,h2,k2⟩:=k j y hy
  exact ⟨c,ws,ds,e2,o2.other fun z=>n (.inr ⟨b,us,eb.eq,wo.h,by rw [← z,← e2]; exact ζj hy⟩),h2,k2⟩
 | fn a=>exact h
 | xn φ=>exact h
 | oa b κ ds=>obtain ⟨eb,us,wo,kk⟩:=h; exact ⟨eb,us,wo.other fun z=>n (by rw [eb,z]; rfl),kk⟩
 | xp φ=>exact h
 | od u=>obtain ⟨b,eb,wo⟩:=h; exact ⟨b,eb,wo.other fun z=>n (by rw [eb,z]; rfl)⟩
 | og ad ψ =>
  obtain ⟨ok,w,p⟩:=h
  have eq:∀ b,ad H v b→upd H a oo b=H b:=fun b z=>zm fun y=>n (y ▸ z)
  refine ⟨ok,fun b z=>?_,ok.ps S H0 H _ F F v eq (.refl _) p⟩
  have z:=(ok.pl H _ v eq b).mp z
  obtain ⟨o,y⟩:=w b z
  exact ⟨o,y.other fun q=>n (q ▸ z)⟩
theorem Owns.other {H0 H F:Hp} {a c:Addr} {v:V} {x:DV} {oo:HO} (h:HasV K S H0 H F v x) (n:¬ Owns H v x a) (o:Owns (upd H a oo) v x c):Owns H v x c:=by
 cases x with
 | fz _ _=>exact o.elim
 | tn _=>exact o.elim
 | ow κ ds=>exact o
 | ox=>exact o
 | o2 r dss =>
  rcases o with o | ⟨p,us,e2,hp,hm⟩
  ·exact .inl o
  ·rw [zm (fun z=>n (.inl (by rw [e2,z])))] at hp
   exact .inr ⟨p,us,e2,hp,hm⟩
 | fn _=>exact o.elim
 | xn _=>exact o.elim
 | oa _ _ _=>exact o
 | xp _=>exact o.elim
 | od _=>exact o
 | og ad ψ=>exact (h.1.pl H (upd H a oo) v (fun b z=>zm fun y:b=a=>n (y ▸ z)) c).mp o
theorem DEnv.putO {H0 F0 H F:Hp} {σ:St} {i:Nat} {a:Addr} {v:V} {oo:HO} {x y:DV} (e:DEnv K S H0 F0 H F σ Γ) (h:Γ[i]?=some (some x)) (ha:σ[i]?=some (some v)) (ho:Owns H v x a)
  (k:HasV K S H0 (upd H a oo) F v y) (ko:∀ c,Owns (upd H a oo) v y c→Owns H v x c):DEnv K S H0 F0 (upd H a oo) F σ (Γ.set i (some y)):=by
 obtain ⟨v',q1,q2⟩:=e.has i x h
 rw [ha] at q1
 cases q1
 obtain ⟨ws,w⟩:=q2.owns ho
 have hs:Same F (upd H a oo):=fun b u z=>by
  have:b≠a:=by rintro rfl; rw [w.f] at z; cases z
  rw [zm this]; exact e.le _ _ z
 have li:=(ζc.mp h).1
 have far:∀ {j:Nat} {f:DV} {u:V},j≠i→Γ[j]?=some (some f)→σ[j]?=some (some u)→¬ Owns H u f a:=fun {j f u} hj z r o=>hj (e.ne j i f x u v a z h r ha o ho)
 refine ⟨⟨fun b u z=>?_,e.gr.f,hs,e.gr.ap⟩,e.l0,fun b c=>?_,e.s0,by simp [e.len],fun j f z=>?_,fun j k' x1 y1 v1 w1 b g1 g2 g3 g4 o1 o2=>?_⟩
 ·rw [zm (zy z w.n)]; exact e.gr.h _ _ z
 ·obtain ⟨o,q⟩:=e.sd b c
  by_cases hb:b=a
  ·subst hb; exact ⟨_,zi⟩
  ·exact ⟨o,by rw [zm hb]; exact q⟩
 ·by_cases hj:j=i
  ·subst hj
   rw [ζt li] at z
   cases z
   exact ⟨_,ha,k⟩
  ·rw [ζv (Ne.symm hj)] at z
   obtain ⟨u,r1,r2⟩:=e.has j f z
   exact ⟨u,r1,r2.other (far hj z r1)⟩
 ·have bk:∀ {j:Nat} {f:DV} {u:V},(Γ.set i (some y))[j]?=some (some f)→σ[j]?=some (some u)→Owns (upd H a oo) u f b→∃ g,Γ[j]?=some (some g)∧Owns H u g b:=fun {j f u} z r o=>by
   by_cases hj:j=i
   ·subst hj
    rw [ζt li] at z
    cases z
    rw [ha] at r
    cases r
    exact ⟨x,h,ko b o⟩
   ·rw [ζv (Ne.symm hj)] at z
    obtain ⟨u',r1,r2⟩:=e.has j f z
    rw [r] at r1
    cases r1
    exact ⟨f,z,o.other r2 (far hj z r)⟩
  obtain ⟨f1,z1,w1'⟩:=bk g1 g3 o1
  obtain ⟨f2,z2,w2'⟩:=bk g2 g4 o2
  exact e.ne j k' f1 f2 v1 w1 b z1 z2 g3 g4 w1' w2'
theorem DEnv.put {H0 F0 H F:Hp} {σ:St} {i:Nat} {a:Addr} {v:V} {vs:List V} {x y:DV} (e:DEnv K S H0 F0 H F σ Γ) (h:Γ[i]?=some (some x)) (ha:σ[i]?=some (some v)) (ho:Owns H v x a)
  (k:HasV K S H0 (upd H a (.lst vs)) F v y) (ko:∀ c,Owns (upd H a (.lst vs)) v y c→Owns H v x c):DEnv K S H0 F0 (upd H a (.lst vs)) F σ (Γ.set i (some y)):=e.putO h ha ho k ko
theorem OwnO.frz {H0 H F:Hp} {a b:Addr} {u oo:HO} (w:OwnO S H0 H F b u) (h:b≠a):OwnO S H0 H (upd F a oo) b u:=⟨w.h,by rw [zm h]; exact w.f,w.n,w.s⟩
theorem HasV.frz {H0 H F:Hp} {a:Addr} {v:V} {x:DV} {vs:List V} (h:HasV K S H0 H F v x) (s:Same F (upd F a (.lst vs))) (n:¬ Owns H v x a):HasV K S H0 H (upd F a (.lst vs)) v x:=by
 cases x with
 | fz κ d=>exact yX s h
 | tn d=>obtain ⟨T,eT,k⟩:=h; exact ⟨T,eT,yX s k⟩
 | ow κ ds=>obtain ⟨b,us,eb,wo,kk⟩:=h; exact ⟨b,us,eb,wo.frz fun z=>n (by rw [eb,z]; rfl),zq s kk⟩
 | ox=>obtain ⟨b,us,eb,wo⟩:=h; exact ⟨b,us,eb,wo.frz fun z=>n (by rw [eb,z]; rfl)⟩
 | o2 r dss =>
  obtain ⟨b,us,eb,wo,n1,n2,l,k⟩:=h
  refine ⟨b,us,eb,wo.frz fun z=>n (.inl (by rw [eb.eq,z])),n1,n2,l,fun j y hy=>?_⟩
  obtain ⟨c,ws,ds,e2,o2,h2,k2⟩:=k j y hy
  exact ⟨c,ws,ds,e2,o2.frz fun z=>n (.inr ⟨b,us,eb.eq,wo.h,by rw [← z,← e2]; exact ζj hy⟩),h2,zq s k2⟩
 | fn a=>exact h
 | xn φ=>obtain ⟨b,e,k⟩:=h; exact ⟨b,e,s _ _ k⟩
 | oa b κ ds=>obtain ⟨eb,us,wo,kk⟩:=h; exact ⟨eb,us,wo.frz fun z=>n (by rw [eb,z]; rfl),zq s kk⟩
 | xp φ=>obtain ⟨F1,s1,k⟩:=h; exact ⟨F1,s1.trans s,k⟩
 | od u=>obtain ⟨b,eb,wo⟩:=h; exact ⟨b,eb,wo.frz fun z=>n (by rw [eb,z]; rfl)⟩
 | og ad ψ =>
  obtain ⟨ok,w,p⟩:=h
  refine ⟨ok,fun b z=>?_,ok.ps S H0 H H F _ v (fun _ _=>rfl) s p⟩
  obtain ⟨o,y⟩:=w b z
  exact ⟨o,y.frz fun q=>n (q ▸ z)⟩
theorem DEnv.froz {H0 F0 H F:Hp} {σ:St} {i:Nat} {a:Addr} {v:V} {vs:List V} {x y:DV} (e:DEnv K S H0 F0 H F σ Γ) (h:Γ[i]?=some (some x)) (hv:σ[i]?=some (some v)) (ho:Owns H v x a) (w:ZF S H0 H F a vs)
  (k:HasV K S H0 H (upd F a (.lst vs)) v y) (ko:∀ c,Owns H v y c→Owns H v x c):Same F (upd F a (.lst vs))∧DEnv K S H0 F0 H (upd F a (.lst vs)) σ (Γ.set i (some y)):=by
 have s:Same F (upd F a (.lst vs)):=Same.new w.f _
 have li:=(ζc.mp h).1
 have g:Gr H0 F0 H (upd F a (.lst vs)):=⟨e.gr.h,e.gr.f.trans s,fun b u z=>by
  by_cases eb:b=a
  ·subst eb; rw [zi] at z; rw [← z]; exact w.h
  ·rw [zm eb] at z; exact e.le _ _ z,fun b u z y=>by
  rw [zm (zy z w.n)]; exact e.gr.ap _ _ z y⟩
 refine ⟨s,g,e.l0,e.sd,e.s0,by simp [e.len],fun j f z=>?_,fun j k' x1 y1 v1 w1 b g1 g2 g3 g4 o1 o2=>?_⟩
 ·by_cases hj:j=i
  ·subst hj
   rw [ζt li] at z
   cases z
   exact ⟨v,hv,k⟩
  ·rw [ζv (Ne.symm hj)] at z
   obtain ⟨u,r1,r2⟩:=e.has j f z
   exact ⟨u,r1,r2.frz s fun o=>hj (e.ne j i f x u v a z h r1 hv o ho)⟩
 ·have bk:∀ {j:Nat} {f:DV} {u:V},(Γ.set i (some y))[j]?=some (some f)→σ[j]?=some (some u)→Owns H u f b→∃ g,Γ[j]?=some (some g)∧Owns H u g b:=fun {j f u} z r o=>by
   by_cases hj:j=i
   ·subst hj
    rw [ζt li] at z
    cases z
    rw [hv] at r
    cases r
    exact ⟨x,h,ko b o⟩
   ·rw [ζv (Ne.symm hj)] at z
    exact ⟨f,z,o⟩
  obtain ⟨f1,z1,w1'⟩:=bk g1 g3 o1
  obtain ⟨f2,z2,w2'⟩:=bk g2 g4 o2
  exact e.ne j k' f1 f2 v1 w1 b z1 z2 g3 g4 w1' w2'
theorem DEnv.freeze {H0 F0 H F:Hp} {σ:St} {i:Nat} {ds:List PyData} (e:DEnv K S H0 F0 H F σ Γ) (h:Γ[i]?=some (some (.ow κ ds))):∃ F',Same F F'∧DEnv K S H0 F0 H F' σ (Γ.set i (some (.fz κ (.list ds)))):=by
 obtain ⟨v,q1,a,vs,rfl,w,q5⟩:=e.has i _ h
 exact ⟨_,e.froz (y:=.fz κ (.list ds)) h q1 rfl w (.lst (LN.new w.s) (zq (Same.new w.f _) q5)) fun _ z=>z.elim⟩
theorem zbv {i:Nat} {d:PyData} {k:Ctx→Prop} (h:k (Γ.set i (some (.fz κ d)))):ExG K S κ (y9 i) [i] d Γ k:=fun H0 F0 H F σ v e p Q q =>
 q _ _ H F h (.refl e.le) (e.setF p) (by simp) fun j hj=>by rw [List.getElem?_set_ne (by intro z; exact hj (by simp [z]))]
structure ItD (K:ζa) (S:Sx) (κ:Bool) (H0 F:Hp) (J:It) (ds:List PyData):Prop where
 go:∀ i H F',Same F F'→Same F' H→i < ds.length→J.go i H
 yld:∀ i H F' x H',Same F F'→Same F' H→(∀ a,S.has H0 a→∃ o,H a=some o)→i < ds.length→J.yld i H x H'→∃ d F'',ds[i]?=some d∧Gr H F' H' F''∧Rp K κ S H0 F'' x d
 stop:∀ H F',Same F F'→Same F' H→J.stop ds.length H
def EvI (K:ζa) (S:Sx) (κ:Bool) (t:TI) (Γ:Ctx) (ds:List PyData):Prop:=∀ (H0 F0 H F:Hp) (σ:St),DEnv K S H0 F0 H F σ Γ→∀ R:It→Hp→Prop,(∀ J H' F',Gr H F H' F'→ItD K S κ H0 F' J ds→R J H')→t σ H R
theorem zT {t:TE} {ds:List PyData} (h:EvE K S κ t Γ (.list ds)):EvI K S κ (QX K t) Γ ds:=fun H0 F0 H F σ e R q =>
 h H0 F0 H F σ e _ fun v H1 F1 g1 p1=>by
  obtain ⟨a,vs,rfl,h1,h2⟩:=tU p1
  have hl:=zn.length h2
  have up:∀ {F' H':Hp},Same F1 F'→Same F' H'→SqL K H' a vs:=fun s1 s2=>(s1.trans s2).seq h1.sq
  refine ⟨a,rfl,⟨vs,up (.refl _) g1.le⟩,q _ H1 F1 g1 ⟨fun i H' F' s1 s2 hi=>?_,fun i H' F' x H'' s1 s2 _ hi y=>?_,fun H' F' s1 s2=>?_⟩⟩
  ·exact ⟨vs,vs[i]'(by omega),up s1 s2,by simp⟩
  ·obtain ⟨rfl,y⟩:=y
   obtain ⟨d,hd,hp⟩:=zn.get' h2 (y vs (up s1 s2))
   exact ⟨d,F',hd,.refl s2,yX s1 hp⟩
  ·exact ⟨vs,up s1 s2,by omega⟩
theorem vK {t:TA} {n:Int} (h:EvA K S false t Γ [.int n]) (h1:-(2 ^ 62)≤n) (h2:n < 2 ^ 62):EvI K S κ (QW t) Γ ((List.range n.toNat).map fun i:Nat=>.int (i:Int)):=fun H0 F0 H F σ e R q =>
 h H0 F0 H F σ e _ fun vs H1 F1 g1 p1=>by
  cases p1 with
  | cons p p1 =>
   cases p1
   cases yf p
   refine ⟨n,rfl,h1,h2,q _ H1 F1 g1 ⟨fun i H' F' s1 s2 hi=>?_,fun i H' F' x H'' s1 s2 _ hi y=>?_,fun H' F' s1 s2=>?_⟩⟩
   ·show i < n.toNat
    simpa using hi
   ·obtain ⟨rfl,rfl⟩:=y
    have hi':i < n.toNat:=by simpa using hi
    refine ⟨.int i,F',by simp [hi'],.refl s2,?_⟩
    have:(0:Int) + (i:Int)=i:=by omega
    rw [this]; exact .int _
   ·show n.toNat≤_
    simp
theorem uH {t:TA} {m n:Int} (h:EvA K S false t Γ [.int m,.int n]) (h1:-(2 ^ 62)≤m∧m < 2 ^ 62∧-(2 ^ 62)≤n∧n < 2 ^ 62):EvI K S κ (zb2 t) Γ ((List.range (n - m).toNat).map fun i:Nat=>.int (m + (i:Int))):=fun H0 F0 H F σ e R q =>
 h H0 F0 H F σ e _ fun vs H1 F1 g1 p1=>by
  cases p1 with
  | cons p p1 =>
   cases p1 with
   | cons p' p1 =>
    cases p1
    cases yf p
    cases yf p'
    refine ⟨m,n,rfl,h1,q _ H1 F1 g1 ⟨fun i H' F' s1 s2 hi=>?_,fun i H' F' x H'' s1 s2 _ hi y=>?_,fun H' F' s1 s2=>?_⟩⟩
    ·show i < (n - m).toNat
     simpa using hi
    ·obtain ⟨rfl,rfl⟩:=y
     have hi':i < (n - m).toNat:=by simpa using hi
     exact ⟨.int (m + i),F',by simp [hi'],.refl s2,.int _⟩
    ·show (n - m).toNat≤_
     simp
theorem vh {t:TE} {xs:List PyData} (h:EvL K S κ t Γ xs):EvO K S κ (tQ K (ye t tNil)) Γ xs.reverse:=fun H0 F0 H F σ e Q q =>
 h H0 F0 H F σ e _ fun a us H1 F1 g1 h1 h2=>⟨a,us,rfl,h1,fun p hp=>q p _ _ F1 (g1.trans (.newO g1.le hp _)) (g1.h.free hp) zi (g1.le.free hp) (zn.reverse h2)⟩
def tu (js:List (Option Nat)) (Γ:Ctx):Ctx:=js.map fun o=>match o with | none=>none | some j=>(Γ[j]?).join
theorem uY {js:List (Option Nat)} {i:Nat} {d:DV} (h:(tu js Γ)[i]?=some (some d)):∃ j,js[i]?=some (some j)∧Γ[j]?=some (some d):=by
 unfold tu at h
 rw [ζG] at h
 cases e:js[i]? with
 | none=>rw [e] at h; cases h
 | some o =>
  rw [e] at h
  cases o with
  | none=>cases h
  | some j =>
   refine ⟨j,rfl,?_⟩
   have h':(Γ[j]?).join=some d:=ζI h
   cases q:Γ[j]? with
   | none=>rw [q] at h'; cases h'
   | some o=>rw [q] at h'; exact congrArg some h'
theorem Zu {js:List (Option Nat)} {σ:St} {i j:Nat} {v:V} (h:js[i]?=some (some j)) (k:σ[j]?=some (some v)):(capt js σ)[i]?=some (some v):=by
 unfold capt
 rw [ζG,h]
 show some ((σ[j]?).join)=_
 rw [k]; rfl
theorem DEnv.capt {H0 F0 H F:Hp} {σ:St} {js:List (Option Nat)} (e:DEnv K S H0 F0 H F σ Γ) (hj:∀ i j k:Nat,js[i]?=some (some k)→js[j]?=some (some k)→i=j):DEnv K S H0 F0 H F (L2.capt js σ) (tu js Γ):=by
 refine ⟨e.gr,e.l0,e.sd,e.s0,by unfold L2.capt tu; simp,fun i d h=>?_,fun i j x y v w a h1 h2 h3 h4 o1 o2=>?_⟩
 ·obtain ⟨j,e1,e2⟩:=uY h
  obtain ⟨v,e3,e4⟩:=e.has j d e2
  exact ⟨v,Zu e1 e3,e4⟩
 ·obtain ⟨m,e1,e2⟩:=uY h1
  obtain ⟨n,e3,e4⟩:=uY h2
  obtain ⟨v1,q1,_⟩:=e.has m x e2
  obtain ⟨v2,q2,_⟩:=e.has n y e4
  have c1:=Zu (σ:=σ) e1 q1
  have c2:=Zu (σ:=σ) e3 q2
  rw [h3] at c1
  rw [h4] at c2
  cases c1
  cases c2
  have:=e.ne m n x y v w a e2 e4 q1 q2 o1 o2
  subst this
  exact hj i j m e1 e3
theorem Q5 {κ':Bool} {js:List (Option Nat)} {wi:TI} {g:TG} {tt:TT} {te:TE} {is:List Nat} {ds:List PyData} (p:PyData→Bool) (f:PyData→PyData) (hi:EvI K S κ' wi Γ ds) (hjs:∀ i∈is,js[i]?=some none) (hj:∀ i j k:Nat,js[i]?=some (some k)→js[j]?=some (some k)→i=j)
  (hz:ds.length≤sizeLine) (hb:∀ d∈ds,ExG K S κ' g is d (tu js Γ) fun Γ'=>EvT K S tt Γ' (p d)∧(p d=true→EvE K S κ te Γ' (f d))):EvO K S κ (uf js wi g tt te) Γ ((ds.filter p).map f):=fun H0 F0 H F σ e Q q =>
 hi H0 F0 H F σ e _ fun J H1 F1 g1 I1=>by
  intro D hD
  have sdm:∀ {H2 F2:Hp},Gr H1 F1 H2 F2→∀ a,S.has H0 a→∃ o,H2 a=some o:=fun g2 a c=>let ⟨o,z⟩:=(e.mono g1).sd a c; ⟨o,g2.h _ _ z⟩
  refine ⟨fun i m ys H2=>m=ds.length - i∧i≤ds.length∧∃ F2,Gr H1 F1 H2 F2∧H2 D=some (.lst ys)∧F2 D=none∧zn K κ S H0 F2 ys (((ds.take i).filter p).map f),⟨_,rfl,ζE _,F1,.newO g1.le hD _,zi,g1.le.free hD,.nil⟩,?_⟩
  rintro i m ys H2 ⟨rfl,hi,F2,g2,hl,fl,k2⟩
  by_cases hlt:i < ds.length
  ·refine .inr ⟨I1.go i H2 F2 g2.f g2.le hlt,fun zs H3=>i + 1≤ds.length∧∃ F2,Gr H1 F1 H3 F2∧H3 D=some (.lst zs)∧F2 D=none∧zn K κ S H0 F2 zs (((ds.take (i + 1)).filter p).map f),fun zs H3 h3=>⟨ds.length - (i + 1),by omega,rfl,h3⟩,fun x H3 y=>?_⟩
   obtain ⟨d,F3,hd,g3,p3⟩:=I1.yld i H2 F2 x H3 g2.f g2.le (sdm g2) hlt y
   have hl3:=g3.h _ _ hl
   have fl3:=g3.ap _ _ hl fl
   have E3:=((e.mono g1).mono (g2.trans g3)).capt hj
   refine hb d (ζj hd) H0 F0 H3 F3 _ x E3 p3 _ fun Γ' σ' H4 F4 hΓ g4 E4 len4 out4=>?_
   obtain ⟨ht,he⟩:=hΓ
   have hl4:=g4.h _ _ hl3
   have fl4:=g4.ap _ _ hl3 fl3
   have tk:ds.take (i + 1)=ds.take i ++ [d]:=by rw [List.take_add_one,hd]; rfl
   refine ⟨⟨len4.symm,fun j v hv=>?_⟩,ht H0 F0 H4 F4 σ' E4 _ fun H5 F5 g5=>?_⟩
   ·by_cases hjj:j∈is
    ·have:=hjs j hjj
     unfold L2.capt at hv
     rw [ζG,this] at hv
     cases hv
    ·rw [out4 j hjj]; exact hv
   have hl5:=g5.h _ _ hl4
   have fl5:=g5.ap _ _ hl4 fl4
   cases hpd:p d with
   | false =>
    refine iteF ⟨hlt,F5,g2.trans ((g3.trans g4).trans g5),hl5,fl5,?_⟩
    rw [tk,ξl,ζn]
    simp only [List.filter_cons,hpd,List.filter_nil]
    simpa using zq ((g3.trans g4).trans g5).f k2
   | true =>
    refine iteT (he hpd H0 F0 H5 F5 σ' (E4.mono g5) _ fun v H6 F6 g6 p6=>?_)
    have hl6:=g6.h _ _ hl5
    have fl6:=g6.ap _ _ hl5 fl5
    have gg:=(g3.trans g4).trans (g5.trans g6)
    have G6:=g2.trans gg
    refine ⟨hl6,?_,hlt,F6,⟨fun b u z=>?_,G6.f,fun b u z=>?_,G6.ap⟩,zi,fl6,?_⟩
    ·have h1:=zn.length k2
     rw [ζb] at h1
     have h2:=ζF p (ds.take i)
     rw [ζS] at h2
     omega
    ·rw [zm (zy z hD)]; exact G6.h _ _ z
    ·rw [zm (by rintro rfl; rw [fl6] at z; cases z)]; exact G6.le _ _ z
    ·rw [tk,ξl,ζn]
     simp only [List.filter_cons,hpd,List.filter_nil,if_true,List.map_cons,List.map_nil]
     exact zn.append (zq gg.f k2) (.cons p6 .nil)
  ·have ei:i=ds.length:=by omega
   subst ei
   rw [ξh] at k2
   exact .inl ⟨I1.stop H2 F2 g2.f g2.le,q D ys H2 F2 (g1.trans g2) (g1.h.free hD) hl fl k2⟩
structure Post where
 nx:Ctx→Prop
 rt:PyData→Prop
 bk:Ctx→Prop:=fun _=>False
 ct:Ctx→Prop:=fun _=>False
 kr:Bool:=false
structure Into (K:ζa) (S:Sx) (H0 F0 B:Hp) (P:Post) (D:Ends):Prop where
 nx:∀ Γ' σ' H' F',P.nx Γ'→Same B F'→DEnv K S H0 F0 H' F' σ' Γ'→D.nx σ' H'
 rt:∀ d v H' F',P.rt d→Gr H0 F0 H' F'→Rp K P.kr .fresh H0 F' v d→D.rt v H'
 bk:∀ Γ' σ' H' F',P.bk Γ'→Same B F'→DEnv K S H0 F0 H' F' σ' Γ'→D.bk σ' H'
 ct:∀ Γ' σ' H' F',P.ct Γ'→Same B F'→DEnv K S H0 F0 H' F' σ' Γ'→D.ct σ' H'
theorem Into.mono {H0 F0 F F':Hp} {P:Post} {D:Ends} (h:Into K S H0 F0 F P D) (s:Same F F'):Into K S H0 F0 F' P D :=
 ⟨fun Γ' σ' H' F' p s'=>h.nx Γ' σ' H' F' p (s.trans s'),h.rt,fun Γ' σ' H' F' p s'=>h.bk Γ' σ' H' F' p (s.trans s'),fun Γ' σ' H' F' p s'=>h.ct Γ' σ' H' F' p (s.trans s')⟩
def zdO (S:Sx) (B:Hp):Prop:=∀ T,S=.spoil T→∀ a xs,B a=some (.lst xs)→¬ T a
def ExT (K:ζa) (S S':Sx) (t:TS) (Γ:Ctx) (P:Post):Prop:=∀ (H0 F0 H F:Hp) (σ:St) (B:Hp),DEnv K S H0 F0 H F σ Γ→Same B F→(S'=S∨zdO S B)→∀ D:Ends,Into K S' H0 F0 B P D→t D σ H
abbrev ExS (K:ζa) (S:Sx) (t:TS) (Γ:Ctx) (P:Post):Prop:=ExT K S S t Γ P
variable {S':Sx}
variable {P:Post}
theorem yx (h:P.nx Γ):ExS K S XS Γ P:=fun H0 F0 H F σ B e b _ D I=>I.nx Γ σ H F h b e
theorem yJ {t u:TS} (N:Ctx→Prop) (h1:ExT K S S t Γ { P with nx:=N,bk:=fun _=>False,ct:=fun _=>False }) (h2:∀ Γ',N Γ'→ExT K S S' u Γ' P):ExT K S S' (tSeq t u) Γ P:=fun H0 F0 H F σ B e b v D I =>
 h1 H0 F0 H F σ B e b (.inl rfl) { D with nx:=u D } ⟨fun Γ' σ' H' F' n s e'=>h2 Γ' n H0 F0 H' F' σ' B e' s v D I,I.rt,fun _ _ _ _ z=>z.elim,fun _ _ _ _ z=>z.elim⟩
theorem U5 {H0:Hp} {a:Addr} (h:¬ S.has H0 a):¬ Sx.has .fresh H0 a:=by
 cases S with
 | fresh=>exact h
 | spoil T=>exact fun c=>h (.inl c)
theorem T6 {H0 F:Hp} {kr:Bool} {v:V} {d:PyData} (hk:(S=S∧κ=kr)∨kr=false) (p:Rp K κ S H0 F v d):Rp K kr .fresh H0 F v d:=by
 rcases hk with ⟨_,rfl⟩ | rfl
 ·cases κ with
  | false=>exact tq (x4 p)
  | true=>exact wc (κ:=true) (κ':=true) (fun a xs z=>⟨z.1,U5 z.2⟩) (fun _ _ z=>z) p
 ·exact tq (x4 p)
theorem yc {te:TE} {d:PyData} (κ:Bool) (h:EvE K S κ te Γ d) (hr:P.rt d) (hk:(S=S∧κ=P.kr)∨P.kr=false):ExT K S S' (tRet te) Γ P:=fun H0 F0 H F σ B e b _ D I=>h H0 F0 H F σ e _ fun v H' F' g p=>I.rt d v H' F' hr (e.gr.trans g) (T6 hk p)
theorem Yr {t:TS} (i:Nat) {ds:List PyData} (h:Γ[i]?=some (some (.ow κ ds))) (k:ExT K S S' t (Γ.set i (some (.fz κ (.list ds)))) P):ExT K S S' t Γ P:=fun H0 F0 H F σ B e b v D I=>by
 obtain ⟨F',s,e'⟩:=e.freeze h
 exact k H0 F0 H F' σ B e' (b.trans s) v D I
theorem zbl {i:Nat} {ds:List PyData} (h:Γ[i]?=some (some (.ow κ ds))) (hr:P.rt (.list ds)) (hk:(S=S∧κ=P.kr)∨P.kr=false):ExT K S S' (tRet (tVar i)) Γ P :=
 Yr i h (yc κ (vi (by rw [ζt (ζc.mp h).1])) hr hk)
theorem Q3 {te:TE} {i:Nat} {d:PyData} (h:EvE K S κ te Γ d) (k:P.nx (Γ.set i (some (.fz κ d)))):ExS K S (tAsg te (y9 i)) Γ P:=fun H0 F0 H F σ B e b _ D I =>
 h H0 F0 H F σ e _ fun v H' F' g p=>I.nx _ _ H' F' k (b.trans g.f) ((e.mono g).setF p)
theorem Ue {te:TE} {i:Nat} {ds:List PyData} (h:EvO K S κ te Γ ds) (k:P.nx (Γ.set i (some (.ow κ ds)))):ExS K S (tAsg te (y9 i)) Γ P:=fun H0 F0 H F σ B e b _ D I =>
 h H0 F0 H F σ e _ fun a vs H' F' g n p f q=>I.nx _ _ H' F' k (b.trans g.f) ((e.mono g).set (x:=.ow κ ds) ⟨a,vs,rfl,⟨p,f,e.gr.h.free n,e.out n⟩,q⟩ fun c oc j y w hj z hw o=>by
  cases (show V.ref a=.ref c from oc)
  obtain ⟨v,q1,q2⟩:=e.has j y z
  rw [hw] at q1
  cases q1
  obtain ⟨us,w1⟩:=q2.owns (o.back q2 fun _ _ z=>g.h _ _ z.h)
  have:=w1.h
  rw [n] at this; cases this)
theorem zbm {te:TE} {d:PyData} (h:EvE K S κ te Γ d) (k:P.nx Γ):ExS K S (x3 te) Γ P:=fun H0 F0 H F σ B e b _ D I =>
 h H0 F0 H F σ e _ fun v H' F' g p=>I.nx _ _ H' F' k (b.trans g.f) (e.mono g)
theorem Yt {te:TE} {i:Nat} {ds:List PyData} {d:PyData} (h:Γ[i]?=some (some (.ow κ ds))) (he:EvE K S κ te Γ d) (hz:ds.length < sizeLine) (k:P.nx (Γ.set i (some (.ow κ (ds ++ [d]))))):ExS K S (x3 (tBM K "list" wF (tVar i) (ye te tNil))) Γ P:=fun H0 F0 H F σ B e b _ D I=>by
 obtain ⟨v0,q1,a,vs,rfl,w,q5⟩:=e.has i _ h
 refine ⟨_,q1,.inl ⟨rfl,_,SqL.of w.h⟩,he H0 F0 H F σ e _ fun v H' F' g p=>?_⟩
 have k':=zq g.f q5
 refine ⟨a,vs,v,rfl,rfl,g.h _ _ w.h,by rw [zn.length q5]; exact hz,?_⟩
 exact I.nx _ _ _ F' k (b.trans g.f) ((e.mono g).put (y:=.ow κ (ds ++ [d])) h q1 (show Owns H' (.ref a) (.ow κ ds) a from rfl) ⟨a,_,rfl,⟨zi,(w.mono g).f,w.n,w.s⟩,zn.append k' (.cons p .nil)⟩ fun _ z=>z)
theorem wz {c:TT} {t u:TS} {b:Bool} (hc:EvT K S c Γ b) (h1:b=true→ExT K S S' t Γ P) (h2:b=false→ExT K S S' u Γ P):ExT K S S' (tIfS c t u) Γ P:=fun H0 F0 H F σ B e bb v D I =>
 hc H0 F0 H F σ e _ fun H' F' g=>by
  cases b with
  | true=>exact iteT (h1 rfl H0 F0 H' F' σ B (e.mono g) (bb.trans g.f) v D I)
  | false=>exact iteF (h2 rfl H0 F0 H' F' σ B (e.mono g) (bb.trans g.f) v D I)
theorem uV {wi:TI} {g:TG} {tb:TS} {ds:List PyData} (κ:Bool) (Iv:Nat→Ctx→Prop) (hi:EvI K S κ wi Γ ds) (h0:Iv 0 Γ)
  (hs:∀ i d Γ',ds[i]?=some d→Iv i Γ'→∃ js,ExG K S κ g js d Γ' fun Γ''=>ExS K S tb Γ'' { nx:=Iv (i + 1),rt:=P.rt,bk:=P.nx,ct:=Iv (i + 1),kr:=P.kr }) (hd:∀ Γ',Iv ds.length Γ'→P.nx Γ'):ExS K S (tFor wi g tb) Γ P:=fun H0 F0 H F σ B e b _ D I =>
 hi H0 F0 H F σ e _ fun J H1 F1 g1 I1=>by
  refine ⟨fun i m σ2 H2=>m=ds.length - i∧i≤ds.length∧∃ Γ2 F2,Iv i Γ2∧Same F1 F2∧DEnv K S H0 F0 H2 F2 σ2 Γ2,⟨_,rfl,ζE _,Γ,F1,h0,.refl _,e.mono g1⟩,?_⟩
  rintro i m σ2 H2 ⟨rfl,hi,Γ2,F2,v2,s2,e2⟩
  have b1:Same B F1:=b.trans g1.f
  by_cases hlt:i < ds.length
  ·refine .inr ⟨I1.go i H2 F2 s2 e2.le hlt,fun σ3 H3=>i + 1≤ds.length∧∃ Γ3 F3,Iv (i + 1) Γ3∧Same F1 F3∧DEnv K S H0 F0 H3 F3 σ3 Γ3,fun σ3 H3 h3=>⟨_,by omega,rfl,h3⟩,fun x H3 y=>?_⟩
   obtain ⟨d,F3,hd,g3,p3⟩:=I1.yld i H2 F2 x H3 s2 e2.le e2.sd hlt y
   obtain ⟨js,hg⟩:=hs i d Γ2 hd v2
   refine hg H0 F0 H3 F3 σ2 x (e2.mono g3) p3 _ fun Γ' σ' H4 F4 k4 g4 e4 _ _=>?_
   have s4:Same F1 F4:=s2.trans (g3.f.trans g4.f)
   exact k4 H0 F0 H4 F4 σ' F1 e4 s4 (.inl rfl) _ ⟨fun Γ5 σ5 H5 F5 n s5 e5=>⟨hlt,Γ5,F5,n,s5,e5⟩,I.rt,fun Γ5 σ5 H5 F5 n s5 e5=>I.nx Γ5 σ5 H5 F5 n (b1.trans s5) e5,fun Γ5 σ5 H5 F5 n s5 e5=>⟨hlt,Γ5,F5,n,s5,e5⟩⟩
  ·have ei:i=ds.length:=by omega
   subst ei
   exact .inl ⟨I1.stop H2 F2 s2 e2.le,I.nx Γ2 σ2 H2 F2 (hd Γ2 v2) (b1.trans s2) e2⟩
theorem xY {c:TT} {tb:TS} (Iv:Nat→Ctx→Prop) (m0:Nat) (h0:Iv m0 Γ)
  (hs:∀ m Γ',Iv m Γ'→∃ b,EvT K S c Γ' b∧(b=true→ExS K S tb Γ' { nx:=fun Γ''=>∃ m',m' < m∧Iv m' Γ'',rt:=P.rt,bk:=P.nx,ct:=fun Γ''=>∃ m',m' < m∧Iv m' Γ'',kr:=P.kr })∧(b=false→P.nx Γ')):ExS K S (Ty c tb) Γ P:=fun H0 F0 H F σ B e bb _ D I=>by
 refine ⟨fun m σ2 H2=>∃ Γ2 F2,Iv m Γ2∧Same B F2∧DEnv K S H0 F0 H2 F2 σ2 Γ2,⟨m0,Γ,F,h0,bb,e⟩,?_⟩
 rintro m σ2 H2 ⟨Γ2,F2,v2,s2,e2⟩
 obtain ⟨b,hc,h1,h2⟩:=hs m Γ2 v2
 refine hc H0 F0 H2 F2 σ2 e2 _ fun H3 F3 g3=>?_
 have s3:=s2.trans g3.f
 cases b with
 | true =>
  refine iteT ⟨fun σ4 H4=>∃ m',m' < m∧∃ Γ4 F4,Iv m' Γ4∧Same B F4∧DEnv K S H0 F0 H4 F4 σ4 Γ4,fun σ4 H4 ⟨m',hm,h⟩=>⟨m',hm,h⟩,?_⟩
  exact h1 rfl H0 F0 H3 F3 σ2 B (e2.mono g3) s3 (.inl rfl) _ ⟨fun Γ5 σ5 H5 F5 ⟨m',hm,n⟩ s5 e5=>⟨m',hm,Γ5,F5,n,s5,e5⟩,I.rt,fun Γ5 σ5 H5 F5 n s5 e5=>I.nx Γ5 σ5 H5 F5 n s5 e5,fun Γ5 σ5 H5 F5 ⟨m',hm,n⟩ s5 e5=>⟨m',hm,Γ5,F5,n,s5,e5⟩⟩
 | false=>exact iteF (I.nx Γ2 σ2 H3 F3 (h2 rfl) s3 (e2.mono g3))
def wS (n:Nat) (ds:List PyData):Ctx:=ds.map (fun d=>some (.fz false d)) ++ List.replicate (n - ds.length) none
theorem wQ {H F:Hp} {N:List Str} {vs:List V} {ds:List PyData} (le:Same F H) (k:zE K F vs ds):DEnv K .fresh H F H F (L2.start N vs) (wS N.length ds):=by
 have l:=zE.length k
 have no:∀ (i:Nat) (x:DV),(wS N.length ds)[i]?=some (some x)→∃ d,x=.fz false d∧ds[i]?=some d:=fun i x h=>by
  unfold wS at h
  by_cases hi:i < ds.length
  ·rw [List.getElem?_append_left (by simpa using hi),List.getElem?_map] at h
   rw [ζm hi] at h ⊢
   have h':some (DV.fz false ds[i])=some x:=ζI h
   exact ⟨_,(ζI h').symm,rfl⟩
  ·rw [List.getElem?_append_right (by simpa using Nat.le_of_not_lt hi)] at h
   rw [ξJ] at h
   split at h <;> cases h
 refine ⟨.refl le,le,fun a c=>?_,fun T z=>(nomatch z),by unfold L2.start wS; simp [l],fun i x h=>?_,fun i j x y v w a h _ _ _ o=>?_⟩
 ·cases q:H a with
  | none=>exact absurd q c
  | some o=>exact ⟨o,rfl⟩
 ·obtain ⟨d',e,h'⟩:=no i _ h
  cases e
  obtain ⟨v,h1,h2⟩:=zE.get k h'
  refine ⟨v,?_,tq h2⟩
  unfold L2.start
  have hi:=(ζc.mp h1).1
  rw [List.getElem?_append_left (by simpa using hi),List.getElem?_map,h1]
  rfl
 ·obtain ⟨d',e,_⟩:=no i _ h
  cases e
  exact o.elim
theorem TV {t:TS} {N:List Str} {H F:Hp} {vs:List V} {ds:List PyData} {d:PyData} {Q:VK} {Γ:Ctx} (hΓ:wS N.length ds=Γ) (h:ExS K .fresh t Γ { nx:=fun _=>d=.none,rt:=fun x=>x=d,kr:=κ }) (le:Same F H) (k:zE K F vs ds)
  (q:∀ v H' F',Gr H F H' F'→Rp K κ .fresh H F' v d→Q v H'):t { nx:=fun _ H'=>Q .non H',rt:=Q } (L2.start N vs) H:=by
 subst hΓ
 refine h H F H F (L2.start N vs) F (wQ le k) (.refl _) (.inl rfl) _ ⟨fun Γ' σ' H' F' n _ e=>?_,fun d' v H' F' e g p=>?_,fun _ _ _ _ z=>z.elim,fun _ _ _ _ z=>z.elim⟩
 ·have n':d=.none:=n
  subst n'
  exact q .non H' F' e.gr .non
 ·have e':d'=d:=e
  subst e'
  exact q v H' F' g p
theorem zX {pre:List PyData→PyData→Prop} {n:Nat} (h:∀ ds d,pre ds d→ds.length=n) {vs:List V} {H:Hp} {Q:VK} {E:XK} (s:spD K κ pre vs H Q E):vs.length=n:=by
 obtain ⟨F,ds,d,_,k,p,_⟩:=s
 rw [zE.length k]
 exact h ds d p
def QV:Option HO→Bool
 | some (.lst _)=>true
 | _=>false
open Classical in
noncomputable def drop (T:Addr→Prop) (F:Hp):Hp:=fun a=>if T a∧QV (F a)=true then none else F a
theorem ym {T:Addr→Prop} {F:Hp} {a:Addr} {o:HO}:drop T F a=some o↔F a=some o∧¬ (T a∧QV (some o)=true):=by
 unfold drop
 constructor
 ·intro h
  split at h
  ·cases h
  ·rename_i c; rw [h] at c; exact ⟨h,c⟩
 ·rintro ⟨h,c⟩
  rw [h,if_neg c]
end
inductive SetC:Ctx→Nat→Option DV→Ctx→Prop
 | zero {a x:Option DV} {l:Ctx}:SetC (a :: l) 0 x (x :: l)
 | succ {a x:Option DV} {l l':Ctx} {i:Nat}:SetC l i x l'→SetC (a :: l) (i + 1) x (a :: l')
theorem SetC.eq {Γ Γ':Ctx} {i:Nat} {x:Option DV} (h:SetC Γ i x Γ'):Γ.set i x=Γ':=by
 induction h with
 | zero=>rfl
 | succ _ ih=>rw [List.set_cons_succ,ih]
inductive GetC:Ctx→Nat→DV→Prop
 | zero {x:DV} {l:Ctx}:GetC (some x :: l) 0 x
 | succ {a:Option DV} {x:DV} {l:Ctx} {i:Nat}:GetC l i x→GetC (a :: l) (i + 1) x
theorem GetC.eq {Γ:Ctx} {i:Nat} {x:DV} (h:GetC Γ i x):Γ[i]?=some (some x):=by
 induction h with
 | zero=>rfl
 | succ _ ih=>rw [List.getElem?_cons_succ,ih]
inductive x2:List (Option Nat)→Ctx→Ctx→Prop
 | nil {Γ:Ctx}:x2 [] Γ []
 | no {js:List (Option Nat)} {Γ Γ':Ctx}:x2 js Γ Γ'→x2 (none :: js) Γ (none :: Γ')
 | got {js:List (Option Nat)} {Γ Γ':Ctx} {j:Nat} {x:DV}:GetC Γ j x→x2 js Γ Γ'→x2 (some j :: js) Γ (some x :: Γ')
theorem x2.eq {js:List (Option Nat)} {Γ Γ':Ctx} (h:x2 js Γ Γ'):tu js Γ=Γ':=by
 induction h with
 | nil=>rfl
 | no _ ih =>
  unfold tu at ih ⊢
  rw [ζN,ih]
 | got g _ ih =>
  unfold tu at ih ⊢
  rw [ζN,ih]
  show (Option.join _ :: _)=_
  rw [g.eq]
  rfl
section
variable {K:ζa} {S S':Sx} {κ κ':Bool} {Γ Γ' Γ'':Ctx} {P:Post}
theorem evv {i:Nat} {d:PyData} (h:GetC Γ i (.fz κ' d)) (hk:κ=true→κ'=true):EvE K S κ (tVar i) Γ d:=(vi h.eq).weak hk
theorem evi {i:Nat} {d:PyData} (h:GetC Γ i (.fz κ' d)) (hk:imm d=true):EvE K S κ (tVar i) Γ d:=(vi h.eq).imm hk
theorem EvL.weak {t:TE} {ds:List PyData} (h:EvL K S κ' t Γ ds) (hk:κ=true→κ'=true):EvL K S κ t Γ ds:=fun H0 F0 H F σ e Q q=>h H0 F0 H F σ e Q fun a vs H' F' g p k=>q a vs H' F' g p (by
 cases κ with
 | false=>exact uI (ya k)
 | true=>rw [hk rfl] at k; exact k)
theorem evw {i:Nat} {ds:List PyData} (h:GetC Γ i (.ow κ' ds)) (hk:κ=true→κ'=true):EvL K S κ (tVar i) Γ ds:=(zbt h.eq).weak hk
theorem exs {te:TE} {u:TS} {i:Nat} {d:PyData} (κ:Bool) (h:EvE K S κ te Γ d) (e:SetC Γ i (some (.fz κ d)) Γ') (k:ExT K S S' u Γ' P):ExT K S S' (tSeq (tAsg te (y9 i)) u) Γ P:=yJ (·=Γ') (Q3 h e.eq) fun _ z=>z ▸ k
theorem exs1 {te:TE} {i:Nat} {d:PyData} (κ:Bool) (h:EvE K S κ te Γ d) (e:SetC Γ i (some (.fz κ d)) Γ') (k:P.nx Γ'):ExS K S (tAsg te (y9 i)) Γ P:=Q3 h (e.eq ▸ k)
theorem exo {te:TE} {u:TS} {i:Nat} {ds:List PyData} (κ:Bool) (h:EvO K S κ te Γ ds) (e:SetC Γ i (some (.ow κ ds)) Γ') (k:ExT K S S' u Γ' P):ExT K S S' (tSeq (tAsg te (y9 i)) u) Γ P:=yJ (·=Γ') (Ue h e.eq) fun _ z=>z ▸ k
theorem exo1 {te:TE} {i:Nat} {ds:List PyData} (κ:Bool) (h:EvO K S κ te Γ ds) (e:SetC Γ i (some (.ow κ ds)) Γ') (k:P.nx Γ'):ExS K S (tAsg te (y9 i)) Γ P:=Ue h (e.eq ▸ k)
theorem exa {te:TE} {u:TS} {i:Nat} {ds:List PyData} {d:PyData} (h:GetC Γ i (.ow κ ds)) (he:EvE K S κ te Γ d) (e:SetC Γ i (some (.ow κ (ds ++ [d]))) Γ') (hz:ds.length < sizeLine) (k:ExT K S S' u Γ' P):ExT K S S' (tSeq (x3 (tBM K "list" wF (tVar i) (ye te tNil))) u) Γ P:=yJ (·=Γ') (Yt h.eq he hz e.eq) fun _ z=>z ▸ k
theorem exa1 {te:TE} {i:Nat} {ds:List PyData} {d:PyData} (h:GetC Γ i (.ow κ ds)) (he:EvE K S κ te Γ d) (e:SetC Γ i (some (.ow κ (ds ++ [d]))) Γ') (hz:ds.length < sizeLine) (k:P.nx Γ'):ExS K S (x3 (tBM K "list" wF (tVar i) (ye te tNil))) Γ P:=Yt h.eq he hz (e.eq ▸ k)
theorem exfz {t:TS} (i:Nat) {ds:List PyData} (h:GetC Γ i (.ow κ ds)) (e:SetC Γ i (some (.fz κ (.list ds))) Γ') (k:ExT K S S' t Γ' P):ExT K S S' t Γ P:=Yr i h.eq (by rw [e.eq]; exact k)
theorem egn {i:Nat} {d:PyData} {k:Ctx→Prop} (e:SetC Γ i (some (.fz κ d)) Γ') (h:k Γ'):ExG K S κ (y9 i) [i] d Γ k:=zbv (by rw [e.eq]; exact h)
theorem exro {i:Nat} {ds:List PyData} (h:GetC Γ i (.ow κ ds)) (hr:P.rt (.list ds)) (hk:(S=S∧κ=P.kr)∨P.kr=false):ExT K S S' (tRet (tVar i)) Γ P:=zbl h.eq hr hk
theorem exif {c:TT} {t u v:TS} {b:Bool} (N:Ctx→Prop) (hc:EvT K S c Γ b) (h1:b=true→ExS K S t Γ { P with nx:=N,bk:=fun _=>False,ct:=fun _=>False }) (h2:b=false→ExS K S u Γ { P with nx:=N,bk:=fun _=>False,ct:=fun _=>False }) (k:∀ Γ',N Γ'→ExT K S S' v Γ' P):ExT K S S' (tSeq (tIfS c t u) v) Γ P:=yJ N (wz hc h1 h2) k
theorem vQ {c:TT} {t u v:TS} {b:Bool} (hc:EvT K S c Γ b) (h1:b=true→ExT K S S' (tSeq t v) Γ P) (h2:b=false→ExT K S S' (tSeq u v) Γ P):ExT K S S' (tSeq (tIfS c t u) v) Γ P:=fun H0 F0 H F σ B e bb vv D I=>by
 refine hc H0 F0 H F σ e _ fun H' F' g=>?_
 cases b with
 | true=>exact iteT (h1 rfl H0 F0 H' F' σ B (e.mono g) (bb.trans g.f) vv D I)
 | false=>exact iteF (h2 rfl H0 F0 H' F' σ B (e.mono g) (bb.trans g.f) vv D I)
theorem exn {v:TS} (k:ExT K S S' v Γ P):ExT K S S' (tSeq XS v) Γ P:=yJ (·=Γ) (yx rfl) fun _ z=>z ▸ k
theorem uG {c:TT} {t v:TS} {b:Bool} (hc:EvT K S c Γ b) (hb:b=false) (k:ExT K S S' v Γ P):ExT K S S' (tSeq (tIfS c t XS) v) Γ P:=vQ hc (fun h=>by rw [hb] at h; cases h) fun _=>exn k
theorem wx {wi:TI} {g:TG} {tb u:TS} {ds:List PyData} (κ:Bool) (Iv:Nat→Ctx→Prop) (hi:EvI K S κ wi Γ ds) (h0:Iv 0 Γ)
  (hs:∀ i d Γ',ds[i]?=some d→Iv i Γ'→∃ js,ExG K S κ g js d Γ' fun Γ''=>ExS K S tb Γ'' { nx:=Iv (i + 1),rt:=P.rt,bk:=Iv ds.length,ct:=Iv (i + 1),kr:=P.kr }) (hd:∀ Γ',Iv ds.length Γ'→ExT K S S' u Γ' P):ExT K S S' (tSeq (tFor wi g tb) u) Γ P:=yJ (Iv ds.length) (uV κ Iv hi h0 hs fun _ h=>h) hd
theorem exrs {te:TE} {v:TS} {d:PyData} (κ:Bool) (h:EvE K S κ te Γ d) (hr:P.rt d) (hk:(S=S∧κ=P.kr)∨P.kr=false):ExT K S S' (tSeq (tRet te) v) Γ P:=yJ (fun _=>False) (yc κ h hr hk) fun _ z=>z.elim
theorem Yv {js:List (Option Nat)} {Γc:Ctx} {wi:TI} {g:TG} {tt:TT} {te:TE} {is:List Nat} {ds:List PyData} (κ':Bool) (p:PyData→Bool) (f:PyData→PyData) (hi:EvI K S κ' wi Γ ds) (hc:x2 js Γ Γc) (hjs:(is.all fun i=>js[i]? == some none)=true)
  (hj:(js.filterMap id).Nodup) (hz:ds.length≤sizeLine) (hb:∀ d∈ds,ExG K S κ' g is d Γc fun Γ'=>EvT K S tt Γ' (p d)∧(p d=true→EvE K S κ te Γ' (f d))):EvO K S κ (uf js wi g tt te) Γ ((ds.filter p).map f):=by
 refine Q5 p f hi (fun i hi=>?_) ?_ hz (by rw [hc.eq]; exact hb)
 ·have:=ξi.mp hjs i hi
  simpa using this
 ·intro i j k h1 h2
  clear hc hjs hi hb
  induction js generalizing i j with
  | nil=>simp at h1
  | cons o js ih =>
   cases o with
   | none =>
    cases i with
    | zero=>simp at h1
    | succ i =>
     cases j with
     | zero=>simp at h2
     | succ j=>rw [ih (by simpa using hj) i j (by simpa using h1) (by simpa using h2)]
   | some m =>
    have hj':(m :: js.filterMap id).Nodup:=by simpa using hj
    have hm:=(ζC.mp hj').1
    cases i with
    | zero =>
     cases j with
     | zero=>rfl
     | succ j =>
      have e1:m=k:=by simpa using h1
      subst e1
      have h2':js[j]?=some (some m):=by simpa using h2
      exact absurd (show m∈js.filterMap id from ξr.mpr ⟨some m,ζj h2',rfl⟩) hm
    | succ i =>
     cases j with
     | zero =>
      have e1:m=k:=by simpa using h2
      subst e1
      have h2':js[i]?=some (some m):=by simpa using h1
      exact absurd (show m∈js.filterMap id from ξr.mpr ⟨some m,ζj h2',rfl⟩) hm
     | succ j=>rw [ih (List.nodup_cons.mp hj').2 i j (by simpa using h1) (by simpa using h2)]
theorem zbs {js:List (Option Nat)} {Γc:Ctx} {wi:TI} {g:TG} {te:TE} {is:List Nat} {ds:List PyData} (κ':Bool) (f:PyData→PyData) (hi:EvI K S κ' wi Γ ds) (hc:x2 js Γ Γc) (hjs:(is.all fun i=>js[i]? == some none)=true)
  (hj:(js.filterMap id).Nodup) (hz:ds.length≤sizeLine) (hb:∀ d∈ds,ExG K S κ' g is d Γc fun Γ'=>EvE K S κ te Γ' (f d)):EvO K S κ (uf js wi g tYes te) Γ (ds.map f):=by
 have h:=Yv (K:=K) (S:=S) (κ:=κ) (g:=g) (tt:=tYes) (te:=te) (is:=is) κ' (fun _=>true) f hi hc hjs hj hz fun d hd H0 F0 H F σ v e p Q q=>hb d hd H0 F0 H F σ v e p Q fun Γ' σ' H' F' k=>q Γ' σ' H' F' ⟨zab,fun _=>k⟩
 rwa [List.filter_eq_self.mpr (fun _ _=>rfl)] at h
end
inductive xf:Nat→List PyData→Ctx→Prop
 | z:xf 0 [] []
 | no {n:Nat} {Γ:Ctx}:xf n [] Γ→xf (n + 1) [] (none :: Γ)
 | got {n:Nat} {d:PyData} {ds:List PyData} {Γ:Ctx}:xf n ds Γ→xf (n + 1) (d :: ds) (some (.fz false d) :: Γ)
theorem xf.eq {n:Nat} {ds:List PyData} {Γ:Ctx} (h:xf n ds Γ):wS n ds=Γ:=by
 induction h with
 | z=>rfl
 | @no n Γ _ ih =>
  rw [← ih]
  unfold wS
  simp [List.replicate_succ]
 | @got n d ds Γ _ ih =>
  rw [← ih]
  unfold wS
  simp
theorem zaP {K:ζa} {κ:Bool} {t:TS} {N:List Str} {n:Nat} {H F:Hp} {vs:List V} {ds:List PyData} {d:PyData} {Q:VK} {Γ:Ctx} (le:Same F H) (k:zE K F vs ds) (q:∀ v H' F',Gr H F H' F'→Rp K κ .fresh H F' v d→Q v H') (hn:N.length=n) (hΓ:xf n ds Γ)
  (h:ExS K .fresh t Γ { nx:=fun _=>d=.none,rt:=fun x=>x=d,kr:=κ }):t { nx:=fun _ H'=>Q .non H',rt:=Q } (L2.start N vs) H:=TV (hn ▸ hΓ.eq) h le k q
section
variable {K:ζa} {S:Sx} {κ:Bool} {Γ:Ctx}
theorem isL {t:TE} {d:List PyData} (h:EvL K S κ t Γ d):EvL K S κ t Γ d:=h
end
theorem asm {p:Prop} (h:p):p:=h
theorem zcQ {K:ζa} {t c:Value} {b:Bool} (h:PySem.W.kitOne K t c=some b):PySem.W.kitOne K t c=some b:=h
end PD
namespace L2
open PySem PySem.Spec PyProof.Rows
section
variable {X:Cx} {K:ζa}
theorem zJ {tg l:Expr} {tl:TE} (hK:X.K=K) (hl:PE X l tl):PI X tg l (QX K tl):=by subst hK; exact zaX hl
theorem Wf {a:Expr} {ta:TA} {p p2 pos pos2:Pos} (hK:X.K=K) (hc:X.calm=true) (hg:Gl X "list") (hm:X.mg "list" = none) (hg2:Gl X "reversed") (hm2:X.mg "reversed" = none) (ha:PA X [a] ta) (he:starEach (a :: []) X.env=(false,eval a X.env) :: starEach [] X.env:=by rfl)
  (he2:starEach (Expr.Call (.Name "reversed" p2) [a] [] pos2 :: []) X.env=(false,eval (.Call (.Name "reversed" p2) [a] [] pos2) X.env) :: starEach [] X.env:=by rfl) :
  PE X (.Call (.Name "list" p) [.Call (.Name "reversed" p2) [a] [] pos2] [] pos) (tQ K ta):=by subst hK; exact Vd hc hg hm hg2 hm2 ha he he2
variable {o e:Expr} {es:List Expr} {to:TE} {t:TA} {name:Str} {apos cpos:Pos} {T id:String} {r:V→List V→Hp→VK→Prop}
theorem uB (hK:X.K=K) (pa:PlainAttrs T) (slot:Slot T name id) (hty:typeOf (.builtin id)=pure (.type "method_descriptor")) (hm:MtR X id r) (ho:PE X o to)
  (hbase:attributeBase o name X.env (eval o X.env)=eval o X.env:=by rfl) (hline:(apos.endLine == cpos.line)=true:=by rfl):PE X (.Call (.Attribute o name apos) [] [] cpos) (tBM0 K T r to):=by subst hK; exact zcy pa slot hty hm ho hbase hline
theorem y6 (hK:X.K=K) (pa:PlainAttrs T) (slot:Slot T name id) (hty:typeOf (.builtin id)=pure (.type "method_descriptor")) (hm:MtR X id r) (ho:PE X o to) (ha:PA X (e :: es) t)
  (hbase:attributeBase o name X.env (eval o X.env)=eval o X.env:=by rfl)
  (hfew:((backTo cpos (starEach (e :: es) X.env)).all (fun x=>!x.1) && (backToKw cpos (keywordEach [] X.env)).all (fun x=>x.1.isSome)
   && decide ((e :: es).length + ([]:List Keyword).length + (if ([]:List Keyword).isEmpty then 0 else 1) < 30))=true:=by rfl)
  (hline:(apos.endLine == cpos.line)=true:=by rfl) (hs:starEach (e :: es) X.env=(false,eval e X.env) :: starEach es X.env:=by rfl) (hplain:(backTo cpos (starEach es X.env)).any (·.1)=false:=by rfl):PE X (.Call (.Attribute o name apos) (e :: es) [] cpos) (tBM K T r to t):=by subst hK; exact zdz pa slot hty hm ho ha hbase hfew hline hs hplain
end
end L2
namespace PD
open PySem L2
abbrev il (ns:List Int):PyData:=.list (ns.map .int)
def optD:Option Int→PyData
 | none=>.none
 | some i=>.int i
abbrev vl (vw:List (Option Int)):PyData:=.list (vw.map optD)
theorem Zi (ns:List Int):∀ d∈ns.map PyData.int,imm d=true:=fun d hd=>by
 obtain ⟨n,_,rfl⟩:=ζr.mp hd
 rfl
section
variable {K:ζa} {S:Sx} {κ:Bool} {Γ:Ctx}
theorem Q7 {t:TE} {ns:List Int} (h:EvE K S false t Γ (.list (ns.map .int))):EvL K S κ t Γ (ns.map .int):=h.toL.imm (Zi ns)
end
theorem xr {α:Type} {g:α→PyData} {ns:List α} {i:Nat} {d:PyData} (h:(ns.map g)[i]?=some d):∃ n,ns[i]?=some n∧d=g n:=by
 rw [ζG] at h
 cases e:ns[i]? with
 | none=>rw [e] at h; cases h
 | some n=>rw [e] at h; exact ⟨n,rfl,(ζI h).symm⟩
theorem xg {i j:Int} (h0:-(2 ^ 64) < j) (h1:j < 2 ^ 64):IntMulOk i j:=.of_right (intBits_le_64 h0 h1)
theorem yF {α:Type} {g:α→PyData} {xs:List α} {i:Nat} {x:α} (h:xs[i]?=some x):atI (xs.map g) (i:Int)=some (g x):=zbD (by rw [ζG,h]; rfl)
theorem zbh {n i:Nat} (h:i < n):ixN n (i:Int)=some i:=by
 unfold ixN
 rw [if_pos (by omega),if_pos (by omega)]
 simp
theorem vF {n i:Nat} {d:PyData} (h:((List.range n).map fun k:Nat=>PyData.int (k:Int))[i]?=some d):i < n∧d=.int i:=by
 rw [ζG] at h
 by_cases hi:i < n
 ·rw [ξH hi] at h
  exact ⟨hi,(ζI h).symm⟩
 ·rw [List.getElem?_eq_none (by simp; omega)] at h
  cases h
theorem xN (n:Nat):((List.range n).map fun k:Nat=>PyData.int (k:Int)).length=n:=by rw [ζb,ζy]
theorem zao (ns:List Int) (k:Nat):cutD (ns.map .int) none (some (k:Int))=(ns.take k).map .int:=by
 unfold cutD
 rw [HT.YR]
 show ((ns.map PyData.int).drop 0).take (min k (ns.map PyData.int).length - 0)=_
 rw [List.drop_zero,Nat.sub_zero,ζb,← List.map_take]
 congr 1
 rcases Nat.le_total k ns.length with h | h
 ·rw [Nat.min_eq_left h]
 ·rw [Nat.min_eq_right h,ζM (ζi _),ζM h]
end PD
namespace L2
open PySem PySem.Spec PyProof.Rows
section
variable {X:Cx} {CX:CXT} {k:Nat} {ps:List Str} {sp:Sp} {E:XK} {x:Str} {p pos:Pos} {e:Expr} {es:List Expr} {t:TA}
end
end L2
namespace PD
open PySem L2
section
variable {K:ζa} {S S':Sx} {κ:Bool} {Γ:Ctx} {P:Post}
end
end PD
namespace Sx2
open Sh Wd
def smT:List (Int×Int)→Int×Int→Int×Int
 | [],x=>x
 | y :: r,x=>smT r (x.1 * y.2 + y.1 * x.2,x.2 * y.2)
def sm (xs:List (Int×Int)):Int×Int:=smT xs (0,1)
def mr (k:Nat) (w:List Int) (v:Int):List Nat→Nat→List Int
 | [],_=>[]
 | j :: r,c=>if j=k then v :: mr k w v r c else w.getD c 0 :: mr k w v r (c + 1)
end Sx2
namespace PD
open PySem L2
section
variable {K:ζa} {S S':Sx} {κ:Bool} {Γ:Ctx} {P:Post}
end
theorem tJ {α:Type} {g:α→PyData} (h:∀ x,PyData.canLay0 (g x)=true):∀ xs:List α,PyData.canLayAll0 (xs.map g)=true
 | []=>rfl
 | x :: r=>by
  show (PyData.canLay0 (g x) && PyData.canLayAll0 (r.map g))=true
  rw [h,tJ h r]
  rfl
theorem vM {α:Type} {g:α→PyData} {n:Nat} (h:∀ x,PyData.depth (g x)≤n):∀ xs:List α,PyData.depthAll (xs.map g)≤n
 | []=>ζE _
 | x :: r=>by
  show max (PyData.depth (g x)) (PyData.depthAll (r.map g))≤n
  have:=vM h r
  have:=h x
  omega
theorem Z9 {d:PyData} (h1:PyData.canLay0 d=true) (h2:PyData.depth d≤50):SeqAt.shaped d=true:=by
 unfold SeqAt.shaped
 rw [h1]
 simp
 omega
end PD
namespace L2
open PySem PySem.Spec PyProof.Rows
def srt (ns:List Int):List Int:=ns.mergeSort fun a b=>decide (a≤b)
theorem tf:∀ {a b:List Int},a.Perm b→a.Pairwise (·≤·)→b.Pairwise (·≤·)→a=b
 | [],b,p,_,_=>p.nil_eq
 | x :: r,[],p,_,_=>absurd p.length_eq (by simp)
 | x :: r,y :: t,p,h1,h2=>by
  have a1:=ζ3.mp h1
  have a2:=ζ3.mp h2
  have hx:x∈y :: t:=p.mem_iff.mp ζg
  have hy:y∈x :: r:=p.mem_iff.mpr ζg
  have e:x=y:=by
   rcases ζo.mp hx with e | hx
   ·exact e
   ·rcases ζo.mp hy with e | hy
    ·exact e.symm
    ·have:=a2.1 x hx
     have:=a1.1 y hy
     omega
  subst e
  rw [tf p.cons_inv a1.2 a2.2]
theorem ug (ns:List Int):(srt ns).Perm ns:=List.mergeSort_perm ns _
theorem tT (ns:List Int):(srt ns).Pairwise (·≤·):=by
 have:=List.pairwise_mergeSort (le:=fun a b:Int=>decide (a≤b)) (fun a b c h1 h2=>by simp at *; omega) (fun a b=>by simp; omega) ns
 exact this.imp fun h=>by simpa using h
theorem zcl {a ns:List Int} (p:a.Perm ns) (h:a.Pairwise (·≤·)):a=srt ns:=tf (p.trans (ug ns).symm) h (tT ns)
section
variable {X:Cx} {K:ζa}
theorem uc:∀ {ns:List Int} {us:List Value},IntsAre us ns→Vals (ns.map V.int) us
 | _,_,.nil=>.nil
 | _,_,.cons _ t r=>.cons ⟨t,rfl⟩ (uc r)
def YY (K:ζa):List V→Hp→VK→Prop:=fun xs H Q=>∃ p ns,xs=[.ref p]∧SqL K H p (ns.map V.int)∧ns.length < 64∧∀ l,H l=none→Q (.ref l) (upd H l (.lst ((srt ns).map V.int)))
theorem WS:yQ X (.builtin "sorted") (YY X.K):=by
 intro pins s σ H xs us Q I r h
 obtain ⟨p,ns,rfl,hq,h64,q⟩:=h
 obtain ⟨u,rfl,rx⟩:=vP r
 cases rx
 obtain ⟨its,r',pl,hz⟩:=I.list hq
 have hl:=r'.length
 rw [ζb] at hl hz
 refine sorted_ints (vs:=its) pl.isList (v5 r') (by omega) fun out ns' a1 a2 a3=>?_
 have e:=zcl a2 a3
 subst e
 obtain ⟨c,hc⟩:=sortedAll_at s.heap its out
 exact ⟨.ref (s.heap.objs.size + 1),_,I.laid (t':=s.toks) (fun _ _=>sortedAll_old) (Nat.le_succ _) (show yk X.prog X.w _ _ _ (.lst ((srt ns).map V.int)) from ⟨by rw [List.length_map,(ug ns).length_eq]; exact hz,out.toList,c,uc a1,by simpa using hc⟩),rfl,q _ (I.hok.fresh (Nat.le_succ _))⟩
theorem uK (hK:X.K=K):yQ X (.builtin "sorted") (YY K):=by subst hK; exact WS
def low (d:PyData):Bool:=d.canLay0 && decide (d.depth≤50)
open Classical in
noncomputable def eqU2 (h:Heap) (d:PyData) (y:Value):Bool:=decide (∃ dy as,Reads h y dy as∧low dy=true∧PyData.eqv dy d=true)
theorem Xb {d:PyData} (h:low d=true):d.canLay0=true:=(ζH.mp h).1
theorem UV {d:PyData} (h:low d=true):d.depth≤50:=of_decide_eq_true (ζH.mp h).2
open Classical in
theorem Uj {h:Heap} {d dy:PyData} {y:Value} {as:List Addr} (r:Reads h y dy as) (l:low dy=true):eqU2 h d y=PyData.eqv dy d:=by
 unfold eqU2
 cases e:PyData.eqv dy d with
 | true=>apply decide_eq_true; exact ⟨dy,as,r,l,e⟩
 | false =>
  apply decide_eq_false
  rintro ⟨dz,bs,r2,l2,e2⟩
  rw [SeqAt.Reads.unique dy dz y as bs (Xb l) r r2] at e
  rw [e] at e2
  cases e2
theorem WW {h:Heap} {d:PyData}:∀ {us:List Value} {ds:List PyData} {as:List Addr},ReadsAll h us ds as→(∀ e∈ds,low e=true)→us.any (eqU2 h d)=ds.any (PyData.eqv · d)
 | _,_,_,.nil,_=>rfl
 | _,_,_,.cons r t,l=>by rw [ξx,ξx,Uj r (l _ ζg),WW t fun e he=>l e (ζl _ he)]
theorem Yk {h:Heap}:∀ {us:List Value} {ds:List PyData} {as:List Addr},ReadsAll h us ds as→∀ u∈us,∃ d∈ds,∃ bs,Reads h u d bs
 | _,_,_,.nil,_,hu=>by cases hu
 | _,_,_,.cons r t,u,hu=>by
  rcases ζo.mp hu with rfl | hu
  ·exact ⟨_,ζg,_,r⟩
  ·obtain ⟨d,hd,bs,q⟩:=Yk t u hu
   exact ⟨d,ζl _ hd,bs,q⟩
def rInD (K:ζa) (neg:Bool):R2:=fun x y H Q=>∃ p xs d ds,y=.ref p∧SqL K H p xs∧Dp K H x d∧zE K H xs ds∧low d=true∧(∀ e∈ds,low e=true)∧Q (.bl (if neg then !ds.any (PyData.eqv · d) else ds.any (PyData.eqv · d))) H
theorem UM (hu:X.A.units + 64 < cLine):OpR X (compareOp .NotIn) (rInD X.K true):=by
 intro pins s σ H x y v u Q I rx ry h
 obtain ⟨p,xs,d,ds,rfl,hq,h1,h2,l1,l2,q⟩:=h
 cases ry
 obtain ⟨its,r,pl,hz⟩:=I.list hq
 obtain ⟨as,ra⟩:=h1.reads I rx
 obtain ⟨bs,rb⟩:=zE.reads I h2 r
 refine SeqAt.notIn_listAt (eqU2 s.heap d) pl.isList (fun w hw=>?_) ⟨.bl _,H,I,rfl,?_⟩
 ·obtain ⟨dw,hd,cs,rc⟩:=Yk rb w (by simpa using hw)
  rw [Uj rc (l2 dw hd)]
  exact SeqAt.eqAt_reads dw d _ s w v cs as rc ra (Xb (l2 dw hd)) (Xb l1) (by have:=UV l1; have:=Nat.min_le_right dw.depth d.depth; show X.A.units + 1 + _ < _; omega)
 ·rw [show its.toArray.any (eqU2 s.heap d)=its.any (eqU2 s.heap d) by simp,WW rb l2]
  exact q
theorem Ve (hK:X.K=K) (hu:X.A.units + 64 < cLine):OpR X (compareOp .NotIn) (rInD K true):=by subst hK; exact UM hu
def YZ:V→List V→Hp→VK→Prop:=fun x vs H Q=>∃ l xs j y,x=.ref l∧vs=[.int j,y]∧H l=some (.lst xs)∧0≤j∧j≤(xs.length:Int)∧xs.length < sizeLine∧Q .non (upd H l (.lst (xs.take j.toNat ++ y :: xs.drop j.toNat)))
theorem Yj:MtM X "list.insert" YZ:=by
 intro pins s σ H x vs v us Q I rx rv h
 obtain ⟨l,xs,j,y,rfl,rfl,hH,h0,hj,hz,q⟩:=h
 cases rx
 cases rv with
 | cons ru rv' =>
  obtain ⟨t,rfl⟩:=ru
  obtain ⟨u,rfl,ry⟩:=Vals.one rv'
  obtain ⟨z,its,n,r,hl,e⟩:=I.lstM hH
  have hb:sizeLine < 2 ^ 62:=by decide
  have hf:Builtin.List.listFitsIndex j=true:=fitsIndex_both (by omega) (by omega)
  have hs:its.toArray.size≤sizeLine:=by rw [ζQ]; omega
  have e1:¬ (j < 0):=by omega
  have e2:min j.toNat its.length=j.toNat:=by omega
  refine call_meets F.slot_list_insert ⟨_,e,rfl⟩ F.entry_list_insert (F.args_list_insert_3 _ _ _) (AutoSeq1.list_insert_list_int_val_1 l its.toArray n j t u (by rw [hf]; decide) hs) ⟨e,?_⟩
  refine ⟨.non,_,I.lset (its':=its.take j.toNat ++ u :: its.drop j.toNat) hH e ?_ ((r.take j.toNat).append (.cons ry (r.drop j.toNat))) ?_,rfl,q⟩
  ·simp only [e1,if_false,List.size_toArray,e2]
   apply Array.toList_inj.mp
   simp
   exact ζM (by rw [ξd]; exact ζi _)
  ·rw [ζd,ζ2,ζS,ξd]
   omega
end
end L2
namespace PD
open PySem L2
section
variable {K:ζa} {S S':Sx} {κ κ':Bool} {Γ Γ' Γ'':Ctx} {P:Post}
theorem vU {H0 F:Hp} (ns:List Int):zn K κ S H0 F (ns.map V.int) (ns.map .int):=wP (Zi ns) (v8 ns)
theorem Zl {ta:TE} {ns:List Int} (h:EvL K S false ta Γ (ns.map .int)) (h64:ns.length < 64):EvO K S κ (tCB (YY K) (ye ta tNil)) Γ ((srt ns).map .int):=fun H0 F0 H F σ e Q q =>
 h H0 F0 H F σ e _ fun a vs H1 F1 g1 p1 k1=>by
  cases yj (ya k1)
  exact ⟨a,ns,rfl,p1,h64,fun p hp=>q p _ _ F1 (g1.trans (.newO g1.le hp _)) (g1.h.free hp) zi (g1.le.free hp) (vU _)⟩
theorem zc4 {neg:Bool} {ta tb:TE} {d:PyData} {ds:List PyData} (ha:EvE K S false ta Γ d) (hb:EvL K S false tb Γ ds) (l1:low d=true) (l2:∀ e∈ds,low e=true) :
  EvE K S κ (tOp (rInD K neg) ta tb) Γ (.bool (if neg then !ds.any (PyData.eqv · d) else ds.any (PyData.eqv · d))):=fun H0 F0 H F σ e Q q =>
 ha H0 F0 H F σ e _ fun v H1 F1 g1 p1=>hb H0 F0 H1 F1 σ (e.mono g1) _ fun b ws H2 F2 g2 p2 k2 =>
  ⟨b,ws,d,ds,rfl,p2,xa (g1.le.trans g2.h) (x4 p1),x0 g2.le (ya k2),l1,l2,q _ H2 F2 (g1.trans g2) (.bl _)⟩
theorem U8 {te ti:TE} {i:Nat} {m:Int} {ds:List PyData} {d:PyData} (h:Γ[i]?=some (some (.ow κ ds))) (hi:EvE K S false ti Γ (.int m)) (he:EvE K S κ te Γ d) (h0:0≤m) (h1:m≤ds.length) (hz:ds.length < sizeLine) (k:P.nx (Γ.set i (some (.ow κ (ds.take m.toNat ++ d :: ds.drop m.toNat))))) :
  ExS K S (x3 (tBM K "list" YZ (tVar i) (ye ti (ye te tNil)))) Γ P:=fun H0 F0 H F σ B e b _ D I=>by
 obtain ⟨v0,q1,a,vs,rfl,w,q5⟩:=e.has i _ h
 refine ⟨_,q1,.inl ⟨rfl,_,SqL.of w.h⟩,hi H0 F0 H F σ e _ fun v1 H1 F1 g1 p1=>he H0 F0 H1 F1 σ (e.mono g1) _ fun v H' F' g2 p=>?_⟩
 cases yf p1
 have g:=g1.trans g2
 have k':=zq g.f q5
 have hl:=zn.length q5
 refine ⟨a,vs,m,v,rfl,rfl,g.h _ _ w.h,h0,by rw [hl]; exact h1,by rw [hl]; exact hz,?_⟩
 exact I.nx _ _ _ F' k (b.trans g.f) ((e.mono g).put (y:=.ow κ (ds.take m.toNat ++ d :: ds.drop m.toNat)) h q1 (show Owns H' (.ref a) (.ow κ ds) a from rfl) ⟨a,_,rfl,⟨zi,(w.mono g).f,w.n,w.s⟩,zn.append (zn.take _ k') (.cons p (zn.drop _ k'))⟩ fun _ z=>z)
theorem exin {te ti:TE} {i:Nat} {m:Int} {ds:List PyData} {d:PyData} (h:GetC Γ i (.ow κ ds)) (hi:EvE K S false ti Γ (.int m)) (he:EvE K S κ te Γ d) (h0:0≤m) (h1:m≤ds.length) (hz:ds.length < sizeLine) (e:SetC Γ i (some (.ow κ (ds.take m.toNat ++ d :: ds.drop m.toNat))) Γ') (k:P.nx Γ') :
  ExS K S (x3 (tBM K "list" YZ (tVar i) (ye ti (ye te tNil)))) Γ P:=U8 h.eq hi he h0 h1 hz (e.eq ▸ k)
theorem uW {T:Addr→Prop} {F:Hp} {a:Addr} {xs:List V} (h:F a=some (.lst xs)) (t:T a):drop T F a=none:=by
 cases q:drop T F a with
 | none=>rfl
 | some o =>
  obtain ⟨q1,q2⟩:=ym.mp q
  rw [h] at q1
  cases q1
  exact absurd ⟨t,rfl⟩ q2
end
end PD
namespace L2
open PySem PySem.Spec PyProof.Rows
section
variable {X:Cx} {K:ζa}
end
end L2
namespace PD
open PySem L2
section
variable {K:ζa} {S S':Sx} {κ κ':Bool} {Γ Γ' Γ'':Ctx} {P:Post}
theorem Ui {ta tb:TE} {i j:Int} (ha:EvE K S false ta Γ (.int i)) (hb:EvE K S false tb Γ (.int j)):EvE K S κ (tCB (fun xs H Q=>∃ i j,xs=[.int i,.int j]∧Q (.int (if j > i then j else i)) H) (ye ta (ye tb tNil))) Γ (.int (max i j)):=fun H0 F0 H F σ e Q q =>
 ha H0 F0 H F σ e _ fun v H1 F1 g1 p1=>hb H0 F0 H1 F1 σ (e.mono g1) _ fun w H2 F2 g2 p2=>by
  cases yf p1
  cases yf p2
  have e:(if j > i then j else i)=max i j:=by omega
  exact ⟨i,j,rfl,q _ H2 F2 (g1.trans g2) (by rw [e]; exact .int _)⟩
theorem X4 {H0 F:Hp}:∀ {vs:List V} {ds:List PyData},vs.length=ds.length→(∀ (j:Nat) v d,vs[j]?=some v→ds[j]?=some d→Rp K κ S H0 F v d)→zn K κ S H0 F vs ds
 | [],[],_,_=>.nil
 | [],_ :: _,h,_=>by cases h
 | _ :: _,[],h,_=>by cases h
 | v :: vs,d :: ds,h,k=>.cons (k 0 v d rfl rfl) (X4 (by simpa using h) fun j v' d' h1 h2=>k (j + 1) v' d' (by simpa using h1) (by simpa using h2))
theorem Yh {α:Type}:∀ {l:List α},l.Nodup→∀ {i j:Nat} {x:α},l[i]?=some x→l[j]?=some x→i=j
 | [],_,i,j,x,h,_=>by simp at h
 | y :: r,n,0,0,x,_,_=>rfl
 | y :: r,n,0,j + 1,x,h1,h2=>by
  have e:y=x:=by simpa using h1
  exact absurd (List.mem_of_getElem? (show r[j]?=some x by simpa using h2)) (e ▸ (List.nodup_cons.mp n).1)
 | y :: r,n,i + 1,0,x,h1,h2=>by
  have e:y=x:=by simpa using h2
  exact absurd (List.mem_of_getElem? (show r[i]?=some x by simpa using h1)) (e ▸ (List.nodup_cons.mp n).1)
 | y :: r,n,i + 1,j + 1,x,h1,h2=>by rw [Yh (List.nodup_cons.mp n).2 (show r[i]?=some x by simpa using h1) (show r[j]?=some x by simpa using h2)]
theorem exo2 {wi:TI} {i:Nat} {u:TS} {ds:List PyData} (hi:EvI K S κ' wi Γ ds) (hz:ds.length≤sizeLine) (es:SetC Γ i (some (.o2 none (List.replicate ds.length []))) Γ') (k:ExT K S S' u Γ' P) :
  ExT K S S' (tSeq (tAsg (uf [none] wi (y9 0) tYes (tLst tNil)) (y9 i)) u) Γ P:=fun H0 F0 H F σ B e bb vv D I =>
 hi H0 F0 H F σ e _ fun J H1 F1 g1 I1=>by
  intro L hL
  have sdm:∀ {H2 F2:Hp},Gr H1 F1 H2 F2→∀ a,S.has H0 a→∃ o,H2 a=some o:=fun g2 a c=>let ⟨o,z⟩:=(e.mono g1).sd a c; ⟨o,g2.h _ _ z⟩
  refine ⟨fun n m ys H2=>m=ds.length - n∧n≤ds.length∧∃ F2,Gr H1 F1 H2 F2∧H2 L=some (.lst ys)∧F2 L=none∧V.ref L∉ys∧ys.Nodup∧ys.length=n∧∀ (j:Nat) x,ys[j]?=some x→∃ c,x=.ref c∧H1 c=none∧H2 c=some (.lst [])∧F2 c=none,
   ⟨_,rfl,Nat.zero_le _,F1,.newO g1.le hL _,zi,g1.le.free hL,by simp,List.nodup_nil,rfl,by simp⟩,?_⟩
  rintro n m ys H2 ⟨rfl,hn,F2,g2,hl,fl,n1,n2,n3,hy⟩
  by_cases hlt:n < ds.length
  ·refine .inr ⟨I1.go n H2 F2 g2.f g2.le hlt,fun zs H3=>n + 1≤ds.length∧∃ F2,Gr H1 F1 H3 F2∧H3 L=some (.lst zs)∧F2 L=none∧V.ref L∉zs∧zs.Nodup∧zs.length=n + 1∧∀ (j:Nat) x,zs[j]?=some x→∃ c,x=.ref c∧H1 c=none∧H3 c=some (.lst [])∧F2 c=none,fun zs H3 h3=>⟨ds.length - (n + 1),by omega,rfl,h3⟩,fun x H3 y=>?_⟩
   obtain ⟨d,F3,hd,g3,p3⟩:=I1.yld n H2 F2 x H3 g2.f g2.le (sdm g2) hlt y
   have g:=g2.trans g3
   have hl3:=g3.h _ _ hl
   have fl3:=g3.ap _ _ hl fl
   refine ⟨Sub.set rfl,?_⟩
   unfold tYes
   dsimp only
   refine iteT ⟨ζE _,fun p hp=>?_⟩
   have npL:p≠L:=by rintro rfl; rw [hl3] at hp; cases hp
   have fp3:F3 p=none:=g3.le.free hp
   have hp1:H1 p=none:=g.h.free hp
   have np:V.ref p∉ys:=fun hm=>by
    obtain ⟨j,hj⟩:=ζ9.mp hm
    obtain ⟨c,ec,_,h2,_⟩:=hy j _ hj
    cases ec
    have:=g3.h _ _ h2
    rw [hp] at this; cases this
   refine ⟨by rw [zm npL.symm]; exact hl3,by omega,hlt,F3,⟨fun b u z=>?_,g.f,fun b u z=>?_,g.ap⟩,zi,fl3,?_,?_,by rw [ζd,n3]; rfl,fun j x hx=>?_⟩
   ·rw [zm (zy z hL),zm (zy z hp1)]
    exact g.h _ _ z
   ·rw [zm (by rintro rfl; rw [fl3] at z; cases z),zm (by rintro rfl; rw [fp3] at z; cases z)]
    exact g3.le _ _ z
   ·intro hm
    rcases ζs.mp hm with hm | hm
    ·exact n1 hm
    ·have:V.ref L=.ref p:=by simpa using hm
     cases this
     exact npL rfl
   ·refine List.nodup_append.mpr ⟨n2,by simp,fun a ha b hb=>?_⟩
    have:b=.ref p:=by simpa using hb
    rintro rfl
    exact np (this ▸ ha)
   ·by_cases hj:j < ys.length
    ·rw [ξC hj] at hx
     obtain ⟨c,rfl,h1,h2,h3⟩:=hy j x hx
     have ncL:c≠L:=by rintro rfl; exact n1 (ζj hx)
     have ncp:c≠p:=by rintro rfl; exact np (ζj hx)
     exact ⟨c,rfl,h1,by rw [zm ncL,zm ncp]; exact g3.h _ _ h2,g3.ap _ _ h2 h3⟩
    ·rw [ξT (by omega)] at hx
     have:j - ys.length=0:=by
      have:=(ζc.mp hx).1
      simp at this
      omega
     rw [this] at hx
     cases (show some (V.ref p)=some x from hx)
     exact ⟨p,rfl,hp1,by rw [zm npL,zi],fp3⟩
  ·have en:n=ds.length:=by omega
   subst en
   have g:=g1.trans g2
   have e2:=e.mono g
   have hHL:H L=none:=g1.h.free hL
   refine .inl ⟨I1.stop H2 F2 g2.f g2.le,?_⟩
   obtain rfl:=es.eq
   have hv:HasV K S H0 H2 F2 (.ref L) (.o2 none (List.replicate ds.length [])):=⟨L,ys,⟨rfl,fun _ z=>nomatch z⟩,⟨hl,fl,e.gr.h.free hHL,e.out hHL⟩,n1,n2,by rw [List.length_replicate]; exact n3,fun j x hx=>by
    obtain ⟨c,rfl,h1,h2,h3⟩:=hy j x hx
    have hHc:H c=none:=g1.h.free h1
    have hj:=(ζc.mp hx).1
    exact ⟨c,[],[],rfl,⟨h2,h3,e.gr.h.free hHc,e.out hHc⟩,by rw [ξJ,if_pos (by omega)],.nil⟩⟩
   refine k H0 F0 H2 F2 _ B (e2.set hv fun a oa j y w hj z hw o=>?_) (bb.trans g.f) vv D I
   obtain ⟨v,q1,q2⟩:=e.has j y z
   rw [hw] at q1
   cases q1
   obtain ⟨us,w1⟩:=q2.owns (o.back q2 fun _ _ z=>g.h _ _ z.h)
   have ha:=w1.h
   rcases oa with oa | ⟨p,vs,ep,hp,hm⟩
   ·cases oa
    rw [hHL] at ha; cases ha
   ·cases ep
    rw [hl] at hp
    cases hp
    obtain ⟨j',hj'⟩:=ζ9.mp hm
    obtain ⟨c,ec,h1,_⟩:=hy j' _ hj'
    cases ec
    rw [g1.h.free h1] at ha; cases ha
theorem Q6 {r:Option Addr} {ti:TE} {i j:Nat} {m:Int} {dss:List (List PyData)} {ds:List PyData} (h:GetC Γ i (.o2 r dss)) (hi:EvE K S false ti Γ (.int m)) (hm:ixN dss.length m=some j) (hd:dss[j]?=some ds):EvL K S true (tOp (rIxL K) (tVar i) ti) Γ ds:=fun H0 F0 H F σ e Q q=>by
 obtain ⟨v0,q1,a,vs,⟨rfl,hid⟩,w,n1,n2,n3,hk⟩:=e.has i _ h.eq
 refine ⟨_,q1,hi H0 F0 H F σ e _ fun w' H1 F1 g1 p1=>?_⟩
 cases yf p1
 have hj:=(ζc.mp hd).1
 have hx:vs[j]?=some (vs[j]'(by omega)):=ζm (by omega)
 obtain ⟨b,us,ds',ex,ow,hd',kk⟩:=hk j _ hx
 rw [hd] at hd'
 cases hd'
 have hat:atI vs m=some (.ref b):=by
  unfold atI
  rw [n3,hm]
  show vs[j]?=_
  rw [hx,ex]
 exact ⟨a,vs,m,_,rfl,rfl,SqL.of (g1.h _ _ w.h),hat,q b us H1 F1 g1 (SqL.of (g1.h _ _ ow.h)) (zq g1.f kk)⟩
theorem WH {r:Option Addr} {ti te:TE} {i j:Nat} {m:Int} {dss:List (List PyData)} {ds:List PyData} {d:PyData} (h:GetC Γ i (.o2 r dss)) (hi:EvE K S false ti Γ (.int m)) (hm:ixN dss.length m=some j) (hd:dss[j]?=some ds) (he:EvE K S true te Γ d) (hz:ds.length < sizeLine)
  (es:SetC Γ i (some (.o2 r (dss.set j (ds ++ [d])))) Γ') (k:P.nx Γ'):ExS K S (x3 (tBM K "list" wF (tOp (rIxL K) (tVar i) ti) (ye te tNil))) Γ P:=fun H0 F0 H F σ B e bb _ D I=>by
 obtain ⟨v0,q1,a,vs,⟨rfl,hid⟩,w,n1,n2,n3,hk⟩:=e.has i _ h.eq
 refine ⟨_,q1,hi H0 F0 H F σ e _ fun w' H1 F1 g1 p1=>?_⟩
 cases yf p1
 have hj:=(ζc.mp hd).1
 have hx:vs[j]?=some (vs[j]'(by omega)):=ζm (by omega)
 obtain ⟨b,us,ds',ex,ow,hd',kk⟩:=hk j _ hx
 rw [hd] at hd'
 cases hd'
 rw [ex] at hx
 have hat:atI vs m=some (.ref b):=by
  unfold atI
  rw [n3,hm]
  exact hx
 refine ⟨a,vs,m,_,rfl,rfl,SqL.of (g1.h _ _ w.h),hat,.inl ⟨rfl,_,SqL.of (g1.h _ _ ow.h)⟩,he H0 F0 H1 F1 σ (e.mono g1) _ fun v H2 F2 g2 p2=>?_⟩
 have g:=g1.trans g2
 have ow2:=ow.mono g
 have w2:=w.mono g
 have nba:b≠a:=by rintro rfl; exact n1 (ζj hx)
 refine ⟨b,us,v,rfl,rfl,ow2.h,by rw [zn.length kk]; exact hz,?_⟩
 obtain rfl:=es.eq
 refine I.nx _ _ _ F2 k (bb.trans g.f) ((e.mono g).put (y:=.o2 r (dss.set j (ds ++ [d]))) h.eq q1 (show Owns H2 (.ref a) (.o2 r dss) b from .inr ⟨a,vs,rfl,w2.h,ζj hx⟩) ?_ ?_)
 ·refine ⟨a,vs,⟨rfl,hid⟩,w2.other nba.symm,n1,n2,by rw [List.length_set]; exact n3,fun j' x hx'=>?_⟩
  by_cases hjj:j'=j
  ·subst hjj
   rw [hx] at hx'
   cases hx'
   exact ⟨b,us ++ [v],ds ++ [d],rfl,⟨zi,ow2.f,ow2.n,ow2.s⟩,by rw [ζt hj],zn.append (zq g.f kk) (.cons p2 .nil)⟩
  ·obtain ⟨c,ws,ds',rfl,oc,hc,kc⟩:=hk j' x hx'
   have ncb:c≠b:=by
    rintro rfl
    exact hjj (Yh n2 hx' hx)
   exact ⟨c,ws,ds',rfl,(oc.mono g).other ncb,by rw [ζv (Ne.symm hjj)]; exact hc,zq g.f kc⟩
 ·rintro c (oc | ⟨p,xs,ep,hp,hm'⟩)
  ·exact .inl oc
  ·cases ep
   rw [zm nba.symm,w2.h] at hp
   cases hp
   exact .inr ⟨a,vs,rfl,w2.h,hm'⟩
theorem HasV.frzG {H0 H F F':Hp} {v:V} {x:DV} (h:HasV K S H0 H F v x) (s:Same F F') (n:∀ c,Owns H v x c→F' c=none):HasV K S H0 H F' v x:=by
 cases x with
 | fz κ d=>exact yX s h
 | tn d=>obtain ⟨T,eT,k⟩:=h; exact ⟨T,eT,yX s k⟩
 | ow κ ds=>obtain ⟨b,us,eb,wo,kk⟩:=h; exact ⟨b,us,eb,⟨wo.h,n b eb,wo.n,wo.s⟩,zq s kk⟩
 | ox=>obtain ⟨b,us,eb,wo⟩:=h; exact ⟨b,us,eb,⟨wo.h,n b eb,wo.n,wo.s⟩⟩
 | o2 r dss =>
  obtain ⟨b,us,eb,wo,n1,n2,l,k⟩:=h
  refine ⟨b,us,eb,⟨wo.h,n b (.inl eb.eq),wo.n,wo.s⟩,n1,n2,l,fun j y hy=>?_⟩
  obtain ⟨c,ws,ds,e2,o2,h2,k2⟩:=k j y hy
  exact ⟨c,ws,ds,e2,⟨o2.h,n c (.inr ⟨b,us,eb.eq,wo.h,by rw [← e2]; exact ζj hy⟩),o2.n,o2.s⟩,h2,zq s k2⟩
 | fn a=>exact h
 | xn φ=>obtain ⟨b,e,k⟩:=h; exact ⟨b,e,s _ _ k⟩
 | oa b κ ds=>obtain ⟨eb,us,wo,kk⟩:=h; exact ⟨eb,us,⟨wo.h,n b eb,wo.n,wo.s⟩,zq s kk⟩
 | xp φ=>obtain ⟨F1,s1,k⟩:=h; exact ⟨F1,s1.trans s,k⟩
 | od u=>obtain ⟨b,eb,wo⟩:=h; exact ⟨b,eb,⟨wo.h,n b eb,wo.n,wo.s⟩⟩
 | og ad ψ =>
  obtain ⟨ok,w,p⟩:=h
  refine ⟨ok,fun b z=>?_,ok.ps S H0 H H F F' v (fun _ _=>rfl) s p⟩
  obtain ⟨o,y⟩:=w b z
  exact ⟨o,⟨y.h,n b z,y.n,y.s⟩⟩
open Classical in
noncomputable def frzF (F H:Hp) (a:Addr) (vs:List V):Hp:=fun c=>if c=a∨V.ref c∈vs then H c else F c
theorem DEnv.frz2 {r:Option Addr} {i:Nat} {dss:List (List PyData)} {H0 F0 H F:Hp} {σ:St} (e:DEnv K S H0 F0 H F σ Γ) (h:GetC Γ i (.o2 r dss)) (es:SetC Γ i (some (.fz true (.list (dss.map .list)))) Γ') :
  ∃ (Ff:Hp) (A:Addr→Prop),DEnv K S H0 F0 H Ff σ Γ'∧Same F Ff∧(∀ c,A c→F c=none∧∃ vs,Ff c=some (.lst vs))∧∀ c,¬ A c→Ff c=F c:=by
 have h':=h.eq
 obtain ⟨v0,q1,a,vs,⟨rfl,hid⟩,w,n1,n2,n3,hk⟩:=e.has i _ h'
 have inn:∀ {c:Addr},(c=a∨V.ref c∈vs)→∃ us,ZF S H0 H F c us:=fun {c} hc=>by
  rcases hc with rfl | hc
  ·exact ⟨_,w⟩
  ·obtain ⟨j,hj⟩:=ζ9.mp hc
   obtain ⟨b,us,ds,eb,ow,_⟩:=hk j _ hj
   cases eb
   exact ⟨us,ow⟩
 have Fin:∀ {c:Addr},(c=a∨V.ref c∈vs)→frzF F H a vs c=H c:=fun hc=>if_pos hc
 have Fout:∀ {c:Addr},¬ (c=a∨V.ref c∈vs)→frzF F H a vs c=F c:=fun hc=>if_neg hc
 have s:Same F (frzF F H a vs):=fun c o hc=>by
  rw [Fout fun z=>by obtain ⟨us,ow⟩:=inn z; rw [ow.f] at hc; cases hc]
  exact hc
 have le:Same (frzF F H a vs) H:=fun c o hc=>by
  by_cases z:c=a∨V.ref c∈vs
  ·rw [Fin z] at hc; exact hc
  ·rw [Fout z] at hc; exact e.le _ _ hc
 have li:=(ζc.mp h').1
 have own:∀ {c:Addr},(c=a∨V.ref c∈vs)→Owns H (.ref a) (.o2 r dss) c:=fun {c} hc=>by
  rcases hc with rfl | hc
  ·exact .inl rfl
  ·exact .inr ⟨a,vs,rfl,w.h,hc⟩
 obtain rfl:=es.eq
 have hv:HasV K S H0 H (frzF F H a vs) (.ref a) (.fz true (.list (dss.map .list))):=by
  refine .lst ⟨by rw [Fin (.inl rfl)]; exact w.h,w.s⟩ (X4 (by rw [ζb]; exact n3) fun j v d h1 h2=>?_)
  obtain ⟨b,us,ds,rfl,ow,hd,kk⟩:=hk j v h1
  rw [ζG,hd] at h2
  cases h2
  exact .lst ⟨by rw [Fin (.inr (ζj h1))]; exact ow.h,ow.s⟩ (zq s kk)
 have eF:DEnv K S H0 F0 H (frzF F H a vs) σ (Γ.set i (some (.fz true (.list (dss.map .list))))):=by
  refine ⟨⟨e.gr.h,e.gr.f.trans s,le,fun c o hc hn=>?_⟩,e.l0,e.sd,e.s0,by simp [e.len],fun j f z=>?_,fun j k' x1 y1 v1 w1 b g1 g2 g3 g4 o1 o2=>?_⟩
  ·rw [Fout fun z=>by obtain ⟨us,ow⟩:=inn z; rw [ow.n] at hc; cases hc]
   exact e.gr.ap c o hc hn
  ·by_cases hj:j=i
   ·subst hj
    rw [ζt li] at z
    cases z
    exact ⟨_,q1,hv⟩
   ·rw [ζv (Ne.symm hj)] at z
    obtain ⟨u,r1,r2⟩:=e.has j f z
    refine ⟨u,r1,r2.frzG s fun c oc=>?_⟩
    by_cases zc:c=a∨V.ref c∈vs
    ·exact absurd (e.ne j i f _ u _ c z h' r1 q1 oc (own zc)) hj
    ·rw [Fout zc]
     obtain ⟨us,wo⟩:=r2.owns oc
     exact wo.f
  ·by_cases hj:j=i
   ·subst hj
    rw [ζt li] at g1
    cases g1
    exact o1.elim
   ·by_cases hk':k'=i
    ·subst hk'
     rw [ζt li] at g2
     cases g2
     exact o2.elim
    ·rw [ζv (Ne.symm hj)] at g1
     rw [ζv (Ne.symm hk')] at g2
     exact e.ne j k' x1 y1 v1 w1 b g1 g2 g3 g4 o1 o2
 refine ⟨_,fun c=>c=a∨V.ref c∈vs,eF,s,fun c hc=>?_,fun c hc=>Fout hc⟩
 obtain ⟨us,ow⟩:=inn hc
 exact ⟨ow.f,us,by rw [Fin hc]; exact ow.h⟩
theorem zdF {r:Option Addr} {t:TS} (i:Nat) {dss:List (List PyData)} (h:GetC Γ i (.o2 r dss)) (es:SetC Γ i (some (.fz true (.list (dss.map .list)))) Γ') (k:ExT K S S' t Γ' P):ExT K S S' t Γ P:=fun H0 F0 H F σ B e bb vv D I=>by
 obtain ⟨Ff,A,eF,s,_⟩:=e.frz2 h es
 exact k H0 F0 H _ σ B eF (bb.trans s) vv D I
theorem thaw {H0 F0 H F:Hp} {σ:St} {i:Nat} {ds:List PyData} {Γf:Ctx} (e:DEnv K S H0 F0 H F σ Γ) (h:GetC Γ i (.ow κ ds)) (es:SetC Γ i (some (.fz κ (.list ds))) Γf) :
  ∃ a Ff,DEnv K S H0 F0 H Ff σ Γf∧∀ H' F',Gr H Ff H' F'→Gr H F H' (drop (fun c=>c=a) F'):=by
 obtain ⟨v,q1,a,vs,rfl,w,q5⟩:=e.has i _ h.eq
 obtain ⟨s,e'⟩:=e.froz (y:=.fz κ (.list ds)) h.eq q1 rfl w (.lst (LN.new w.s) (zq (Same.new w.f _) q5)) fun _ z=>z.elim
 rw [es.eq] at e'
 refine ⟨a,_,e',fun H' F' g=>⟨g.h,fun c o z=>ym.mpr ⟨g.f _ _ (s _ _ z),?_⟩,fun c o z=>g.le _ _ (ym.mp z).1,fun c o z n=>?_⟩⟩
 ·rintro ⟨rfl,_⟩
  rw [w.f] at z; cases z
 ·by_cases hc:c=a
  ·subst hc
   exact uW (g.f _ _ zi) rfl
  ·cases q':drop (fun c=>c=a) F' c with
   | none=>rfl
   | some o' =>
    have:=(ym.mp q').1
    rw [g.ap _ _ z (by rw [zm hc]; exact n)] at this; cases this
theorem XA (i:Nat) {t:TT} {b:Bool} {ds:List PyData} {Γf:Ctx} (h:GetC Γ i (.ow κ ds)) (es:SetC Γ i (some (.fz κ (.list ds))) Γf) (k:EvT K S t Γf b):EvT K S t Γ b:=fun H0 F0 H F σ e Q q=>by
 obtain ⟨a,Ff,e',g⟩:=thaw e h es
 exact k H0 F0 H Ff σ e' Q fun H' F' g'=>q H' _ (g H' F' g')
theorem xz {α:Type} {js:List (Option Nat)} {Γc:Ctx} {wi:TI} {g:TG} {te:TE} {is:List Nat} {xs:List α} (κ':Bool) (u f:α→PyData) (hu:∀ x∈xs,∀ y∈xs,u x=u y→f x=f y) (hi:EvI K S κ' wi Γ (xs.map u)) (hc:x2 js Γ Γc) (hjs:(is.all fun i=>js[i]? == some none)=true)
  (hj:(js.filterMap id).Nodup) (hz:xs.length≤sizeLine) (hb:∀ x∈xs,ExG K S κ' g is (u x) Γc fun Γ'=>EvE K S κ te Γ' (f x)):EvO K S κ (uf js wi g tYes te) Γ (xs.map f):=by
 classical
 let F:PyData→PyData:=fun d=>if h:∃ x,x∈xs∧u x=d then f h.choose else .none
 have hF:∀ x∈xs,F (u x)=f x:=fun x hx=>by
  have h:∃ y,y∈xs∧u y=u x:=⟨x,hx,rfl⟩
  show (if h:∃ y,y∈xs∧u y=u x then f h.choose else .none)=_
  rw [dif_pos h]
  exact hu _ h.choose_spec.1 _ hx h.choose_spec.2
 refine EvO.eq (zbs (κ:=κ) κ' F hi hc hjs hj (by rw [ζb]; exact hz) fun d hd=>?_) ?_
 ·obtain ⟨x,hx,rfl⟩:=ζr.mp hd
  rw [hF x hx]
  exact hb x hx
 ·rw [ζR]
  exact ξG fun x hx=>hF x hx
theorem zcL:sizeLine < 2 ^ 62:=by decide
theorem vV {α:Type} {f:Nat→α} {n:Nat}:((List.range n).map f).length=n:=by rw [ζb,ζy]
theorem zcq {α:Type} {f:Nat→α} {n k:Nat} (h:k < n):((List.range n).map f)[k]?=some (f k):=by
 rw [ζG,ξH h]
 rfl
theorem YW {α:Type} {f:Nat→α} {n k:Nat} {x:α} (h:((List.range n).map f)[k]?=some x):k < n∧x=f k:=by
 have hk:k < n:=by
  have:=(ζc.mp h).1
  rwa [vV] at this
 rw [zcq hk] at h
 cases h
 exact ⟨hk,rfl⟩
end
end PD
namespace L2
open PySem PySem.Spec PyProof.Rows
section
variable {P:Program} {w:World} {H H':Hp} {h h':Heap}
end
section
variable {P:Program} {w:World} {outer:List Env} {H H':Hp} {s s':Shared} {C a:Addr} {B:Heap} {t:Value}
end
section
variable {X:Cx} {E:XK} {x:Str} {C:Addr} {e0:Expr} {es:List Expr} {ta:TA} {np cpos pos:Pos}
end
end L2
namespace L2
open PySem PySem.Spec PyProof.Rows PySem.W PySem.Builtin PySem.Builtin.ObjectAttr PySem.Builtin.Getset_descriptor
section
variable {prog:Program} {w:World} {A:Around} {E:Value→Shared→Prop} {s:Shared} {K:Frag} {a C:Addr} {o:Obj}
end
end L2
namespace L2
open PySem PySem.Spec PyProof.Rows PySem.W
section
variable {X:Cx} {K:Frag}
end
section
variable {M:Model} {A:Around} {E:Value→Shared→Prop} {s:Shared} {env:Env}
end
section
variable {X:Cx} {pins:List (Addr×Obj)} {σ:St} {H:Hp} {s:Shared}
end
section
variable {M:Model} {A:Around} {E:Value→Shared→Prop} {s:Shared} {K:Frag} {a C D:Addr}
end
section
variable {X:Cx} {pins:List (Addr×Obj)} {σ:St} {H:Hp} {s:Shared}
end
section
variable {X:Cx} {k:Nat} {ps:List Str} {sp:Sp} {x y n:Str} {p np cpos epos hpos tpos:Pos} {e:Expr} {es:List Expr} {ta:TA} {C D:Addr} {i:Nat} {b0:Stmt} {suite:List Stmt} {th:TS}
end
end L2
namespace L2
open PySem PySem.Spec PyProof.Rows
section
variable {P:Program} {w:World} {K:ζa} {mg:Str→Option Value} {base:Heap}
end
end L2
namespace PD
open PySem L2
section
variable {K:ζa} {S S':Sx} {κ κ':Bool} {Γ Γ' Γ'':Ctx} {P:Post} {E:XK} {C:Addr}
end
end PD
namespace L2
open PySem PySem.Spec PyProof.Rows
section
variable {X:Cx} {K:ζa}
end
end L2
namespace PD
open PySem L2
section
variable {K:ζa} {S S':Sx} {κ κ':Bool} {Γ Γ' Γ'':Ctx} {P:Post} {E:XK} {C:Addr}
inductive Arg (K:ζa) (F:Hp):V→DV→Prop
 | dat {v:V} {d:PyData}:Dp K F v d→Arg K F v (.fz false d)
 | thg {a:Addr} {o:Addr→HO}:F a=some (o a)→Arg K F (.ref a) (.xn o)
inductive yK (K:ζa) (F:Hp):List V→List DV→Prop
 | nil:yK K F [] []
 | cons {v:V} {x:DV} {vs:List V} {xs:List DV}:Arg K F v x→yK K F vs xs→yK K F (v :: vs) (x :: xs)
theorem Arg.mono {F F':Hp} {v:V} {x:DV} (h:Arg K F v x) (s:Same F F'):Arg K F' v x:=by
 cases h with
 | dat h=>exact .dat (xa s h)
 | thg h=>exact .thg (s _ _ h)
theorem yK.mono {F F':Hp} (s:Same F F'):∀ {vs:List V} {xs:List DV},yK K F vs xs→yK K F' vs xs
 | _,_,.nil=>.nil
 | _,_,.cons h t=>.cons (Arg.mono h s) (yK.mono s t)
theorem yK.length {F:Hp}:∀ {vs:List V} {xs:List DV},yK K F vs xs→vs.length=xs.length
 | _,_,.nil=>rfl
 | _,_,.cons _ t=>congrArg (· + 1) (yK.length t)
theorem yK.get {F:Hp}:∀ {vs:List V} {xs:List DV} {i:Nat} {x:DV},yK K F vs xs→xs[i]?=some x→∃ v,vs[i]?=some v∧Arg K F v x
 | _,_,_,_,.nil,e=>by simp at e
 | _,_,0,_,.cons h _,e=>by simp at e; subst e; exact ⟨_,rfl,h⟩
 | _,_,i + 1,x,.cons _ t,e=>by
  obtain ⟨v,h1,h2⟩:=yK.get (i:=i) t (by simpa using e)
  exact ⟨v,by simpa using h1,h2⟩
theorem Arg.has {H F:Hp} {v:V} {x:DV} (h:Arg K F v x):HasV K .fresh H H F v x:=by
 cases h with
 | dat h=>exact tq h
 | thg h=>exact ⟨_,rfl,h⟩
theorem Arg.noOwn {F H:Hp} {v w:V} {x:DV} {a:Addr} (h:Arg K F v x):¬ Owns H w x a:=by
 cases h <;> exact fun o=>o.elim
def spV (K:ζa) (κ:Bool) (pre:List DV→PyData→Prop):Sp:=fun vs H Q _=>∃ F xs d,Same F H∧yK K F vs xs∧pre xs d∧∀ v H' F',Gr H F H' F'→Rp K κ .fresh H F' v d→Q v H'
theorem zaH {pre:List DV→PyData→Prop} {n:Nat} (h:∀ xs d,pre xs d→xs.length=n) {vs:List V} {H:Hp} {Q:VK} (s:spV K κ pre vs H Q E):vs.length=n:=by
 obtain ⟨F,xs,d,_,k,p,_⟩:=s
 rw [k.length]
 exact h xs d p
inductive xc:Nat→List DV→Ctx→Prop
 | z:xc 0 [] []
 | no {n:Nat} {Γ:Ctx}:xc n [] Γ→xc (n + 1) [] (none :: Γ)
 | got {n:Nat} {x:DV} {xs:List DV} {Γ:Ctx}:xc n xs Γ→xc (n + 1) (x :: xs) (some x :: Γ)
theorem xc.len {n:Nat} {xs:List DV} {Γ:Ctx} (h:xc n xs Γ):Γ.length=n∧xs.length≤n:=by
 induction h with
 | z=>exact ⟨rfl,ζi _⟩
 | no _ ih=>exact ⟨by rw [ζ2,ih.1],ζE _⟩
 | got _ ih=>exact ⟨by rw [ζ2,ih.1],by rw [ζ2]; omega⟩
theorem xc.get {n:Nat} {xs:List DV} {Γ:Ctx} (h:xc n xs Γ):∀ {i:Nat} {x:DV},Γ[i]?=some (some x)→xs[i]?=some x:=by
 induction h with
 | z=>intro i x e; simp at e
 | no _ ih =>
  intro i x e
  cases i with
  | zero=>simp at e
  | succ i =>
   have:=ih (i:=i) (by simpa using e)
   simp at this
 | got _ ih =>
  intro i x e
  cases i with
  | zero=>simpa using e
  | succ i =>
   have:=ih (i:=i) (by simpa using e)
   simpa using this
theorem WP {H F:Hp} {N:List Str} {n:Nat} {vs:List V} {xs:List DV} (le:Same F H) (k:yK K F vs xs) (hn:N.length=n) (hΓ:xc n xs Γ):DEnv K .fresh H F H F (L2.start N vs) Γ:=by
 have l:=k.length
 have sl:=hΓ.len
 refine ⟨.refl le,le,fun a c=>?_,fun T z=>(nomatch z),by unfold L2.start; rw [List.length_append,List.length_map,List.length_replicate,sl.1]; omega,fun i x h=>?_,fun i j x y v w a h _ _ _ o=>?_⟩
 ·cases q:H a with
  | none=>exact absurd q c
  | some o=>exact ⟨o,rfl⟩
 ·obtain ⟨v,h1,h2⟩:=k.get (hΓ.get h)
  refine ⟨v,?_,h2.has⟩
  unfold L2.start
  have hi:=(ζc.mp h1).1
  rw [List.getElem?_append_left (by simpa using hi),List.getElem?_map,h1]
  rfl
 ·obtain ⟨v',_,h2⟩:=k.get (hΓ.get h)
  exact fun o'=>(h2.noOwn o).elim
theorem TU {t:TS} {N:List Str} {n:Nat} {H F:Hp} {vs:List V} {xs:List DV} {d:PyData} {Q:VK} (le:Same F H) (k:yK K F vs xs) (q:∀ v H' F',Gr H F H' F'→Rp K κ .fresh H F' v d→Q v H') (hn:N.length=n) (hΓ:xc n xs Γ)
  (h:ExS K .fresh t Γ { nx:=fun _=>d=.none,rt:=fun x=>x=d,kr:=κ }):t { nx:=fun _ H'=>Q .non H',rt:=Q } (L2.start N vs) H :=
 h H F H F _ F (WP le k hn hΓ) (.refl _) (.inl rfl) _ ⟨fun Γ' σ' H' F' n b e=>q _ H' F' e.gr (by rw [n]; exact .non),fun d' v H' F' r g p=>q v H' F' g (r ▸ p),fun _ _ _ _ z=>z.elim,fun _ _ _ _ z=>z.elim⟩
def EvV (K:ζa) (S:Sx) (t:TA) (Γ:Ctx) (xs:List DV):Prop:=∀ (H0 F0 H F:Hp) (σ:St),DEnv K S H0 F0 H F σ Γ→∀ Q:List V→Hp→Prop,(∀ vs H' F',Gr H F H' F'→yK K F' vs xs→Q vs H')→t σ H Q
theorem zbr:EvV K S tNil Γ []:=fun _ _ H F _ e Q q=>q [] H F (.refl e.le) .nil
theorem WI {t:TE} {u:TA} {d:PyData} {xs:List DV} (h:EvE K S false t Γ d) (k:EvV K S u Γ xs):EvV K S (ye t u) Γ (.fz false d :: xs):=fun H0 F0 H F σ e Q q =>
 h H0 F0 H F σ e _ fun v H1 F1 g1 p1=>k H0 F0 H1 F1 σ (e.mono g1) _ fun vs H2 F2 g2 p2=>q _ H2 F2 (g1.trans g2) (.cons (.dat (xa g2.f (x4 p1))) p2)
theorem zbq {i:Nat} {u:TA} {o:Addr→HO} {xs:List DV} (h:GetC Γ i (.xn o)) (k:EvV K S u Γ xs):EvV K S (ye (tVar i) u) Γ (.xn o :: xs):=fun H0 F0 H F σ e Q q=>by
 obtain ⟨v,q1,a,rfl,q2⟩:=e.has i _ h.eq
 exact ⟨_,q1,k H0 F0 H F σ e _ fun vs H2 F2 g2 p2=>q _ H2 F2 g2 (.cons (.thg (g2.f _ _ q2)) p2)⟩
theorem zaa {pre:List DV→PyData→Prop} {t:TA} {xs:List DV} {d:PyData} (h:EvV K S t Γ xs) (hp:pre xs d):EvE K S κ (u0 (spV K true pre) [] E t) Γ d:=fun H0 F0 H F σ e Q q =>
 h H0 F0 H F σ e _ fun vs H1 F1 g1 p1=>⟨F1,xs,d,g1.le,by rw [ζJ]; exact p1,hp,fun v H2 F2 g2 p2=>q v H2 F2 (g1.trans g2) (vC (κ:=true) (fun _=>rfl) (wc (κ:=true) (κ':=true) (S':=S) (H0':=H0) (fun a xs z=>⟨z.1,fun c=>by
  obtain ⟨u,hu⟩:=(e.mono g1).sd a c
  exact z.2 (by show H1 a≠none; rw [hu]; simp)⟩) (fun _ _ z=>z) p2))⟩
end
section
variable {K:ζa} {S S':Sx} {κ κ':Bool} {Γ Γ' Γ'':Ctx} {P:Post} {E:XK}
theorem DEnv.newOwn {H0 F0 H F H' F':Hp} {σ:St} {b:Addr} (e:DEnv K S H0 F0 H F σ Γ) (g:Gr H F H' F') (hb:H b=none) (j:Nat) (f:DV) (u:V) (z:Γ[j]?=some (some f)) (r:σ[j]?=some (some u)):¬ Owns H' u f b:=fun o=>by
 obtain ⟨u',q1,q2⟩:=e.has j f z
 rw [r] at q1
 cases q1
 obtain ⟨us,w⟩:=q2.owns (o.back q2 fun _ _ z=>g.h _ _ z.h)
 have:=w.h
 rw [hb] at this; cases this
def ExM (K:ζa) (t:TS) (Γ:Ctx) (G:Hp→Hp→Hp→Hp→V→Prop):Prop:=∀ (H0 F0 H F:Hp) (σ:St),DEnv K .fresh H0 F0 H F σ Γ→∀ D:Ends,(∀ v H' F',G H0 F0 H' F' v→D.rt v H')→t D σ H
theorem tK {t u:TS} {G:Hp→Hp→Hp→Hp→V→Prop} (N:Ctx→Prop) (h1:ExS K .fresh t Γ { nx:=N,rt:=fun _=>False }) (h2:∀ Γ',N Γ'→ExM K u Γ' G):ExM K (tSeq t u) Γ G:=fun H0 F0 H F σ e D q =>
 h1 H0 F0 H F σ F e (.refl _) (.inl rfl) _ ⟨fun Γ' σ' H' F' n _ e'=>h2 Γ' n H0 F0 H' F' σ' e' D q,fun _ _ _ _ z=>z.elim,fun _ _ _ _ z=>z.elim,fun _ _ _ _ z=>z.elim⟩
theorem zdv {t:TS} {N:List Str} {n:Nat} {H F:Hp} {vs:List V} {ds:List PyData} {G:Hp→Hp→Hp→Hp→V→Prop} {D:Ends} (le:Same F H) (k:zE K F vs ds) (q:∀ v H' F',G H F H' F' v→D.rt v H') (hn:N.length=n) (hΓ:xf n ds Γ) (h:ExM K t Γ G):t D (L2.start N vs) H:=by
 have e:=wQ (N:=N) le k
 rw [hn,hΓ.eq] at e
 exact h H F H F _ e D q
end
end PD
namespace L2
open PySem PySem.Spec PyProof.Rows
section
variable {X:Cx}
end
end L2
namespace PD
open PySem L2
section
variable {K:ζa} {S S':Sx} {κ κ':Bool} {Γ Γ' Γ'' Γ3:Ctx} {P:Post}
theorem yB {α:Type} {js:List (Option Nat)} {Γc:Ctx} {wi:TI} {g:TG} {tt:TT} {te:TE} {is:List Nat} {xs:List α} (κ':Bool) (u f:α→PyData) (p:α→Bool) (hu:∀ x∈xs,∀ y∈xs,u x=u y→f x=f y∧p x=p y) (hi:EvI K S κ' wi Γ (xs.map u)) (hc:x2 js Γ Γc) (hjs:(is.all fun i=>js[i]? == some none)=true)
  (hj:(js.filterMap id).Nodup) (hz:xs.length≤sizeLine) (hb:∀ x∈xs,ExG K S κ' g is (u x) Γc fun Γ'=>EvT K S tt Γ' (p x)∧(p x=true→EvE K S κ te Γ' (f x))):EvO K S κ (uf js wi g tt te) Γ ((xs.filter p).map f):=by
 classical
 let F:PyData→PyData:=fun d=>if h:∃ x,x∈xs∧u x=d then f h.choose else .none
 let G:PyData→Bool:=fun d=>if h:∃ x,x∈xs∧u x=d then p h.choose else false
 have ex:∀ x∈xs,∃ y,y∈xs∧u y=u x:=fun x hx=>⟨x,hx,rfl⟩
 have hF:∀ x∈xs,F (u x)=f x:=fun x hx=>by
  show (if h:∃ y,y∈xs∧u y=u x then f h.choose else .none)=_
  rw [dif_pos (ex x hx)]
  exact (hu _ (ex x hx).choose_spec.1 _ hx (ex x hx).choose_spec.2).1
 have hG:∀ x∈xs,G (u x)=p x:=fun x hx=>by
  show (if h:∃ y,y∈xs∧u y=u x then p h.choose else false)=_
  rw [dif_pos (ex x hx)]
  exact (hu _ (ex x hx).choose_spec.1 _ hx (ex x hx).choose_spec.2).2
 refine EvO.eq (Yv (κ:=κ) κ' G F hi hc hjs hj (by rw [ζb]; exact hz) fun d hd=>?_) ?_
 ·obtain ⟨x,hx,rfl⟩:=ζr.mp hd
  rw [hF x hx,hG x hx]
  exact hb x hx
 ·rw [List.filter_map,ζR]
  have e1:xs.filter (G∘u)=xs.filter p:=List.filter_congr fun x hx=>hG x hx
  rw [e1]
  exact ξG fun x hx=>hF x (ζp.mp hx).1
theorem Yu {js:List (Option Nat)} {Γc:Ctx} {ta:TA} {g:TG} {tt:TT} {te:TE} {is:List Nat} {n:Nat} (f:Nat→PyData) (p:Nat→Bool) (hi:EvA K S false ta Γ [.int n]) (hn:n≤sizeLine) (hc:x2 js Γ Γc) (hjs:(is.all fun i=>js[i]? == some none)=true)
  (hj:(js.filterMap id).Nodup) (hb:∀ k:Nat,k < n→ExG K S true g is (.int k) Γc fun Γ'=>EvT K S tt Γ' (p k)∧(p k=true→EvE K S κ te Γ' (f k))):EvO K S κ (uf js (QW ta) g tt te) Γ (((List.range n).filter p).map f) :=
 yB true (fun k:Nat=>.int (k:Int)) f p (fun x _ y _ h=>by cases Int.ofNat.inj (PyData.int.inj h); exact ⟨rfl,rfl⟩) (vK (n:=(n:Int)) hi (by omega) (by have:=zcL; omega)) hc hjs hj (by rw [ζy]; exact hn) fun k hk=>hb k (ζK.mp hk)
end
end PD
namespace L2
open PySem PySem.Spec PyProof.Rows
section
variable {X:Cx} {K:ζa}
def dd (ns:List Int):List Int:=ns.foldl step_dedup []
theorem Xt (ns:List Int):firstMet (fun i=>ns.getD i 0) ns.length=dd ns:=by
 unfold firstMet dd
 congr 1
 refine List.ext_getElem? fun i=>?_
 rw [ζG]
 by_cases h:i < ns.length
 ·rw [ξH h,ζm h]
  show some (ns.getD i 0)=_
  rw [ζe,ζm h]
  rfl
 ·rw [ξa (by rw [ζy]; omega),ξa (by omega)]
  rfl
theorem Ut (ns:List Int) (k:Int):dd (ns ++ [k])=step_dedup (dd ns) k:=by
 unfold dd
 rw [List.foldl_append]
 rfl
theorem VJ (ns:List Int):∀ k,k∈dd ns↔k∈ns:=by
 suffices h:∀ n,∀ k,k∈dd (ns.take n)↔k∈ns.take n by simpa using h ns.length
 intro n
 induction n with
 | zero=>intro k; rfl
 | succ n ih =>
  intro k
  by_cases hn:n < ns.length
  ·have e:ns.take (n + 1)=ns.take n ++ [ns[n]]:=by rw [List.take_succ,ζm hn]; rfl
   rw [e,Ut]
   unfold step_dedup
   split
   ·rename_i h
    obtain ⟨x,hx,ex⟩:=ξq.mp h
    have:=eq_of_beq ex
    subst this
    rw [ih,ζs]
    refine ⟨.inl,fun z=>?_⟩
    rcases z with z | z
    ·exact z
    ·rw [ζf.mp z]
     exact (ih _).mp hx
   ·rw [ζs,ζs,ih]
  ·rw [ζM (by omega)]
   have:=ih k
   rw [ζM (by omega)] at this
   exact this
theorem zak (ns:List Int):(dd ns).length≤ns.length:=by
 have:=length_foldl_step_dedup_le ns ([]:List Int)
 simpa [dd] using this
end
end L2
namespace PD
open PySem L2
section
variable {K:ζa} {S S':Sx} {κ κ':Bool} {Γ Γ' Γ'':Ctx} {P:Post}
theorem zdu {r:Option Addr} {i:Nat} {dss:List (List PyData)} {H0 F0 H F:Hp} {σ:St} {Γf:Ctx} (e:DEnv K S H0 F0 H F σ Γ) (h:GetC Γ i (.o2 r dss)) (es:SetC Γ i (some (.fz true (.list (dss.map .list)))) Γf) :
  ∃ (A:Addr→Prop) (Ff:Hp),DEnv K S H0 F0 H Ff σ Γf∧∀ H' F',Gr H Ff H' F'→Gr H F H' (drop A F'):=by
 obtain ⟨Ff,A,eF,s,hA,hN⟩:=e.frz2 h es
 refine ⟨A,Ff,eF,fun H' F' g=>⟨g.h,fun c o z=>ym.mpr ⟨g.f _ _ (s _ _ z),?_⟩,fun c o z=>g.le _ _ (ym.mp z).1,fun c o z n=>?_⟩⟩
 ·rintro ⟨hc,_⟩
  rw [(hA c hc).1] at z; cases z
 ·by_cases hc:A c
  ·obtain ⟨_,vs,q⟩:=hA c hc
   exact uW (g.f _ _ q) hc
  ·cases q':drop A F' c with
   | none=>rfl
   | some o' =>
    have:=(ym.mp q').1
    rw [g.ap _ _ z (by rw [hN c hc]; exact n)] at this; cases this
theorem zac (i:Nat) {r:Option Addr} {t:TT} {b:Bool} {dss:List (List PyData)} {Γf:Ctx} (h:GetC Γ i (.o2 r dss)) (es:SetC Γ i (some (.fz true (.list (dss.map .list)))) Γf) (k:EvT K S t Γf b):EvT K S t Γ b:=fun H0 F0 H F σ e Q q=>by
 obtain ⟨a,Ff,e',g⟩:=zdu e h es
 exact k H0 F0 H Ff σ e' Q fun H' F' g'=>q H' _ (g H' F' g')
def EvG (K:ζa) (S:Sx) (κ:Bool) (t:TE) (Γ:Ctx) (G:PyData→Prop):Prop:=∀ (H0 F0 H F:Hp) (σ:St),DEnv K S H0 F0 H F σ Γ→∀ Q:VK,(∀ d v H' F',G d→Gr H F H' F'→Rp K κ S H0 F' v d→Q v H')→t σ H Q
def spW (K:ζa) (κ:Bool) (pre:List PyData→(PyData→Prop)→Prop):Sp:=fun vs H Q _=>∃ F ds G,Same F H∧zE K F vs ds∧pre ds G∧∀ d v H' F',G d→Gr H F H' F'→Rp K κ .fresh H F' v d→Q v H'
theorem uh {pre:List PyData→(PyData→Prop)→Prop} {n:Nat} (h:∀ ds G,pre ds G→ds.length=n) {vs:List V} {H:Hp} {Q:VK} {E:XK} (s:spW K κ pre vs H Q E):vs.length=n:=by
 obtain ⟨F,ds,d,_,k,p,_⟩:=s
 rw [zE.length k]
 exact h ds d p
theorem xZ {pre:List PyData→(PyData→Prop)→Prop} {E:XK} {t:TA} {ds:List PyData} {G:PyData→Prop} (h:EvA K S false t Γ ds) (hp:pre ds G):EvG K S κ (u0 (spW K true pre) [] E t) Γ G:=fun H0 F0 H F σ e Q q =>
 h H0 F0 H F σ e _ fun vs H1 F1 g1 p1=>⟨F1,ds,G,g1.le,by rw [ζJ]; exact ya p1,hp,fun d v H2 F2 hd g2 p2=>q d v H2 F2 hd (g1.trans g2) (vC (κ:=true) (fun _=>rfl) (wc (κ:=true) (κ':=true) (S':=S) (H0':=H0) (fun a xs z=>⟨z.1,fun c=>by
  obtain ⟨u,hu⟩:=(e.mono g1).sd a c
  exact z.2 (by show H1 a≠none; rw [hu]; simp)⟩) (fun _ _ z=>z) p2))⟩
theorem exg {te:TE} {u:TS} {i:Nat} {G:PyData→Prop} {Γ':PyData→Ctx} (κ:Bool) (h:EvG K S κ te Γ G) (es:∀ d,SetC Γ i (some (.fz κ d)) (Γ' d)) (k:∀ d,G d→ExT K S S' u (Γ' d) P):ExT K S S' (tSeq (tAsg te (y9 i)) u) Γ P :=
 yJ (fun Γ1=>∃ d,G d∧Γ1=Γ' d) (fun H0 F0 H F σ B e b _ D I=>h H0 F0 H F σ e _ fun d v H' F' hd g p=>I.nx _ _ H' F' ⟨d,hd,rfl⟩ (b.trans g.f) (by rw [← (es d).eq]; exact (e.mono g).setF p)) fun Γ1 ⟨d,hd,z⟩=>z ▸ k d hd
theorem wU {t:TS} {N:List Str} {n:Nat} {H F:Hp} {vs:List V} {ds:List PyData} {G:PyData→Prop} {Q:VK} {Γ:Ctx} (le:Same F H) (k:zE K F vs ds) (q:∀ d v H' F',G d→Gr H F H' F'→Rp K κ .fresh H F' v d→Q v H') (hn:N.length=n) (hΓ:xf n ds Γ)
  (h:ExS K .fresh t Γ { nx:=fun _=>False,rt:=G,kr:=κ }):t { nx:=fun _ H'=>Q .non H',rt:=Q } (L2.start N vs) H:=by
 have e:=wQ (N:=N) le k
 rw [hn,hΓ.eq] at e
 exact h H F H F _ F e (.refl _) (.inl rfl) _ ⟨fun _ _ _ _ z=>z.elim,fun d v H' F' r g p=>q d v H' F' r g p,fun _ _ _ _ z=>z.elim,fun _ _ _ _ z=>z.elim⟩
end
end PD
namespace L2
open PySem
def Rise (xs:Array Nat):Prop:=xs.toList.Pairwise (· < ·)
theorem Rise.lt {xs:Array Nat} (r:Rise xs) {i j:Nat} (h:i < j) (hj:j < xs.size):xs[i]'(by omega) < xs[j]:=by
 have:=List.pairwise_iff_getElem.mp r i j (by simp; omega) (by simpa using hj) h
 simpa using this
theorem Zw (xs:Array Nat) (r:Rise xs) (j:Nat):∀ (fuel lo hi:Nat),lo≤hi→hi≤xs.size→hi - lo≤fuel →
  (∀ i (h:i < xs.size),i < lo→xs[i] < j)→(∀ i (h:i < xs.size),hi≤i→j≤xs[i]) →
  SetTable.below.go xs j fuel lo hi≤xs.size∧(∀ i (h:i < xs.size),i < SetTable.below.go xs j fuel lo hi→xs[i] < j)∧∀ i (h:i < xs.size),SetTable.below.go xs j fuel lo hi≤i→j≤xs[i]
 | 0,lo,hi,h1,h2,h3,a,b=>by
  have:lo=hi:=by omega
  subst this
  exact ⟨h2,a,b⟩
 | f + 1,lo,hi,h1,h2,h3,a,b=>by
  unfold SetTable.below.go
  by_cases hl:lo < hi
  ·rw [if_pos hl]
   dsimp only
   have hm:(lo + hi) / 2 < xs.size:=by omega
   have eg:xs.getD ((lo + hi) / 2) j=xs[(lo + hi) / 2]:=by simp [hm]
   rw [eg]
   by_cases hx:xs[(lo + hi) / 2] < j
   ·rw [if_pos hx]
    refine Zw xs r j f _ _ (by omega) h2 (by omega) (fun i hi' hlt=>?_) b
    by_cases e:i=(lo + hi) / 2
    ·subst e; exact hx
    ·exact Nat.lt_trans (r.lt (show i < (lo + hi) / 2 by omega) hm) hx
   ·rw [if_neg hx]
    refine Zw xs r j f _ _ (by omega) (by omega) (by omega) a fun i hi' hle=>?_
    by_cases e:i=(lo + hi) / 2
    ·subst e; omega
    ·have:=r.lt (show (lo + hi) / 2 < i by omega) hi'
     omega
  ·rw [if_neg hl]
   have:lo=hi:=by omega
   subst this
   exact ⟨h2,a,b⟩
theorem zau (xs:Array Nat) (r:Rise xs) (j:Nat):SetTable.below xs j≤xs.size∧(∀ i (h:i < xs.size),i < SetTable.below xs j→xs[i] < j)∧∀ i (h:i < xs.size),SetTable.below xs j≤i→j≤xs[i] :=
 Zw xs r j _ _ _ (ζE _) (ζi _) (by omega) (fun _ _ h=>by omega) fun i h z=>by omega
structure TOk (b:Bool) (t:SetTable):Prop where
 led:t.led=b
 rise:Rise t.place
 dum:t.dummies=#[]
theorem TOk.fresh {b:Bool} {f m:Nat}:TOk b (.fresh f m b):=⟨rfl,List.Pairwise.nil,rfl⟩
theorem TOk.plain {b c:Bool} {t:SetTable} (h:TOk b t):TOk b { t with plain:=c }:=⟨h.led,h.rise,h.dum⟩
theorem TOk.standIn {b:Bool} {t:SetTable} (h:TOk b t) (n:Nat):TOk b (t.standIn n):=⟨h.led,by
 show (Array.range n).toList.Pairwise (· < ·)
 rw [Array.toList_range]
 exact ξN,rfl⟩
theorem TOk.orStandIn {b:Bool} {t:SetTable} (h:TOk b t) (n:Nat):TOk b (t.orStandIn n):=by
 unfold SetTable.orStandIn
 split
 ·exact h
 ·exact h.standIn n
theorem Uc (j:Nat):SetTable.has #[] j=false:=rfl
theorem zaK {t:SetTable} {j:Nat} (h:t.slot j=.empty):t.place[SetTable.below t.place j]?≠some j:=by
 intro z
 unfold SetTable.slot at h
 simp [z] at h
theorem u9 {t:SetTable} {b:Bool} (ht:TOk b t) {g:Nat→Int} {h:Int}:∀ (n:Nat) (p:SetTable.Probe) {j:Nat} {d:Option Nat},p.dummy=none→SetTable.probe.go t g h n p=some (.empty j d)→d=none∧t.slot j=.empty
 | 0,p,j,d,_,e=>by cases e
 | n + 1,p,j,d,hp,e=>by
  unfold SetTable.probe.go at e
  split at e
  ·rename_i hs
   injection e with e
   injection e with e1 e2
   subst e1
   exact ⟨e2 ▸ hp,hs⟩
  ·rename_i hs
   exfalso
   unfold SetTable.slot at hs
   rw [ht.dum] at hs
   simp only [Uc] at hs
   split at hs <;> simp at hs
  ·split at e
   ·cases e
   ·refine u9 ht n _ ?_ e
    unfold SetTable.advance
    split
    ·exact hp
    ·exact hp
theorem zcv {b:Bool} {t:SetTable} (h:TOk b t) {j:Nat} (hj:t.slot j=.empty):TOk b (t.put j).1:=by
 refine ⟨h.led,?_,by show (if SetTable.has t.dummies j=true then _ else _)=_; rw [h.dum,Uc]; rfl⟩
 have hn:=zaK hj
 obtain ⟨a,b,c⟩:=zau t.place h.rise j
 show (SetTable.insertAt t.place (SetTable.below t.place j) j).toList.Pairwise (· < ·)
 generalize SetTable.below t.place j=p at *
 rw [SetTable.toList_insertAt,List.pairwise_append]
 have hr:t.place.toList.Pairwise (· < ·):=h.rise
 refine ⟨hr.sublist (List.take_sublist _ _),?_,?_⟩
 ·rw [ζ3]
  refine ⟨fun x hx=>?_,hr.sublist (List.drop_sublist _ _)⟩
  obtain ⟨i,hi,rfl⟩:=ξA.mp hx
  rw [ξd,ζ0] at hi
  rw [List.getElem_drop,Array.getElem_toList]
  have:=c (p + i) (by omega) (by omega)
  by_cases z:i=0
  ·subst z
   have h2:t.place[p]≠j:=fun q=>hn (by rw [Array.getElem?_eq_getElem (by omega),q])
   simp only [Nat.add_zero] at this ⊢
   omega
  ·have h3:=h.rise.lt (show p < p + i by omega) (show p + i < t.place.size by omega)
   have h4:=c p (by omega) (ζi _)
   omega
 ·intro x hx y hy
  obtain ⟨i,hi,rfl⟩:=ξA.mp hx
  rw [ζS,ζ0] at hi
  rw [List.getElem_take,Array.getElem_toList]
  have h1:=b i (by omega) (by omega)
  rcases ζo.mp hy with rfl | hy
  ·exact h1
  ·obtain ⟨k,hk,rfl⟩:=ξA.mp hy
   rw [ξd,ζ0] at hk
   rw [List.getElem_drop,Array.getElem_toList]
   have:=c (p + k) (by omega) (by omega)
   omega
theorem UZ {b:Bool} {t:SetTable} (h:TOk b t) (es:Array (Int×Value)) (k:Int) (x:Value):TOk b (layNew t es k x).2.1:=by
 unfold layNew
 split
 ·rename_i slot wd e
  unfold SetTable.freeSlot at e
  split at e
  ·rename_i j d e2
   obtain ⟨rfl,hs⟩:=u9 h _ _ rfl e2
   injection e with e
   injection e with e3 _
   have e3:j=slot:=e3
   subst e3
   exact (zcv h hs).orStandIn _
  ·cases e
 ·exact h.standIn _
theorem X7 {b:Bool} {t:SetTable} (h:TOk b t) (es:Array (Int×Value)) (n:Nat):TOk b (relayAll t es n).2.1:=by
 unfold relayAll
 split
 ·rename_i t' order e
  dsimp only
  split
  ·unfold SetTable.relaid SetTable.laid at e
   simp only [Option.bind_eq_bind] at e
   obtain ⟨ow,_,e⟩:=ξ0.mp e
   injection e with e
   injection e with e1 e2
   subst e1
   refine ⟨h.led,?_,rfl⟩
   show List.Pairwise (· < ·) _
   dsimp only
   rw [ξv,List.pairwise_filterMap]
   refine ξN.imp fun {i j} hij x hx y hy=>?_
   obtain ⟨u,_,rfl⟩:=ξ5.mp hx
   obtain ⟨u',_,rfl⟩:=ξ5.mp hy
   exact hij
  ·exact h.standIn _
 ·exact h.standIn _
theorem t7 {α:Type} (next:Nat→Nat) (xs:Array α):(pickOrder next xs).toList.Perm xs.toList:=by
 suffices h:∀ (n k:Nat) (l:List α) (out:Array α),l.length=n→(pickOrder.go next n k l out).toList.Perm (out.toList ++ l) by
  have:=h xs.size 0 xs.toList #[] (by simp)
  simpa [pickOrder] using this
 intro n
 induction n with
 | zero =>
  intro k l out hl
  have:l=[]:=ζ6.mp hl
  subst this
  simp [pickOrder.go]
 | succ n ih =>
  intro k l out hl
  unfold pickOrder.go
  have hm:next k % l.length < l.length:=Nat.mod_lt _ (by omega)
  rw [ζm hm]
  dsimp only
  refine (ih _ _ _ (by rw [List.length_eraseIdx_of_lt hm]; omega)).trans ?_
  rw [Array.toList_push,ζX]
  refine List.Perm.append_left _ ?_
  have e:l=l.take (next k % l.length) ++ l[next k % l.length] :: l.drop (next k % l.length + 1):=by
   rw [← ζ4 hm,ξk]
  conv=>rhs; rw [e]
  rw [List.eraseIdx_eq_take_drop_succ,List.singleton_append]
  exact List.perm_middle.symm
end L2
namespace L2
open PySem PySem.Spec PyProof.Rows
def IsE (e:Int×Value):Prop:=∃ k t,e=(hashInt k,.int k t)
def kOf (e:Int×Value):Int:=match e.2 with | .int k _=>k | _=>0
def SetI (b:Bool) (a:Addr) (l:List Int) (h:Heap):Prop :=
 ∃ o es ep t,h.get? a=some o∧o.ExactSet∧o.data=.set es ep t∧(∀ e∈es.toList,IsE e)∧(es.toList.map kOf).Perm l∧es.size < scanBound∧t.fits es.size=true∧TOk b t
section
variable {prog:Program} {w:World} {A:Around} {E:Value→Shared→Prop} {s:Shared} {b:Bool} {a:Addr} {l:List Int}
theorem SetI.at {h h':Heap} (x:SetI b a l h) (e:∀ o,h.get? a=some o→h'.get? a=some o):SetI b a l h' :=
 let ⟨o,es,ep,t,ho,r⟩:=x
 ⟨o,es,ep,t,e o ho,r⟩
theorem IsE.elems {es:List (Int×Value)} (h:∀ e∈es,IsE e):ElemsOf (intKind prog w) es:=fun e he=>by
 obtain ⟨k,t,rfl⟩:=h e he
 exact ⟨⟨k,intKind_is _ _ k t,rfl⟩,rfl⟩
theorem IsE.is {e:Int×Value} (h:IsE e) (k:Int):(intKind prog w).is k e.2=true↔kOf e=k:=by
 obtain ⟨j,t,rfl⟩:=h
 constructor
 ·intro z
  exact ((intKind prog w).inj _ _ _ z (intKind_is _ _ j t)).symm
 ·intro z
  have z:j=k:=z
  subst z
  exact intKind_is _ _ j t
theorem W2 {o:Obj} {es:Array (Int×Value)} {ep:Nat} {t:SetTable} {h:Heap} (ho:h.get? a=some o) (hd:o.data=.set es ep t) (es':Array (Int×Value)) (t':SetTable) :
  (h.update a (Obj.putSet es' t')).get? a=some { o with data:=.set es' (ep + 1) t' }:=by
 have q:=Heap.get?_update_self (Obj.putSet es' t') ho (by rw [putSet_of _ _ hd]; rfl)
 rwa [putSet_of _ _ hd] at q
theorem zbO {g:Bool→Sem Unit} (hg:∀ (c:Bool) (s₁:Shared) (R:Unit→Shared→Prop),R () s₁→wpAny (model prog w) A (g c) R E s₁)
  {o:Obj} {es:Array (Int×Value)} {ep:Nat} {t:SetTable} (ho:s.heap.get? a=some o) (hex:o.ExactSet) (hd:o.data=.set es ep t)
  {es1:Array (Int×Value)} {t2:SetTable} (he:∀ e∈es1.toList,IsE e) (hp:(es1.toList.map kOf).Perm l) (hz:es1.size < scanBound) (hf:t2.fits es1.size=true) (ht:TOk b t2) {wd:Bool} {R:Option Bool→Shared→Prop}
  (k:∀ h',Heap.SameBut a s.heap h'→SetI b a l h'→R (some true) { s with heap:=h' }) :
  wpAny (model prog w) A (do
   storeSet a es1 t2
   if (!wd && t2.tooFull)=true then do
    g (relayAll t2 es1 (SetTable.grown es1.size)).2.2; storeSet a (relayAll t2 es1 (SetTable.grown es1.size)).1 (relayAll t2 es1 (SetTable.grown es1.size)).2.1; pure (some true)
   else pure (some true)) R E s:=by
 refine wpAny_bind (wpAny_storeSet_of ho hd ?_ (fits_of_scanBound hz))
 have g1:=W2 ho hd es1 t2
 have u1:=Heap.SameBut.update s.heap a (Obj.putSet es1 t2)
 split
 ·have hr:=relayAll_perm t2 es1 (SetTable.grown es1.size)
  have hq:=relayAll_fits t2 es1 (SetTable.grown es1.size)
  have hk:=X7 ht es1 (SetTable.grown es1.size)
  generalize relayAll t2 es1 (SetTable.grown es1.size)=Z at hr hq hk ⊢
  obtain ⟨es2,t3,gv⟩:=Z
  dsimp only at hr hq hk ⊢
  have z2:es2.size=es1.size:=by have:=hr.length_eq; simpa using this
  refine wpAny_bind (hg _ _ _ ?_)
  refine wpAny_bind (wpAny_storeSet_of g1 rfl ?_ (fits_of_scanBound (by rw [z2]; exact hz)))
  exact wpAny_pure (k _ (u1.trans (Heap.SameBut.update _ a _)) ⟨_,es2,_,t3,W2 g1 rfl es2 t3,hex,rfl,fun e x=>he e (hr.mem_iff.mp x),(hr.map kOf).trans hp,by rw [z2]; exact hz,hq,hk⟩)
 ·exact wpAny_pure (k _ u1 ⟨_,es1,_,t2,g1,hex,rfl,he,hp,hz,hf,ht⟩)
theorem addI {k:Int} {tk:Tok} {Q:Bool→Shared→Prop} (hS:SetI b a l s.heap) (hl:l.length + 1 < scanBound)
  (h:∀ (r:Bool) h',Heap.SameBut a s.heap h'→SetI b a (step_dedup l k) h'→Q r { s with heap:=h' }) :
  wpAny (model prog w) A (setAddHashed a (.int k tk) (hashInt k)) Q E s:=by
 obtain ⟨o,es,ep,t,ho,hex,hd,hE,hp,hz,hf,ht⟩:=hS
 have hel:ElemsOf (intKind prog w) es.toList:=IsE.elems hE
 have hn:es.size=l.length:=by have:=hp.length_eq; simpa using this
 have hm:∀ k',k'∈l↔∃ e∈es.toList,(intKind prog w).is k' e.2=true:=fun k'=>by
  rw [← hp.mem_iff,ζr]
  exact ⟨fun ⟨e,x,y⟩=>⟨e,x,((hE e x).is k').mpr y⟩,fun ⟨e,x,y⟩=>⟨e,x,((hE e x).is k').mp y⟩⟩
 unfold setAddHashed setAddHashedIn
 refine wpAny_holding (wpAny_bind (wpAny_setState_of ho hd hf ?_))
 dsimp only
 rw [byScan_of (knd:=intKind prog w) (x:=.int k tk) rfl hz hel]
 simp only [↓reduceIte]
 unfold setAddByScan
 refine wpAny_bind (wpAny_bind (wpAny_rule ?_))
 refine wpAny_bind (wpAny_setScan_of (knd:=intKind prog w) (k:=k) (intKind_is _ _ k tk) ho hd hf hel ?_)
 cases hr:List.findIdx? (fun e=>(intKind prog w).is k e.2) es.toList with
 | some j =>
  dsimp only
  obtain ⟨hj,hpj,_⟩:=List.findIdx?_eq_some_iff_getElem.mp hr
  have hk:k∈l:=(hm k).mpr ⟨es.toList[j],ξ4 hj,hpj⟩
  have e1:step_dedup l k=l:=by unfold step_dedup; rw [if_pos (List.any_eq_true.mpr ⟨k,hk,by simp⟩)]
  have q:=h false s.heap (Heap.SameBut.refl a s.heap) (e1.symm ▸ ⟨o,es,ep,t,ho,hex,hd,hE,hp,hz,hf,ht⟩)
  exact wpAny_pure (wpAny_pure q)
 | none =>
  dsimp only
  have hk:k∉l:=fun z=>by
   obtain ⟨e,he,hpe⟩:=(hm k).mp z
   have q:=List.findIdx?_eq_none_iff.mp hr e he
   rw [hpe] at q; cases q
  have e1:step_dedup l k=l ++ [k]:=by
   unfold step_dedup
   refine if_neg fun z=>?_
   obtain ⟨x,hx,ex⟩:=ξq.mp z
   exact hk (eq_of_beq ex ▸ hx)
  have hgw:∀ (c:Bool) {s₁:Shared} {R:Unit→Shared→Prop},R () s₁→wpAny (model prog w) A (match c with | true=>rule "set.scan.the-table-gave-way" | false=>pure ()) R E s₁:=fun c s₁ R q=>by
   cases c
   ·exact wpAny_pure q
   ·exact wpAny_rule q
  have hperm:=layNew_perm t es (hashInt k) (.int k tk)
  have hfits:=layNew_fits t es (hashInt k) (.int k tk)
  have hok:=UZ ht es (hashInt k) (.int k tk)
  show wpAny _ _ (let (es,t,wasDummy,gave):=layNew t es (hashInt k) (.int k tk); _) _ _ _
  generalize layNew t es (hashInt k) (.int k tk)=Z at hperm hfits hok ⊢
  obtain ⟨es1,t1,wd,gv⟩:=Z
  dsimp only at hperm hfits hok ⊢
  rw [Array.toList_push] at hperm
  have hE1:∀ e∈es1.toList,IsE e:=fun e he=>by
   rcases ζs.mp (hperm.mem_iff.mp he) with z | z
   ·exact hE e z
   ·rw [ζf.mp z]; exact ⟨k,tk,rfl⟩
  have hp1:(es1.toList.map kOf).Perm (l ++ [k]):=by
   refine (hperm.map kOf).trans ?_
   rw [ζn]
   exact hp.append_right _
  have hz1:es1.size < scanBound:=by
   have q:=hp1.length_eq
   rw [ζb,ζ0,ζd] at q
   have:es1.size=l.length + 1:=q
   omega
  refine wpAny_bind (hgw _ ?_)
  have kk:∀ h',Heap.SameBut a s.heap h'→SetI b a (l ++ [k]) h'→Q true { s with heap:=h' }:=fun h' u v=>h true h' u (e1.symm ▸ v)
  split
  ·refine wpAny_bind ?_
   rw [hashByValue_scannable 8 (x:=.int k tk) rfl]
   refine wpAny_pure ?_
   refine zbO ?_ ho hex hd hE1 hp1 hz1 ?_ ?_ fun h' u v=>wpAny_pure (kk h' u v)
   ·exact fun c s₁ R q=>hgw c q
   ·split
    ·exact hfits
    ·exact SetTable.fits_plain_off hfits
   ·split
    ·exact hok
    ·exact hok.plain
  ·refine wpAny_bind (wpAny_pure ?_)
   simp only [↓reduceIte]
   refine zbO ?_ ho hex hd hE1 hp1 hz1 hfits hok fun h' u v=>wpAny_pure (kk h' u v)
   exact fun c s₁ R q=>hgw c q
end
section
variable {prog:Program} {w:World} {A:Around} {E:Value→Shared→Prop} {s:Shared} {b:Bool} {a I:Addr} {l:List Int}
end
section
variable {prog:Program} {w:World} {A:Around} {E:Value→Shared→Prop} {s:Shared} {b:Bool} {a I T:Addr} {l:List Int}
theorem zaB {R:Result→Shared→Prop} {fp wr:List Addr} {G:Array GenState→Array GenState→Prop} {n:Nat} {P:Nat→Value→Prop} {St:Nat→Shared→Prop} (W:WalksS prog w A.in1 I fp wr G n P St) (S:Addr) (hSf:S∉fp)
  (val:Nat→Int) (hval:∀ i v,P i v→∃ t,v=.int (val i) t) (hz:n + 1 < scanBound) :
  ∀ (k i:Nat) (s:Shared),n - i=k→i≤n→St i s→SetI b S (firstMet val i) s.heap→(∀ s',Moved (S :: wr) G s s'→SetI b S (firstMet val n) s'.heap→R (.ok (.ret .none)) s') →
   codeAny (model prog w) A (.builtin "set.update.loop" ⟨[.ref S,.ref I],[]⟩) R s:=by
 have hSw:S∉wr:=fun h=>hSf (W.sub _ h)
 have sb:∀ c∈wr,c∈S :: wr:=fun c=>ζl _
 intro k
 induction k with
 | zero =>
  intro i s hk hi st hS hR
  obtain rfl:i=n:=by omega
  refine codeAny_builtin F.entry_set_update_loop ?_
  rw [Around.under_plainId F.plain_set_update_loop _]
  show wpAny _ A.in1 (pyNext (.ref I) >>= _) _ _ s
  refine wpAny_bind (W.done s _ _ st fun s' hm=>wpAny_pure (hR s' (hm.mono sb) (hS.at fun o z=>hm.heap S o hSw z)))
 | succ k ih =>
  intro i s hk hi st hS hR
  have hlt:i < n:=by omega
  refine codeAny_builtin F.entry_set_update_loop ?_
  rw [Around.under_plainId F.plain_set_update_loop _]
  show wpAny _ A.in1 (pyNext (.ref I) >>= _) _ _ s
  refine wpAny_bind (W.item i s _ _ hlt st fun v s' hP st' hm=>?_)
  obtain ⟨t,rfl⟩:=hval i v hP
  have hS':SetI b S (firstMet val i) s'.heap:=hS.at fun o z=>hm.heap S o hSw z
  show wpAny _ A.in1 (holding [Value.int (val i) t] (setAdd S (.int (val i) t)) >>= _) _ _ s'
  refine wpAny_bind (wpAny_holding ?_)
  unfold setAdd
  refine wpAny_holding (wpAny_bind ((intKind prog w).pyHash (k:=val i) (intKind_is _ _ _ _) ?_))
  have room:(firstMet val i).length + 1 < scanBound:=by have:=firstMet_length_le val i; omega
  refine addI (s:={ s' with toks:=s'.toks + 1 }) hS' room fun r h' u hS2=>?_
  rw [← firstMet_succ] at hS2
  refine wpAny_pure ⟨plainId_quiet F.plain_set_update_loop _,ih (i + 1) _ (by omega) hlt (W.frame _ s' _ _ st' (Nat.le_succ _) fun c hc o z=>?_) hS2 fun s'' hm'' hS''=>?_⟩
  ·rw [u.2 c fun q:c=S=>hSf (by rw [← q]; exact hc)]; exact z
  ·refine hR s'' (Moved.trans W.gtrans ((hm.mono sb).then_heap (Nat.le_succ _) fun c o hc z=>?_) hm'') hS''
   rw [u.2 c fun q:c=S=>hc (by rw [q]; exact .head _)]; exact z
theorem newI (x:Value) {Q₁:Value→Shared→Prop} (hb:w.params.followText "set-order" = b)
  (h:Q₁ (.ref s.heap.objs.size) { s with heap:=s.heap.push { cls:=.type "set", dict:=none,data:=.set #[] 0 (.fresh 0 0 (!b)) } }) :
  codeAny (model prog w) A (.call (.builtin "set.__new__") ⟨[.type "set", x],[]⟩) (wants Q₁ E) s:=by
 refine codeAny_of_tree ?_
 show wpAny _ A.in1 (do checkBuiltinCall "set.__new__" ⟨[.type "set", x],[]⟩; again (.builtin "set.__new__" ⟨[.type "set", x],[]⟩)) _ _ s
 refine wpAny_bind (wpAny_of_eq (F.newCall_set_1 x) (wpAny_pure ⟨plainId_quiet F.plain_set_new _,codeAny_builtin F.entry_set_new ?_⟩))
 rw [Around.under_plainId F.plain_set_new _]
 unfold Builtin.«set.__new__» Builtin.Frozenset.newClass
 have hsub:=sub_set_self
 obtain ⟨hp,g,d,tk,os⟩:=s
 dsimp only
 wp_walk
 refine wpAny_askSetting (wpAny_pure ?_)
 dsimp only
 simp only [newObj]
 refine wpAny_bind (wpAny_alloc (wpAny_pure (wpAny_pure ?_)))
 rw [show (model prog w).w.params.followText "set-order" = b from hb]
 exact h
set_option maxHeartbeats 3200000 in
theorem zcn {L:Addr} {items:Array Value} {ns:List Int} {Q:Value→Shared→Prop} (hh:A.handled=none) (hb:w.params.followText "set-order" = b) (hl:s.heap.IsList L items) (hi:IntsAre items.toList ns) (hz:items.size + 1 < scanBound)
  (k:∀ (h':Heap) (tk:Nat),SetI (!b) s.heap.objs.size (firstMet (fun i=>ns.getD i 0) items.size) h'→(∀ c o,s.heap.get? c=some o→h'.get? c=some o)→Q (.ref s.heap.objs.size) { s with heap:=h',toks:=tk }) :
  wpAny (model prog w) A (call (.type "set") [.ref L]) Q E s:=by
 obtain ⟨c,tl,hmro⟩:=F.called_set.mro
 have hmade:=F.called_set.made
 have hsub:=F.called_set.sub
 refine wpAny_call (codeAny_of_tree ?_)
 show wpAny _ _ (callAny (.type "set") _) _ _ _
 refine wpAny_pure ⟨Code.quiet_builtin _ (by decide +kernel),codeAny_builtin F.entry_type_call ?_⟩
 rw [Around.under_plain (weight_type_call_type "set" [.ref L] []) rfl]
 have h1:=F.called_set.notType
 have h2:=F.called_set.canCreate
 have hct:=F.typeCall_set_1 (.ref L)
 repeat (any_goals (first | assumption | wp_step))
 refine codeAny_mono (newI (.ref L) (E:=E) hb (Q₁:=fun x s₁=>x=.ref s.heap.objs.size∧s₁={ s with heap:=s.heap.push { cls:=.type "set", dict:=none,data:=.set #[] 0 (.fresh 0 0 (!b)) } }) ⟨rfl,rfl⟩) fun r s₁ hr=>?_
 cases r with
 | error e=>exact hr
 | ok fl =>
  cases fl with
  | ret obj =>
   obtain ⟨rfl,rfl⟩:=hr
   generalize ho0:({ cls:=.type "set", dict:=none,data:=.set #[] 0 (.fresh 0 0 (!b)) }:Obj)=o0
   have hS:(s.heap.push o0).get? s.heap.objs.size=some o0:=ζB _ (by rw [← ho0]; rfl)
   have hS0:SetI (!b) s.heap.objs.size [] (s.heap.push o0):=⟨o0,#[],0,_,hS,by rw [← ho0]; exact ⟨rfl,rfl,rfl⟩,by rw [← ho0],(fun e z=>by simp at z),.nil,by decide,by rfl,TOk.fresh⟩
   have hT:Shared.TypeIs { s with heap:=s.heap.push o0 } (.ref s.heap.objs.size) "set" := ⟨_,hS,by rw [← ho0]⟩
   have hli:=F.called_set.init.lookup
   have hbi:=F.called_set.init.bind (.ref s.heap.objs.size)
   repeat (any_goals (first | assumption | wp_step))
   refine codeAny_mono (codeAny_call_builtin (R:=wants (fun r s₂=>r=.none∧∃ h' tk,s₂={ s with heap:=h',toks:=tk }∧SetI (!b) s.heap.objs.size (firstMet (fun i=>ns.getD i 0) items.size) h' ∧
     (∀ c o,s.heap.get? c=some o→h'.get? c=some o)) E) F.called_set.init.plain F.entry_set_init (check_set_init_1 hT ?_)) fun r₂ s₂ hr₂=>?_
   ·obtain ⟨ol,hol,hcl,nl,hdl⟩:=hl
    obtain ⟨oc,od,odt,osl⟩:=ol
    simp only at hcl hdl
    subst hcl; subst hdl
    have hol':(s.heap.push o0).get? L=some { cls:=.type "list", dict:=od,data:=.seq items nl,slots:=osl }:=ζh _ hol
    have e1:=F.sub_list_set
    have e2:=F.sub_list_frozenset
    have hne:(Value.type "list" == Value.type "dict")=false:=by decide
    have hl1:(s.heap.push o0).IsList L items:=⟨_,hol',rfl,nl,rfl⟩
    have hz0:(s.heap.push o0).objs.size=s.heap.objs.size + 1:=Heap.size_push _ _
    subst ho0
    unfold Builtin.«set.__init__» noKeywords Builtin.Frozenset.updateFrom
    generalize hPI:pyIter=PI
    wp_walk
    subst hPI
    refine wpAny_pyIter_list hl1 ?_
    refine wpAny_bind (wpAny_runValue ?_)
    have hlS:L < s.heap.objs.size:=ζq hol
    have hh3:A.in1.in1.in1.handled=none:=hh
    have hneI:L≠(s.heap.push { cls:=.type "set", dict:=none,data:=.set #[] 0 (.fresh 0 0 (!b)) }).objs.size:=by rw [hz0]; exact ζA (ξu hlS)
    have hSf:s.heap.objs.size∉[(s.heap.push { cls:=.type "set", dict:=none,data:=.set #[] 0 (.fresh 0 0 (!b)) }).objs.size,L]:=by
     rw [hz0]
     intro z
     rcases ζo.mp z with z | z
     ·exact ζA (ξ3 _) z
     ·exact ξs hlS (ζf.mp z)
    have hval:∀ (i:Nat) (v:Value),items[i]?=some v→∃ t,v=.int ((fun i=>ns.getD i 0) i) t:=fun i v hv=>IntsAre.int_at hi i v (by rw [ξb]; exact hv)
    refine zaB (b:=!b) ((Walks.list hh3 _ L hneI items).toS) s.heap.objs.size hSf (fun i=>ns.getD i 0) hval hz (items.size - 0) 0 _ (by omega) (ζE _) ⟨⟨_,ζB _ rfl,rfl,rfl⟩,(hl1.push _)⟩ ?hS0 ?hR
    case hS0=>exact hS0.at fun o z=>ζh _ z
    case hR =>
     intro s' hm hS'
     obtain ⟨h',g',d',tk',os'⟩:=s'
     have eg:g'=s.gens:=hm.gens
     have ed:d'=s.drawn:=hm.drawn
     have eo:os'=s.os:=hm.os
     subst eg; subst ed; subst eo
     show wpAny _ _ _ _ _ _
     refine wpAny_pure ?_
     show wpAny _ _ (ret Value.none) _ _ _
     refine wpAny_pure ⟨rfl,h',tk',rfl,hS',fun c o z=>?_⟩
     have hc:c < s.heap.objs.size:=ζq z
     refine hm.heap c o (fun q=>?_) (ζh _ (ζh _ z))
     rcases ζo.mp q with q | q
     ·exact ζA hc q
     ·have q:=ζf.mp q
      rw [hz0] at q
      exact ζA (ξu hc) q
   ·cases r₂ with
    | error e=>exact hr₂
    | ok fl₂ =>
     cases fl₂ with
     | ret r =>
      obtain ⟨rfl,h',tk,rfl,hS',hk'⟩:=hr₂
      repeat (any_goals (first | assumption | wp_step))
      exact k _ _ hS' hk'
     | _=>exact hr₂.elim
  | _=>exact hr.elim
end
section
variable {X:Cx} {K:ζa} {b:Bool}
def SetB (b:Bool) (a:Addr) (l:List Int):HO:=.ext (SetI (!b) a l)
theorem V0 {P:Program} {w:World} {H:Hp} {h:Heap} {a:Addr} {l:List Int} (x:SetI (!b) a l h):yk P w H h a (SetB b a l) :=
 ⟨x,(let ⟨o,_,_,_,ho,_⟩:=x; ⟨o,ho⟩),fun _ _ x1 k=>x1.at k⟩
def T8 (K:ζa) (b:Bool):List V→Hp→VK→Prop:=fun xs H Q=>∃ p ns,xs=[.ref p]∧SqL K H p (ns.map V.int)∧ns.length < 4000∧∀ l,H l=none→Q (.ref l) (upd H l (SetB b l (dd ns)))
theorem Yy (hK:X.K=K) (hc:X.calm=true) (hb:X.w.params.followText "set-order" = b):yQ X (.type "set") (T8 K b):=by
 subst hK
 intro pins s σ H xs us Q I r h
 obtain ⟨p,ns,rfl,hq,hz,q⟩:=h
 obtain ⟨u,rfl,rx⟩:=vP r
 cases rx
 obtain ⟨its,r',pl,hy⟩:=I.list hq
 have hl:=r'.length
 rw [ζb] at hl hy
 refine zcn (ns:=ns) (I.ok.hd hc) hb pl.isList (by simpa using v5 r') (by rw [List.size_toArray]; unfold scanBound; omega) fun h' tk hS hk=>?_
 have z2:its.toArray.size=ns.length:=by rw [ζQ,hl]
 rw [z2,Xt] at hS
 exact ⟨.ref s.heap.objs.size,_,I.laid (t':=tk) hk (ζi _) (V0 hS),rfl,q _ (I.hok.fresh (ζi _))⟩
def zbY (b:Bool):List V→Hp→VK→Prop:=fun xs H Q=>∃ p l,xs=[.ref p]∧H p=some (SetB b p l)∧Q (.int l.length) H
theorem Ti:yQ X (.builtin "len") (zbY b):=by
 intro pins s σ H xs us Q I r h
 obtain ⟨p,l,rfl,hH,q⟩:=h
 obtain ⟨u,rfl,rx⟩:=vP r
 cases rx
 obtain ⟨o,es,ep,t,ho,hex,hd,_,hp,hz,hf,_⟩:SetI (!b) p l s.heap:=(I.hok p _ hH).1
 have e:es.size=l.length:=by have:=hp.length_eq; simpa using this
 exact PySem.call_len_set ho hex hd hf (by unfold scanBound at hz; omega) ⟨.int l.length,H,I.tok _,⟨_,by rw [e]⟩,q⟩
end
end L2
namespace PD
open PySem L2
section
variable {K:ζa} {S S':Sx} {κ κ' b:Bool} {Γ Γ' Γ'':Ctx} {P:Post}
end
end PD
namespace L2
open PySem PySem.Spec PyProof.Rows
section
variable {X:Cx} {K:ζa}
end
end L2
namespace PD
open PySem L2
section
variable {K:ζa} {S S':Sx} {κ κ':Bool} {Γ Γ' Γ'':Ctx} {P:Post}
end
end PD
namespace L2
open PySem PySem.Spec PyProof.Rows
section
variable {X:Cx} {K:ζa} {e:Expr} {te:TE} {lo hi:Option Expr} {st:Expr} {tl th ts:TO} {p2 pos:Pos}
end
end L2
namespace PD
open PySem L2
section
variable {K:ζa} {S S':Sx} {κ κ':Bool} {Γ Γ' Γ'':Ctx} {P:Post}
end
end PD
namespace L2
open PySem
end L2
namespace L2
open PySem PySem.Spec PyProof.Rows
theorem YJ:entryFor table "set.__and__" = some Builtin.«frozenset.__and__»:=entryFor_alias (id' := "frozenset.__and__") (by kernel_rfl) rfl (by decide +kernel) (by kernel_rfl)
def ZG (b:Bool) (m:Nat) (a:Addr) (h:Heap):Prop:=∃ o ep t,h.get? a=some o∧o.ExactSet∧o.data=.set #[] ep t∧TOk b t∧t.place=#[]∧(∃ k,t.mask + 1=2 ^ k)∧m≤t.mask
theorem ZG.fits {t:SetTable} {b:Bool} (h:TOk b t) (e:t.place=#[]):t.fits (#[]:Array (Int×Value)).size=true:=by
 unfold SetTable.fits SetTable.fill
 rw [e,h.dum]
 simp
theorem ZG.set {b:Bool} {m:Nat} {a:Addr} {h:Heap} (x:ZG b m a h):SetI b a [] h:=by
 obtain ⟨o,ep,t,ho,hx,hd,ht,hp,_⟩:=x
 exact ⟨o,#[],ep,t,ho,hx,hd,(fun e z=>by simp at z),.nil,by decide,ZG.fits ht hp,ht⟩
section
variable {prog:Program} {w:World} {A:Around} {E:Value→Shared→Prop} {s:Shared} {b:Bool} {a r o:Addr} {l l1 l2:List Int} {m:Nat}
end
section
variable {prog:Program} {w:World} {A:Around} {E:Value→Shared→Prop} {s:Shared} {bt:Bool} {a r o:Addr} {l l1 l2:List Int} {m:Nat}
theorem za9 {Q:Value→Shared→Prop} (hb:w.params.followText "set-order" = bt)
  (k:∀ ob,ZG (!bt) 7 s.heap.objs.size (s.heap.push ob)→Q (.ref s.heap.objs.size) { s with heap:=s.heap.push ob }):wpAny (model prog w) A (newSet (.type "set")) Q E s:=by
 unfold newSet setsByText
 refine wpAny_bind (wpAny_bind (wpAny_askSetting (wpAny_pure ?_)))
 rw [show (model prog w).w.params.followText "set-order" = bt from hb]
 dsimp only
 simp only [newObj]
 exact wpAny_bind (wpAny_alloc (wpAny_pure (k _ ⟨_,0,_,ζB _ rfl,⟨rfl,rfl,rfl⟩,rfl,TOk.fresh,rfl,⟨3,rfl⟩,ζi _⟩)))
theorem zcu {sets:List Addr} {Q:Bool→Shared→Prop} (h:∀ a∈sets,∃ b l,SetI b a l s.heap) (k:Q true s):wpAny (model prog w) A (setsQuiet sets) Q E s:=by
 unfold setsQuiet
 refine wpAny_bind (wpAny_forIn_list _ (fun rest r s'=>r.1=none∧s'=s∧∀ a∈rest,∃ b l,SetI b a l s.heap) _ ?_ ?_ _ _ ⟨rfl,rfl,h⟩)
 ·rintro x rest ⟨r1,r2⟩ s' ⟨e1,rfl,hr⟩
  obtain ⟨b,l,ob,es,ep,t,ho,hex,hd,hE,hp,hz,hf,ht⟩:=hr x (.head _)
  refine wpAny_bind (wpAny_setEntries_of ho hd hf ?_)
  refine wpAny_bind (wpAny_forIn_array' _ (fun rest r s''=>r.1=none∧s''=s'∧∀ e∈rest,IsE e) _ ?_ ?_ _ _ ⟨rfl,rfl,hE⟩)
  ·rintro e rest2 ⟨q1,q2⟩ s'' ⟨e2,rfl,h2⟩
   obtain ⟨k',t',rfl⟩:=h2 e (.head _)
   exact wpAny_pure ⟨rfl,rfl,fun y hy=>h2 y (.tail _ hy)⟩
  ·rintro ⟨q1,q2⟩ s'' ⟨e2,rfl,_⟩
   have e2:q1=none:=e2
   subst e2
   exact wpAny_pure ⟨rfl,rfl,fun y hy=>hr y (.tail _ hy)⟩
 ·rintro ⟨r1,r2⟩ s' ⟨e1,rfl,_⟩
  have e1:r1=none:=e1
  subst e1
  exact wpAny_pure k
end
section
variable {prog:Program} {w:World} {A:Around} {E:Value→Shared→Prop} {s:Shared} {bt:Bool} {a r o p q:Addr} {l l1 l2:List Int} {m:Nat}
theorem XH {h:Heap} {Q:Bool→Shared→Prop} {b:Bool} (hS:SetI b a l s.heap) (k:Q true s):wpAny (model prog w) A (Builtin.Frozenset.isAnySet (.ref a)) Q E s:=by
 obtain ⟨ob,_,_,_,ho,hx,_⟩:=hS
 unfold Builtin.Frozenset.isAnySet
 refine wpAny_bind (wpAny_isInstance (b:=true) ⟨ob,ho,hx.1⟩ sub_set_self (wpAny_pure k))
end
section
variable {X:Cx} {K:ζa} {b:Bool}
theorem zdJ (ns:List Int):(dd ns).Nodup:=by
 suffices z:∀ n,(dd (ns.take n)).Nodup by simpa using z ns.length
 intro n
 induction n with
 | zero=>exact ζ1
 | succ n ih =>
  by_cases hn:n < ns.length
  ·have e:ns.take (n + 1)=ns.take n ++ [ns[n]]:=by rw [List.take_succ,ζm hn]; rfl
   rw [e,Ut]
   unfold step_dedup
   split
   ·exact ih
   ·rename_i h
    rw [ζD]
    refine ⟨ih,by simp,fun x hx y hy=>?_⟩
    rw [ζf.mp hy]
    rintro rfl
    exact h (List.any_eq_true.mpr ⟨_,hx,by simp⟩)
  ·have e1:ns.take (n + 1)=ns.take n:=by rw [ζM (by omega),ζM (by omega)]
   rw [e1]
   exact ih
end
end L2
namespace PD
open PySem L2
section
variable {K:ζa} {S S':Sx} {κ κ' b:Bool} {Γ Γ' Γ'':Ctx} {P:Post}
end
section
variable {K:ζa} {S S':Sx} {κ κ':Bool} {Γ Γ' Γ'':Ctx} {P:Post}
end
end PD
namespace L2
open PySem PySem.Spec PyProof.Rows
section
variable {prog:Program} {w:World} {A:Around} {E:Value→Shared→Prop} {s:Shared}
end
section
variable {X:Cx} {K:ζa} {pos:Pos}
end
section
variable {P:Program} {w:World} {K:ζa} {mg:Str→Option Value} {base:Heap}
end
section
variable {X:Cx} {CX:CXT} {k:Nat} {ps:List Str} {sp:Sp} {E:XK} {x:Str} {p pos:Pos} {e:Expr} {es:List Expr} {t:TA}
end
end L2
namespace Cm
open PySem L2
end Cm
namespace PD
open PySem L2
section
variable {K:ζa} {S S':Sx} {κ κ':Bool} {Γ Γ' Γ'':Ctx} {P:Post}
end
section
variable {K:ζa} {S S':Sx} {κ:Bool} {Γ:Ctx} {P:Post}
end
end PD
namespace L2
open PySem PySem.Spec PyProof.Rows
section
variable {P:Program} {w:World} {K:ζa} {mg:Str→Option Value} {base:Heap}
end
end L2
namespace PD
open PySem L2
section
variable {K:ζa} {S S':Sx} {κ κ':Bool} {Γ Γ' Γ'':Ctx} {P:Post} {E:XK} {C:Addr}
theorem Q8 {c:TT} {t u:TE} {b:Bool} {d:PyData} (hc:EvT K S c Γ b) (h1:b=true→EvE K S κ t Γ d) (h2:b=false→EvE K S κ u Γ d):EvE K S κ (tIf c t u) Γ d:=fun H0 F0 H F σ e Q q =>
 hc H0 F0 H F σ e _ fun H1 F1 g=>by
  cases b with
  | true=>exact iteT (h1 rfl H0 F0 H1 F1 σ (e.mono g) Q fun v H2 F2 g2 p=>q v H2 F2 (g.trans g2) p)
  | false=>exact iteF (h2 rfl H0 F0 H1 F1 σ (e.mono g) Q fun v H2 F2 g2 p=>q v H2 F2 (g.trans g2) p)
theorem zbn {i:Nat} {ds:List PyData} (h:GetC Γ i (.ow κ ds)) (es:SetC Γ i (some (.ow κ [])) Γ') (k:P.nx Γ'):ExS K S (x3 (tBM0 K "list" Vb (tVar i))) Γ P:=fun H0 F0 H F σ B e b _ D I=>by
 have h:=h.eq
 obtain ⟨v0,q1,a,vs,rfl,w,q5⟩:=e.has i _ h
 refine ⟨_,q1,.inl ⟨rfl,_,SqL.of w.h⟩,a,vs,rfl,rfl,w.h,?_⟩
 have:=e.put (vs:=[]) (y:=.ow κ []) h q1 (show Owns H (.ref a) (.ow κ ds) a from rfl) ⟨a,_,rfl,⟨zi,w.f,w.n,w.s⟩,.nil⟩ fun _ z=>z
 rw [es.eq] at this
 exact I.nx _ _ _ F k b this
end
section
variable {K:ζa} {S S':Sx} {κ κ':Bool} {Γ Γ' Γ'':Ctx} {P:Post}
theorem cutH {α:Type} (g:α→PyData) (xs:List α) (k:Nat):cutD (xs.map g) (some (k:Int)) none=(xs.drop k).map g:=by
 unfold cutD
 rw [HT.YR]
 show ((xs.map g).drop (min k (xs.map g).length)).take ((xs.map g).length - min k (xs.map g).length)=_
 rw [ζM (by rw [ξd]; exact ζi _),ζb,← List.map_drop]
 congr 1
 rcases Nat.le_total k xs.length with h | h
 ·rw [Nat.min_eq_left h]
 ·rw [Nat.min_eq_right h,List.drop_of_length_le (ζi _),List.drop_of_length_le h]
end
section
variable {K:ζa} {S S':Sx} {κ κ':Bool} {Γ Γ' Γ'':Ctx} {P:Post} {xs ys zs:List PyData}
theorem DEnv.any {H0 F0 H F:Hp} {σ:St} {i:Nat} {v:Option V} (e:DEnv K S H0 F0 H F σ Γ) (hi:∀ x,Γ[i]?≠some (some x)):DEnv K S H0 F0 H F (σ.set i v) Γ:=by
 have ne:∀ {j:Nat} {x:DV},Γ[j]?=some (some x)→i≠j:=fun h z=>hi _ (z ▸ h)
 refine ⟨e.gr,e.l0,e.sd,e.s0,by rw [List.length_set]; exact e.len,fun j x h=>?_,fun j k x y v w a h1 h2 h3 h4 o1 o2=>?_⟩
 ·rw [ζv (ne h)]
  exact e.has j x h
 ·rw [ζv (ne h1)] at h3
  rw [ζv (ne h2)] at h4
  exact e.ne j k x y v w a h1 h2 h3 h4 o1 o2
end
section
variable {K:ζa} {S S':Sx} {κ κ':Bool} {Γ Γ' Γ'':Ctx} {P:Post} {E:XK}
end
section
variable {K:ζa} {S S':Sx} {κ κ':Bool} {Γ Γ' Γ'':Ctx} {P:Post}
theorem zb6 {i:Nat} {u:TS} {ds:List PyData} (h:GetC Γ i (.ow κ ds)) (es:SetC Γ i (some (.ow κ [])) Γ') (k:ExT K S S' u Γ' P):ExT K S S' (tSeq (x3 (tBM0 K "list" Vb (tVar i))) u) Γ P:=yJ (·=Γ') (zbn h es rfl) fun _ z=>z ▸ k
theorem zcZ {i:Nat} {ds:List PyData} (h:GetC Γ i (.ow κ ds)) (es:SetC Γ i (some (.ow κ ds.reverse)) Γ') (k:P.nx Γ'):ExS K S (x3 (tBM0 K "list" Wa (tVar i))) Γ P:=fun H0 F0 H F σ B e b _ D I=>by
 have h:=h.eq
 obtain ⟨v0,q1,a,vs,rfl,w,q5⟩:=e.has i _ h
 refine ⟨_,q1,.inl ⟨rfl,_,SqL.of w.h⟩,a,vs,rfl,rfl,w.h,?_⟩
 have:=e.put (vs:=vs.reverse) (y:=.ow κ ds.reverse) h q1 (show Owns H (.ref a) (.ow κ ds) a from rfl) ⟨a,_,rfl,⟨zi,w.f,w.n,w.s⟩,zn.reverse q5⟩ fun _ z=>z
 rw [es.eq] at this
 exact I.nx _ _ _ F k b this
end
end PD
namespace L2
open PySem PySem.Spec PyProof.Rows
section
variable {prog:Program} {w:World} {A:Around} {E:Value→Shared→Prop} {s:Shared} {b bt:Bool} {a r o p q:Addr} {l l1 l2:List Int}
theorem zdE {k:Int} {tk:Tok} {Q:Option Nat→Shared→Prop} (hS:SetI b a l s.heap) (h:∀ x:Option Nat,(x.isSome=true↔k∈l)→Q x s):wpAny (model prog w) A (setFind a (.int k tk) (hashInt k)) Q E s:=by
 obtain ⟨ob,es,ep,t,ho,hex,hd,hE,hp,hz,hf,ht⟩:=hS
 have hel:ElemsOf (intKind prog w) es.toList:=IsE.elems hE
 have hm:k∈l↔∃ e∈es.toList,(intKind prog w).is k e.2=true:=by
  rw [← hp.mem_iff,ζr]
  exact ⟨fun ⟨e,x,y⟩=>⟨e,x,((hE e x).is k).mpr y⟩,fun ⟨e,x,y⟩=>⟨e,x,((hE e x).is k).mp y⟩⟩
 unfold setFind setFindIn
 refine wpAny_bind (wpAny_setState_of ho hd hf ?_)
 dsimp only
 rw [byScan_of (knd:=intKind prog w) (x:=.int k tk) rfl hz hel]
 simp only [↓reduceIte]
 refine wpAny_bind (wpAny_rule ?_)
 refine wpAny_bind (wpAny_setScan_of (knd:=intKind prog w) (k:=k) (intKind_is _ _ k tk) ho hd hf hel ?_)
 cases hr:List.findIdx? (fun e=>(intKind prog w).is k e.2) es.toList with
 | none =>
  dsimp only
  refine wpAny_pure (h none ⟨fun z=>(by cases z),fun z=>?_⟩)
  obtain ⟨e,he,hpe⟩:=hm.mp z
  have q:=List.findIdx?_eq_none_iff.mp hr e he
  rw [hpe] at q; cases q
 | some j =>
  dsimp only
  obtain ⟨hj,hpj,_⟩:=List.findIdx?_eq_some_iff_getElem.mp hr
  exact wpAny_pure (h (some (0 + j)) ⟨fun _=>hm.mpr ⟨es.toList[j],ξ4 hj,hpj⟩,fun _=>rfl⟩)
theorem zdr {also:List Addr} {Q:Array (Int×Value)→Shared→Prop} (hb:w.params.followText "set-order" = bt) (hR:SetI (!bt) r l1 s.heap) (hO:SetI (!bt) o l2 s.heap) (hA:∀ x∈also,∃ c l,SetI c x l s.heap)
  (k:∀ (ws:Array (Int×Value)) h',(∀ e∈ws.toList,IsE e)→(ws.toList.map kOf).Perm l2→Heap.SameBut r s.heap h'→SetI (!bt) r l1 h'→Q ws { s with heap:=h' }):wpAny (model prog w) A (setWalkUnseen o also (some r)) Q E s:=by
 obtain ⟨ob,es,ep,t,ho,hex,hd,hE,hp,hz,hf,ht⟩:=id hO
 have ks:∀ ws:Array (Int×Value),ws.toList.Perm es.toList→Q ws s:=fun ws pm=>k ws s.heap (fun e x=>hE e (pm.mem_iff.mp x)) ((pm.map kOf).trans hp) (Heap.SameBut.refl _ _) hR
 unfold setWalkUnseen
 refine wpAny_bind (wpAny_setState_of ho hd hf ?_)
 dsimp only
 unfold setsByText
 refine wpAny_bind (wpAny_bind (wpAny_askSetting (wpAny_pure ?_)))
 rw [show (model prog w).w.params.followText "set-order" = bt from hb]
 cases bt with
 | true =>
  simp only [Bool.true_or,↓reduceIte]
  unfold setWalk
  refine wpAny_bind (wpAny_setState_of ho hd hf ?_)
  dsimp only
  unfold setsByText
  refine wpAny_bind (wpAny_bind (wpAny_askSetting (wpAny_pure ?_)))
  rw [show (model prog w).w.params.followText "set-order" = true from hb]
  simp only [↓reduceIte]
  exact wpAny_bind (wpAny_askSetting (wpAny_pure (ks _ (t7 _ _))))
 | false =>
  have led:t.led=true:=ht.led
  by_cases c:(false || (t.led && t.plain) || decide (es.size≤1))=true
  ·rw [if_pos c]
   unfold setWalk
   refine wpAny_bind (wpAny_setState_of ho hd hf ?_)
   dsimp only
   unfold setsByText
   refine wpAny_bind (wpAny_bind (wpAny_askSetting (wpAny_pure ?_)))
   rw [show (model prog w).w.params.followText "set-order" = false from hb]
   simp only [Bool.false_eq_true,↓reduceIte]
   split
   ·rename_i z
    have z:(!t.plain && decide (es.size > 1))=true:=z
    rw [led] at c
    simp at c z
    have y:¬ 1 < es.size:=by
     rcases c with c | c
     ·rw [c] at z
      exact absurd z.1 (by decide)
     ·omega
    exact absurd z.2 y
   ·refine wpAny_bind (wpAny_of_eq (a:=()) ?_ ?_)
    ·show (if (!t.led && decide (es.size > 1))=true then _ else _)=_
     rw [led]
     rfl
    ·exact wpAny_pure (ks es (.refl _))
  ·rw [if_neg c]
   refine wpAny_bind (zcu (fun x hx=>?_) ?_)
   ·rcases ζo.mp hx with rfl | hx
    ·exact ⟨_,_,hO⟩
    ·exact hA x hx
   rw [if_neg (by decide)]
   refine wpAny_bind (wpAny_rule ?_)
   obtain ⟨ob1,es1,ep1,t1,ho1,hex1,hd1,hE1,hp1,hz1,hf1,ht1⟩:=id hR
   refine wpAny_bind (wpAny_setState_of ho1 hd1 hf1 ?_)
   dsimp only
   split
   ·refine wpAny_bind (wpAny_storeSet_of ho1 hd1 ?_ (fits_of_scanBound hz1))
    refine wpAny_pure (k es _ hE hp (Heap.SameBut.update ..) ⟨_,es1,_,_,W2 ho1 hd1 _ _,hex1,rfl,hE1,hp1,hz1,hf1,⟨?_,ht1.rise,ht1.dum⟩⟩)
    show (t1.led && t.led)=_
    rw [ht1.led,led]
    rfl
   ·exact wpAny_pure (ks es (.refl _))
theorem zbT {Q:Nat→Shared→Prop} (hS:SetI b a l s.heap) (k:Q l.length s):wpAny (model prog w) A (Builtin.Frozenset.sizeOf a) Q E s:=by
 obtain ⟨ob,es,ep,t,ho,hex,hd,hE,hp,hz,hf,ht⟩:=hS
 have hn:es.size=l.length:=by have:=hp.length_eq; simpa using this
 unfold Builtin.Frozenset.sizeOf
 refine wpAny_bind (wpAny_setEntries_of ho hd hf (wpAny_pure ?_))
 rw [hn]
 exact k
theorem zbz {l:List Int} {k:Int} (nd:l.Nodup):(step_dedup l k).Nodup∧(∀ x,x∈step_dedup l k↔x∈l∨x=k)∧(step_dedup l k).length≤l.length + 1:=by
 unfold step_dedup
 split
 ·rename_i z
  obtain ⟨y,hy,ey⟩:=ξq.mp z
  have ey:=eq_of_beq ey
  subst ey
  exact ⟨nd,fun x=>⟨.inl,fun z=>z.elim id fun z=>z ▸ hy⟩,by omega⟩
 ·rename_i z
  refine ⟨?_,fun x=>by rw [ζs,ζf],by rw [ζd]; exact ζi _⟩
  rw [ζD]
  refine ⟨nd,by simp,fun x hx y hy=>?_⟩
  rw [ζf.mp hy]
  rintro rfl
  exact z (List.any_eq_true.mpr ⟨_,hx,by simp⟩)
theorem andI {Q:Value→Shared→Prop} (hb:w.params.followText "set-order" = bt) (hP:SetI (!bt) p l1 s.heap) (hR:SetI (!bt) q l2 s.heap) (hne:p≠q) (hl:l1.length + l2.length < 2000)
  (k:∀ h' l3,SetI (!bt) s.heap.objs.size l3 h'→(∀ c ob,s.heap.get? c=some ob→h'.get? c=some ob)→(∀ x,x∈l3↔x∈l1∧x∈l2)→l3.Nodup→l3.length≤l1.length + l2.length→Q (.ref s.heap.objs.size) { s with heap:=h' }) :
  wpAny (model prog w) A (binaryOp .BitAnd (.ref p) (.ref q)) Q E s:=by
 obtain ⟨op,_,_,_,hop,hxp,_⟩:=id hP
 obtain ⟨oq,_,_,_,hoq,hxq,_⟩:=id hR
 have hp:p < s.heap.objs.size:=ζq hop
 have hq:q < s.heap.objs.size:=ζq hoq
 have hT:s.TypeIs (.ref p) "set" := ⟨op,hop,hxp.1⟩
 refine wpAny_binaryOp_same hT ⟨oq,hoq,hxq.1⟩ F.fills_set_and F.slot_set_and (wpAny_call_entry F.slot_set_and hT YJ ?_ (F.args_set_and_2 _ _))
 unfold Builtin.«frozenset.__and__»
 show wpAny _ _ (do
  if !(← Builtin.Frozenset.isAnySet (.ref p) <&&> Builtin.Frozenset.isAnySet (.ref q)) then rule s!"frozenset.{"__and__"}.declined"; return ← ret .notImplemented
  ret (← Builtin.Frozenset.intersection s!"frozenset.{"__and__"}" p (.ref q))) _ _ _
 refine wpAny_bind (wpAny_bind (XH (h:=s.heap) hP ?_))
 show wpAny _ _ (Builtin.Frozenset.isAnySet (Value.ref q)) _ _ _
 refine XH (h:=s.heap) hR ?_
 simp only [Bool.not_true,Bool.false_eq_true,↓reduceIte]
 refine wpAny_bind ?_
 unfold Builtin.Frozenset.intersection
 rw [if_neg (by simpa using Ne.symm hne)]
 unfold Builtin.Frozenset.baseOf
 refine wpAny_bind (wpAny_bind (wpAny_isInstance (b:=true) ⟨op,hop,hxp.1⟩ sub_set_self (wpAny_pure ?_)))
 simp only [↓reduceIte]
 refine wpAny_bind (za9 hb fun o1 f1=>?_)
 unfold Builtin.Frozenset.addrOf
 refine wpAny_bind (wpAny_pure ?_)
 have up:∀ c ob,s.heap.get? c=some ob→(s.heap.push o1).get? c=some ob:=fun c ob z=>ζh _ z
 have hP1:SetI (!bt) p l1 (s.heap.push o1):=hP.at fun _ z=>up _ _ z
 have hR1:SetI (!bt) q l2 (s.heap.push o1):=hR.at fun _ z=>up _ _ z
 refine wpAny_bind (wpAny_holding ?_)
 refine wpAny_bind (XH (s:={ s with heap:=s.heap.push o1 }) (h:=s.heap) hR1 ?_)
 rw [if_pos rfl]
 refine wpAny_bind (wpAny_pure ?_)
 refine wpAny_bind (zbT (s:={ s with heap:=s.heap.push o1 }) hR1 ?_)
 refine wpAny_bind (zbT (s:={ s with heap:=s.heap.push o1 }) hP1 ?_)
 obtain ⟨⟨ak,wk⟩,ep,la,lw,hA,hW,na,nw,hiff,hlw⟩:∃ pr:Addr×Addr,(if l2.length > l1.length then (q,p) else (p,q))=pr∧∃ la lw,SetI (!bt) pr.1 la (s.heap.push o1)∧SetI (!bt) pr.2 lw (s.heap.push o1)∧s.heap.objs.size≠pr.1∧s.heap.objs.size≠pr.2∧(∀ x,x∈la∧x∈lw↔x∈l1∧x∈l2)∧lw.length≤l1.length + l2.length:=by
  by_cases c:l2.length > l1.length
  ·exact ⟨_,if_pos c,l2,l1,hR1,hP1,ξs hq,ξs hp,fun x=>And.comm,by omega⟩
  ·exact ⟨_,if_neg c,l1,l2,hP1,hR1,ξs hp,ξs hq,fun x=>Iff.rfl,by omega⟩
 rw [ep]
 dsimp only at hA hW na nw ⊢
 obtain ⟨ob2,es2,ep2,t2,ho2,hx2,hd2,hE2,hp2,hz2,hf2,ht2⟩:=id hW
 refine wpAny_bind (wpAny_setEpoch_of (s:={ s with heap:=s.heap.push o1 }) ho2 hd2 hf2 ?_)
 refine wpAny_bind (zdr (s:={ s with heap:=s.heap.push o1 }) hb f1.set hW (fun x hx=>?_) fun ws h2 wE wp u2 f2=>?_)
 ·rcases ζo.mp hx with rfl | hx
  ·exact ⟨_,_,hA⟩
  ·rw [ζf.mp hx]; exact ⟨_,_,f1.set⟩
 refine wpAny_bind (wpAny_forIn_array' _ (fun rest _ s'=>∃ l h',s'={ s with heap:=h' }∧Heap.SameBut s.heap.objs.size (s.heap.push o1) h'∧SetI (!bt) s.heap.objs.size l h'∧(∀ e∈rest,IsE e)∧(∀ x,(x∈l∨(x∈la∧x∈rest.map kOf))↔x∈la∧x∈lw)∧l.Nodup∧l.length + rest.length≤lw.length) _ ?_ ?_ _ _ ⟨[],h2,rfl,u2,f2,wE,fun x=>by rw [wp.mem_iff]; simp,List.nodup_nil,by have:=wp.length_eq; rw [List.length_map] at this; simpa using Nat.le_of_eq this⟩)
 ·rintro e rest _ s' ⟨l,h',rfl,u,f,hE',hm,hnd,hlen⟩
  obtain ⟨kk,tk,rfl⟩:=hE' e (.head _)
  rw [ζ2] at hlen
  have hA':SetI (!bt) ak la h':=hA.at fun ob z=>by rw [u.2 ak (Ne.symm na)]; exact z
  have un:∀ (h3:Heap) (Q':Unit→Shared→Prop),Heap.SameBut s.heap.objs.size h' h3→Q' () { s with heap:=h3 }→wpAny (model prog w) A.in1 (Builtin.Frozenset.unchanged s!"frozenset.{"__and__"}" wk ep2) Q' E { s with heap:=h3 }:=fun h3 Q' u3 qq=>by
   unfold Builtin.Frozenset.unchanged
   refine wpAny_bind (wpAny_setEpoch_of (s:={ s with heap:=h3 }) ?_ hd2 hf2 ?_)
   ·show h3.get? wk=some ob2
    rw [u3.2 wk (Ne.symm nw),u.2 wk (Ne.symm nw)]
    exact ho2
   ·rw [if_neg (by simp)]
    exact wpAny_pure qq
  refine wpAny_bind (wpAny_holding (wpAny_bind (zdE (s:={ s with heap:=h' }) hA' fun x hx=>?_)))
  by_cases c:x.isSome=true
  ·rw [if_pos c]
   refine wpAny_bind (addI (s:={ s with heap:=h' }) f (by unfold scanBound; omega) fun rr h3 u3 f3=>wpAny_pure ?_)
   refine wpAny_bind (un h3 _ u3 (wpAny_pure ?_))
   obtain ⟨d1,d2,d3⟩:=zbz (k:=kk) hnd
   refine ⟨_,h3,rfl,u.trans u3,f3,fun y hy=>hE' y (.tail _ hy),fun y=>?_,d1,by omega⟩
   rw [← hm y,d2 y,ζN]
   show _↔_∨(_∧y∈kk :: _)
   rw [ζo]
   have ka:=hx.mp c
   constructor
   ·rintro ((z | rfl) | z)
    ·exact .inl z
    ·exact .inr ⟨ka,.inl rfl⟩
    ·exact .inr ⟨z.1,.inr z.2⟩
   ·rintro (z | ⟨z1,z | z⟩)
    ·exact .inl (.inl z)
    ·exact .inl (.inr z)
    ·exact .inr ⟨z1,z⟩
  ·rw [if_neg c]
   refine wpAny_pure (wpAny_bind (un h' _ (Heap.SameBut.refl _ _) (wpAny_pure ?_)))
   refine ⟨l,h',rfl,u,f,fun y hy=>hE' y (.tail _ hy),fun y=>?_,hnd,by omega⟩
   rw [← hm y,ζN]
   show _↔_∨(_∧y∈kk :: _)
   rw [ζo]
   have ka:kk∉la:=fun z=>c (hx.mpr z)
   constructor
   ·rintro (z | z)
    ·exact .inl z
    ·exact .inr ⟨z.1,.inr z.2⟩
   ·rintro (z | ⟨z1,rfl | z⟩)
    ·exact .inl z
    ·exact absurd z1 ka
    ·exact .inr ⟨z1,z⟩
 ·rintro _ s' ⟨l,h',rfl,u,f,_,hm,hnd,hlen⟩
  refine wpAny_pure (wpAny_pure ?_)
  exact wpAny_pure ⟨_,rfl,by simp,k h' l f (fun c ob z=>by rw [u.2 c (Nat.ne_of_lt (Heap.lt_size z))]; exact up c ob z) (fun x=>by rw [← hiff x,← hm x]; simp) hnd (by simp at hlen; omega)⟩
end
section
variable {X:Cx} {K:ζa} {b:Bool}
def zbZ (b:Bool):R2:=fun x y H Q=>∃ p q l1 l2,x=.ref p∧y=.ref q∧p≠q∧H p=some (SetB b p l1)∧H q=some (SetB b q l2)∧l1.length + l2.length < 2000 ∧
 ∀ c l3,H c=none→(∀ k,k∈l3↔k∈l1∧k∈l2)→l3.Nodup→l3.length≤l1.length + l2.length→Q (.ref c) (upd H c (SetB b c l3))
theorem za3 (hc:X.calm=true) (hb:X.w.params.followText "set-order" = b):OpR X (binaryOp .BitAnd) (zbZ b):=by
 intro pins s σ H x y v u Q I rx ry h
 obtain ⟨p,q,l1,l2,rfl,rfl,hne,hp,hq,hz,k⟩:=h
 cases rx
 cases ry
 exact andI hb (I.hok p _ hp).1 (I.hok q _ hq).1 hne hz fun h' l3 f kk a1 a2 a3=>⟨.ref s.heap.objs.size,_,I.laid (t':=s.toks) kk (ζi _) (V0 f),rfl,k _ l3 (I.hok.fresh (ζi _)) a1 a2 a3⟩
end
end L2
namespace PD
open PySem L2
section
variable {K:ζa} {S S':Sx} {κ κ' b:Bool} {Γ Γ' Γ'':Ctx} {P:Post}
theorem Ta {ta tc:TE} {ns ms:List Int} (h1:EvL K S false ta Γ (ns.map .int)) (h2:EvL K S false tc Γ (ms.map .int)) (hz:ns.length + ms.length < 2000) :
  EvE K S κ (tCB (zbY b) (ye (tOp (zbZ b) (tCB (T8 K b) (ye ta tNil)) (tCB (T8 K b) (ye tc tNil))) tNil)) Γ (.int ((dd ns).filter fun k=>decide (k∈ms)).length):=fun H0 F0 H F σ e Q q =>
 h1 H0 F0 H F σ e _ fun a vs H1 F1 g1 p1 k1=>by
  cases yj (ya k1)
  refine ⟨a,ns,rfl,p1,by omega,fun p hp=>?_⟩
  have g2:=g1.trans (.newO g1.le hp (SetB b p (dd ns)))
  refine h2 H0 F0 _ F1 σ (e.mono g2) _ fun c ws H3 F3 g3 p3 k3=>?_
  cases yj (ya k3)
  refine ⟨c,ms,rfl,p3,by omega,fun r hr=>?_⟩
  have g4:=(g2.trans g3).trans (.newO g3.le hr (SetB b r (dd ms)))
  have hpH:H3 p=some (SetB b p (dd ns)):=g3.h _ _ zi
  have hne:p≠r:=fun z=>by rw [z,hr] at hpH; cases hpH
  have d1:=zak ns
  have d2:=zak ms
  refine ⟨p,r,dd ns,dd ms,rfl,rfl,hne,by rw [zm hne]; exact hpH,zi,by omega,fun t l3 ht m3 n3 z3=>?_⟩
  have g5:=g4.trans (.newO g4.le ht (SetB b t l3))
  have el:l3.length=((dd ns).filter fun k=>decide (k∈ms)).length:=by
   refine List.Perm.length_eq ?_
   rw [List.perm_ext_iff_of_nodup n3 ((zdJ ns).sublist ξQ)]
   intro k
   rw [m3 k,ζp,VJ ms k,decide_eq_true_eq]
  refine ⟨t,l3,rfl,zi,?_⟩
  rw [el]
  exact q _ _ F3 g5 (.int _)
theorem QI (ns ms:List Int):decide (((((dd ns).filter fun k=>decide (k∈ms)).length:Nat):Int) > 0)=ns.any fun k=>decide (k∈ms):=by
 rw [ξR,decide_eq_true_eq,ξq]
 constructor
 ·intro h
  obtain ⟨k,hk⟩:=List.exists_mem_of_length_pos (l:=(dd ns).filter fun k=>decide (k∈ms)) (by omega)
  obtain ⟨h1,h2⟩:=ζp.mp hk
  exact ⟨k,(VJ ns k).mp h1,h2⟩
 ·rintro ⟨k,h1,h2⟩
  have hk:k∈(dd ns).filter fun k=>decide (k∈ms):=ζp.mpr ⟨(VJ ns k).mpr h1,h2⟩
  have:=ξg hk
  omega
end
end PD
namespace L2
open PySem PySem.Spec PyProof.Rows
section
variable {X:Cx} {K:ζa}
theorem Vals.ofGet:∀ (xs:List V) (us:List Value),xs.length=us.length→(∀ (i:Nat) x u,xs[i]?=some x→us[i]?=some u→RelV x u)→Vals xs us
 | [],[],_,_=>.nil
 | [],_ :: _,h,_=>by cases h
 | _ :: _,[],h,_=>by cases h
 | x :: xs,u :: us,h,k=>.cons (k 0 x u rfl rfl) (Vals.ofGet xs us (Nat.succ.inj h) fun i y v h1 h2=>k (i + 1) y v h1 h2)
def zbX:List V→Hp→VK→Prop:=fun xs H Q=>∃ n:Int,xs=[.int n]∧∀ l,H l=none→Q (.ref l) (upd H l (.rng 0 n))
theorem Tg:yQ X (.type "range") zbX:=by
 intro pins s σ H xs us Q I r h
 obtain ⟨n,rfl,q⟩:=h
 obtain ⟨u,rfl,rx⟩:=vP r
 obtain ⟨t,rfl⟩:=rx
 exact call_range_1 ⟨.ref s.heap.objs.size,_,I.laid (t':=s.toks + 1 + 1) (fun b u e=>ζh _ e) (ζi _) (show yk X.prog X.w _ _ _ (.rng 0 n) from ⟨_,_,_,ζB _ rfl⟩),rfl,q _ (I.hok.fresh (ζi _))⟩
def Wb:List V→Hp→VK→Prop:=fun xs H Q=>∃ (p:Addr) (n:Nat),xs=[.ref p]∧H p=some (.rng 0 n)∧n≤1000000∧∀ l,H l=none→Q (.ref l) (upd H l (.lst ((List.range n).map fun i:Nat=>V.int (i:Int))))
theorem XE (hc:X.calm=true):yQ X (.type "list") Wb:=by
 intro pins s σ H xs us Q I r h
 obtain ⟨p,n,rfl,hp,hn,q⟩:=h
 obtain ⟨u,rfl,rx⟩:=vP r
 cases rx
 obtain ⟨t,u,v,ho⟩:∃ t u v,s.heap.get? p=some { cls:=.type "range", data:=.fields #[.int 0 t,.int n u,.int 1 v] }:=I.hok p _ hp
 have rs:Builtin.Range.rangeSize 0 n 1=(n:Int):=by
  unfold Builtin.Range.rangeSize
  simp
  omega
 refine call_list_range (n:=n) (I.ok.hd hc) ho ?_ ?_ (by omega) fun h' tk acc' c' hk hS hacc=>?_
 ·exact small_one (by omega) (by omega) (by omega) (by omega)
 ·exact rs
 ·have hl:acc'.toList.length=n:=by rw [ζ0]; exact hacc.1
  refine ⟨.ref s.heap.objs.size,_,I.laid (t':=tk) hk (ζi _) (show yk X.prog X.w _ h' _ (.lst ((List.range n).map fun i:Nat=>V.int (i:Int))) from ⟨by rw [ζb,ζy,sizeLine_eq]; omega,acc'.toList,c',Vals.ofGet _ _ (by rw [ζb,ζy,hl]) fun i x u h1 h2=>?_,hS⟩),rfl,q _ (I.hok.fresh (ζi _))⟩
  have hi:i < n:=by
   have:=(ζc.mp h2).1
   omega
  rw [ζG,ξH hi] at h1
  cases h1
  obtain ⟨t',rfl⟩:=hacc.2 i u (by rw [← ξb]; exact h2)
  exact ⟨t',by rw [Int.mul_one,Int.zero_add]⟩
end
end L2
namespace PD
open PySem L2
section
variable {K:ζa} {S S':Sx} {κ κ':Bool} {Γ Γ' Γ'':Ctx} {P:Post}
theorem WK {ta:TE} {n:Nat} (h:EvE K S false ta Γ (.int (n:Int))) (hn:n≤1000000):EvO K S κ (tCB Wb (ye (tCB zbX (ye ta tNil)) tNil)) Γ ((List.range n).map fun i:Nat=>.int (i:Int)):=fun H0 F0 H F σ e Q q =>
 h H0 F0 H F σ e _ fun v H1 F1 g1 p1=>by
  cases yf p1
  refine ⟨n,rfl,fun p hp=>⟨p,n,rfl,zi,hn,fun l hl=>?_⟩⟩
  have g2:=g1.trans (.newO g1.le hp (.rng 0 n))
  have hr:zn K κ S H0 F1 ((List.range n).map fun i:Nat=>V.int (i:Int)) ((List.range n).map fun i:Nat=>.int (i:Int)):=by
   have:=vU (K:=K) (κ:=κ) (S:=S) (H0:=H0) (F:=F1) ((List.range n).map fun i:Nat=>(i:Int))
   rw [ζR,ζR] at this
   exact this
  exact q l _ _ F1 (g2.trans (.newO g2.le hl _)) (g2.h.free hl) zi (g2.le.free hl) hr
end
end PD
namespace L2
open PySem PySem.Spec PyProof.Rows
section
variable {X:Cx} {K:ζa}
def rm (k:Int) (ns:List Int):List Int:=ns.take (ns.idxOf k) ++ ns.drop (ns.idxOf k + 1)
end
end L2
namespace PD
open PySem L2
section
variable {K:ζa} {S S':Sx} {κ κ':Bool} {Γ Γ' Γ'':Ctx} {P:Post}
end
section
variable {K:ζa} {S S' S1 S2:Sx} {κ κ':Bool} {Γ Γ' Γ'':Ctx} {P:Post} {C:List PyData→Prop}
mutual
inductive Tn (C:List PyData→Prop):PyData→PyData→Prop
 | same {d:PyData}:Tn C d d
 | rev {ds:List PyData}:C ds→Tn C (.list ds) (.list ds.reverse)
 | lst {ds es:List PyData}:TnA C ds es→Tn C (.list ds) (.list es)
 | tup {ds es:List PyData}:TnA C ds es→Tn C (.tuple ds) (.tuple es)
inductive TnA (C:List PyData→Prop):List PyData→List PyData→Prop
 | nil:TnA C [] []
 | cons {d e:PyData} {ds es:List PyData}:Tn C d e→TnA C ds es→TnA C (d :: ds) (e :: es)
end
theorem u8 {S:Sx} {H0 F:Hp}:∀ {ns:List Int} {ds:List PyData},zn K κ S H0 F (ns.map V.int) ds→ds=ns.map PyData.int
 | [],_,h=>by cases h; rfl
 | n :: r,_,h=>by
  cases h with
  | cons h1 h2=>cases h1; rw [u8 h2]; rfl
section
variable {H1 H2 F:Hp} {b:Addr} {ns:List Int}
mutual
theorem zaQ (hb:F b=some (.lst (ns.map V.int))) (hC:C (ns.map PyData.int)):∀ {v:V} {d:PyData},Rp K true S1 H1 F v d→∃ d',Tn C d d'∧Rp K true S1 H1 (upd F b (.lst (ns.map V.int).reverse)) v d'
 | _,_,.non=>⟨_,.same,.non⟩
 | _,_,.bl x=>⟨_,.same,.bl x⟩
 | _,_,.int x=>⟨_,.same,.int x⟩
 | _,_,.str x=>⟨_,.same,.str x⟩
 | _,_,@Rp.lst _ _ _ _ _ a xs ds h k=>by
  by_cases e:a=b
  ·subst e
   have h1:=h.1
   rw [hb] at h1
   cases h1
   cases u8 k
   exact ⟨_,.rev hC,.lst ⟨zi,h.2⟩ (zn.reverse (wP (fun d hd=>by obtain ⟨i,_,rfl⟩:=ζr.mp hd; rfl) (v8 ns)))⟩
  ·obtain ⟨es,t,q⟩:=vT hb hC k
   exact ⟨_,.lst t,.lst ⟨by rw [zm e]; exact h.1,h.2⟩ q⟩
 | _,_,@Rp.tup _ _ _ _ _ a xs ds h k=>by
  obtain ⟨es,t,q⟩:=vT hb hC k
  refine ⟨_,.tup t,.tup ?_ q⟩
  have ne:∀ {o:HO},F a=some o→QV (some o)=false→upd F b (.lst (ns.map V.int).reverse) a=some o:=fun {o} z n=>by
   rw [zm fun c=>by rw [c,hb] at z; cases z; cases n]
   exact z
  rcases h with (z | ⟨o,z⟩) | z
  ·exact .inl (.inl (ne z rfl))
  ·exact .inl (.inr ⟨o,ne z rfl⟩)
  ·exact .inr z
theorem vT (hb:F b=some (.lst (ns.map V.int))) (hC:C (ns.map PyData.int)):∀ {vs:List V} {ds:List PyData},zn K true S1 H1 F vs ds→∃ es,TnA C ds es∧zn K true S1 H1 (upd F b (.lst (ns.map V.int).reverse)) vs es
 | _,_,.nil=>⟨_,.nil,.nil⟩
 | _,_,.cons h k=>by
  obtain ⟨d,t,q⟩:=zaQ hb hC h
  obtain ⟨es,t',q'⟩:=vT hb hC k
  exact ⟨_,.cons t t',.cons q q'⟩
end
end
end
end PD
namespace L2
open PySem PySem.Spec PyProof.Rows PySem.W
section
variable {X:Cx} {k:Nat} {ps:List Str} {sp:Sp} {x:Str} {p cpos pos:Pos} {e:Expr} {es:List Expr} {ta:TA} {te:TE}
end
section
variable {X:Cx} {k:Nat} {y n:Str} {np epos hpos tpos:Pos} {e:Expr} {te:XK→TE} {C D:Addr} {i:Nat} {b0:Stmt} {suite:List Stmt} {th:TS}
end
section
variable {X:Cx} {k k2:Nat} {ps:List Str} {sp sp2:Sp} {x:Str} {p cpos pos:Pos} {e:Expr} {es:List Expr} {ta:TA}
end
section
variable {X:Cx} {K:ζa}
end
end L2
namespace PD
open PySem L2
section
variable {K:ζa} {S S':Sx} {κ κ':Bool} {Γ Γ' Γ'':Ctx} {P:Post} {E:XK} {C:Addr}
end
end PD
namespace L2
open PySem PySem.Spec PyProof.Rows PySem.W
abbrev knw (o:Obj):HO:=.frz o (.ext fun _=>True)
theorem Xp {P:Program} {w:World} {H:Hp} {h:Heap} {a:Addr} {o:Obj} (e:h.get? a=some o):yk P w H h a (knw o):=⟨e,trivial,⟨o,e⟩,fun _ _ _ _=>trivial⟩
def zdN (H:Hp) (c:Addr) (v:V):Prop:=∃ o u,H c=some (knw o)∧o.data=.cell (some u)∧RelV v u
def WX (H:Hp) (c:Addr) (q:Str):Prop:=∃ o fs t,H c=some (knw o)∧o.data=.fields fs∧fs[1]?=some (.str q t)
structure vA (x:Str) (ys:List Str) (sc:Scope):Prop where
 kind:sc.kind=.function
 co:sc.isCoroutine=false
 gen:sc.isGenerator=false
 nd:(x :: ys).Nodup
 par:sc.names.lookup x=some .local
 nocell:∀ y∈sc.names,y.2≠.cell
 fre:∀ y,sc.names.lookup y=some .free→y∈ys
 isf:∀ y∈ys,sc.names.lookup y=some .free
def cxL (P:Program) (w:World) (K:ζa) (mg:Str→Option Value) (base:Heap) (N:List Str) (qual:Str) (scope:Scope) (f:Addr) (cd:Value) (cl:List (Str×Addr)) (A:Around) (outer:List Env) (s:Shared) (H:Hp):Cx where
 prog:=P
 w:=w
 K:=K
 mg:=mg
 base:=base
 A:=A.deeper (envX qual scope s.heap.objs.size f cd cl)
 N:=N
 s₀:=s
 H₀:=H
 env:=envX qual scope s.heap.objs.size f cd cl
 outer:=outer
 stack:=envX qual scope s.heap.objs.size f cd cl :: outer
 ex:=[]
 calm:=true
 fn:=fun _=>false
 pn:=[]
 xe:=fun _ _=>False
structure ZI (H:Hp) (ys:List Str) (va:Str→V) (cl:List (Str×Addr)):Prop where
 has:∀ y∈ys,∃ c,cl.lookup y=some c
 cel:∀ y c,cl.lookup y=some c→y∈ys∧zdN H c (va y)
 inj:∀ y z c,cl.lookup y=some c→cl.lookup z=some c→y=z
section
variable {P:Program} {w:World} {K:ζa} {mg:Str→Option Value} {base:Heap} {x:Str} {ys:List Str} {va:Str→V} {qual:Str} {scope:Scope} {f:Addr} {cd:Value} {cl:List (Str×Addr)} {A:Around} {outer:List Env} {s:Shared} {H:Hp}
theorem zbi {v:V} {u:Value} {h1:Heap} {tk:Nat} (S:vA x ys scope) (hd:A.handled=none) (e0:Env0 P w K mg base A outer s H) (rv:RelV v u) (C:ZI H ys va cl)
  (hns:h1.Ns s.heap.objs.size fun y=>[(x,u)].reverse.lookup y) (hk:∀ b o,s.heap.get? b=some o→h1.get? b=some o) :
  Inv (cxL P w K mg base (x :: ys) qual scope f cd cl A outer s H) [] (some v :: ys.map fun y=>some (va y)) H { s with heap:=h1,toks:=tk }:=by
 have noA:∀ b:Addr,b∉(cxL P w K mg base (x :: ys) qual scope f cd cl A outer s H).ex:=fun b z=>absurd (show b∈([]:List Addr) from z) (by simp)
 have cel:∀ y c,cl.lookup y=some c→∃ u',RelV (va y) u'∧h1.IsCell c (some u'):=fun y c e=>by
  obtain ⟨o,u',e1,e2,e3⟩:=(C.cel y c e).2
  exact ⟨u',e3,o,hk _ _ (e0.hok _ _ e1).1,e2⟩
 refine ⟨⟨e0.mod,S.kind,rfl,rfl,ζi _,fun y z c h1 h2=>C.inj y z c h1 h2,fun y hy=>?_,(fun y c z _=>by cases z),fun _=>hd,Around.frames_deeper e0.frames,.inr ⟨rfl,rfl⟩,fun b z=>absurd z (noA b),e0.bs,e0.bsz,fun b _ _=>noA b,fun b z=>absurd z (noA b),e0.funs,e0.frf,e0.tb⟩,
  rfl,e0.bare,Un.kept hk,⟨_,hns,fun i y v' q1 q2 q3=>?_⟩,fun y c e=>?_,e0.hok.fresh (Nat.le_refl _),fun y c e=>?_,fun p hp=>absurd (show p∈([]:List (Addr×Obj)) from hp) (by simp),e0.hok.kept hk,?_⟩
 ·have hy:scope.names.lookup y=some .cell∨scope.names.lookup y=some .free:=hy
  rcases hy with hy | hy
  ·exact absurd rfl (S.nocell _ (PySem.mem_of_lookup hy))
  ·exact C.has y (S.fre y hy)
 ·have q1:(x :: ys)[i]?=some y:=q1
  cases i with
  | zero =>
   have e1:x=y:=by simpa using q1
   have e2:v=v':=by simpa using q2
   subst e1 e2
   exact ⟨u,rv,.inl ⟨S.par,by show List.lookup x [(x,u)]=_; simp⟩⟩
  | succ i =>
   have q1:ys[i]?=some y:=by simpa using q1
   have q2:(ys.map fun y=>some (va y))[i]?=some (some v'):=by simpa using q2
   rw [ζG,q1] at q2
   have e2:va y=v':=by simpa using q2
   subst e2
   have my:=ζj q1
   obtain ⟨c,hc⟩:=C.has y my
   obtain ⟨u',r',z⟩:=cel y c hc
   exact ⟨u',r',.inr ⟨.inr (S.isf y my),c,hc,z⟩⟩
 ·obtain ⟨u',_,z⟩:=cel y c e
  exact ⟨_,z⟩
 ·obtain ⟨o,_,e1,_⟩:=(C.cel y c e).2
  exact .inr ⟨rfl,o,_,e1⟩
 ·show _=(x :: ys).length
  simp
theorem zcP {k:Nat} {c':Addr} {params:Arguments} {body:Expr} {pm ctv:Value} {sp:Sp} (S:vA x ys scope) (len:∀ vs H Q E,sp vs H Q E→vs.length=1)
  (hsp:∀ vs H Q E,sp vs H Q E→H f=some (knw (kla_obj "<lambda>" qual params body scope cl pm c' ctv))∧WX H c' qual∧ZI H ys va cl)
  (hbody:∀ (A:Around) (outer:List Env) (s:Shared) (H:Hp) (v:V) (Q:VK) (E:XK),Room k (A.deeper (envX qual scope s.heap.objs.size f (.ref c') cl))→sp [v] H Q E →
   ∃ te,PE (cxL P w K mg base (x :: ys) qual scope f (.ref c') cl A outer s H) body te∧te (some v :: ys.map fun y=>some (va y)) H Q) :
  FnOk P w K mg base CX0 (k + 1) f (kla_fn "<lambda>" qual params body scope cl pm (.ref c') ctv) [x] sp:=by
 refine ⟨fun vs H Q E h=>len vs H Q E h,fun A outer s H args us vs Q E hr e0 hb r hq=>?_⟩
 have hl:=len _ _ _ _ hq
 obtain ⟨v,rfl⟩:∃ v,vs=[v]:=by
  match vs,hl with
  | [v],_=>exact ⟨v,rfl⟩
 obtain ⟨u,rfl,rv⟩:=r.one
 obtain ⟨hf,⟨oc,fcs,t,hc,d1,d2⟩,C⟩:=hsp _ _ _ _ hq
 have lim:s.heap.NoLimit:=e0.mod.nolimit.keeps fun b o e=>(e0.bs b o e).1
 refine kla_callFunE hr.depth (e0.hok _ _ hf).1 rfl S.co S.gen rfl ⟨c',oc,fcs,t,rfl,(e0.hok _ _ hc).1,d1,d2⟩ (hb _ _ _ _ ?_)
 refine wpAny_newFunctionEnv S.nocell (fun y hy=>?_) (fun h₁ hns hsb=>⟨lim.fresh _ hsb,?_⟩) S.kind
 ·have e:y=(x,u):=by simpa using hy
  rw [e]
  exact S.par
 show codeAny _ _ (.expr body (envX qual scope s.heap.objs.size f (.ref c') cl)) _ _
 have hk₁:∀ b o,s.heap.get? b=some o→h₁.get? b=some o:=fun b o e=>hsb.extBut b o (ζA (ζq e)) (ζh _ e)
 obtain ⟨te,ht,hq'⟩:=hbody A outer s H v Q E (hr.deeper _) hq
 refine kla_codeExpr (wpAny_mono (ht [] _ _ H _ (zbi S hr.hd e0 rv C hns hk₁) hq') (fun u' s' hs=>?_) fun e s' z=>False.elim z)
 obtain ⟨v',H',J,rv',q⟩:=hs
 exact ⟨v',H',J.os,J.bare,J.base,J.hok,rv',q⟩
end
theorem VM {p:Pos} {v c:Value} {i j:Int}:∀ (l:List Value),TriplesOk l→codeAmong p (l ++ [rawInt i,rawInt j,c])=some v→codeAmong p l=some v∨v=c:=by
 intro l
 fun_induction TriplesOk l with
 | case1 =>
  intro _ h
  simp only [List.nil_append,codeAmong,rawInt] at h
  split at h
  ·cases h; exact .inr rfl
  ·cases h
 | case2 a t b u x rest ih =>
  intro ht h
  simp only [List.cons_append,codeAmong] at h ⊢
  split at h
  ·rename_i hc
   rw [if_pos hc]
   exact .inl h
  ·rename_i hc
   rw [if_neg hc]
   exact ih ht h
 | case3 l h1 h2=>intro h; exact h.elim
def zay (H H':Hp):Prop:=∀ b,H' b=H b∨H b=none∧∃ o,H' b=some (knw o)
section
variable {X:Cx} {pins:List (Addr×Obj)} {σ:St} {H:Hp} {s:Shared}
theorem Inv.tb (I:Inv X pins σ H s):TbOk X.K H:=I.ok.tb.un I.base
theorem QS {E:Value→Shared→Prop} {Q:Value→Shared→Prop} {params:Arguments} {body:Expr} {lsc:Scope} {lpos:Pos} {q:Str} {c P:Addr} {clos:List (Str×Addr)} (I:Inv X pins σ H s)
  (hcode:X.env.code=.ref c) (hhd:codeHdIn X.K c P=true) (htab:(P,q)∈yn X.K) (hq:X.env.qual ++ "<lambda>" = q) (hcl:closureFor lsc X.env=pure clos) (hdef:defaultsOf params X.env=([],[]))
  (h:∀ s' H' f c' pm ctv,Inv X pins σ H' s'→zay H H'→H f=none→H' f=some (knw (kla_obj "<lambda>" q params body lsc clos pm c' ctv))→WX H' c' q→Q (.ref f) s') :
  wpAny (model X.prog X.w) X.A (eval (.Lambda params body lsc lpos) X.env) Q E s:=by
 obtain ⟨t,more,hP⟩:=I.tb (P,q) htab
 obtain ⟨vs,hPo,ht,hcs⟩:=I.hok P _ hP
 have tag:tagQ (#[.str q t] ++ more)=q:=by
  have e0:(#[Value.str q t] ++ more)[0]?=some (.str q t):=by rw [Array.getElem?_append_left (by simp)]; rfl
  unfold tagQ
  rw [e0]
 have hd:CodeHd s.heap c P:=codeHd_of_K I.kIn hhd
 have hns:s.heap.Ns mainGlobals X.mg:=I.mod.glob.keeps I.bk
 have neP:∀ {b:Addr},H b=none→b≠P:=fun n z=>by rw [z,hP] at n; cases n
 have hbt:s.heap.BuiltinsAt X.mg P:=by
  obtain ⟨bm,ob,b1,b2,b3,b4,b5,b6⟩:=I.mod.bm
  obtain ⟨b3',n⟩:=I.bs bm ob b3
  refine ⟨bm,ob,b1,b2,fun z=>?_,neP n,b3',b4,b5,b6⟩
  obtain ⟨o,es,ep,e,d,_⟩:=hns
  rw [z,e] at b3'; cases b3'; rw [d] at b6; cases b6
 have hgP:mainGlobals≠P:=fun z=>by
  obtain ⟨o,es,ep,e,d,_⟩:=hns
  rw [z,hPo] at e; cases e; cases d
 refine kla_eval hdef ?_
 rw [hq]
 cases hc:codeAmong lpos vs.toList with
 | some cv =>
  obtain ⟨c',oc,fs,t',rfl,k1,k2,k3⟩:=hcs lpos cv hc
  rw [tag] at k3
  refine kla_makeFunctionHit hcl I.ok.glob hns hcode hd hPo ht hc hbt fun ctv h' tk hk hsz=>?_
  have fr:H h'.objs.size=none:=I.hok.fresh hsz
  have ob:(h'.push (kla_obj "<lambda>" q params body lsc clos ((X.mg "__name__").getD .none) c' ctv)).get? h'.objs.size=some _:=ζB _ rfl
  refine h _ (upd H h'.objs.size (knw (kla_obj "<lambda>" q params body lsc clos ((X.mg "__name__").getD .none) c' ctv))) h'.objs.size c' ((X.mg "__name__").getD .none) ctv (I.laid (t':=tk) (fun b u e=>ζh _ (hk b u e)) hsz (Xp ob)) (fun b=>?_) fr zi ⟨oc,fs,t',by rw [zm (zy k1 fr)]; exact k1,k2,k3⟩
  by_cases e:b=h'.objs.size
  ·subst e; exact .inr ⟨fr,_,zi⟩
  ·exact .inl (zm e)
 | none =>
  refine kla_makeFunction hcl I.ok.glob hns hcode hd hPo ht hc hgP hbt fun c' ctv h' tk hx hge hlt hrec htb=>?_
  obtain ⟨c2,oc,fs,t',e2,hoc,k2,k3⟩:=hrec
  cases e2
  let fo:=kla_obj "<lambda>" q params body lsc clos ((X.mg "__name__").getD .none) c' ctv
  let H1:Hp:=upd (upd H c' (knw oc)) h'.objs.size (knw fo)
  have frc:H c'=none:=I.hok.fresh hge
  have frf:H h'.objs.size=none:=I.hok.fresh (ξV (ξU hge hlt))
  have ncf:c'≠h'.objs.size:=ζA hlt
  have at0:∀ b,b≠c'→b≠h'.objs.size→H1 b=H b:=fun b n1 n2=>by show upd _ _ _ b=_; rw [zm n2,zm n1]
  have atc:H1 c'=some (knw oc):=by show upd _ _ _ c'=_; rw [zm ncf,zi]
  have atf:H1 h'.objs.size=some (knw fo):=zi
  have keep1:∀ {b:Addr} {u:HO},H b=some u→H1 b=some u:=fun {b u} e=>by rw [at0 b (zy e frc) (zy e frf)]; exact e
  have ho:∀ b o,b≠P→s.heap.get? b=some o→(h'.push fo).get? b=some o:=fun b o n e=>ζh _ (hx b o n e)
  have lt:∀ {b:Addr} {o:Obj},s.heap.get? b=some o→b≠c'∧b≠h'.objs.size:=fun {b o} e=>by
   have l:=ζq e
   exact ⟨ζA (ζx l hge),ζA (ζx l (ξV (ξU hge hlt)))⟩
  have un:Un X.fs [] H H1 s.heap (h'.push fo):=by
   refine ⟨fun b o e n _ _=>ho b o (neP n) e,fun b o e n _ _=>⟨o.slots,ho b o (neP n) e⟩,fun b o e n _=>by rw [at0 b (lt e).1 (lt e).2]; exact n,fun b o e _=>?_,fun b xs e=>keep1 e,fun b o u e=>keep1 e,fun b ps e=>⟨#[],by rw [keep1 e]; simp⟩⟩
   by_cases z:b=P
   ·subst z; exact ⟨_,ζh _ htb⟩
   ·exact ⟨o,ho b o z e⟩
  have hok:HOk X.prog X.w H1 (h'.push fo):=fun b u e=>by
   by_cases z1:b=h'.objs.size
   ·subst z1
    rw [atf] at e; cases e
    exact Xp (ζB _ rfl)
   ·by_cases z2:b=c'
    ·subst z2
     rw [atc] at e; cases e
     exact Xp (ζh _ hoc)
    ·rw [at0 b z2 z1] at e
     by_cases z3:b=P
     ·subst z3
      rw [hP] at e; cases e
      refine ⟨vs ++ #[rawInt lpos.line,rawInt lpos.col,.ref c'],ζh _ htb,?_,fun p v z=>?_⟩
      ·rw [Array.toList_append]
       exact TriplesOk_snoc _ _ _ _ ht
      ·rw [Array.toList_append] at z
       rcases VM _ ht z with y | y
       ·obtain ⟨b1,o1,fs1,t1,y1,y2,y3,y4⟩:=hcs p v y
        exact ⟨b1,o1,fs1,t1,y1,keep1 y2,y3,y4⟩
       ·exact ⟨c',oc,fs,t',y,atc,k2,by rw [tag]; exact k3⟩
     ·refine (I.hok b u e).stay (fun d v hd' y=>ho d v ?_ y) (fun d y=>keep1 y) (fun d xs y=>keep1 y) fun d o' u' y _=>keep1 y
      rcases hd' with rfl | hd'
      ·exact z3
      ·intro y; rw [y,hP] at hd'; cases hd'
  refine h _ H1 h'.objs.size c' ((X.mg "__name__").getD .none) ctv (I.un (t':=tk) un hok) (fun b=>?_) frf atf ⟨oc,fs,t',atc,k2,k3⟩
  by_cases z1:b=h'.objs.size
  ·subst z1; exact .inr ⟨frf,_,atf⟩
  ·by_cases z2:b=c'
   ·subst z2; exact .inr ⟨frc,_,atc⟩
   ·exact .inl (at0 b z2 z1)
end
def tGL (te:TE) (params:Arguments) (body:Expr) (lsc:Scope) (q:Str) (caps:List (Str×Nat)) (sp:Sp):TE:=fun σ H Q=>te σ H fun v1 H1=>∃ va:Str→V,(∀ p∈caps,σ[p.2]?=some (some (va p.1))) ∧
 ∀ (cl:List (Str×Addr)) (f c':Addr) (pm ctv:Value) (H2:Hp),zay H1 H2→H1 f=none→H2 f=some (knw (kla_obj "<lambda>" q params body lsc cl pm c' ctv))→WX H2 c' q→ZI H2 (caps.map (·.1)) va cl →
  sp [v1,.ref f] H2 (fun v H3=>∀ H4:Hp,(∀ b,H4 b=H3 b∨H4 b=none∧H1 b=none∧∃ o,H2 b=some (knw o))→Q v H4) E0
section
variable {X:Cx} {k:Nat} {ps:List Str} {sp:Sp} {g:Str} {p cpos lpos:Pos} {e:Expr} {te:TE} {params:Arguments} {body:Expr} {lsc:Scope} {q:Str} {c P:Addr} {clos:List (Str×Addr)} {caps:List (Str×Nat)}
theorem t9 (C:zF X.prog X.w X.K X.mg X.base CX0 g ps k sp) (hr:Room k X.A) (hg:Gl X g) (he:PE X e te) (hcode:X.env.code=.ref c) (hhd:codeHdIn X.K c P=true) (htab:(P,q)∈yn X.K) (hq:X.env.qual ++ "<lambda>" = q)
  (hcl:closureFor lsc X.env=pure clos) (hdef:defaultsOf params X.env=([],[])) (hN:∀ p∈caps,X.N[p.2]?=some p.1∧X.env.scope.names.lookup p.1=some .cell) (hk1:∀ p∈clos,p.1∈caps.map (·.1)∧X.env.cells.lookup p.1=some p.2) (hk2:∀ p∈caps,(clos.lookup p.1).isSome=true) (hfn:∀ y,X.fn y=true)
  (hdb:(g == ("__debug__" : Str))=false:=by decide) (hs1:starEach [e,.Lambda params body lsc lpos] X.env=(false,eval e X.env) :: starEach [.Lambda params body lsc lpos] X.env:=by rfl) (hpl:(backTo cpos (starEach [.Lambda params body lsc lpos] X.env)).any (·.1)=false:=by rfl) :
  PE X (.Call (.Name g p) [e,.Lambda params body lsc lpos] [] cpos) (tGL te params body lsc q caps sp):=by
 intro pins s σ H Q I h
 obtain ⟨f0,fd,F,hm,hk,hb⟩:=C.ex
 refine wpAny_Call_Name_kw (Xo I hg hm ?_ hdb)
 refine callWith_K (h₀:=X.base) I.ok.mod.kin hk ?_ hs1 hpl
 rw [hs1]
 show wpAny _ _ (spliced ((false,eval e X.env) :: backTo cpos (starEach [.Lambda params body lsc lpos] X.env))) _ _ s
 refine Calls.spliced_cons (thn (he pins s σ H _ I h) fun u1 s1 ⟨v1,H1,I1,r1,va,hva,hsp⟩=>?_)
 show wpAny _ _ (spliced ((false,eval (.Lambda params body lsc lpos) X.env) :: backTo cpos (starEach [] X.env))) _ _ s1
 refine Calls.spliced_cons (QS I1 hcode hhd htab hq hcl hdef fun s2 Ha f c' pm ctv I2 up frf hf hcd=>?_)
 refine Calls.spliced_nil ?_
 refine ⟨I2.kIn,?_⟩
 have cel:∀ y b,(y,b)∈clos→Ha b=none∧X.env.cells.lookup y=some b∧y∈caps.map (·.1)∧∃ o u,s2.heap.get? b=some o∧o.data=.cell (some u)∧RelV (va y) u:=fun y b hy=>by
  obtain ⟨m1,m2⟩:=hk1 (y,b) hy
  obtain ⟨pp,hp,e1⟩:=ζr.mp m1
  have e1:pp.1=y:=e1
  have n:=hN pp hp
  have vv:=hva pp hp
  rw [e1] at n vv
  have fr:Ha b=none:=(I2.freeC y b m2).elim (fun z=>z) fun z=>by rw [hfn y] at z; cases z.1
  obtain ⟨m,hn,hl⟩:=id I2.loc
  obtain ⟨u,ru,lk⟩:=hl pp.2 y (va y) n.1 vv (.inr (.inl n.2))
  refine ⟨fr,m2,m1,?_⟩
  rcases lk with ⟨z,_⟩ | ⟨_,b2,z2,o,z3,z4⟩
  ·have z':X.env.scope.names.lookup y=some .local:=z
   rw [n.2] at z'; cases z'
  ·rw [m2] at z2; cases z2
   exact ⟨o,u,z3,z4,ru⟩
 let cs:List Addr:=clos.map (·.2)
 have inC:∀ {b:Addr},b∈cs→∃ y,(y,b)∈clos:=fun {b} hb=>by
  obtain ⟨⟨y,b'⟩,h1,h2⟩:=ζr.mp hb
  have:b'=b:=h2
  subst this
  exact ⟨y,h1⟩
 have frC:∀ {b:Addr},b∈cs→Ha b=none:=fun hb=>let ⟨y,hy⟩:=inC hb; (cel y _ hy).1
 let H2:Hp:=fun b=>if b∈cs then (s2.heap.get? b).map knw else Ha b
 have h2n:∀ {b:Addr},b∉cs→H2 b=Ha b:=fun hb=>if_neg hb
 have h2c:∀ {b:Addr},b∈cs→∃ y o u,(y,b)∈clos∧s2.heap.get? b=some o∧H2 b=some (knw o)∧o.data=.cell (some u)∧RelV (va y) u:=fun {b} hb=>by
  obtain ⟨y,hy⟩:=inC hb
  obtain ⟨_,_,_,o,u,z1,z2,z3⟩:=cel y b hy
  exact ⟨y,o,u,hy,z1,by show (if b∈cs then _ else _)=_; rw [if_pos hb,z1]; rfl,z2,z3⟩
 have nC:∀ {b:Addr} {x:HO},Ha b=some x→b∉cs:=fun {b x} hx hb=>by rw [frC hb] at hx; cases hx
 have keep2:∀ {b:Addr} {x:HO},Ha b=some x→H2 b=some x:=fun hx=>by rw [h2n (nC hx)]; exact hx
 have hok2:HOk X.prog X.w H2 s2.heap:=fun b x hx=>by
  by_cases hb:b∈cs
  ·obtain ⟨_,o,u,_,z1,z2,_⟩:=h2c hb
   rw [z2] at hx; cases hx
   exact Xp z1
  ·rw [h2n hb] at hx
   exact (I2.hok b x hx).stay (fun _ _ _ z=>z) (fun _ z=>keep2 z) (fun _ _ z=>keep2 z) fun _ _ _ z _=>keep2 z
 have big:∀ {b:Addr},b∈cs→X.s₀.heap.objs.size≤b∧b≠X.env.locals:=fun {b} hb=>by
  obtain ⟨y,hy⟩:=inC hb
  obtain ⟨_,m2,_⟩:=cel y b hy
  exact ⟨I2.ok.cab y b (hfn y) m2,I2.cne y b m2⟩
 have e0:Env0 X.prog X.w X.K X.mg X.base X.A X.stack s2 H2:=by
  have e:=I2.env0
  refine ⟨e.frames,e.mod,fun b o z=>⟨(e.bs b o z).1,?_⟩,e.bsz,e.funs,fun b hb=>?_,hok2,e.bare,fun p hp=>?_⟩
  ·rw [h2n fun hb=>absurd (ζx (ζq (I2.ok.bs b o z).1) (big hb).1) (ζ5 _)]
   exact (e.bs b o z).2
  ·rw [h2n fun hc=>?_]
   ·exact e.frf b hb
   ·rcases ζo.mp (I2.stkSub b hb) with z | z
    ·exact (big hc).2 z
    ·obtain ⟨_,o,ho,_⟩:=I2.ok.funs.mem z
     exact absurd (ζx (ζq ho) (big hc).1) (ζ5 _)
  ·obtain ⟨t,m,z⟩:=e.tb p hp
   exact ⟨t,m,keep2 z⟩
 have kup:zay H1 H2:=fun b=>by
  by_cases hb:b∈cs
  ·obtain ⟨_,o,_,_,_,z2,_⟩:=h2c hb
   refine .inr ⟨?_,o,z2⟩
   rcases up b with z | ⟨z,_⟩
   ·rw [← z]; exact frC hb
   ·exact z
  ·rw [h2n hb]; exact up b
 have lkm:∀ {y:Str} {b:Addr},clos.lookup y=some b→(y,b)∈clos:=fun e=>PySem.mem_of_lookup e
 have clo:ZI H2 (caps.map (·.1)) va clos:=by
  refine ⟨fun y hy=>?_,fun y b hy=>?_,fun y z b hy hz=>?_⟩
  ·obtain ⟨pp,hp,e1⟩:=ζr.mp hy
   have e1:pp.1=y:=e1
   have:=hk2 pp hp
   rw [e1] at this
   exact ξo.mp this
  ·obtain ⟨_,_,m1,o,u,z1,z2,z3⟩:=cel y b (lkm hy)
   have hb:b∈cs:=ζr.mpr ⟨(y,b),lkm hy,rfl⟩
   refine ⟨m1,o,u,?_,z2,z3⟩
   show (if b∈cs then _ else _)=_
   rw [if_pos hb,z1]; rfl
  ·exact I2.ok.inj y z b (cel y b (lkm hy)).2.1 (cel z b (lkm hz)).2.1
 have cod2:WX H2 c' q:=let ⟨o,fs,t,z1,z2,z3⟩:=hcd; ⟨o,fs,t,keep2 z1,z2,z3⟩
 have sq:=hsp clos f c' pm ctv H2 kup frf (keep2 hf) cod2 clo
 have hl:[u1,Value.ref f].length=ps.length:=F.len _ _ _ _ sq
 have bt:=hb s2 [u1,.ref f] I2.kIn (by rw [ζJ]; exact hl)
 rw [ζJ] at bt
 refine wpAny_call (codeAny_mono (F.run X.A X.stack s2 H2 ⟨[u1,.ref f],[]⟩ [u1,.ref f] [v1,.ref f] _ _ hr e0 bt (.cons r1 (.cons rfl .nil)) sq) fun rs s3 hq3=>?_)
 cases rs with
 | error e'=>exact False.elim hq3
 | ok fl =>
  cases fl with
  | next=>exact False.elim hq3
  | brk=>exact False.elim hq3
  | cont=>exact False.elim hq3
  | ret u =>
   obtain ⟨v,H3,os,bare,un,hok3,rv,q3⟩:=hq3
   let H4:Hp:=fun b=>if b∈cs then none else H3 b
   have h4n:∀ {b:Addr},b∉cs→H4 b=H3 b:=fun hb=>if_neg hb
   have h3c:∀ {b:Addr},b∈cs→∃ o u',s2.heap.get? b=some o∧H3 b=some (knw o)∧o.data=.cell (some u'):=fun {b} hb=>by
    obtain ⟨_,o,u',_,z1,z2,z3,_⟩:=h2c hb
    exact ⟨o,u',z1,un.frzs _ _ _ z2,z3⟩
   have un4:Un (frs X.stack) [] Ha H4 s2.heap s3.heap:=by
    refine ⟨fun b o z n hb _=>?_,fun b o z n hb _=>?_,fun b o z n _=>?_,fun b o z hx=>un.there b o z hx,fun b xs z=>?_,fun b o u z=>?_,fun b ps' z=>?_⟩
    ·by_cases hc:b∈cs
     ·obtain ⟨o',_,y1,y2,_⟩:=h3c hc
      rw [z] at y1; cases y1
      exact (hok3 b _ y2).1
     ·exact un.keep b o z (by rw [h2n hc]; exact n) hb (by simp)
    ·by_cases hc:b∈cs
     ·obtain ⟨o',_,y1,y2,_⟩:=h3c hc
      rw [z] at y1; cases y1
      exact ⟨o.slots,(hok3 b _ y2).1⟩
     ·exact un.slot b o z (by rw [h2n hc]; exact n) hb (by simp)
    ·by_cases hc:b∈cs
     ·exact if_pos hc
     ·rw [h4n hc]; exact un.free b o z (by rw [h2n hc]; exact n) (by simp)
    ·rw [h4n (nC z)]; exact un.tups b xs (keep2 z)
    ·rw [h4n (nC z)]; exact un.frzs b o u (keep2 z)
    ·obtain ⟨m,y⟩:=un.tbls b ps' (keep2 z)
     exact ⟨m,by rw [h4n (nC z)]; exact y⟩
   have hok4:HOk X.prog X.w H4 s3.heap:=fun b x hx=>by
    have hb:b∉cs:=fun hc=>by rw [show H4 b=none from if_pos hc] at hx; cases hx
    rw [h4n hb] at hx
    have nc3:∀ {d:Addr} {y:HO},H3 d=some y→(∀ o u,y≠.frz o u)→d∉cs:=fun {d y} hd' hn hc=>by
     obtain ⟨o,_,_,z,_⟩:=h3c hc
     rw [hd'] at z; cases z
     exact hn _ _ rfl
    refine (hok3 b x hx).stay (fun _ _ _ z=>z) (fun d z=>?_) (fun d xs z=>?_) fun d o' u' z nd=>?_
    ·rw [h4n (nc3 z fun _ _ y=>by cases y)]; exact z
    ·rw [h4n (nc3 z fun _ _ y=>by cases y)]; exact z
    ·rw [h4n fun hc=>by
      obtain ⟨o,u2,_,y,y2⟩:=h3c hc
      rw [z] at y; cases y
      exact nd _ y2]
     exact z
   refine ⟨v,H4,I2.call' os un4 hok4 bare (ch:=[]) (fun _ z=>nomatch z),rv,q3 H4 fun b=>?_⟩
   by_cases hc:b∈cs
   ·obtain ⟨_,o,_,_,_,z2,_⟩:=h2c hc
    refine .inr ⟨if_pos hc,?_,o,z2⟩
    rcases up b with z | ⟨z,_⟩
    ·rw [← z]; exact frC hc
    ·exact z
   ·exact .inl (h4n hc)
end
def tFnL (i:Nat) (a:Addr) (sp:Sp) (t:TA):TE:=fun σ H Q=>σ[i]?=some (some (.ref a))∧t σ H fun vs H1=>(∃ nm q params body lsc cl pm c' ctv,H1 a=some (knw (kla_obj nm q params body lsc cl pm c' ctv)))∧sp vs H1 Q E0
section
variable {X:Cx} {k:Nat} {ps:List Str} {sp:Sp} {x:Str} {p pos:Pos} {e:Expr} {es:List Expr} {t:TA}
theorem Qm (i:Nat) {a:Addr} {fd:FuncData} (F:FnOk X.prog X.w X.K X.mg X.base CX0 k a fd ps sp) (hb:x9 X.K fd ps []) (hr:Room k X.A) (ha:PA X (e :: es) t)
  (hN:X.N[i]?=some x:=by rfl) (hv:Vis X.env.scope x:=by first | exact Or.inl rfl | exact Or.inr (Or.inl rfl) | exact Or.inr (Or.inr rfl)) (hd:(x == ("__debug__" : Str))=false:=by decide) (hcd:(x == ("__classdict__" : Str))=false:=by decide)
  (he:starEach (e :: es) X.env=(false,eval e X.env) :: starEach es X.env:=by rfl) (hpl:(backTo pos (starEach es X.env)).any (·.1)=false:=by rfl) :
  PE X (.Call (.Name x p) (e :: es) [] pos) (tFnL i a sp t):=by
 intro pins s σ H Q I h
 obtain ⟨hs,h⟩:=h
 refine wpAny_Call_Name_kw (thn (Qk (X:=X) (i:=i) (pos:=p) hN hv hd hcd pins s σ H (fun v H'=>v=.ref a∧H'=H) I ⟨_,hs,rfl,rfl⟩) fun u s1 ⟨v,H',I1,r1,ev,eH⟩=>?_)
 subst ev eH
 cases (show u=Value.ref a from r1)
 have key:wpAny (model X.prog X.w) X.A (spliced (backTo pos (starEach (e :: es) X.env))) (fun us s2=>(∃ nm q params body lsc cl pm c' ctv,s2.heap.get? a=some (kla_obj nm q params body lsc cl pm c' ctv))∧wpAny (model X.prog X.w) X.A (call (.ref a) ([] ++ us)) (EP X pins σ Q) X.xe s2) X.xe s1 :=
  thn (ha pos pins s1 σ _ _ I1 h) fun us s2 ⟨vs,H1,I2,r,⟨nm,q,params,body,lsc,cl,pm,c',ctv,ho⟩,hq⟩=>⟨⟨nm,q,params,body,lsc,cl,pm,c',ctv,(I2.hok _ _ ho).1⟩,TR F hr hb .nil zM I2 r (by rw [ζJ]; exact hq)⟩
 rw [he] at key ⊢
 refine callWith_of (P:=fun h=>∃ nm q params body lsc cl pm c' ctv,h.get? a=some (kla_obj nm q params body lsc cl pm c' ctv)) (by show ((false || (backTo pos (starEach es X.env)).any (·.1)) || false)=false; rw [hpl]; rfl) (fun h ⟨nm,q,params,body,lsc,cl,pm,c',ctv,ho⟩=>⟨.frame,.inl rfl,(Looks.ld (part:=none) ho).andThen .now⟩) (Calls.evalArgs_plain key)
end
end L2
namespace PD
open PySem L2 PySem.W
section
variable {P:Program} {w:World} {K:ζa} {mg:Str→Option Value} {base:Heap} {S S':Sx} {κ κ':Bool} {Γ Γ' Γ'':Ctx}
def LamD (P:Program) (w:World) (K:ζa) (mg:Str→Option Value) (base:Heap) (kk:Nat) (p1:PyData→PyData→Prop) (F:Hp) (a:Addr):Prop:=∃ fd x spl nm q params body lsc cl pm c' ctv,FnOk P w K mg base CX0 kk a fd [x] spl∧x9 K fd [x] []∧F a=some (knw (kla_obj nm q params body lsc cl pm c' ctv)) ∧
 ∀ (H' F':Hp) (v:V) (d r:PyData) (Q:VK),Same F F'→Same F' H'→Dp K F' v d→p1 d r→(∀ v' H'' F'',Gr H' F' H'' F''→Rp K false .fresh H' F'' v' r→Q v' H'')→spl [v] H' Q E0
def spG (P:Program) (w:World) (K:ζa) (mg:Str→Option Value) (base:Heap) (kk:Nat) (pre:List PyData→(PyData→PyData→Prop)→PyData→Prop):Sp:=fun vs H Q _=>∃ F ds d us a p1,vs=us ++ [.ref a]∧Same F H∧zE K F us ds∧LamD P w K mg base kk p1 F a∧pre ds p1 d∧∀ v H' F',Gr H F H' F'→Rp K true .fresh H F' v d→Q v H'
theorem zaI {kk:Nat} {pre:List PyData→(PyData→PyData→Prop)→PyData→Prop} {n:Nat} (h:∀ ds p1 d,pre ds p1 d→ds.length=n) {vs:List V} {H:Hp} {Q:VK} {E:XK} (s:spG P w K mg base kk pre vs H Q E):vs.length=n + 1:=by
 obtain ⟨F,ds,d,us,a,p1,rfl,_,k,_,p,_⟩:=s
 rw [ζd,zE.length k,h ds p1 d p]
 rfl
def spLm (K:ζa) (f c':Addr) (o:Obj) (q:Str) (ys:List Str) (va:Str→V) (dc:Str→PyData) (cl:List (Str×Addr)) (p1:PyData→PyData→Prop):Sp:=fun vs H Q _=>∃ v F d r,vs=[v]∧H f=some (knw o)∧WX H c' q∧ZI H ys va cl∧Same F H∧Dp K F v d∧(∀ y∈ys,Dp K F (va y) (dc y))∧p1 d r ∧
 ∀ v' H' F',Gr H F H' F'→Rp K false .fresh H F' v' r→Q v' H'
theorem zai {H F:Hp} {v:V} {d:PyData} {va:Str→V} {dc:Str→PyData} {ys:List Str} (le:Same F H) (hd:Dp K F v d) (hc:∀ y∈ys,Dp K F (va y) (dc y)):DEnv K .fresh H F H F (some v :: ys.map fun y=>some (va y)) (some (.fz false d) :: ys.map fun y=>some (.fz false (dc y))):=by
 have no:∀ (i:Nat) (x:DV),(some (.fz false d) :: ys.map fun y=>some (.fz false (dc y)):Ctx)[i]?=some (some x)→∃ u e,(some v :: ys.map fun y=>some (va y):St)[i]?=some (some u)∧x=.fz false e∧Dp K F u e:=fun i x h=>by
  cases i with
  | zero=>exact ⟨v,d,rfl,by simpa using h.symm,hd⟩
  | succ i =>
   have h:(ys.map fun y=>some (DV.fz false (dc y)))[i]?=some (some x):=by simpa using h
   rw [ζG] at h
   cases e:ys[i]? with
   | none=>rw [e] at h; cases h
   | some y =>
    rw [e] at h
    refine ⟨va y,dc y,by simp [e],by simpa using h.symm,hc y (List.mem_of_getElem? e)⟩
 refine ⟨.refl le,le,fun a h=>?_,fun T z=>(nomatch z),by simp,fun i x h=>?_,fun i j x y v w a h1 h2 _ _ o1 _=>?_⟩
 ·cases e:H a with
  | none=>exact absurd e h
  | some o=>exact ⟨o,rfl⟩
 ·obtain ⟨u,e,q1,rfl,q2⟩:=no i x h
  exact ⟨u,q1,tq q2⟩
 ·obtain ⟨u,e,_,rfl,_⟩:=no i x h1
  exact o1.elim
theorem zcO {k:Nat} {f c':Addr} {x:Str} {ys:List Str} {va:Str→V} {dc:Str→PyData} {qual:Str} {lsc:Scope} {cl:List (Str×Addr)} {params:Arguments} {body:Expr} {pm ctv:Value} {p1:PyData→PyData→Prop} {te:TE} (S:vA x ys lsc)
  (hp:∀ (A:Around) (outer:List Env) (s:Shared) (H:Hp),Room k (A.deeper (envX qual lsc s.heap.objs.size f (.ref c') cl))→PE (cxL P w K mg base (x :: ys) qual lsc f (.ref c') cl A outer s H) body te)
  (hE:∀ d r,p1 d r→EvE K .fresh false te (some (.fz false d) :: ys.map fun y=>some (.fz false (dc y))) r) :
  FnOk P w K mg base CX0 (k + 1) f (kla_fn "<lambda>" qual params body lsc cl pm (.ref c') ctv) [x] (spLm K f c' (kla_obj "<lambda>" qual params body lsc cl pm c' ctv) qual ys va dc cl p1):=by
 refine zcP (va:=va) S (fun vs H Q E h=>?_) (fun vs H Q E h=>?_) fun A outer s H v Q E hr h=>?_
 ·obtain ⟨v,_,_,_,rfl,_⟩:=h
  rfl
 ·obtain ⟨v,_,_,_,_,h1,h2,h3,_⟩:=h
  exact ⟨h1,h2,h3⟩
 ·obtain ⟨v',F,d,r,ev,_,_,_,le,hd,hc,hp1,q⟩:=h
  cases ev
  refine ⟨te,hp A outer s H hr,hE d r hp1 H F H F _ (zai le hd hc) _ fun u H' F' g p=>q u H' F' g p⟩
theorem V3 {R:Str×Nat→V→Prop}:∀ (caps:List (Str×Nat)),(caps.map (·.1)).Nodup→(∀ p∈caps,∃ u,R p u)→∃ va:Str→V,∀ p∈caps,R p (va p.1)
 | [],_,_=>⟨fun _=>.non,fun _ h=>(nomatch h)⟩
 | p :: r,nd,h=>by
  obtain ⟨nd1,nd2⟩:=ζC.mp nd
  obtain ⟨va,hv⟩:=V3 r nd2 fun q hq=>h q (ζl _ hq)
  obtain ⟨u,hu⟩:=h p ζg
  refine ⟨fun y=>if y=p.1 then u else va y,fun q hq=>?_⟩
  rcases ζo.mp hq with rfl | hq
  ·show R q (if q.1=q.1 then u else _)
   rw [if_pos rfl]; exact hu
  ·show R q (if q.1=p.1 then u else _)
   rw [if_neg (show ¬ q.1=p.1 from fun z=>nd1 (show p.1∈r.map (·.1) by rw [← z]; exact ζr.mpr ⟨q,hq,rfl⟩))]
   exact hv q hq
theorem Zp {kk:Nat} {pre:List PyData→(PyData→PyData→Prop)→PyData→Prop} {t1:TE} {d1 d:PyData} {params:Arguments} {body:Expr} {lsc:Scope} {q:Str} {caps:List (Str×Nat)} {dc:Str→PyData} {p1:PyData→PyData→Prop} {x:Str} {te:TE}
  (h1:EvE K S false t1 Γ d1) (hc:∀ p∈caps,∃ κ,Γ[p.2]?=some (some (.fz κ (dc p.1)))) (SL:vA x (caps.map (·.1)) lsc) (hb:∀ cl pm c' ctv,x9 K (kla_fn "<lambda>" q params body lsc cl pm (.ref c') ctv) [x] [])
  (hp:∀ (f c':Addr) (cl:List (Str×Addr)),(∀ y∈caps.map (·.1),(cl.lookup y).isSome=true)→∀ (A:Around) (outer:List Env) (s:Shared) (H:Hp),Room kk (A.deeper (envX q lsc s.heap.objs.size f (.ref c') cl))→PE (cxL P w K mg base (x :: caps.map (·.1)) q lsc f (.ref c') cl A outer s H) body te)
  (hE:∀ d r,p1 d r→EvE K .fresh false te (some (.fz false d) :: (caps.map (·.1)).map fun y=>some (.fz false (dc y))) r) (hpre:pre [d1] p1 d) :
  EvE K S κ (tGL t1 params body lsc q caps (spG P w K mg base (kk + 1) pre)) Γ d:=fun H0 F0 H F σ e Q qq =>
 h1 H0 F0 H F σ e _ fun v1 H1 F1 g1 r1=>by
  classical
  have e1:=e.mono g1
  obtain ⟨va,hva⟩:=V3 (R:=fun p u=>σ[p.2]?=some (some u)∧Dp K F1 u (dc p.1)) caps (ζC.mp SL.nd).2 fun p hp=>by
   obtain ⟨κ2,z⟩:=hc p hp
   obtain ⟨u,z1,z2⟩:=e1.has _ _ z
   exact ⟨u,z1,x4 z2⟩
  refine ⟨va,fun p hp=>(hva p hp).1,fun cl f c' pm ctv H2 kup frf hf hcd clo=>?_⟩
  have s12:Same H1 H2:=fun b o z=>by
   rcases kup b with y | ⟨y,_⟩
   ·rw [y]; exact z
   ·rw [y] at z; cases z
  let isL:Addr→Prop:=fun b=>b=f∨b=c'∨∃ y,cl.lookup y=some b
  have knL:∀ {b:Addr},isL b→∃ o,H2 b=some (knw o):=fun {b} z=>by
   rcases z with rfl | rfl | ⟨y,z⟩
   ·exact ⟨_,hf⟩
   ·obtain ⟨o,_,_,z,_⟩:=hcd; exact ⟨o,z⟩
   ·obtain ⟨o,_,z,_⟩:=(clo.cel y b z).2; exact ⟨o,z⟩
  let F2:Hp:=fun b=>if F1 b=none∧isL b then H2 b else F1 b
  have f12:Same F1 F2:=fun b o z=>by
   show (if F1 b=none∧isL b then _ else _)=_
   rw [if_neg fun c=>by rw [c.1] at z; cases z]; exact z
  have le2:Same F2 H2:=fun b o z=>by
   have z:(if F1 b=none∧isL b then H2 b else F1 b)=some o:=z
   split at z
   ·exact z
   ·exact s12 _ _ (g1.le _ _ z)
  have atL:∀ {b:Addr},isL b→F2 b=H2 b:=fun {b} hL=>by
   cases z:F1 b with
   | none=>show (if F1 b=none∧isL b then _ else _)=_; rw [if_pos ⟨z,hL⟩]
   | some o=>rw [f12 _ _ z,s12 _ _ (g1.le _ _ z)]
  have out2:∀ {b:Addr},F1 b=none→(∃ o,F2 b=some (knw o))∨F2 b=none:=fun {b} z=>by
   by_cases hL:isL b
   ·obtain ⟨o,y⟩:=knL hL
    exact .inl ⟨o,by rw [atL hL]; exact y⟩
   ·exact .inr (by show (if F1 b=none∧isL b then _ else _)=_; rw [if_neg fun c=>hL c.2]; exact z)
  have lam:LamD P w K mg base (kk + 1) p1 F2 f:=by
   refine ⟨_,x,_, "<lambda>", q,params,body,lsc,cl,pm,c',ctv,zcO (va:=va) (dc:=dc) SL (hp f c' cl fun y hy=>by obtain ⟨c,z⟩:=clo.has y hy; rw [z]; rfl) hE,hb cl pm c' ctv,by rw [atL (.inl rfl)]; exact hf,fun H' F' v d0 r0 Q0 s1 s2 hd hpp k=>?_⟩
   have at':∀ {b:Addr} {o:Obj},isL b→H2 b=some (knw o)→H' b=some (knw o):=fun {b o} hL z=>s2 _ _ (s1 _ _ (by rw [atL hL]; exact z))
   refine ⟨v,F',d0,r0,rfl,at' (.inl rfl) hf,?_,⟨clo.has,fun y b z=>?_,clo.inj⟩,s2,hd,fun y hy=>?_,hpp,k⟩
   ·obtain ⟨o,fs,t,z,z2⟩:=hcd
    exact ⟨o,fs,t,at' (.inr (.inl rfl)) z,z2⟩
   ·obtain ⟨m,o,u,z1,z2⟩:=clo.cel y b z
    exact ⟨m,o,u,at' (.inr (.inr ⟨y,z⟩)) z1,z2⟩
   ·obtain ⟨pp,hpp',rfl⟩:=ζr.mp hy
    exact xa (f12.trans s1) (hva pp hpp').2
  refine ⟨F2,[d1],d,[v1],f,p1,rfl,le2,.cons (xa f12 (x4 r1)) .nil,lam,hpre,fun v H3 F3 g3 p3 H4 h4=>?_⟩
  let F4:Hp:=fun b=>if H2 b≠none∧F1 b=none then none else F3 b
  have f4:∀ {b:Addr} {o:HO},F4 b=some o→F3 b=some o∧¬ (H2 b≠none∧F1 b=none):=fun {b o} z=>by
   have z:(if H2 b≠none∧F1 b=none then none else F3 b)=some o:=z
   split at z
   ·cases z
   ·rename_i c; exact ⟨z,c⟩
  have f4':∀ {b:Addr} {o:HO},F3 b=some o→¬ (H2 b≠none∧F1 b=none)→F4 b=some o:=fun {b o} z c=>by
   show (if H2 b≠none∧F1 b=none then none else F3 b)=some o
   rw [if_neg c]; exact z
  have g4:Gr H1 F1 H4 F4:=by
   refine ⟨fun b o z=>?_,fun b o z=>f4' (g3.f _ _ (f12 _ _ z)) (fun c=>by rw [c.2] at z; cases z),fun b o z=>?_,fun b o z n=>?_⟩
   ·rcases h4 b with y | ⟨_,y,_⟩
    ·rw [y]; exact g3.h _ _ (s12 _ _ z)
    ·rw [y] at z; cases z
   ·obtain ⟨z1,z2⟩:=f4 z
    rcases h4 b with y | ⟨_,y,o',y'⟩
    ·rw [y]; exact g3.le _ _ z1
    ·exact absurd ⟨by rw [y']; simp,g1.le.free y⟩ z2
   ·show (if H2 b≠none∧F1 b=none then none else F3 b)=none
    rw [if_pos ⟨by rw [s12 _ _ z]; simp,n⟩]
  have hln:∀ a xs,LN K true .fresh H2 F3 a xs→LN K true S H0 F4 a xs:=fun a xs z=>⟨f4' z.1 fun c=>z.2 (show H2 a≠none from c.1),fun cc=>by
   obtain ⟨u,hu⟩:=e1.sd a cc
   exact z.2 (by show H2 a≠none; rw [s12 _ _ hu]; simp)⟩
  refine qq v H4 F4 (g1.trans g4) (vC (κ:=true) (fun _=>rfl) (wc (κ:=true) (κ':=true) hln (fun a xs z=>?_) p3))
  ·have tp:∀ {o:HO},F3 a=some o→(∀ ob,o≠knw ob)→F4 a=some o:=fun {o} y ne=>f4' y fun c=>by
    rcases out2 c.2 with ⟨ob,w1⟩ | w1
    ·have:=g3.f _ _ w1
     rw [y] at this; cases this
     exact ne _ rfl
    ·cases w2:H2 a with
     | none=>exact c.1 w2
     | some o2=>rw [g3.ap _ _ w2 w1] at y; cases y
   rcases z with (z | ⟨o,z⟩) | z
   ·exact .inl (.inl (tp z fun ob y=>by cases y))
   ·exact .inl (.inr ⟨o,tp z fun ob y=>by cases y⟩)
   ·exact .inr z
theorem Q9 {kk:Nat} {t:TE} {i:Nat} {d r:PyData} {a:Addr} {fd:FuncData} {x:Str} {spl:Sp} {φ:Hp→V→Prop}
  (hΓ:GetC Γ i (.xp φ)) (hφ:∀ F1 v,φ F1 v→v=.ref a∧(∃ nm q params body lsc cl pm c' ctv,F1 a=some (knw (kla_obj nm q params body lsc cl pm c' ctv)))∧∀ (H' F':Hp) (v:V) (Q:VK),Same F1 F'→Same F' H'→Dp K F' v d→(∀ v' H'' F'',Gr H' F' H'' F''→Rp K false .fresh H' F'' v' r→Q v' H'')→spl [v] H' Q E0)
  (h:EvE K S false t Γ d):EvE K S false (tFnL i a spl (ye t tNil)) Γ r:=fun H0 F0 H F σ e Q q=>by
 obtain ⟨v,hv,F1,s1,hf⟩:=e.has i _ hΓ.eq
 obtain ⟨rfl,⟨nm,q',params,body,lsc,cl,pm,c',ctv,ho⟩,pr⟩:=hφ F1 v hf
 refine ⟨hv,h H0 F0 H F σ e _ fun u H1 F2 g1 p1=>⟨⟨nm,q',params,body,lsc,cl,pm,c',ctv,g1.le _ _ (g1.f _ _ (s1 _ _ ho))⟩,pr H1 F2 u Q (s1.trans g1.f) g1.le (x4 p1) fun v' H'' F'' g2 p2=>q v' H'' F'' (g1.trans g2) (tq (x4 p2))⟩⟩
end
end PD
namespace L2
open PySem PySem.Spec PyProof.Rows PySem.W
def Ym (K:Frag) (f:Addr) (x:Str):Bool:=match K.lookup f with
 | some ⟨_,_,.func fd,_⟩=>(match fd.code with
  | .ref c=>(match (K.lookup c).bind Tx with
   | some (P,q)=>codeHdIn K c P && decide (q=x ++ ".<locals>.<lambda>")
   | none=>false)
  | _=>false)
 | _=>false
theorem vZ {α β:Type} [BEq α] [LawfulBEq α]:∀ {l:List (α×β)} {a:α} {b:β},l.lookup a=some b→(a,b)∈l
 | (x,y) :: l,a,b,h=>by
  rw [ξD] at h
  split at h
  ·rename_i e
   have:=eq_of_beq e
   cases h
   rw [this]
   exact ζg
  ·exact ζl _ (vZ h)
section
variable {P:Program} {w:World} {K:ζa} {mg:Str→Option Value} {base:Heap}
theorem Fun.okL {x qual:Str} {st:Stmt} {f:Addr} {fd:FuncData} {N ps:List Str} {k:Nat} {sp:Sp} (F:Fun K x qual st f fd) (L:Ym K f qual=true) (S:zI N ps (zo st)) (len:∀ vs H Q E,sp vs H Q E→vs.length=ps.length)
  (hbody:∀ (c T:Addr) (A:Around) (outer:List Env) (s:Shared) (H:Hp) (vs:List V) (Q:VK) (E:XK),codeHdIn K c T=true→(T,qual ++ ".<locals>.<lambda>")∈yn K→Room k (A.deeper (envOfC qual (zo st) s.heap.objs.size f (.ref c)))→sp vs H Q E →
   ∃ t,PSs (cxOf CX0 P w K mg base N qual (zo st) f (.ref c) A outer s H E).nox (xt st) t∧t { nx:=fun _ H'=>Q .non H',rt:=Q } (start N vs) H):FnOk P w K mg base CX0 (k + 1) f fd ps sp:=by
 obtain ⟨oc,od,kV,doc,pm,an,cdv,ct,osl,rfl,lk,hcd⟩:=F.ex
 unfold Ym at L
 rw [lk] at L
 dsimp only at L
 split at L
 ·rename_i c
  split at L
  ·rename_i T q e
   simp only [Bool.and_eq_true,decide_eq_true_eq] at L
   obtain ⟨o,e1,e2⟩:=ξ0.mp e
   have htab:(T,qual ++ ".<locals>.<lambda>")∈yn K:=by
    rw [← L.2]
    exact ξr.mpr ⟨(c,o),vZ e1,e⟩
   refine zb5 lk hcd S len fun A outer s H vs Q E hr hsp=>?_
   obtain ⟨t,h,q⟩:=hbody c T A outer s H vs Q E L.1 htab hr hsp
   exact ⟨t,h.nox,q⟩
  ·cases L
 ·cases L
end
end L2
namespace Cm
open PySem L2
structure AtL (K:ζa) (x:Str) (st:Stmt) (f:Addr) (fd:FuncData):Prop where
 a:PySem.W.nsIn K mainGlobals x=some (some (.ref f))
 F:Fun K x x st f fd
 L:Ym K f x=true
theorem VW {K:ζa} {x:Str} {st:Stmt} {f:Addr} {oc:Value} {od an:Option Addr} {osl:Array (Option Value)} {kV doc pm cdv ct:Value} (a:PySem.W.nsIn K mainGlobals x=some (some (.ref f)))
  (l:K.lookup f=some ⟨oc,od,.func (PySem.W.fnOf x x (x8 st) (xt st) (zo st) .none kV doc pm an cdv ct),osl⟩) (c:PySem.W.codeIn K cdv x=true) (k:PySem.W.keepIn K (.ref f)=true) (m:Ym K f x=true):∃ f fd,AtL K x st f fd:=⟨f,_,a,VB l c k,m⟩
end Cm
namespace L2
open PySem
theorem zaF {K:ζa} {h:Heap} {ts:List Addr} (t:∀ P∈ts,h.get? P=some (PySem.W.tabObj #[])) (e:((yn K).all fun p=>ts.contains p.1)=true):∀ p∈yn K,h.get? p.1=some (PySem.W.tabObj #[]):=fun p hp=>t _ (by
 have:=ξi.mp e p hp
 simpa using this)
def zb1 (x:Str) (ys:List Str) (sc:Scope):Bool:=decide (sc.kind=.function) && !sc.isCoroutine && !sc.isGenerator && decide ((x :: ys).Nodup) && decide (sc.names.lookup x=some .local) && (sc.names.all fun p=>decide (p.2≠.cell) && (decide (p.2≠.free) || decide (p.1∈ys))) && ys.all fun y=>decide (sc.names.lookup y=some .free)
theorem WD {x:Str} {ys:List Str} {sc:Scope} (h:zb1 x ys sc=true):vA x ys sc:=by
 unfold zb1 at h
 simp only [Bool.and_eq_true,decide_eq_true_eq,Bool.not_eq_true',List.all_eq_true,Bool.or_eq_true] at h
 obtain ⟨⟨⟨⟨⟨⟨h1,h2⟩,h3⟩,h4⟩,h5⟩,h6⟩,h7⟩:=h
 refine ⟨h1,h2,h3,h4,h5,fun y hy=>(h6 y hy).1,fun y hy=>?_,h7⟩
 rcases (h6 _ (PySem.mem_of_lookup hy)).2 with z | z
 ·exact absurd rfl z
 ·exact z
end L2
namespace PD
open PySem L2
theorem V1 {K:ζa} {κ:Bool} {t:TS} {N:List Str} {n:Nat} {H F:Hp} {vs:List V} {a:Addr} {ds:List PyData} {d:PyData} {Q:VK} {Γ Γ':Ctx} {φ:Hp→V→Prop} (le:Same F H) (k:zE K F vs ds) (q:∀ v H' F',Gr H F H' F'→Rp K κ .fresh H F' v d→Q v H') (hn:N.length=n) (hl:vs.length < n) (hΓ:xf n ds Γ) (hs:SetC Γ ds.length (some (.xp φ)) Γ') (hφ:φ F (.ref a))
  (h:ExS K .fresh t Γ' { nx:=fun _=>d=.none,rt:=fun x=>x=d,kr:=κ }):t { nx:=fun _ H'=>Q .non H',rt:=Q } (L2.start N (vs ++ [.ref a])) H:=by
 have l:=zE.length k
 have e0:=wQ (N:=N) le k
 rw [hn,hΓ.eq] at e0
 have e1:=e0.set (i:=ds.length) (v:=.ref a) (x:=.xp φ) ⟨F,.refl _,hφ⟩ fun _ z=>z.elim
 rw [hs.eq] at e1
 have es:(L2.start N vs).set ds.length (some (.ref a))=L2.start N (vs ++ [.ref a]):=by
  unfold L2.start
  rw [← l,List.set_append_right _ _ (by simp),List.length_map,Nat.sub_self]
  obtain ⟨m,hm⟩:∃ m,N.length - vs.length=m + 1:=⟨N.length - vs.length - 1,by omega⟩
  rw [hm,List.replicate_succ,List.set_cons_zero,ζn,ζd]
  have:N.length - (vs.length + [V.ref a].length)=m:=by show N.length - (vs.length + 1)=m; omega
  rw [this]
  simp
 rw [es] at e1
 exact h H F H F _ F e1 (.refl _) (.inl rfl) _ ⟨fun _ σ' H' F' z _ e'=>q .non H' F' e'.gr (by rw [z]; exact .non),fun x v H' F' z g p=>q v H' F' g (by rw [← (show x=d from z)]; exact p),fun _ _ _ _ z=>z.elim,fun _ _ _ _ z=>z.elim⟩
end PD
namespace L2
open PySem PySem.Spec PyProof.Rows PySem.AutoSeq1
theorem Xc (l b:Addr) (xs ys:Array Value) (n n2:Nat) (dd:Option Addr) (sl:Array (Option Value)) (hs0:¬(!xs.isEmpty && Builtin.List.listTooLong (xs.size + ys.size))=true) (hs1:xs.size≤sizeLine) (hs2:xs.size + ys.size≤sizeLine + 1) :
  Meets (Builtin.«list.extend» ⟨[.ref l,.ref b],[]⟩) (fun _ R s=>s.heap.get? l=some { cls:=.type "list", data:=.seq xs n }∧s.heap.get? b=some { cls:=.type "list", dict:=dd,data:=.seq ys n2,slots:=sl }∧R (.ok (.ret Value.none)) { s with heap:=s.heap.update l (Obj.mapSeq fun x=>x ++ ys),toks:=s.toks }) :=
 .of_wp fun prog w A R s h=>by
  obtain ⟨hp,g,d,tk,os⟩:=s
  obtain ⟨hl,hb,h⟩:=h
  have f1:=AutoSeq1.idx_int
  have f2:=AutoSeq1.sub_tuple_tuple
  have f3:=AutoSeq1.sub_list_list
  have f4:=AutoSeq1.sub_tuple_list
  have f5:=AutoSeq1.sub_list_tuple
  have hz:(xs ++ ys).size≤sizeLine + 1:=by rw [Array.size_append]; exact hs2
  wp_walk using (wpAny_updateSeq hl rfl (hz:=hs1) (_hz':=hz)),wpAny_loadPart' hl,wpAny_loadPart' hb
  exact ⟨_,rfl,h⟩
section
variable {X:Cx} {K:ζa}
def tW (K:ζa):V→List V→Hp→VK→Prop:=fun x vs H Q=>∃ l b xs zs,x=.ref l∧vs=[.ref b]∧H l=some (.lst xs)∧SqL K H b zs∧xs.length + zs.length≤sizeLine∧Q .non (upd H l (.lst (xs ++ zs)))
theorem Vo:MtM X "list.extend" (tW X.K):=by
 intro pins s σ H x vs v us Q I rx rv h
 obtain ⟨l,b,xs,zs,rfl,rfl,hH,hB,hz,q⟩:=h
 cases rx
 obtain ⟨u,rfl,ru⟩:=rv.one
 cases ru
 obtain ⟨z,its,n,r,hl,e⟩:=I.lstM hH
 obtain ⟨its2,r2,pl,_⟩:=I.list hB
 have hl2:=r2.length
 obtain ⟨⟨c,dd,dt,sl⟩,ho,hc,n2,hd⟩:=pl.isList
 simp only at hc hd
 subst hc hd
 have hsz:its.toArray.size + its2.toArray.size≤sizeLine:=by rw [ζQ,ζQ]; omega
 have hlong:¬ (!its.toArray.isEmpty && Builtin.List.listTooLong (its.toArray.size + its2.toArray.size))=true:=by
  rw [Qw hsz,Bool.and_false]
  exact ζw
 refine call_meets F.slot_list_extend ⟨_,e,rfl⟩ F.entry_list_extend (F.args_list_extend_2 _ _) (Xc l b its.toArray its2.toArray n n2 dd sl hlong (by rw [ζQ]; omega) (by omega)) ⟨e,ho,?_⟩
 refine ⟨.non,_,I.lset (its':=its ++ its2) hH e (by simp) (r.append r2) ?_,rfl,q⟩
 rw [ζd]
 omega
theorem tm (hK:X.K=K):MtM X "list.extend" (tW K):=by subst hK; exact Vo
end
end L2
namespace PD
open PySem L2
section
variable {K:ζa} {S S':Sx} {κ κ':Bool} {Γ Γ' Γ'':Ctx} {P:Post}
theorem Ys {te:TE} {i:Nat} {ds es:List PyData} (h:GetC Γ i (.ow κ ds)) (he:EvL K S κ te Γ es) (hz:ds.length + es.length≤sizeLine) (e:SetC Γ i (some (.ow κ (ds ++ es))) Γ') (k:P.nx Γ'):ExS K S (x3 (tBM K "list" (tW K) (tVar i) (ye te tNil))) Γ P:=fun H0 F0 H F σ B e1 bb vv D I=>by
 obtain ⟨v0,q1,a,vs,rfl,w,q5⟩:=e1.has i _ h.eq
 refine ⟨_,q1,.inl ⟨rfl,_,SqL.of w.h⟩,he H0 F0 H F σ e1 _ fun b us H1 F1 g p1 k1=>?_⟩
 have k':=zq g.f q5
 refine ⟨a,b,vs,us,rfl,rfl,g.h _ _ w.h,p1,by rw [zn.length q5,zn.length k1]; exact hz,?_⟩
 obtain rfl:=e.eq
 exact I.nx _ _ _ F1 k (bb.trans g.f) ((e1.mono g).put (y:=.ow κ (ds ++ es)) h.eq q1 (show Owns H1 (.ref a) (.ow κ ds) a from rfl) ⟨a,_,rfl,⟨zi,(w.mono g).f,w.n,w.s⟩,zn.append k' k1⟩ fun _ z=>z)
theorem Uf {i j:Nat} {ds:List PyData} {d:PyData} (h:GetC Γ i (.ow κ (ds ++ [d]))) (hij:i≠j) (e1:SetC Γ i (some (.ow κ ds)) Γ') (e2:SetC Γ' j (some (.fz κ d)) Γ'') (k:P.nx Γ''):ExS K S (tAsg (tBM0 K "list" rPop (tVar i)) (y9 j)) Γ P:=fun H0 F0 H F σ B e bb vv D I=>by
 obtain ⟨v0,q1,a,vs,rfl,w,q5⟩:=e.has i _ h.eq
 have hl:=zn.length q5
 rw [ζd] at hl
 have hl:vs.length=ds.length + 1:=hl
 obtain ⟨v,hv,hr⟩:=zn.get q5 (i:=ds.length) (d:=d) (by rw [ξT (ζi _),Nat.sub_self]; rfl)
 have k1:zn K κ S H0 F vs.dropLast ds:=by
  have:=zn.take ds.length q5
  rwa [List.take_append_of_le_length (ζi _),ξh,show ds.length=vs.length - 1 by omega,← List.dropLast_eq_take] at this
 refine ⟨_,q1,.inl ⟨rfl,_,SqL.of w.h⟩,a,vs,v,rfl,rfl,w.h,by rw [show vs.length - 1=ds.length by omega]; exact hv,?_⟩
 have e3:=e.put (vs:=vs.dropLast) (y:=.ow κ ds) h.eq q1 (show Owns H (.ref a) (.ow κ (ds ++ [d])) a from rfl) ⟨a,_,rfl,⟨zi,w.f,w.n,w.s⟩,k1⟩ fun _ z=>z
 rw [e1.eq] at e3
 have e4:=e3.setF (i:=j) hr
 rw [e2.eq] at e4
 exact I.nx _ _ _ F k bb e4
end
end PD
namespace L2
open PySem PySem.Spec PyProof.Rows
section
variable {X:Cx} {K:ζa}
end
end L2
namespace PD
open PySem L2
section
variable {K:ζa} {S S':Sx} {κ κ':Bool} {Γ Γ' Γ'':Ctx} {P:Post} {E:XK}
def Rows (xs:List PyData):Prop:=∀ d∈xs,∃ ns:List Int,d=.list (ns.map .int)
end
end PD
namespace L2
open PySem PySem.Spec PyProof.Rows
section
variable {X:Cx} {K:ζa}
def zbW:List V→Hp→VK→Prop:=fun xs H Q=>∃ m n:Int,xs=[.int m,.int n]∧∀ l,H l=none→Q (.ref l) (upd H l (.rng m n))
theorem Tf:yQ X (.type "range") zbW:=by
 intro pins s σ H xs us Q I r h
 obtain ⟨m,n,rfl,q⟩:=h
 obtain ⟨u,w,rfl,rx,ry⟩:=zbK r
 obtain ⟨t,rfl⟩:=rx
 obtain ⟨t',rfl⟩:=ry
 exact call_range_2 ⟨.ref s.heap.objs.size,_,I.laid (t':=s.toks + 1) (fun b u e=>ζh _ e) (ζi _) (show yk X.prog X.w _ _ _ (.rng m n) from ⟨_,_,_,ζB _ rfl⟩),rfl,q _ (I.hok.fresh (ζi _))⟩
def Yb:List V→Hp→VK→Prop:=fun xs H Q=>∃ (p:Addr) (a b:Int),xs=[.ref p]∧H p=some (.rng a b)∧-1000000≤a∧a≤1000000∧-1000000≤b∧b≤1000000∧∀ l,H l=none→Q (.ref l) (upd H l (.lst ((List.range (b - a).toNat).map fun i:Nat=>V.int (a + (i:Int)))))
theorem Z1 (hc:X.calm=true):yQ X (.type "list") Yb:=by
 intro pins s σ H xs us Q I r h
 obtain ⟨p,a,b,rfl,hp,a0,a1,b0,b1,q⟩:=h
 obtain ⟨u,rfl,rx⟩:=vP r
 cases rx
 obtain ⟨t,u,v,ho⟩:∃ t u v,s.heap.get? p=some { cls:=.type "range", data:=.fields #[.int a t,.int b u,.int 1 v] }:=I.hok p _ hp
 have rs:Builtin.Range.rangeSize a b 1=((b - a).toNat:Int):=by
  rw [rangeSize_one]
  split <;> omega
 generalize hn:(b - a).toNat=n at rs q
 refine call_list_range (n:=n) (I.ok.hd hc) ho ?_ rs (by omega) fun h' tk acc' c' hk hS hacc=>?_
 ·exact small_one (by omega) (by omega) (by omega) (by omega)
 ·have hl:acc'.toList.length=n:=by rw [ζ0]; exact hacc.1
  refine ⟨.ref s.heap.objs.size,_,I.laid (t':=tk) hk (ζi _) (show yk X.prog X.w _ h' _ (.lst ((List.range n).map fun i:Nat=>V.int (a + (i:Int)))) from ⟨by rw [ζb,ζy,sizeLine_eq]; omega,acc'.toList,c',Vals.ofGet _ _ (by rw [ζb,ζy,hl]) fun i x u h1 h2=>?_,hS⟩),rfl,q _ (I.hok.fresh (ζi _))⟩
  have hi:i < n:=by
   have:=(ζc.mp h2).1
   omega
  rw [ζG,ξH hi] at h1
  cases h1
  obtain ⟨t',rfl⟩:=hacc.2 i u (by rw [← ξb]; exact h2)
  exact ⟨t',by rw [Int.mul_one]⟩
end
end L2
namespace PD
open PySem L2
section
variable {K:ζa} {S S':Sx} {κ κ':Bool} {Γ Γ' Γ'':Ctx} {P:Post}
theorem Xu {t:TA} {a b:Int} (h:EvA K S false t Γ [.int a,.int b]) (a0:-1000000≤a) (a1:a≤1000000) (b0:-1000000≤b) (b1:b≤1000000):EvO K S κ (tCB Yb (ye (tCB zbW t) tNil)) Γ ((List.range (b - a).toNat).map fun i:Nat=>.int (a + (i:Int))):=fun H0 F0 H F σ e Q q =>
 h H0 F0 H F σ e _ fun vs H1 F1 g1 p1=>by
  cases yj (ns:=[a,b]) (ya p1)
  refine ⟨a,b,rfl,fun p hp=>⟨p,a,b,rfl,zi,a0,a1,b0,b1,fun l hl=>?_⟩⟩
  have g2:=g1.trans (.newO g1.le hp (.rng a b))
  have hr:zn K κ S H0 F1 ((List.range (b - a).toNat).map fun i:Nat=>V.int (a + (i:Int))) ((List.range (b - a).toNat).map fun i:Nat=>.int (a + (i:Int))):=by
   have:=vU (K:=K) (κ:=κ) (S:=S) (H0:=H0) (F:=F1) ((List.range (b - a).toNat).map fun i:Nat=>a + (i:Int))
   rw [ζR,ζR] at this
   exact this
  exact q l _ _ F1 (g2.trans (.newO g2.le hl _)) (g2.h.free hl) zi (g2.le.free hl) hr
end
end PD
namespace L2
open PySem PySem.Spec PyProof.Rows PySem.Calls
section
variable {κ:Type} [DecidableEq κ]
def valV (kvs:List (κ×V)) (k:κ):Option V:=(kvs.find? fun kv=>decide (kv.1=k)).map (·.2)
def putK (kvs:List (κ×V)) (k:κ) (v:V):List (κ×V) :=
 if (kvs.any fun kv=>decide (kv.1=k))=true then kvs.map (fun kv=>if kv.1=k then (kv.1,v) else kv) else kvs ++ [(k,v)]
def zb8 (kvs:List (κ×V)) (k:κ):List (κ×V):=kvs.filter fun kv=>decide (kv.1≠k)
theorem yG {p:κ×V} {r:List (κ×V)} {k:κ} (e:p.1=k):valV (p :: r) k=some p.2:=by simp [valV,List.find?_cons,e]
theorem yH {p:κ×V} {r:List (κ×V)} {k:κ} (e:¬ p.1=k):valV (p :: r) k=valV r k:=by simp [valV,List.find?_cons,e]
theorem ud (k:κ):∀ kvs:List (κ×V),(kvs.any fun kv=>decide (kv.1=k))=(valV kvs k).isSome
 | []=>rfl
 | p :: r=>by
  rw [ξx]
  by_cases e:p.1=k
  ·simp only [yG e,decide_eq_true e,Bool.true_or,Option.isSome_some]
  ·rw [yH e,decide_eq_false e,Bool.false_or]; exact ud k r
theorem XO (k j:κ) (y:V):∀ kvs:List (κ×V),valV (kvs.map fun kv=>if kv.1=k then (kv.1,y) else kv) j=(valV kvs j).map fun x=>if j=k then y else x
 | []=>rfl
 | p :: r=>by
  have ih:=XO k j y r
  rw [ζN]
  by_cases h:p.1=k
  ·rw [if_pos h]
   by_cases e:p.1=j
   ·rw [yG (p:=(p.1,y)) e,yG e,ξ6,if_pos (e.symm.trans h)]
   ·rw [yH (p:=(p.1,y)) e,yH e,ih]
  ·rw [if_neg h]
   by_cases e:p.1=j
   ·rw [yG (p:=p) e,yG e,ξ6,if_neg (fun z=>h (e.trans z))]
   ·rw [yH (p:=p) e,yH e,ih]
theorem Z4 (k j:κ) (y:V):∀ kvs:List (κ×V),valV kvs k=none→valV (kvs ++ [(k,y)]) j=if j=k then some y else valV kvs j
 | [],_=>by
  by_cases e:k=j
  ·rw [if_pos e.symm]; exact yG (p:=(k,y)) e
  ·rw [if_neg (fun z=>e z.symm)]; exact yH (p:=(k,y)) e
 | p :: r,hn=>by
  rw [ξe]
  have hk:¬ p.1=k:=fun z=>by rw [yG z] at hn; cases hn
  rw [yH hk] at hn
  have ih:=Z4 k j y r hn
  by_cases e:p.1=j
  ·rw [yG e,yG e,if_neg (fun z=>hk (e.trans z))]
  ·rw [yH e,yH e,ih]
theorem XN (kvs:List (κ×V)) (k j:κ) (y:V):valV (putK kvs k y) j=if j=k then some y else valV kvs j:=by
 unfold putK
 by_cases a:(kvs.any fun kv=>decide (kv.1=k))=true
 ·rw [if_pos a,XO]
  rw [ud] at a
  by_cases e:j=k
  ·obtain ⟨x,hx⟩:=ξo.mp a
   rw [if_pos e,e,hx,ξ6,if_pos rfl]
  ·rw [if_neg e]
   cases valV kvs j with
   | none=>rfl
   | some x=>rw [ξ6,if_neg e]
 ·rw [if_neg a]
  refine Z4 k j y kvs ?_
  rw [ud] at a
  cases q:valV kvs k with
  | none=>rfl
  | some x=>rw [q] at a; exact (a rfl).elim
theorem xx (kvs:List (κ×V)) (k:κ) (v:V):(putK kvs k v).length≤kvs.length + 1:=by
 unfold putK
 split
 ·rw [ζb]; omega
 ·rw [ζd,ζ2,List.length_nil]; omega
theorem RelO.isSome_eq {o:Option V} {u:Option Value} (r:RelO o u):o.isSome=u.isSome:=by
 cases o with
 | none=>cases u with
  | none=>rfl
  | some _=>exact (show False from r).elim
 | some _=>cases u with
  | none=>exact (show False from r).elim
  | some _=>rfl
theorem RelO.getD {o:Option V} {u:Option Value} {d:V} {d':Value} (r:RelO o u) (rd:RelV d d'):RelV (o.getD d) (u.getD d'):=by
 cases o with
 | none=>cases u with
  | none=>exact rd
  | some _=>exact (show False from r).elim
 | some _=>cases u with
  | none=>exact (show False from r).elim
  | some _=>exact r
theorem KV.val {kvs:List (κ×V)} {vs:List (κ×Value)} (r:KV kvs vs) (k:κ):RelO (valV kvs k) (valueAt vs k):=by
 unfold KV at r
 induction r with
 | nil=>exact True.intro
 | @cons p q ps qs h t ih =>
  obtain ⟨h1,h2⟩:=h
  by_cases e:p.1=k
  ·have e':q.1=k:=h1.symm.trans e
   have b:valueAt (q :: qs) k=some q.2:=by simp [valueAt,List.find?_cons,e']
   rw [yG e,b]; exact h2
  ·have e':¬ q.1=k:=fun z=>e (h1.trans z)
   have b:valueAt (q :: qs) k=valueAt qs k:=by simp [valueAt,List.find?_cons,e']
   rw [yH e,b]; exact ih
theorem KV.any {kvs:List (κ×V)} {vs:List (κ×Value)} (r:KV kvs vs) (k:κ):(kvs.any fun kv=>decide (kv.1=k))=vs.any fun kv=>decide (kv.1=k):=by
 unfold KV at r
 induction r with
 | nil=>rfl
 | cons h t ih=>rw [ξx,ξx,ih,h.1]
theorem KV.repl {kvs:List (κ×V)} {vs:List (κ×Value)} (r:KV kvs vs) (k:κ) {y:V} {u:Value} (ry:RelV y u) :
  KV (kvs.map fun kv=>if kv.1=k then (kv.1,y) else kv) (vs.map fun kv=>if kv.1=k then (kv.1,u) else kv):=by
 unfold KV at r ⊢
 induction r with
 | nil=>exact .nil
 | @cons p q ps qs h t ih =>
  rw [ζN,ζN]
  refine .cons ?_ ih
  obtain ⟨h1,h2⟩:=h
  by_cases e:p.1=k
  ·rw [if_pos e,if_pos (h1.symm.trans e)]; exact ⟨h1,ry⟩
  ·rw [if_neg e,if_neg (fun z=>e (h1.trans z))]; exact ⟨h1,h2⟩
theorem KV.put {kvs:List (κ×V)} {vs:List (κ×Value)} (r:KV kvs vs) (k:κ) {y:V} {u:Value} (ry:RelV y u):KV (putK kvs k y) (stored vs k u):=by
 unfold putK stored
 rw [r.any k]
 by_cases e:(vs.any fun kv=>decide (kv.1=k))=true
 ·rw [if_pos e,if_pos e]; exact r.repl k ry
 ·rw [if_neg e,if_neg e]; exact Paired.snoc r ⟨rfl,ry⟩
theorem KV.drop {kvs:List (κ×V)} {vs:List (κ×Value)} (r:KV kvs vs) (k:κ):KV (zb8 kvs k) (without vs k):=by
 unfold KV at r ⊢
 unfold zb8 without
 induction r with
 | nil=>exact .nil
 | @cons p q ps qs h t ih =>
  obtain ⟨h1,h2⟩:=h
  rw [ζ8,ζ8]
  by_cases e:p.1=k
  ·have a:¬ decide (p.1≠k)=true:=by simp [e]
   have b:¬ decide (q.1≠k)=true:=by simp [h1.symm.trans e]
   rw [if_neg a,if_neg b]; exact ih
  ·have e':¬ q.1=k:=fun z=>e (h1.trans z)
   have a:decide (p.1≠k)=true:=by simp [e]
   have b:decide (q.1≠k)=true:=by simp [e']
   rw [if_pos a,if_pos b]; exact .cons ⟨h1,h2⟩ ih
theorem KV.length {kvs:List (κ×V)} {vs:List (κ×Value)} (r:KV kvs vs):kvs.length=vs.length:=Paired.length r
end
theorem Yo {P:Program} {w:World} {k:Key} {u:Value} (r:RelV (kV k) u):(yh P w).is k u=true:=by
 cases k with
 | inl i=>obtain ⟨t,e⟩:=(show ∃ t,u=Value.int i t from r); subst e; exact Ws P w i t
 | inr x=>obtain ⟨t,e⟩:=(show ∃ t,u=Value.str x t from r); subst e; exact Wr P w x t
theorem Yp {P:Program} {w:World}:∀ {ks:List Key} {us:List Value},Vals (ks.map kV) us→ItemsAre (yh P w) ks us
 | [],_,r=>by rw [List.map_nil] at r; cases r; exact .nil
 | k :: ks,_,r=>by
  rw [ζN] at r
  cases r with
  | cons h t=>exact .cons (Yo h) (Yp t)
abbrev KT (H:Hp):List (List Key×V)→List (List Key×Addr×Value)→Prop:=Paired fun p q=>p.1=q.1∧tz H q.2.1 (p.1.map kV)∧RelV p.2 q.2.2
theorem KT.val {H:Hp} {kvs:List (List Key×V)} {xs:List (List Key×Addr×Value)} (r:KT H kvs xs) (k:List Key):RelO (valV kvs k) ((atKey xs k).map (·.2)):=by
 induction r with
 | nil=>exact True.intro
 | @cons p q ps qs h t ih =>
  obtain ⟨h1,_,h2⟩:=h
  by_cases e:p.1=k
  ·have e':q.1=k:=h1.symm.trans e
   have b:atKey (q :: qs) k=some q.2:=by simp [atKey,List.find?_cons,e']
   rw [yG e,b]; exact h2
  ·have e':¬ q.1=k:=fun z=>e (h1.trans z)
   have b:atKey (q :: qs) k=atKey qs k:=by simp [atKey,List.find?_cons,e']
   rw [yH e,b]; exact ih
theorem KT.repl {H:Hp} {kvs:List (List Key×V)} {xs:List (List Key×Addr×Value)} (r:KT H kvs xs) (k:List Key) {y:V} {u:Value} (ry:RelV y u) :
  KT H (kvs.map fun kv=>if kv.1=k then (kv.1,y) else kv) (xs.map (putAt k u)):=by
 induction r with
 | nil=>exact .nil
 | @cons p q ps qs h t ih =>
  rw [ζN,ζN]
  refine .cons ?_ ih
  obtain ⟨h1,h2,h3⟩:=h
  unfold putAt
  by_cases e:p.1=k
  ·rw [if_pos e,if_pos (h1.symm.trans e)]; exact ⟨h1,h2,ry⟩
  ·rw [if_neg e,if_neg (fun z=>e (h1.trans z))]; exact ⟨h1,h2,h3⟩
theorem KT.put {H:Hp} {kvs:List (List Key×V)} {xs:List (List Key×Addr×Value)} (r:KT H kvs xs) (k:List Key) {b:Addr} {y:V} {u:Value} (hb:tz H b (k.map kV)) (ry:RelV y u) :
  KT H (putK kvs k y) (storedH xs k b u):=by
 have e:(kvs.any fun kv=>decide (kv.1=k))=(atKey xs k).isSome:=by
  rw [ud,(r.val k).isSome_eq,Option.isSome_map]
 unfold putK storedH
 rw [e]
 by_cases q:(atKey xs k).isSome=true
 ·rw [if_pos q,if_pos q]; exact r.repl k ry
 ·rw [if_neg q,if_neg q]; exact Paired.snoc r ⟨rfl,hb,ry⟩
theorem KT.keeps {H H':Hp} {kvs:List (List Key×V)} {xs:List (List Key×Addr×Value)} (r:KT H kvs xs) (ht:∀ b ys,tz H b ys→tz H' b ys):KT H' kvs xs :=
 Paired.mapP r fun _ _ z=>⟨z.1,ht _ _ z.2.1,z.2.2⟩
section
variable {P:Program} {w:World} {H:Hp} {h:Heap} {a:Addr}
theorem T7 {u:HO} (ok:HOk P w H h) (e:Rd H a u):yk P w H h a u:=e.ok ok
theorem Zs {kvs:List (Key×V)} (ok:HOk P w H h) (e:Rd H a (.dK kvs)):kvs.length≤sizeLine∧(a == sysModules)=false∧∃ vs,KV kvs vs∧h.DictOf (yh P w) a vs :=
 show yk P w H h a (.dK kvs) from T7 ok e
theorem zdI {kvs:List (Key×V)} (ok:HOk P w H h) (e:H a=some (.dK kvs)):kvs.length≤sizeLine∧(a == sysModules)=false∧∃ vs,KV kvs vs∧h.DictOf (yh P w) a vs:=Zs ok (.inl e)
theorem tO {ys:List V} (ok:HOk P w H h) (e:Rd H a (.tup ys)):tz H a ys:=by
 rcases e with e | ⟨o,e⟩
 ·exact .inl e
 ·obtain ⟨h0,_,its,r,ob,h1,h2,n,h3⟩:=(show yk P w H h a (.frz o (.tup ys)) from ok a _ e)
  rw [h0] at h1
  cases h1
  exact .inr ⟨o,fun v z=>(by rw [h3] at z; cases z),e⟩
theorem tz.rd {ys:List V} (e:tz H a ys):Rd H a (.tup ys):=e.imp id fun ⟨o,_,q⟩=>⟨o,q⟩
theorem w8 {ks:List Key} (ok:HOk P w H h) (e:Rd H a (.tup (ks.map kV))):(tupleKind (yh P w)).is h ks a:=by
 obtain ⟨_,its,r,o,h1,h2,n,h3⟩:=(show yk P w H h a (.tup (ks.map kV)) from T7 ok e)
 exact ⟨o,its.toArray,n,h1,h2,h3,by simpa using Yp r⟩
theorem Zr {kvs:List (List Key×V)} (ok:HOk P w H h) (e:Rd H a (.dT kvs)):kvs.length≤sizeLine∧(a == sysModules)=false ∧
  ∃ xs,KT H kvs xs∧h.DictOfH (tupleKind (yh P w)) a xs:=by
 obtain ⟨z,y,xs,r,o,es,ep,h1,h2,h3,h4,h5⟩:=(show yk P w H h a (.dT kvs) from T7 ok e)
 refine ⟨z,y,xs,r,o,es,ep,h1,h2,h3,h4,fun x hx=>?_,h5⟩
 have all:∀ {l:List (List Key×V)} {m:List (List Key×Addr×Value)},KT H l m→∀ x∈m,(tupleKind (yh P w)).is h x.1 x.2.1:=by
  intro l m q
  induction q with
  | nil=>intro x hx; exact nomatch hx
  | @cons p q ps qs hq t ih =>
   intro x hx
   rcases ζo.mp hx with e | hx
   ·subst e
    exact w8 ok (by rw [← hq.1]; exact hq.2.1.rd)
   ·exact ih x hx
 exact all r x hx
theorem zaf {kvs:List (List Key×V)} (ok:HOk P w H h) (e:H a=some (.dT kvs)):kvs.length≤sizeLine∧(a == sysModules)=false ∧
  ∃ xs,KT H kvs xs∧h.DictOfH (tupleKind (yh P w)) a xs:=Zr ok (.inl e)
end
def DGet (H:Hp) (a:Addr) (y:V) (r:Option V):Prop :=
 (∃ kvs k,Rd H a (.dK kvs)∧y=kV k∧r=valV kvs k)∨∃ kvs k b,Rd H a (.dT kvs)∧y=.ref b∧Rd H b (.tup (k.map kV))∧r=valV kvs k
def DPut (H:Hp) (a:Addr) (y v:V) (H':Hp):Prop :=
 (∃ kvs k,H a=some (.dK kvs)∧y=kV k∧kvs.length < sizeLine∧H'=upd H a (.dK (putK kvs k v))) ∨
 ∃ kvs k b,H a=some (.dT kvs)∧y=.ref b∧Rd H b (.tup (k.map kV))∧kvs.length < sizeLine∧H'=upd H a (.dT (putK kvs k v))
theorem DGet.k {H:Hp} {a:Addr} {kvs:List (Key×V)} {k:Key} (e:H a=some (.dK kvs)):DGet H a (kV k) (valV kvs k):=.inl ⟨kvs,k,.inl e,rfl,rfl⟩
theorem DGet.t {H:Hp} {a b:Addr} {kvs:List (List Key×V)} {k:List Key} (e:H a=some (.dT kvs)) (eb:Rd H b (.tup (k.map kV))):DGet H a (.ref b) (valV kvs k):=.inr ⟨kvs,k,b,.inl e,rfl,eb,rfl⟩
theorem DPut.k {H:Hp} {a:Addr} {kvs:List (Key×V)} {k:Key} {v:V} (e:H a=some (.dK kvs)) (hl:kvs.length < sizeLine):DPut H a (kV k) v (upd H a (.dK (putK kvs k v))):=.inl ⟨kvs,k,e,rfl,hl,rfl⟩
section
variable {X:Cx} {pins:List (Addr×Obj)} {σ:St} {H:Hp} {s:Shared} {a:Addr} {y v:V} {u r:Value} {o:Option V} {A:Around} {E:Value→Shared→Prop}
theorem Inv.big (I:Inv X pins σ H s):sysModules < s.heap.objs.size:=by
 have h:mainGlobals < s.heap.objs.size:=(I.mod.glob.keeps I.bk).lt
 exact Nat.lt_trans (by decide) h
theorem Td {Q:Value→Shared→Prop} (hu:A.units + 1 < cLine) (I:Inv X pins σ H s) (g:DGet H a y (some v)) (ry:RelV y u) (h:∀ w' s',Inv X pins σ H s'→RelV v w'→Q w' s') :
  wpAny (model X.prog X.w) A (getItem (.ref a) u) Q E s:=by
 rcases g with ⟨kvs,k,e,ey,l⟩ | ⟨kvs,k,b,e,ey,eb,l⟩
 ·subst ey
  obtain ⟨z,hd,vs,rel,dd⟩:=Zs I.hok e
  obtain ⟨w',hw,rw'⟩:=RelO.some_of (v:=v) (o:=valueAt vs k) (by rw [l]; exact rel.val k)
  exact wpAny_getItem_of (Yo ry) dd.mapOf hw (h w' _ (I.tok _) rw')
 ·subst ey
  cases (show u=Value.ref b from ry)
  obtain ⟨z,hd,xs,rel,dd⟩:=Zr I.hok e
  obtain ⟨w',hw,rw'⟩:=RelO.some_of (v:=v) (o:=(atKey xs k).map (·.2)) (by rw [l]; exact rel.val k)
  obtain ⟨p,hp,hp2⟩:=ξ5.mp hw
  refine wpAny_getItem_heap (tupleKind_room_in1 hu) (w8 I.hok eb) dd hp ?_
  rw [hp2]
  exact h w' _ (I.tok _) rw'
theorem zbA {Q:Value→Shared→Prop} (hu:A.units + 1 < cLine) (I:Inv X pins σ H s) (g:DGet H a y o) (ry:RelV y u) (h:∀ s',Inv X pins σ H s'→Q (.bool (!o.isSome)) s') :
  wpAny (model X.prog X.w) A (compareOp .NotIn u (.ref a)) Q E s:=by
 rcases g with ⟨kvs,k,e,ey,l⟩ | ⟨kvs,k,b,e,ey,eb,l⟩
 ·subst ey
  obtain ⟨z,hd,vs,rel,dd⟩:=Zs I.hok e
  refine wpAny_notIn_of (Yo ry) hd dd.mapOf ?_
  rw [← (rel.val k).isSome_eq,← l]
  exact h _ (I.tok _)
 ·subst ey
  cases (show u=Value.ref b from ry)
  obtain ⟨z,hd,xs,rel,dd⟩:=Zr I.hok e
  refine wpAny_notIn_heap (tupleKind_room_in1 hu) (w8 I.hok eb) hd dd ?_
  have q:=(rel.val k).isSome_eq
  rw [Option.isSome_map] at q
  rw [← q,← l]
  exact h _ (I.tok _)
theorem tM {h':Heap} {t':Nat} {ob:HO} (I:Inv X pins σ H s) (mu:Mut (H a)) (hs:Heap.SameBut a s.heap h') (he:∃ q,h'.get? a=some q) (new:yk X.prog X.w (upd H a ob) h' a ob) :
  Inv X pins σ (upd H a ob) { s with heap:=h',toks:=t' } :=
 I.write (x:=a) (e:=a) mu (.inl rfl) (fun b q hb z=>(hs.2 b hb).trans z) he new
theorem zc8 {P:Program} {w:World} {H':Hp} {h':Heap} {kvs:List (Key×V)} {vs:List (Key×Value)} (z:kvs.length≤sizeLine) (hd:(a == sysModules)=false) (rel:KV kvs vs) (dd:h'.DictOf (yh P w) a vs) :
  yk P w H' h' a (.dK kvs):=⟨z,hd,vs,rel,dd⟩
theorem Tc {H':Hp} {Q:Unit→Shared→Prop} (hu:A.units + 1 < cLine) (I:Inv X pins σ H s) (g:DPut H a y v H') (ry:RelV y u) (rv:RelV v r) (h:∀ s',Inv X pins σ H' s'→Q () s') :
  wpAny (model X.prog X.w) A (setItem (.ref a) u r) Q E s:=by
 rcases g with ⟨kvs,k,e,ey,l,eH⟩ | ⟨kvs,k,b,e,ey,eb,l,eH⟩
 ·subst ey eH
  obtain ⟨z,hd,vs,rel,dd⟩:=zdI I.hok e
  have hz:vs.length≤sizeLine:=by rw [← rel.length]; exact z
  have hl:(putK kvs k v).length≤sizeLine:=by have:=xx kvs k v; omega
  refine wpAny_setItem_pairs (hsz:=hz) (Yo ry) dd fun h' dd' hs=>h _ ?_
  have he:∃ q,h'.get? a=some q:=let ⟨q,_,_,hq,_⟩:=dd'; ⟨q,hq⟩
  exact tM I (by rw [e]; exact True.intro) hs he (zc8 hl hd (rel.put k rv) dd')
 ·subst ey eH
  cases (show u=Value.ref b from ry)
  obtain ⟨z,hd,xs,rel,dd⟩:=zaf I.hok e
  have hz:xs.length≤sizeLine:=by rw [← Paired.length rel]; exact z
  have hl:(putK kvs k v).length≤sizeLine:=by have:=xx kvs k v; omega
  refine wpAny_setItem_heap (hsz:=hz) (tupleKind_room_in1 hu) (w8 I.hok eb) dd fun h' dd' hs=>h _ ?_
  obtain ⟨q,es,ep,hq,h2,h3,h4,_,h5⟩:=dd'
  refine tM I (by rw [e]; exact True.intro) hs ⟨q,hq⟩ ⟨hl,hd,_,(rel.put k (tO I.hok eb) rv).keeps fun c ys ec=>?_,q,es,ep,hq,h2,h3,h4,h5⟩
  exact ec.imp (fun y=>by rw [zm (Yi y e (fun z=>nomatch z))]; exact y) fun ⟨o,n,y⟩=>⟨o,n,by rw [zm (Yi y e (fun z=>nomatch z))]; exact y⟩
end
section
variable {X:Cx} {pins:List (Addr×Obj)} {σ:St} {H:Hp} {s:Shared} {a:Addr} {kvs:List (Key×V)} {k:Key} {u:Value} {A:Around} {E:Value→Shared→Prop}
end
def NoSl (i:Expr):Prop:=∀ ov iv,subscripted i false ov iv=operate [ov,iv] (getItem ov iv)
theorem zaG {prog:Program} {w:World} {A:Around} {E:Value→Shared→Prop} {s:Shared} {env:Env} {value slice:Expr} {pos:Pos} {T id:String} {Q:Value→Shared→Prop}
  (hl:typeLookup (.type T) "__getitem__" = pure (some (.builtin id))) (hs:NoSl slice)
  (h:wpAny (model prog w) A (eval value env) (fun o s₁=>wpAny (model prog w) A (eval slice env) (fun i s₂=>s₂.TypeIs o T∧wpAny (model prog w) A (getItem o i) Q E s₂) E s₁) E s) :
  wpAny (model prog w) A (eval (.Subscript value slice pos) env) Q E s:=by
 refine Subscript_ (wpAny_mono h (fun o s₁ h₁=>wpAny_mono h₁ (fun i s₂ h₂=>?_) fun _ _ x=>x) fun _ _ x=>x)
 obtain ⟨hT,h₂⟩:=h₂
 unfold subscriptTail
 refine wpAny_bind ?_
 rw [getitemInPython_of_ne hT.not_modules]
 refine wpAny_bind (wpAny_specialOf hT hl ?_)
 have fin:wpAny (model prog w) A (subscripted slice false o i) (fun r s₃=>wpAny (model prog w) A (letTemporaryGo value o r >>= fun _=>pure r) Q E s₃) E s₂:=by
  rw [hs o i]
  exact wpAny_operating (wpAny_mono h₂ (fun r s₃ h₃=>wpAny_bind (wpAny_letTemporaryGo (wpAny_pure h₃))) fun _ _ x=>x)
 first
  | exact wpAny_pure (wpAny_bind fin)
  | exact wpAny_bind (wpAny_pure (wpAny_bind fin))
  | exact wpAny_bind fin
theorem WO {X:Cx} {pins:List (Addr×Obj)} {σ:St} {H:Hp} {s:Shared} {a:Addr} {y:V} {o:Option V} (I:Inv X pins σ H s) (g:DGet H a y o):s.TypeIs (.ref a) "dict" := by
 rcases g with ⟨kvs,k,e,_,_⟩ | ⟨kvs,k,b,e,_,_,_⟩
 ·obtain ⟨_,_,vs,_,dd⟩:=Zs I.hok e
  exact dd.typeIs
 ·obtain ⟨_,_,xs,_,dd⟩:=Zr I.hok e
  exact dd.typeIs
def TJ (td ty:TE):TE:=fun σ H Q=>td σ H fun x H1=>ty σ H1 fun y H2=>∃ a v,x=.ref a∧DGet H2 a y (some v)∧Q v H2
def YH (ty td:TE):TE:=fun σ H Q=>ty σ H fun y H1=>td σ H1 fun x H2=>∃ a o,x=.ref a∧DGet H2 a y o∧Q (.bl (!o.isSome)) H2
def zbU (td ty tv:TE):TS:=fun D σ H=>tv σ H fun v H1=>td σ H1 fun x H2=>ty σ H2 fun y H3=>∃ a H4,x=.ref a∧DPut H3 a y v H4∧D.nx σ H4
section
variable {X:Cx} {o i e value:Expr} {pos pos' tpos:Pos} {td ty tv:TE}
theorem V4 (hu:X.A.units + 1 < cLine) (ho:PE X o td) (hi:PE X i ty) (hs:NoSl i):PE X (.Subscript o i pos) (TJ td ty):=by
 intro pins s σ H Q I h
 refine zaG PySem.F.slot_dict_getitem.lookup hs (thn (ho pins s σ H _ I h) fun u s1 ⟨x,H1,I1,rx,q1⟩=>thn (hi pins s1 σ H1 _ I1 q1) fun iv s2 ⟨y,H2,I2,ry,a,v,ex,g,q2⟩=>?_)
 subst ex
 obtain rfl:u=Value.ref a:=rx
 exact ⟨WO I2 g,Td hu I2 g ry fun w' s3 I3 rw'=>⟨v,H2,I3,rw',q2⟩⟩
theorem Yc (hu:X.A.units + 1 < cLine) (hi:PE X i ty) (ho:PE X o td):PC X .NotIn i o (YH ty td):=by
 intro pins s σ H Q I h
 refine thn (hi pins s σ H _ I h) fun iv s1 ⟨y,H1,I1,ry,q1⟩=>thn (ho pins s1 σ H1 _ I1 q1) fun u s2 ⟨x,H2,I2,rx,a,ov,ex,g,q2⟩=>?_
 subst ex
 obtain rfl:u=Value.ref a:=rx
 exact zbA hu I2 g ry fun s3 I3=>⟨.bl (!ov.isSome),H2,I3,rfl,q2⟩
theorem zaT (hu:X.A.units + 1 < cLine) (ho:PE X o td) (hi:PE X i ty) (hv:PE X value tv) (hs:swapsWith value (some (.Subscript o i pos')) pos.line X.env=pure false) :
  PS X (.Assign [.Subscript o i pos'] value pos) (zbU td ty tv):=by
 intro pins s σ H D I h
 refine wpAny_Assign_Subscript (thn (hv pins s σ H _ I h) fun r s1 ⟨v,H1,I1,rv,q1⟩=>thn (ho pins s1 σ H1 _ I1 q1) fun u s2 ⟨x,H2,I2,rx,q2⟩=>thn (hi pins s2 σ H2 _ I2 q2) fun iv s3 ⟨y,H3,I3,ry,a,H4,ex,g,q3⟩=>?_) hs
 subst ex
 obtain rfl:u=Value.ref a:=rx
 exact Tc hu I3 g ry rv fun s4 I4=>⟨σ,H4,I4,q3⟩
end
theorem zah {P:Program} {w:World} {H:Hp} (h:Heap) (hb:sysModules < h.objs.size):yk P w H (h.push { cls:=.type "dict", data:=.dict #[] }) h.objs.size (.dK []) :=
 ⟨ζE _,beq_eq_false_iff_ne.mpr (Ne.symm (ζA hb)),[],.nil,Heap.DictOf.new h⟩
theorem zag {P:Program} {w:World} {H:Hp} (h:Heap) (hb:sysModules < h.objs.size):yk P w H (h.push { cls:=.type "dict", data:=.dict #[] }) h.objs.size (.dT []) :=
 ⟨ζE _,beq_eq_false_iff_ne.mpr (Ne.symm (ζA hb)),[],.nil,_,#[],0,ζB _ rfl,⟨rfl,rfl,rfl⟩,rfl,rfl,ζ1⟩
def TD:TE:=fun _ H Q=>∀ p,H p=none→Q (.ref p) (upd H p (.dK []))
section
variable {X:Cx} {pos:Pos}
theorem Qn:PE X (.Dict [] [] pos) TD:=fun pins s σ H Q I h =>
 wpAny_Dict_empty ⟨.ref s.heap.objs.size,_,I.laid (a:=s.heap.objs.size) (o:=.dK []) (t':=s.toks) (fun _ _ q=>ζh _ q) (ζi _) (zah s.heap I.big),rfl,h _ (I.hok.fresh (ζi _))⟩
end
def W1:List (TE×TE)→St→Hp→(List (V×V)→Hp→Prop)→Prop
 | [],_,H,Q=>Q [] H
 | (tk,tv) :: r,σ,H,Q=>tk σ H fun x H1=>tv σ H1 fun y H2=>W1 r σ H2 fun ps H3=>Q ((x,y) :: ps) H3
abbrev VV:List (V×V)→List (Value×Value)→Prop:=Paired fun p q=>RelV p.1 q.1∧RelV p.2 q.2
def PPs (X:Cx) (pos:Pos) (keys:List (Option Expr)) (values:List Expr) (trs:List (TE×TE)):Prop :=
 ∀ (pins:List (Addr×Obj)) (s:Shared) (σ:St) (H:Hp) (Q:List (V×V)→Hp→Prop),Inv X pins σ H s→W1 trs σ H Q →
  wpAny (model X.prog X.w) X.A (evalPairs (pairTrees keys values X.env pos)) (fun vs s'=>∃ ps H',Inv X pins σ H' s'∧VV ps vs∧Q ps H') X.xe s
theorem zaV {X:Cx} {pos:Pos}:PPs X pos [] [] []:=fun pins s σ H Q I h=>pairTrees_nil_walk ⟨[],H,I,.nil,h⟩
theorem Qf {X:Cx} {pos:Pos} {k v:Expr} {ks:List (Option Expr)} {vs:List Expr} {tk tv:TE} {trs:List (TE×TE)} (hk:PE X k tk) (hv:PE X v tv) (hr:PPs X pos ks vs trs) :
  PPs X pos (some k :: ks) (v :: vs) ((tk,tv) :: trs):=fun pins s σ H Q I h =>
 pairTrees_cons_walk (thn (hk pins s σ H _ I h) fun u s1 ⟨x,H1,I1,rx,q1⟩=>thn (hv pins s1 σ H1 _ I1 q1) fun w2 s2 ⟨y,H2,I2,ry,q2⟩ =>
  thn (hr pins s2 σ H2 _ I2 q2) fun ws s3 ⟨ps,H3,I3,rel,q3⟩=>⟨(x,y) :: ps,H3,I3,.cons ⟨rx,ry⟩ rel,q3⟩)
structure M1 (X:Cx) (o:Expr) (m:Str) (apos:Pos) (e:Expr) (cpos:Pos):Prop where
 base:attributeBase o m X.env (eval o X.env)=eval o X.env
 few:((backTo cpos (starEach [e] X.env)).all (fun x=>!x.1) && (backToKw cpos (keywordEach [] X.env)).all (fun x=>x.1.isSome)
  && decide (([e]:List Expr).length + ([]:List Keyword).length + (if ([]:List Keyword).isEmpty then 0 else 1) < 30))=true
 line:(apos.endLine == cpos.line)=true
 trees:backTo cpos (starEach [e] X.env)=[(false,eval e X.env)]
structure M2 (X:Cx) (o:Expr) (m:Str) (apos:Pos) (e f:Expr) (cpos:Pos):Prop where
 base:attributeBase o m X.env (eval o X.env)=eval o X.env
 few:((backTo cpos (starEach [e,f] X.env)).all (fun x=>!x.1) && (backToKw cpos (keywordEach [] X.env)).all (fun x=>x.1.isSome)
  && decide (([e,f]:List Expr).length + ([]:List Keyword).length + (if ([]:List Keyword).isEmpty then 0 else 1) < 30))=true
 line:(apos.endLine == cpos.line)=true
 trees:backTo cpos (starEach [e,f] X.env)=[(false,eval e X.env),(false,eval f X.env)]
def IsD (H:Hp) (a:Addr):Prop:=(∃ kvs,Rd H a (.dK kvs))∨∃ kvs,Rd H a (.dT kvs)
theorem Vz {X:Cx} {pins:List (Addr×Obj)} {σ:St} {H:Hp} {s:Shared} {a:Addr} (I:Inv X pins σ H s) (d:IsD H a) :
  s.TypeIs (.ref a) "dict" ∧ (∀ b,Value.ref a=.ref b→∃ ob,s.heap.get? b=some ob∧ob.dict=none)∧(a == sysModules)=false:=by
 rcases d with ⟨kvs,e⟩ | ⟨kvs,e⟩
 ·obtain ⟨_,hd,vs,_,dd⟩:=Zs I.hok e
  refine ⟨dd.typeIs,fun b q=>?_,hd⟩
  cases q
  obtain ⟨ob,_,_,h1,h2,_⟩:=dd
  exact ⟨ob,h1,h2.2.1⟩
 ·obtain ⟨_,hd,xs,_,dd⟩:=Zr I.hok e
  refine ⟨dd.typeIs,fun b q=>?_,hd⟩
  cases q
  obtain ⟨ob,_,_,h1,h2,_⟩:=dd
  exact ⟨ob,h1,h2.2.1⟩
section
variable {X:Cx} {pins:List (Addr×Obj)} {σ:St} {H:Hp} {s:Shared} {a:Addr} {y d:V} {u r:Value} {o:Option V} {A:Around} {E:Value→Shared→Prop}
theorem zda {Q:Value→Shared→Prop} (hu:A.units + 1 < cLine) (I:Inv X pins σ H s) (g:DGet H a y o) (ry:RelV y u) (h:∀ w' s',Inv X pins σ H s'→RelV (o.getD .non) w'→Q w' s') :
  wpAny (model X.prog X.w) A (call (.builtin "dict.get") [.ref a,u]) Q E s:=by
 rcases g with ⟨kvs,k,e,ey,l⟩ | ⟨kvs,k,b,e,ey,eb,l⟩
 ·subst ey
  obtain ⟨z,hd,vs,rel,dd⟩:=Zs I.hok e
  refine call_meetsIn ξj dd.typeIs ξL (PySem.F.args_dict_get_2 _ _) (meets_dict_get (yh X.prog X.w) a (Yo ry) hd) ⟨_,dd.mapOf,h _ _ (I.tok _) ?_⟩
  rw [l]
  exact (rel.val k).getD rfl
 ·subst ey
  cases (show u=Value.ref b from ry)
  obtain ⟨z,hd,xs,rel,dd⟩:=Zr I.hok e
  refine call_meetsIn ξj dd.typeIs ξL (PySem.F.args_dict_get_2 _ _) (meetsH_dict_get (tupleKind (yh X.prog X.w)) a b hd) ⟨tupleKind_room_in1 hu,k,xs,w8 I.hok eb,dd,h _ _ (I.tok _) ?_⟩
  rw [l]
  exact (rel.val k).getD rfl
theorem zc9 {Q:Value→Shared→Prop} (hu:A.units + 1 < cLine) (I:Inv X pins σ H s) (g:DGet H a y o) (ry:RelV y u) (rd:RelV d r) (h:∀ w' s',Inv X pins σ H s'→RelV (o.getD d) w'→Q w' s') :
  wpAny (model X.prog X.w) A (call (.builtin "dict.get") [.ref a,u,r]) Q E s:=by
 rcases g with ⟨kvs,k,e,ey,l⟩ | ⟨kvs,k,b,e,ey,eb,l⟩
 ·subst ey
  obtain ⟨z,hd,vs,rel,dd⟩:=Zs I.hok e
  refine call_meetsIn ξj dd.typeIs ξL (PySem.F.args_dict_get_3 _ _ _) (meets_dict_get_default (yh X.prog X.w) a (Yo ry) hd r) ⟨_,dd.mapOf,h _ _ (I.tok _) ?_⟩
  rw [l]
  exact (rel.val k).getD rd
 ·subst ey
  cases (show u=Value.ref b from ry)
  obtain ⟨z,hd,xs,rel,dd⟩:=Zr I.hok e
  refine call_meetsIn ξj dd.typeIs ξL (PySem.F.args_dict_get_3 _ _ _) (meetsH_dict_get_default (tupleKind (yh X.prog X.w)) a b hd r) ⟨tupleKind_room_in1 hu,k,xs,w8 I.hok eb,dd,h _ _ (I.tok _) ?_⟩
  rw [l]
  exact (rel.val k).getD rd
end
def TH (td ty:TE):TE:=fun σ H Q=>td σ H fun x H1=>∃ a,x=.ref a∧IsD H1 a∧ty σ H1 fun y H2=>∃ o,DGet H2 a y o∧Q (o.getD .non) H2
def TF (td ty tx:TE):TE:=fun σ H Q=>td σ H fun x H1=>∃ a,x=.ref a∧IsD H1 a∧ty σ H1 fun y H2=>tx σ H2 fun z H3=>∃ o,DGet H3 a y o∧Q (o.getD z) H3
section
variable {X:Cx} {o e f:Expr} {apos cpos:Pos} {td ty tx:TE}
theorem Qq (hu:X.A.units + 1 < cLine) (ho:PE X o td) (he:PE X e ty) (m:M1 X o "get" apos e cpos):PE X (.Call (.Attribute o "get" apos) [e] [] cpos) (TH td ty):=by
 intro pins s σ H Q I h
 refine wpAny_Call_method m.base m.few m.line ξZ ξj PySem.F.type_dict_get (thn (ho pins s σ H _ I h) fun u s1 ⟨x,H1,I1,rx,a,ex,d,q1⟩=>?_)
 subst ex
 obtain rfl:u=Value.ref a:=rx
 obtain ⟨t1,t2,_⟩:=Vz I1 d
 refine ⟨t1,t2,?_⟩
 rw [m.trees]
 refine Calls.callWith_builtin rfl (Calls.evalArgs_plain (Calls.spliced_cons (thn (he pins s1 σ H1 _ I1 q1) fun iv s2 ⟨y,H2,I2,ry,ov,g,q2⟩=>Calls.spliced_nil ?_)))
 exact zda hu I2 g ry fun w' s3 I3 rw'=>⟨_,H2,I3,rw',q2⟩
theorem Qp (hu:X.A.units + 1 < cLine) (ho:PE X o td) (he:PE X e ty) (hf:PE X f tx) (m:M2 X o "get" apos e f cpos):PE X (.Call (.Attribute o "get" apos) [e,f] [] cpos) (TF td ty tx):=by
 intro pins s σ H Q I h
 refine wpAny_Call_method m.base m.few m.line ξZ ξj PySem.F.type_dict_get (thn (ho pins s σ H _ I h) fun u s1 ⟨x,H1,I1,rx,a,ex,d,q1⟩=>?_)
 subst ex
 obtain rfl:u=Value.ref a:=rx
 obtain ⟨t1,t2,_⟩:=Vz I1 d
 refine ⟨t1,t2,?_⟩
 rw [m.trees]
 refine Calls.callWith_builtin rfl (Calls.evalArgs_plain (Calls.spliced_cons (thn (he pins s1 σ H1 _ I1 q1) fun iv s2 ⟨y,H2,I2,ry,q2⟩ =>
  Calls.spliced_cons (thn (hf pins s2 σ H2 _ I2 q2) fun fv s3 ⟨z,H3,I3,rz,ov,g,q3⟩=>Calls.spliced_nil ?_))))
 exact zc9 hu I3 g ry rz fun w' s4 I4 rw'=>⟨_,H3,I4,rw',q3⟩
end
section
variable {X:Cx} {pins:List (Addr×Obj)} {σ:St} {H:Hp} {s:Shared} {a:Addr} {kvs:List (Key×V)} {A:Around} {E:Value→Shared→Prop}
end
section
variable {X:Cx} {pins:List (Addr×Obj)} {σ:St} {H:Hp} {s:Shared} {a:Addr} {y:V} {u:Value} {A:Around} {E:Value→Shared→Prop}
end
end L2
namespace PD
open PySem L2
section
variable {K:ζa} {S S':Sx} {κ κ':Bool} {Γ Γ' Γ'':Ctx} {P:Post} {E:XK}
abbrev DTab:=List (Key×V)
def dGet (m:DTab) (k:Int):Option V:=valV m (.inl k)
def dPut (m:DTab) (k:Int) (v:V):DTab:=putK m (.inl k) v
theorem zan (k:Int):dGet [] k=none:=rfl
theorem zam (m:DTab) (k j:Int) (v:V):dGet (dPut m k v) j=if j=k then some v else dGet m j:=by
 unfold dGet dPut
 rw [XN]
 by_cases h:j=k
 ·rw [if_pos h,if_pos (by rw [h])]
 ·rw [if_neg h,if_neg (fun z=>h (Sum.inl.inj z))]
theorem zal (m:DTab) (k:Int) (v:V):(dPut m k v).length≤m.length + 1:=xx m _ v
def toV:PyData→Option V
 | .int i=>some (.int i)
 | .bool b=>some (.bl b)
 | _=>none
theorem zcp {H0 F:Hp} {v w:V} {d:PyData} (p:Rp K κ S H0 F v d) (h:toV d=some w):v=w:=by
 cases d with
 | int i=>cases yf p; exact ζI h
 | bool b=>cases u7 p; exact ζI h
 | _=>cases h
theorem Tw {H0 F:Hp} {w:V} {d:PyData} (h:toV d=some w):Rp K κ S H0 F w d:=by
 cases d with
 | int i=>cases h; exact .int i
 | bool b=>cases h; exact .bl b
 | _=>cases h
theorem zbk {i:Nat} {u:TS} (es:SetC Γ i (some (.od (.dK []))) Γ') (k:ExT K S S' u Γ' P):ExT K S S' (tSeq (tAsg TD (y9 i)) u) Γ P:=fun H0 F0 H F σ B e bb vv D I=>by
 refine fun p hp=>?_
 have g:Gr H F (upd H p (.dK [])) F:=.newO e.le hp _
 have e1:=(e.mono g).set (i:=i) (v:=.ref p) (x:=.od (.dK [])) ⟨p,rfl,⟨zi,e.le.free hp,e.gr.h.free hp,e.out hp⟩⟩ fun c oc j y w hj z hw o=>by
  cases (show V.ref p=.ref c from oc)
  exact e.newOwn g hp j y w z hw o
 rw [es.eq] at e1
 exact k H0 F0 _ F _ B e1 bb vv D I
theorem Tb {i:Nat} {m:DTab} {ta:TE} {k:Int} (h:GetC Γ i (.od (.dK m))) (ha:EvE K S false ta Γ (.int k)):EvE K S κ (YH ta (tVar i)) Γ (.bool (!(dGet m k).isSome)):=fun H0 F0 H F σ e Q q=>ha H0 F0 H F σ e _ fun v H1 F1 g1 p1=>by
 cases yf p1
 obtain ⟨v0,q1,a,rfl,w⟩:=(e.mono g1).has i _ h.eq
 exact ⟨_,q1,a,_,rfl,DGet.k (k:=.inl k) w.h,q _ H1 F1 g1 (.bl _)⟩
theorem zbj {i:Nat} {m:DTab} {tk tv:TE} {k:Int} {w:V} {d:PyData} (h:GetC Γ i (.od (.dK m))) (hv:EvE K S false tv Γ d) (hk:EvE K S false tk Γ (.int k)) (hw:toV d=some w) (hz:m.length < sizeLine) (es:SetC Γ i (some (.od (.dK (dPut m k w)))) Γ') (kk:P.nx Γ'):ExS K S (zbU (tVar i) tk tv) Γ P:=fun H0 F0 H F σ B e bb vv D I =>
 hv H0 F0 H F σ e _ fun v H1 F1 g1 p1=>by
  cases zcp p1 hw
  obtain ⟨v0,q1,a,rfl,o⟩:=(e.mono g1).has i _ h.eq
  refine ⟨_,q1,hk H0 F0 H1 F1 σ (e.mono g1) _ fun v2 H2 F2 g2 p2=>?_⟩
  cases yf p2
  have e2:=(e.mono g1).mono g2
  have o2:=o.mono g2
  refine ⟨a,_,rfl,DPut.k (k:=.inl k) o2.h hz,?_⟩
  have e3:=e2.putO (oo:=.dK (dPut m k w)) (y:=.od (.dK (dPut m k w))) h.eq q1 (show Owns H2 (.ref a) (.od (.dK m)) a from rfl) ⟨a,rfl,⟨zi,o2.f,o2.n,o2.s⟩⟩ fun _ z=>z
  rw [es.eq] at e3
  exact I.nx _ _ _ F2 kk ((bb.trans g1.f).trans g2.f) e3
abbrev zdn (K:ζa) (m:DTab):Hp→Hp→Hp→Hp→V→Prop:=fun H0 F0 H F v=>Gr H0 F0 H F∧HasV K .fresh H0 H F v (.od (.dK m))
end
end PD
namespace L2
open PySem PySem.Spec PyProof.Rows PySem.W
end L2
namespace PD
open PySem L2
section
variable {K:ζa} {S S':Sx} {κ κ':Bool} {Γ Γ' Γ'':Ctx} {P:Post} {E:XK}
abbrev XI (K:ζa) (G:DTab→Prop):Hp→Hp→Hp→Hp→V→Prop:=fun H0 F0 H F v=>∃ m,G m∧zdn K m H0 F0 H F v
theorem U6 {i:Nat} {m:DTab} {G:DTab→Prop} (h:GetC Γ i (.od (.dK m))) (hg:G m):ExM K (tRet (tVar i)) Γ (XI K G):=fun H0 F0 H F σ e D q=>by
 obtain ⟨v,q1,w⟩:=e.has i _ h.eq
 exact ⟨_,q1,q _ H F ⟨m,hg,e.gr,w⟩⟩
def spDW (K:ζa) (pre:List PyData→(DTab→Prop)→Prop):Sp:=fun vs H Q _=>∃ F ds G,Same F H∧zE K F vs ds∧pre ds G∧∀ v H' F',XI K G H F H' F' v→Q v H'
theorem TL {pre:List PyData→(DTab→Prop)→Prop} {n:Nat} (h:∀ ds G,pre ds G→ds.length=n) {vs:List V} {H:Hp} {Q:VK} (s:spDW K pre vs H Q E):vs.length=n:=by
 obtain ⟨F,ds,m,_,k,p,_⟩:=s
 rw [zE.length k]
 exact h ds m p
def dkO (m:DTab):Addr→HO:=fun _=>.dK m
theorem U7 {pre:List PyData→(DTab→Prop)→Prop} {ta:TA} {ds:List PyData} {G:DTab→Prop} {i:Nat} {u:TS} {Γn:DTab→Ctx} (h:EvA K .fresh false ta Γ ds) (hp:pre ds G) (es:∀ m,SetC Γ i (some (.xn (dkO m))) (Γn m)) (k:∀ m,G m→ExT K .fresh S' u (Γn m) P) :
  ExT K .fresh S' (tSeq (tAsg (u0 (spDW K pre) [] E ta) (y9 i)) u) Γ P:=fun H0 F0 H F σ B e bb vv D I =>
 h H0 F0 H F σ e _ fun vs H1 F1 g1 p1=>⟨F1,ds,G,g1.le,by rw [ζJ]; exact ya p1,hp,fun v H2 F2 ⟨m,hg,g2,a,ev,w⟩=>by
  have e1:=e.mono g1
  have s2:Same F2 (upd F2 a (.dK m)):=Same.new w.f _
  have g3:Gr H1 F1 H2 (upd F2 a (.dK m)):=⟨g2.h,g2.f.trans s2,fun c o z=>by
   by_cases ec:c=a
   ·subst ec; rw [zi] at z; rw [← z]; exact w.h
   ·rw [zm ec] at z; exact g2.le _ _ z,fun c o z y=>by
   rw [zm (zy z w.n)]; exact g2.ap _ _ z y⟩
  have e2:=(e1.mono g3).set (i:=i) (v:=v) (x:=.xn (dkO m)) ⟨a,ev,zi⟩ fun _ z=>z.elim
  rw [(es m).eq] at e2
  exact k m hg H0 F0 H2 _ _ B e2 (bb.trans (g1.f.trans g3.f)) vv D I⟩
theorem Zo {i:Nat} {m:DTab} {ta:TE} {k:Int} (h:GetC Γ i (.xn (dkO m))) (ha:EvE K S false ta Γ (.int k)):EvE K S κ (YH ta (tVar i)) Γ (.bool (!(dGet m k).isSome)):=fun H0 F0 H F σ e Q q=>ha H0 F0 H F σ e _ fun v H1 F1 g1 p1=>by
 cases yf p1
 obtain ⟨v0,q1,a,rfl,w⟩:=(e.mono g1).has i _ h.eq
 exact ⟨_,q1,a,_,rfl,DGet.k (k:=.inl k) ((e.mono g1).le _ _ w),q _ H1 F1 g1 (.bl _)⟩
theorem WL {i:Nat} {m:DTab} {ta:TE} {k:Int} {w:V} {d:PyData} (h:GetC Γ i (.xn (dkO m))) (ha:EvE K S false ta Γ (.int k)) (hm:dGet m k=some w) (hw:toV d=some w):EvE K S κ (TJ (tVar i) ta) Γ d:=fun H0 F0 H F σ e Q q=>by
 obtain ⟨v0,q1,a,rfl,o⟩:=e.has i _ h.eq
 refine ⟨_,q1,ha H0 F0 H F σ e _ fun v H1 F1 g1 p1=>?_⟩
 cases yf p1
 refine ⟨a,w,rfl,?_,q w H1 F1 g1 (Tw hw)⟩
 have:=DGet.k (k:=.inl k) (g1.h _ _ (e.le _ _ o))
 rwa [show valV m (.inl k)=some w from hm] at this
theorem Yw {i:Nat} {m:DTab} {ta:TE} {k:Int} {d:PyData} (h:GetC Γ i (.xn (dkO m))) (ha:EvE K S false ta Γ (.int k)) (hd:(dGet m k=none∧d=.none)∨∃ w,dGet m k=some w∧toV d=some w):EvE K S κ (TH (tVar i) ta) Γ d:=fun H0 F0 H F σ e Q q=>by
 obtain ⟨v0,q1,a,rfl,o⟩:=e.has i _ h.eq
 refine ⟨_,q1,a,rfl,.inl ⟨m,.inl (e.le _ _ o)⟩,ha H0 F0 H F σ e _ fun v H1 F1 g1 p1=>?_⟩
 cases yf p1
 refine ⟨_,DGet.k (k:=.inl k) (g1.h _ _ (e.le _ _ o)),?_⟩
 rcases hd with ⟨hm,rfl⟩ | ⟨w,hm,hw⟩
 ·rw [show valV m (.inl k)=none from hm]
  exact q _ H1 F1 g1 .non
 ·rw [show valV m (.inl k)=some w from hm]
  exact q _ H1 F1 g1 (Tw hw)
end
end PD
namespace So
open PySem PySem.W PyProof.Rows
section
variable {α β:Type} {lt:Nat→Nat→Bool} {n:Nat} {key:Nat→Int}
def ev (lt:Nat→Nat→Bool):KasT α→α
 | .ret a=>a
 | .ask i j k=>ev lt (k (lt i j))
theorem vH (f:α→KasT β):∀ t:KasT α,ev lt (t.bind f)=ev lt (f (ev lt t))
 | .ret _=>rfl
 | .ask i j k=>vH f (k (lt i j))
def Asks (n:Nat):KasT α→Prop
 | .ret _=>True
 | .ask i j k=>i < n∧j < n∧∀ b,Asks n (k b)
theorem vO {f:α→KasT β}:∀ {t:KasT α},Asks n t→(∀ a,Asks n (f a))→Asks n (t.bind f)
 | .ret a,_,h=>h a
 | .ask _ _ _,h,g=>⟨h.1,h.2.1,fun b=>vO (h.2.2 b) g⟩
theorem zbJ {cmp:Nat→Nat→(Bool→Shared→Prop)→Shared→Prop} {s:Shared} (hc:∀ i j C,i < n→j < n→C (lt i j) s→cmp i j C s) {Q:α→Shared→Prop}:∀ (t:KasT α),Asks n t→Q (ev lt t) s→t.kasWp cmp Q s
 | .ret _,_,h=>h
 | .ask i j k,a,h=>hc i j _ a.1 a.2.1 (zbJ hc (k (lt i j)) (a.2.2 _) h)
abbrev at' (p:Array Nat) (i:Nat):Nat:=p.getD i 0
theorem XG {p:Array Nat} {i:Nat} (h:i < p.size):p[i]?=some (at' p i):=by simp [at',h]
theorem Ux {p q:Array Nat} {i j:Nat} (h:p[i]?=q[j]?):at' p i=at' q j:=by
 show p.getD i 0=q.getD j 0
 rw [ξS,ξS,h]
structure PO (n:Nat) (p:Array Nat):Prop where
 z:p.size=n
 nd:p.toList.Nodup
 lt:∀ x∈p.toList,x < n
theorem PO.perm {p q:Array Nat} (h:PO n p) (e:q.Perm p):PO n q:=⟨e.size_eq.trans h.z,(Array.perm_iff_toList_perm.mp e).nodup_iff.mpr h.nd,fun x hx=>h.lt x ((Array.perm_iff_toList_perm.mp e).mem_iff.mp hx)⟩
theorem PO.at {p:Array Nat} (h:PO n p) (i:Nat) (n0:0 < n):at' p i < n:=by
 by_cases c:i < p.size
 ·refine h.lt _ (ζj (i:=i) ?_)
  rw [ξb]
  exact XG c
 ·show p.getD i 0 < n
  rw [ξS,Array.getElem?_eq_none (by omega)]
  exact n0
theorem PO.ne {p:Array Nat} (h:PO n p) {i j:Nat} (hi:i < n) (hj:j < n) (hij:i≠j):at' p i≠at' p j:=fun e=>by
 have h1:=XG (p:=p) (i:=i) (by rw [h.z]; exact hi)
 have h2:=XG (p:=p) (i:=j) (by rw [h.z]; exact hj)
 rw [← e] at h2
 rw [← ξb] at h1 h2
 obtain ⟨a1,b1⟩:=ζc.mp h1
 obtain ⟨a2,b2⟩:=ζc.mp h2
 exact hij ((ξE h.nd).mp (b1.trans b2.symm))
theorem yY (p:Array Nat) (i j:Nat):(kas_rev p i j).Perm p:=mirror_perm ..
theorem ZA {p:Array Nat} (h:PO n p) (n0:0 < n):∀ f m,Asks n (kas_asc p f m)
 | 0,_=>trivial
 | f + 1,m=>⟨h.at _ n0,h.at _ n0,fun b=>by cases b <;> first | exact trivial | exact ZA h n0 f (m + 1)⟩
theorem Z5 {p:Array Nat} (h:PO n p) (n0:0 < n) (m r:Nat):Asks n (kas_tail3 m r p):=vO (ZA (h.perm (yY ..)) n0 _ _) fun _=>trivial
theorem vL (n0:0 < n):∀ (f:Nat) (p:Array Nat) (m q:Nat),PO n p→Asks n (kas_desc f p m q)
 | 0,_,_,_,_=>trivial
 | f + 1,p,m,q,h=>⟨h.at _ n0,h.at _ n0,fun b=>by
  cases b with
  | true =>
   show Asks n (if q > 0 then _ else _)
   split
   ·exact vL n0 f _ _ _ (h.perm (yY ..))
   ·exact vL n0 f _ _ _ h
  | false=>exact ⟨h.at _ n0,h.at _ n0,fun d=>by cases d <;> first | exact trivial | exact vL n0 f _ _ _ h⟩⟩
def All (φ:α→Prop):KasT α→Prop
 | .ret a=>φ a
 | .ask _ _ k=>∀ b,All φ (k b)
theorem uM {φ:α→Prop} {ψ:β→Prop} {f:α→KasT β}:∀ {t:KasT α},All φ t→(∀ a,φ a→All ψ (f a))→All ψ (t.bind f)
 | .ret a,h,g=>g a h
 | .ask _ _ _,h,g=>fun b=>uM (h b) g
theorem Zz {φ:α→Prop} {f:α→KasT β}:∀ {t:KasT α},Asks n t→All φ t→(∀ a,φ a→Asks n (f a))→Asks n (t.bind f)
 | .ret a,_,h,g=>g a h
 | .ask _ _ _,h,k,g=>⟨h.1,h.2.1,fun b=>Zz (h.2.2 b) (k b) g⟩
theorem vp:∀ (f:Nat) (p:Array Nat) (m q:Nat),PO n p→All (fun r:Array Nat×Nat×Nat=>PO n r.1) (kas_desc f p m q)
 | 0,_,_,_,h=>h
 | f + 1,p,m,q,h=>fun b=>by
  cases b with
  | true =>
   show All _ (if q > 0 then _ else _)
   split
   ·exact vp f _ _ _ (h.perm (yY ..))
   ·exact vp f _ _ _ h
  | false=>exact fun d=>by cases d <;> first | exact h | exact vp f _ _ _ h
theorem ZC {φ:α→Prop} (h:∀ a,φ a):∀ t:KasT α,All φ t
 | .ret a=>h a
 | .ask _ _ k=>fun b=>ZC h (k b)
theorem XR {p:Array Nat} (h:PO n p) (m r:Nat):All (fun r:Nat×Array Nat=>PO n r.2) (kas_tail3 m r p):=uM (ZC (φ:=fun _=>True) (fun _=>trivial) _) fun _ _=>h.perm (yY ..)
theorem vG {p:Array Nat} (h:PO n p) (n0:0 < n) (m r:Nat):Asks n (kas_descPart m r p)∧All (fun r:Nat×Array Nat=>PO n r.2) (kas_descPart m r p):=by
 refine ⟨Zz (vL n0 _ _ _ _ h) (vp _ _ _ _ h) fun a ha=>?_,uM (vp _ _ _ _ h) fun a ha=>?_⟩
 ·split
  ·exact Z5 (ha.perm (yY ..)) n0 _ _
  ·exact Z5 ha n0 _ _
 ·split
  ·exact XR (ha.perm (yY ..)) _ _
  ·exact XR ha _ _
theorem Zt {p:Array Nat} (h:PO n p) (n0:0 < n) (r:Nat):Asks n (kas_count r p)∧All (fun r:Nat×Array Nat=>PO n r.2) (kas_count r p):=by
 refine ⟨vO (ZA h n0 _ _) fun a=>?_,uM (ZC (φ:=fun _=>True) (fun _=>trivial) _) fun a _=>?_⟩
 ·split
  ·exact trivial
  ·split
   ·exact ⟨h.at _ n0,h.at _ n0,fun b=>by cases b <;> first | exact trivial | exact (vG (h.perm (yY ..)) n0 _ _).1⟩
   ·exact (vG h n0 _ _).1
 ·split
  ·exact h
  ·split
   ·exact fun b=>by cases b <;> first | exact h | exact (vG (h.perm (yY ..)) n0 _ _).2
   ·exact (vG h n0 _ _).2
theorem tZ {p:Array Nat} (h:PO n p) (n0:0 < n) (k:Nat):∀ f l r,Asks n (kas_place p k f l r)
 | 0,_,_=>trivial
 | f + 1,l,r=>by
  show Asks n (if l≥r then _ else _)
  split
  ·exact trivial
  ·exact ⟨h.at _ n0,h.at _ n0,fun b=>by cases b <;> first | exact tZ h n0 k f _ _⟩
theorem WU (n0:0 < n):∀ (f:Nat) (p:Array Nat) (k:Nat),PO n p→Asks n (kas_bin f p k)
 | 0,_,_,_=>trivial
 | f + 1,p,k,h=>vO (tZ h n0 k _ _ _) fun l=>WU n0 f _ _ (h.perm (bubble_perm ..))
theorem ur (n:Nat):PO n (List.toArray (List.range n)):=⟨by simp,List.nodup_range,fun x hx=>List.mem_range.mp hx⟩
theorem UD (n0:0 < n):Asks n (kas_sort n):=Zz (Zt (ur n) n0 n).1 (Zt (ur n) n0 n).2 fun a ha=>by
 split
 ·exact WU n0 _ _ _ ha
 ·exact trivial
end
section
variable {n:Nat} {key:Nat→Int}
def ltK (key:Nat→Int) (i j:Nat):Bool:=decide (key i < key j)
theorem Zc {a b:Nat} (h:key a < key b):ltK key a b=true:=decide_eq_true h
theorem QJ {a b:Nat} (h:¬ key a < key b):¬ ltK key a b=true:=by unfold ltK; rw [decide_eq_false h]; simp
structure Inj (n:Nat) (key:Nat→Int):Prop where
 i:∀ i j,i < n→j < n→key i=key j→i=j
def Up (key:Nat→Int) (p:Array Nat) (k:Nat):Prop:=∀ i j,i < j→j < k→key (at' p i) < key (at' p j)
def Dn (key:Nat→Int) (p:Array Nat) (k:Nat):Prop:=∀ i j,i < j→j < k→key (at' p j) < key (at' p i)
theorem PO.kne {p:Array Nat} (h:PO n p) (hi:Inj n key) {i j:Nat} (h1:i < n) (h2:j < n) (h3:i≠j):key (at' p i)≠key (at' p j):=fun e=>h.ne h1 h2 h3 (hi.i _ _ (h.at _ (by omega)) (h.at _ (by omega)) e)
theorem VL {p:Array Nat} (h:PO n p) (hi:Inj n key):∀ f m,1≤m→m + f≤n→Up key p m→m≤ev (ltK key) (kas_asc p f m)∧ev (ltK key) (kas_asc p f m)≤m + f∧Up key p (ev (ltK key) (kas_asc p f m))∧(ev (ltK key) (kas_asc p f m) < m + f→key (at' p (ev (ltK key) (kas_asc p f m))) < key (at' p (ev (ltK key) (kas_asc p f m) - 1)))
 | 0,m,_,_,u=>⟨ζi _,ζi _,u,fun z=>absurd z (ζ5 _)⟩
 | f + 1,m,m1,ml,u=>by
  have e:ev (ltK key) (kas_asc p (f + 1) m)=ev (ltK key) (if ltK key (at' p m) (at' p (m - 1))=true then .ret m else kas_asc p f (m + 1)):=rfl
  rw [e]
  by_cases c:key (at' p m) < key (at' p (m - 1))
  ·rw [if_pos (Zc c)]
   exact ⟨ζi _,by show m≤_; omega,u,fun _=>c⟩
  ·rw [if_neg (QJ c)]
   have ne:=h.kne hi (i:=m - 1) (j:=m) (by omega) (by omega) (by omega)
   have ih:=VL h hi f (m + 1) (by omega) (by omega) fun i j ij jm=>by
    by_cases y:j=m
    ·subst y
     by_cases x:i=j - 1
     ·subst x; omega
     ·have:=u i (j - 1) (by omega) (by omega)
      omega
    ·exact u i j ij (by omega)
   refine ⟨by omega,by omega,ih.2.2.1,fun z=>ih.2.2.2 (by omega)⟩
theorem Uq {p:Array Nat} (h:PO n p) (hi:Inj n key):∀ f m,1≤m→m + f≤n→Dn key p m→∃ r,ev (ltK key) (kas_desc f p m 0)=(p,r,0)∧m≤r∧r≤m + f∧Dn key p r
 | 0,m,_,_,u=>⟨m,rfl,ζi _,ζi _,u⟩
 | f + 1,m,m1,ml,u=>by
  have e:ev (ltK key) (kas_desc (f + 1) p m 0)=ev (ltK key) (if ltK key (at' p m) (at' p (m - 1))=true then kas_desc f p (m + 1) 0 else .ask (at' p (m - 1)) (at' p m) fun d=>if d=true then .ret (p,m,0) else kas_desc f p (m + 1) (0 + 1)):=rfl
  rw [e]
  have ne:=h.kne hi (i:=m - 1) (j:=m) (by omega) (by omega) (by omega)
  by_cases c:key (at' p m) < key (at' p (m - 1))
  ·rw [if_pos (Zc c)]
   obtain ⟨r,h1,h2,h3,h4⟩:=Uq h hi f (m + 1) (by omega) (by omega) fun i j ij jm=>by
    by_cases y:j=m
    ·subst y
     by_cases x:i=j - 1
     ·subst x; omega
     ·have:=u i (j - 1) (by omega) (by omega)
      omega
    ·exact u i j ij (by omega)
   exact ⟨r,h1,by omega,by omega,h4⟩
  ·rw [if_neg (QJ c)]
   refine ⟨m,?_,ζi _,by omega,u⟩
   show ev (ltK key) (if ltK key (at' p (m - 1)) (at' p m)=true then .ret (p,m,0) else _)=_
   rw [if_pos (Zc (by omega))]
   rfl
theorem T5 {p:Array Nat} {m k:Nat} (hm:m≤p.size) (hk:k < m):at' (kas_rev p 0 m) k=at' p (m - 1 - k):=by
 refine Ux ?_
 show (mirror p 0 m ((m - 0) / 2))[k]?=_
 rw [getElem?_mirror_all hm,if_pos ⟨ζE _,hk⟩,Nat.zero_add]
theorem zcr {p:Array Nat} {m:Nat} (hm:m≤p.size) (u:Dn key p m):Up key (kas_rev p 0 m) m:=fun i j ij jm=>by
 rw [T5 hm (by omega),T5 hm jm]
 exact u _ _ (by omega) (by omega)
structure CR (n:Nat) (key:Nat→Int) (r:Nat×Array Nat):Prop where
 p:PO n r.2
 u:Up key r.2 r.1
 l:r.1≤n
 o:1≤r.1
theorem zaE {p:Array Nat} (h:PO n p) (hi:Inj n key) {m:Nat} (m1:1≤m) (ml:m≤n) (u:Dn key p m):CR n key (ev (ltK key) (kas_tail3 m n p)):=by
 have hr:=h.perm (yY p 0 m)
 have a:=VL hr hi (n - m) m m1 (by omega) (zcr (by rw [h.z]; exact ml) u)
 unfold kas_tail3
 rw [vH]
 exact ⟨hr,a.2.2.1,by have:=a.2.1; show ev _ _≤n; omega,by show 1≤ev _ _; omega⟩
theorem zaq {p:Array Nat} (h:PO n p) (hi:Inj n key) (n1:1≤n):CR n key (ev (ltK key) (kas_count n p)):=by
 have a:=VL h hi (n - 1) 1 (ζi _) (by omega) (fun i j ij jm=>absurd jm (by omega))
 unfold kas_count
 rw [vH]
 generalize ev (ltK key) (kas_asc p (n - 1) 1)=m at a
 by_cases c:m=n
 ·rw [if_pos (by simp [c])]
  exact ⟨h,a.2.2.1,by show m≤n; omega,a.1⟩
 ·rw [if_neg (by simpa using c)]
  by_cases d:m > 1
  ·rw [if_pos d]
   have:key (at' p 0) < key (at' p (m - 1)):=a.2.2.1 0 (m - 1) (by omega) (by omega)
   show CR n key (ev (ltK key) (if ltK key (at' p 0) (at' p (m - 1))=true then .ret (m,p) else _))
   rw [if_pos (Zc this)]
   exact ⟨h,a.2.2.1,by show m≤n; omega,a.1⟩
  ·rw [if_neg d]
   obtain rfl:m=1:=by omega
   have lt1:=a.2.2.2 (by omega)
   unfold kas_descPart
   rw [vH]
   obtain ⟨r,h1,h2,h3,h4⟩:=Uq h hi (n - (1 + 1)) (1 + 1) (by omega) (by omega) fun i j ij jm=>by
    obtain rfl:j=1:=by omega
    obtain rfl:i=0:=by omega
    exact lt1
   rw [h1]
   show CR n key (ev (ltK key) (if 0 > 0 then _ else kas_tail3 r n p))
   rw [if_neg (ζ5 0)]
   exact zaE h hi (by omega) (by omega) h4
structure PL (key:Nat→Int) (p:Array Nat) (k l:Nat):Prop where
 c:l≤k
 a:∀ i,i < l→key (at' p i) < key (at' p k)
 b:∀ i,l≤i→i < k→key (at' p k) < key (at' p i)
theorem tY {p:Array Nat} (h:PO n p) (hi:Inj n key) {k:Nat} (kn:k < n) (u:Up key p k):∀ f l r,r - l≤f→l≤r→r≤k→(∀ i,i < l→key (at' p i) < key (at' p k))→(∀ i,r≤i→i < k→key (at' p k) < key (at' p i))→PL key p k (ev (ltK key) (kas_place p k f l r))
 | 0,l,r,hf,lr,rk,ha,hb=>⟨by show l≤k; omega,ha,fun i (h1:l≤i) h2=>hb i (by omega) h2⟩
 | f + 1,l,r,hf,lr,rk,ha,hb=>by
  show PL key p k (ev (ltK key) (if l≥r then _ else _))
  by_cases c:l≥r
  ·rw [if_pos c]
   exact ⟨by show l≤k; omega,ha,fun i (h1:l≤i) h2=>hb i (by omega) h2⟩
  ·rw [if_neg c]
   show PL key p k (ev (ltK key) (if ltK key (at' p k) (at' p ((l + r) / 2))=true then _ else _))
   have ne:=h.kne hi (i:=k) (j:=(l + r) / 2) (by omega) (by omega) (by omega)
   by_cases d:key (at' p k) < key (at' p ((l + r) / 2))
   ·rw [if_pos (Zc d)]
    refine tY h hi kn u f l _ (by omega) (by omega) (by omega) ha fun i h1 h2=>?_
    by_cases y:i=(l + r) / 2
    ·rw [y]; exact d
    ·have:=u ((l + r) / 2) i (by omega) h2
     omega
   ·rw [if_neg (QJ d)]
    refine tY h hi kn u f _ r (by omega) (by omega) rk (fun i h1=>?_) hb
    by_cases y:i=(l + r) / 2
    ·rw [y]; omega
    ·have:=u i ((l + r) / 2) (by omega) (by omega)
     omega
theorem zas {p:Array Nat} {k l:Nat} (hk:k < p.size) (hl:l≤k) (j:Nat):at' (bubble p k (k - l)) j=if j=l then at' p k else if l < j∧j≤k then at' p (j - 1) else at' p j:=by
 have:=getElem?_bubble hk (k - l) (by omega) j
 rw [show k - (k - l)=l by omega] at this
 by_cases c:j=l
 ·rw [if_pos c] at this ⊢
  exact Ux this
 ·rw [if_neg c] at this ⊢
  by_cases d:l < j∧j≤k
  ·rw [if_pos d] at this ⊢
   exact Ux this
  ·rw [if_neg d] at this ⊢
   exact Ux this
theorem zdf {p:Array Nat} {k l:Nat} (hk:k < p.size) (u:Up key p k) (h:PL key p k l):Up key (bubble p k (k - l)) (k + 1):=fun i j ij jk=>by
 have hl:=h.c
 rw [zas hk hl i,zas hk hl j]
 by_cases c:i=l
 ·rw [if_pos c,if_neg (by omega),if_pos (by omega)]
  exact h.b _ (by omega) (by omega)
 ·rw [if_neg c]
  by_cases d:l < i∧i≤k
  ·rw [if_pos d,if_neg (by omega),if_pos (by omega)]
   exact u _ _ (by omega) (by omega)
  ·rw [if_neg d]
   by_cases e:j=l
   ·rw [if_pos e]
    exact h.a i (by omega)
   ·rw [if_neg e]
    by_cases f:l < j∧j≤k
    ·rw [if_pos f]
     by_cases g:j - 1=i
     ·omega
     ·exact u _ _ (by omega) (by omega)
    ·rw [if_neg f]
     exact u _ _ ij (by omega)
theorem zat (hi:Inj n key):∀ (f:Nat) (p:Array Nat) (k:Nat),PO n p→k + f≤n→Up key p k→PO n (ev (ltK key) (kas_bin f p k))∧Up key (ev (ltK key) (kas_bin f p k)) (k + f)
 | 0,_,_,h,_,u=>⟨h,u⟩
 | f + 1,p,k,h,hk,u=>by
  have pl:=tY h hi (k:=k) (by omega) u k 0 k (by omega) (ζE _) (ζi _) (fun i z=>absurd z (ζV i)) fun i h1 h2=>absurd h2 (by omega)
  have e:ev (ltK key) (kas_bin (f + 1) p k)=ev (ltK key) (kas_bin f (bubble p k (k - ev (ltK key) (kas_place p k k 0 k))) (k + 1)):=vH _ _
  rw [e]
  have:=zat hi f _ (k + 1) (h.perm (bubble_perm p k (k - ev (ltK key) (kas_place p k k 0 k)))) (by omega) (zdf (by rw [h.z]; omega) u pl)
  rw [show k + (f + 1)=k + 1 + f by omega]
  exact this
theorem zaJ (hi:Inj n key) (n1:1≤n):PO n (ev (ltK key) (kas_sort n))∧Up key (ev (ltK key) (kas_sort n)) n:=by
 have c:=zaq (ur n) hi n1
 unfold kas_sort
 rw [vH]
 generalize ev (ltK key) (kas_count n (List.toArray (List.range n)))=r at c
 by_cases d:r.1 < n
 ·rw [if_pos d]
  have m:=c.o
  have:=zat hi (n - max r.1 1) r.2 (max r.1 1) c.p (by omega) (by rw [Nat.max_eq_left m]; exact c.u)
  rw [show max r.1 1 + (n - max r.1 1)=n by omega] at this
  exact this
 ·rw [if_neg d]
  have:=c.l
  exact ⟨c.p,by rw [show n=r.1 by omega]; exact c.u⟩
end
end So
namespace L2
open PySem PySem.Spec PySem.W PyProof.Rows
inductive Prs (h:Heap):List Value→List (Int×Int)→Prop
 | nil:Prs h [] []
 | cons {a:Addr} {o:Obj} {n:Nat} {x y:Int} {t u:Tok} {vs:List Value} {ps:List (Int×Int)}:h.get? a=some o→o.cls=.type "tuple" → o.data=.seq #[.int x t,.int y u] n→Prs h vs ps→Prs h (.ref a :: vs) ((x,y) :: ps)
theorem Prs.keep {h h':Heap} (k:∀ b o,h.get? b=some o→o.cls=.type "tuple" → h'.get? b=some o):∀ {vs:List Value} {ps:List (Int×Int)},Prs h vs ps→Prs h' vs ps
 | _,_,.nil=>.nil
 | _,_,.cons h1 h2 h3 r=>.cons (k _ _ h1 h2) h2 h3 (r.keep k)
theorem Prs.len {h:Heap}:∀ {vs:List Value} {ps:List (Int×Int)},Prs h vs ps→vs.length=ps.length
 | _,_,.nil=>rfl
 | _,_,.cons _ _ _ r=>congrArg (· + 1) r.len
theorem Prs.get {h:Heap}:∀ {vs:List Value} {ps:List (Int×Int)} {i:Nat},Prs h vs ps→i < vs.length→∃ a o n t u,vs.getD i .none=.ref a∧h.get? a=some o∧o.data=.seq #[.int (ps.getD i (0,0)).1 t,.int (ps.getD i (0,0)).2 u] n
 | _,_,_,.nil,hi=>absurd hi (ζV _)
 | _,_,0,.cons h1 _ h3 _,_=>⟨_,_,_,_,_,rfl,h1,h3⟩
 | _,_,i + 1,.cons _ _ _ r,hi=>r.get (i:=i) (ξM hi)
theorem Prs.tups {h:Heap}:∀ {vs:List Value} {ps:List (Int×Int)},Prs h vs ps→∃ fs,KatTups h vs fs∧fs.length=vs.length∧∀ v∈fs,∃ x t,v=.int x t
 | _,_,.nil=>⟨[],.nil,rfl,fun _ z=>by cases z⟩
 | _,_,.cons h1 h2 h3 r=>by
  obtain ⟨fs,t,l,e⟩:=r.tups
  exact ⟨_ :: fs,.cons h1 h2 h3 rfl t,congrArg (· + 1) l,ζL.mpr ⟨⟨_,_,rfl⟩,e⟩⟩
def pk (q:Int×Int):Int:=q.1 * 1000 + q.2
def pkAt (ps:List (Int×Int)) (i:Nat):Int:=pk (ps.getD i (0,0))
structure vz (ps:List (Int×Int)):Prop where
 s:∀ q∈ps,0≤q.2∧q.2 < 1000
theorem vz.at {ps:List (Int×Int)} (h:vz ps) {i:Nat} (hi:i < ps.length):0≤(ps.getD i (0,0)).2∧(ps.getD i (0,0)).2 < 1000:=by
 rw [ζe,ζm hi]
 exact h.s _ (ξ4 hi)
theorem zdx {a b c d:Int} (h1:0≤b∧b < 1000) (h2:0≤d∧d < 1000):pk (a,b) < pk (c,d)↔a < c∨a=c∧b < d:=by
 unfold pk
 show a * 1000 + b < c * 1000 + d↔_
 omega
section
variable {prog:Program} {w:World} {A:Around} {E:Value→Shared→Prop} {s:Shared} {vs:List Value} {ps:List (Int×Int)}
theorem zaU (T:Prs s.heap vs ps) (sm:vz ps) {i j:Nat} {C:Bool→Shared→Prop} (hi:i < vs.length) (hj:j < vs.length) (h:C (So.ltK (pkAt ps) i j) s):kas_ask prog w A (tuples' true) vs i j C s:=by
 obtain ⟨a,o,n,t,u,e1,e2,e3⟩:=T.get hi
 obtain ⟨a',o',n',t',u',f1,f2,f3⟩:=T.get hj
 have s1:=sm.at (i:=i) (by rw [← T.len]; exact hi)
 have s2:=sm.at (i:=j) (by rw [← T.len]; exact hj)
 unfold So.ltK pkAt at h
 unfold kas_ask
 rw [e1,f1]
 generalize ps.getD i (0,0)=q at *
 generalize ps.getD j (0,0)=r at *
 obtain ⟨q1,q2⟩:=q
 obtain ⟨r1,r2⟩:=r
 have lx:=zdx (a:=q1) (c:=r1) s1 s2
 refine kat_lt e2 e3 f2 f3 (kat_cons (wpAny_eqBool_int ?_))
 by_cases c:q1=r1
 ·rw [show (q1 == r1)=true by simp [c]]
  refine kat_yes (kat_cons (wpAny_eqBool_int ?_))
  by_cases d:q2=r2
  ·rw [show (q2 == r2)=true by simp [d]]
   refine kat_yes (kat_nil ?_)
   rw [decide_eq_false (by rw [lx]; omega)] at h
   exact h
  ·rw [show (q2 == r2)=false by simp [d]]
   refine kat_no (kat_one _ _ (wpAny_lt_int (show C _ s from ?_)))
   rw [show decide (pk (q1,q2) < pk (r1,r2))=decide (q2 < r2) from decide_eq_decide.mpr (by rw [lx]; omega)] at h
   exact h
 ·rw [show (q1 == r1)=false by simp [c]]
  refine kat_no (oneLt_int ?_)
  rw [show decide (pk (q1,q2) < pk (r1,r2))=decide (q1 < r1) from decide_eq_decide.mpr (by rw [lx]; omega)] at h
  exact h
theorem zcw (sm:vz ps) (nd:ps.Nodup):So.Inj ps.length (pkAt ps):=⟨fun i j hi hj e=>by
 have s1:=sm.at hi
 have s2:=sm.at hj
 unfold pkAt pk at e
 have e':ps.getD i (0,0)=ps.getD j (0,0):=Prod.ext (by omega) (by omega)
 rw [ζe,ζe,ζm hi,ζm hj] at e'
 exact (ξE nd).mp e'⟩
def outP (vs:List Value) (p:Array Nat):Array Value:=List.toArray (p.toList.map fun i=>vs.getD i .none)
theorem UU {a:Addr} {n:Nat} {P:PySem.Fin→Shared→Prop} (ho:s.heap.get? a=some (seqObj "list" vs.toArray n)) (T:Prs s.heap vs ps) (sm:vz ps) (nd:ps.Nodup) (h64:vs.length < 64)
  (fin:∀ p:Array Nat,So.PO vs.length p→So.Up (pkAt ps) p vs.length→P (.done (.ret .none)) { s with heap:=sortedHeap s.heap a vs (outP vs p) }):wpAny (model prog w) A (Builtin.«list.sort» ⟨[.ref a],[]⟩) P E s:=by
 have hla:=ζq ho
 rw [list_sort_plain]
 refine wpAny_bind (listItems_at ho rfl (wpAny_bind (listUpdate_at ho rfl ?_)))
 obtain ⟨ep,he⟩:∃ ep,(s.heap.update a (Obj.mapSeq fun _=>#[])).get? a=some (seqObj "list" #[] ep):=⟨_,get?_update_seq ho _⟩
 refine wpAny_bind (seqEpoch_at he rfl (wpAny_bind (wpAny_newTuple (wpAny_bind (wpAny_newList (wpAny_holding ?_))))))
 generalize hH:((s.heap.update a (Obj.mapSeq fun _=>#[])).push (seqObj "tuple" vs.toArray 0)).push (seqObj "list" #[] 0)=H
 have hHa:H.get? a=some (seqObj "list" #[] ep):=by
  rw [← hH,Heap.get?_push_ne _ _ _ (by rw [size_push',Heap.size_update]; exact ζA (ξu hla))]
  rw [Heap.get?_push_ne _ _ _ (by rw [Heap.size_update]; exact ζA hla)]
  exact he
 have T':Prs H vs ps:=T.keep fun b o z hc=>by
  have hb:b≠a:=by
   rintro rfl
   rw [ho] at z
   cases z
   have hc:Value.type "list" = Value.type "tuple" := hc
   injection hc with hc
   exact absurd hc (by decide)
  rw [← hH]
  refine ζh _ (ζh _ ?_)
  rw [Heap.get?_update_ne _ _ _ _ hb]
  exact z
 have sh:∀ out,sortedHeap s.heap a vs out=H.update a (Obj.mapSeq fun _=>out):=fun out=>by rw [← hH]; rfl
 show wpAny (model prog w) A _ P E { s with heap:=H }
 dsimp only
 have hsz:vs.toArray.size=vs.length:=by simp
 by_cases h2:vs.toArray.size < 2
 ·rw [if_pos h2,if_pos h2]
  refine wpAny_bind (wpAny_pure ?_)
  rw [StateT.run_pure]
  refine wpAny_bind (wpAny_pure ?_)
  dsimp only
  have ov:(Array.map (fun x:Keyed=>x.2) (vs.toArray.zip vs.toArray))=outP vs (List.toArray (List.range vs.length)):=by
   unfold outP
   match vs,h2 with
   | [],_=>simp
   | [v],_=>simp
   | _ :: _ :: _,h2=>exact absurd h2 (by simp)
  refine wpAny_bind (seqEpoch_at hHa rfl (wpAny_bind (listUpdate_at hHa rfl ?_ (hsz2:=?_))))
  ·simp only [bne_self_eq_false,Bool.false_eq_true,if_false]
   refine wpAny_pure ?_
   have:=fin _ (So.ur vs.length) fun i j h1 h3=>absurd h3 (by omega)
   rw [sh,← ov] at this
   exact this
  ·show (Array.map (fun x:Keyed=>x.2) (vs.toArray.zip vs.toArray)).size≤_
   rw [ov]
   unfold outP
   simp [sizeLine_eq]
   omega
 ·rw [if_neg h2,if_neg h2]
  obtain ⟨fs,t,fl,fi⟩:=T'.tups
  have kd:wpAny (model prog w) A (keyKind' vs.toArray) (fun κ s'=>κ=tuples' true∧s'={ s with heap:=H }) (fun _ _=>False) { s with heap:=H } :=
   kat_kind (T:=.type "int") t (by omega) (fun v hv=>by
    obtain ⟨x,tk,rfl⟩:=fi v hv
    exact Looks.of_pure rfl) (by decide) ⟨rfl,rfl⟩
  refine wpAny_bind (wpAny_mono kd (fun κ s0 hk=>?_) fun _ _ z=>z.elim)
  obtain ⟨rfl,rfl⟩:=hk
  have ru:=kat_run (prog:=prog) (w:=w) (A:=A) (E:=E) (s:={ s with heap:=H }) (κ:=tuples' true) (vs:=vs) (ks:=vs) (Q:=fun st' s'=>s'={ s with heap:=H }∧failedOf st'=none∧∃ p,arrOf st'=p.map (kas_item (vs.toArray.zip vs.toArray))∧So.PO vs.length p∧So.Up (pkAt ps) p vs.length) (G:=fun p s'=>s'={ s with heap:=H }∧p=So.ev (So.ltK (pkAt ps)) (kas_sort vs.length)) rfl (by omega) h64 (fun p st' s' _ b1 b2 ⟨b3,b4⟩=>by
    have so:=So.zaJ (n:=vs.length) (by rw [T.len]; exact zcw sm nd) (by omega)
    rw [← b4] at so
    exact ⟨b3,b2,p,b1,so.1,so.2⟩) (So.zbJ (n:=vs.length) (lt:=So.ltK (pkAt ps)) (fun i j C h1 h2 hC=>zaU T' sm h1 h2 hC) _ (So.UD (by omega)) ⟨rfl,rfl⟩)
  refine wpAny_bind (wpAny_mono ru ?_ fun _ _ e=>e)
  rintro ⟨⟨⟩,st⟩ s' ⟨rfl,hf,p,har,po,up⟩
  dsimp only
  have ov:(arrOf st).map (fun x:Keyed=>x.2)=outP vs p:=kat_snds rfl har
  refine wpAny_bind (seqEpoch_at hHa rfl (wpAny_bind (listUpdate_at hHa rfl ?_ (hsz2:=?_))))
  ·rw [hf]
   simp only [bne_self_eq_false,Bool.false_eq_true,if_false]
   refine wpAny_pure ?_
   have:=fin p po up
   rw [sh,← ov] at this
   exact this
  ·show ((arrOf st).map (fun x:Keyed=>x.2)).size≤_
   rw [ov]
   unfold outP
   have:=po.z
   simp [sizeLine_eq]
   omega
theorem W3 {l:Addr} {Q:Value→Shared→Prop} (hl:s.heap.IsList l vs.toArray) (T:Prs s.heap vs ps) (sm:vz ps) (nd:ps.Nodup) (h64:vs.length < 64)
  (fin:∀ p:Array Nat,So.PO vs.length p→So.Up (pkAt ps) p vs.length→Q (.ref (s.heap.objs.size + 1)) { s with heap:=sortedAll s.heap vs (outP vs p) }):wpAny (model prog w) A (call (.builtin "sorted") [.ref l]) Q E s:=by
 refine Calls.call_function_entry kind_sorted plain_sorted entry_sorted (args_sorted1 _) ?_
 unfold Builtin.«sorted»
 refine wpAny_bind (m:=checkCount "sorted" 1 1 _) (wpAny_pure (wpAny_bind (collect_list hl (wpAny_bind (wpAny_newList ?_)))))
 generalize hH:(s.heap.push (seqObj "list" #[] 0)).update s.heap.objs.size (Obj.mapSeq (· ++ vs.toArray))=H
 have hsz:H.objs.size=s.heap.objs.size + 1:=by rw [← hH,Heap.size_update,size_push']
 have hoL:(H.push (seqObj "list" vs.toArray 0)).get? (s.heap.objs.size + 1)=some (seqObj "list" vs.toArray 0):=by
  rw [← hsz]
  exact ζB _ rfl
 have T':Prs (H.push (seqObj "list" vs.toArray 0)) vs ps:=T.keep fun b o z _=>by
  have hb:=ζq z
  refine ζh _ ?_
  rw [← hH,Heap.get?_update_ne _ _ _ _ (ζA hb)]
  exact ζh _ z
 show wpAny _ _ _ _ _ { s with heap:=H.push (seqObj "list" vs.toArray 0) }
 rw [hsz]
 refine wpAny_bind (wpAny_holding (wpAny_call_entry slot_list_sort ⟨_,hoL,rfl⟩ entry_list_sort (UU (s:={ s with heap:=H.push (seqObj "list" vs.toArray 0) }) hoL T' sm nd h64 fun p po up=>⟨_,rfl,?_⟩) (args_list_sort _)))
 have:=fin p po up
 unfold sortedAll at this
 rw [hH] at this
 exact wpAny_pure ⟨_,rfl,this⟩
end
inductive PsV (K:ζa) (H:Hp):List V→List (Int×Int)→Prop
 | nil:PsV K H [] []
 | cons {a:Addr} {x y:Int} {ws:List V} {ps:List (Int×Int)}:SqT K H a [.int x,.int y]→PsV K H ws ps→PsV K H (.ref a :: ws) ((x,y) :: ps)
theorem PsV.len {K:ζa} {H:Hp}:∀ {ws:List V} {ps:List (Int×Int)},PsV K H ws ps→ws.length=ps.length
 | _,_,.nil=>rfl
 | _,_,.cons _ r=>congrArg (· + 1) r.len
theorem Qe {X:Cx} {pins:List (Addr×Obj)} {σ:St} {H:Hp} {s:Shared} (I:Inv X pins σ H s):∀ {ws:List V} {ps:List (Int×Int)} {its:List Value},PsV X.K H ws ps→Vals ws its→Prs s.heap its ps
 | _,_,_,.nil,.nil=>.nil
 | _,_,_,.cons h r,.cons rx rs=>by
  cases rx
  obtain ⟨js,v,⟨o,e1,e2,n,e3⟩,_⟩:=I.tuple h
  cases v with
  | cons r1 v =>
   cases v with
   | cons r2 v =>
    cases v
    obtain ⟨t,rfl⟩:=r1
    obtain ⟨u,rfl⟩:=r2
    exact .cons e1 e2 e3 (Qe I r rs)
theorem VR:∀ {ws:List V} {its:List Value} {i:Nat},Vals ws its→i < ws.length→RelV (ws.getD i .non) (its.getD i .none)
 | _,_,_,.nil,h=>absurd h (ζV _)
 | _,_,0,.cons r _,_=>r
 | _,_,i + 1,.cons _ t,h=>VR (i:=i) t (ξM h)
theorem Z2 {ws:List V} {its:List Value} (v:Vals ws its):∀ l:List Nat,(∀ i∈l,i < ws.length)→Vals (l.map fun i=>ws.getD i .non) (l.map fun i=>its.getD i .none)
 | [],_=>.nil
 | i :: l,h=>.cons (VR v (h i ζg)) (Z2 v l fun j hj=>h j (ζl _ hj))
def tV (K:ζa):List V→Hp→VK→Prop:=fun xs H Q=>∃ p ws ps,xs=[.ref p]∧SqL K H p ws∧PsV K H ws ps∧vz ps∧ps.Nodup∧ws.length < 64∧∀ q,So.PO ws.length q→So.Up (pkAt ps) q ws.length→∀ l,H l=none→Q (.ref l) (upd H l (.lst (q.toList.map fun i=>ws.getD i .non)))
section
variable {X:Cx} {K:ζa}
theorem XC:yQ X (.builtin "sorted") (tV X.K):=by
 intro pins s σ H xs us Q I r h
 obtain ⟨p,ws,ps,rfl,hq,pv,sm,nd,h64,q⟩:=h
 obtain ⟨u,rfl,rx⟩:=vP r
 cases rx
 obtain ⟨its,r',pl,hz⟩:=I.list hq
 have hl:=r'.length
 refine W3 (vs:=its) pl.isList (Qe I pv r') sm nd (by omega) fun y po up=>?_
 rw [← hl] at po up
 obtain ⟨c,hc⟩:=sortedAll_at s.heap its (outP its y)
 have vy:=Z2 r' y.toList po.lt
 have yl:(y.toList.map fun i=>ws.getD i V.non).length≤sizeLine:=by
  rw [ζb,ζ0,po.z]
  exact hz
 exact ⟨.ref (s.heap.objs.size + 1),_,I.laid (t':=s.toks) (fun _ _=>sortedAll_old) (Nat.le_succ _) (show yk X.prog X.w _ _ _ (.lst (y.toList.map fun i=>ws.getD i V.non)) from ⟨yl,_,c,vy,hc⟩),rfl,q y po up _ (I.hok.fresh (Nat.le_succ _))⟩
theorem ZZ (hK:X.K=K):yQ X (.builtin "sorted") (tV K):=by subst hK; exact XC
end
end L2
namespace PD
open PySem L2
def prD (q:Int×Int):PyData:=.tuple [.int q.1,.int q.2]
def srtP (ps:List (Int×Int)):List (Int×Int):=ps.mergeSort fun a b=>decide (pk a≤pk b)
theorem Z7 (ps:List (Int×Int)):(srtP ps).Perm ps:=List.mergeSort_perm ps _
theorem u6 (ps:List (Int×Int)):(srtP ps).Pairwise fun a b=>pk a≤pk b:=by
 have:=List.pairwise_mergeSort (le:=fun a b:Int×Int=>decide (pk a≤pk b)) (fun a b c h1 h2=>by simp at *; omega) (fun a b=>by simp; omega) ps
 exact this.imp fun h=>by simpa using h
theorem wK:∀ {a b:List (Int×Int)},vz a→a.Perm b→(a.Pairwise fun x y=>pk x≤pk y)→(b.Pairwise fun x y=>pk x≤pk y)→a=b
 | [],b,_,p,_,_=>p.nil_eq
 | x :: r,[],_,p,_,_=>absurd p.length_eq (by simp)
 | x :: r,y :: t,sm,p,h1,h2=>by
  have a1:=ζ3.mp h1
  have a2:=ζ3.mp h2
  have hx:x∈y :: t:=p.mem_iff.mp ζg
  have hy:y∈x :: r:=p.mem_iff.mpr ζg
  have s1:=sm.s x ζg
  have s2:=sm.s y hy
  have e:x=y:=by
   rcases ζo.mp hx with e | hx
   ·exact e
   ·rcases ζo.mp hy with e | hy
    ·exact e.symm
    ·have q1:=a2.1 x hx
     have q2:=a1.1 y hy
     unfold pk at q1 q2
     exact Prod.ext (by omega) (by omega)
  subst e
  rw [wK ⟨fun q hq=>sm.s q (ζl _ hq)⟩ p.cons_inv a1.2 a2.2]
theorem Qj {α:Type} (d:α) (l:List α):(List.range l.length).map (fun i=>l.getD i d)=l:=by
 refine List.ext_getElem (by simp) fun i h1 h2=>?_
 rw [List.getElem_map,List.getElem_range,ζe,ζm h2]
 rfl
theorem zbb {l:List Nat} {n:Nat} (nd:l.Nodup) (lt:∀ x∈l,x < n) (hl:l.length=n):l.Perm (List.range n):=by
 refine (List.perm_ext_iff_of_nodup nd List.nodup_range).mpr fun x=>⟨fun h=>ζK.mpr (lt x h),fun h=>?_⟩
 have hx:=ζK.mp h
 by_cases c:x∈l
 ·exact c
 ·exfalso
  have cnt:∀ (m:Nat) (l:List Nat),l.Nodup→(∀ x∈l,x < m)→l.length≤m:=fun m=>by
   induction m with
   | zero=>intro l _ h; cases l with
    | nil=>exact ζi _
    | cons a t=>exact absurd (h a ζg) (ζV _)
   | succ m ih =>
    intro l nd h
    have e:=ih (l.erase m) (nd.erase m) fun x hx=>by
     have h1:=h x (List.mem_of_mem_erase hx)
     have h2:x≠m:=fun z=>by subst z; exact (List.Nodup.not_mem_erase nd) hx
     omega
    have:=List.length_erase (a:=m) (l:=l)
    split at this <;> omega
  have:=cnt n (x :: l) (ζC.mpr ⟨c,nd⟩) fun y hy=>by
   rcases ζo.mp hy with rfl | hy
   ·exact hx
   ·exact lt y hy
  have:l.length + 1≤n:=this
  omega
theorem UK {ps:List (Int×Int)} {y:Array Nat} (sm:vz ps) (po:So.PO ps.length y) (up:So.Up (pkAt ps) y ps.length):(y.toList.map fun i=>ps.getD i (0,0))=srtP ps:=by
 have pm:(y.toList.map fun i=>ps.getD i (0,0)).Perm ps:=by
  have:=(zbb po.nd po.lt (by rw [ζ0]; exact po.z)).map fun i=>ps.getD i ((0:Int),(0:Int))
  rwa [Qj] at this
 refine wK ⟨fun q hq=>sm.s q (pm.mem_iff.mp hq)⟩ (pm.trans (Z7 ps).symm) ?_ (u6 ps)
 rw [List.pairwise_iff_getElem]
 intro i j hi hj ij
 rw [ζb,ζ0,po.z] at hi hj
 rw [List.getElem_map,List.getElem_map]
 have h:=up i j ij hj
 have e1:So.at' y i=y.toList[i]'(by rw [Array.length_toList,po.z]; exact hi):=by simp [So.at',po.z,hi]
 have e2:So.at' y j=y.toList[j]'(by rw [Array.length_toList,po.z]; exact hj):=by simp [So.at',po.z,hj]
 rw [e1,e2] at h
 exact Int.le_of_lt h
section
variable {K:ζa} {S S':Sx} {κ κ':Bool} {Γ Γ':Ctx}
theorem TW {H0 F:Hp}:∀ {vs:List V} {ps:List (Int×Int)},zn K κ S H0 F vs (ps.map prD)→PsV K F vs ps
 | _,[],.nil=>.nil
 | _,q :: ps,.cons h t=>by
  obtain ⟨a,xs,rfl,h1,h2⟩:=Va h
  cases h2 with
  | cons r1 h2 =>
   cases h2 with
   | cons r2 h2 =>
    cases h2
    cases yf r1
    cases yf r2
    exact .cons h1 (TW t)
theorem Wc {F H:Hp} (s:Same F H):∀ {vs:List V} {ps:List (Int×Int)},PsV K F vs ps→PsV K H vs ps
 | _,_,.nil=>.nil
 | _,_,.cons h t=>.cons (Same.seqT s h) (Wc s t)
theorem Qd {F:Hp}:∀ {vs:List V} {ps:List (Int×Int)} {i:Nat},PsV K F vs ps→i < vs.length→Dp K F (vs.getD i .non) (prD (ps.getD i (0,0)))
 | _,_,_,.nil,h=>absurd h (ζV _)
 | _,_,0,.cons h _,_=>.tup h (.cons (.int _) (.cons (.int _) .nil))
 | _,_,i + 1,.cons _ t,h=>Qd (i:=i) t (ξM h)
theorem We {F:Hp} {vs:List V} {ps:List (Int×Int)} (h:PsV K F vs ps):∀ l:List Nat,(∀ i∈l,i < vs.length)→zE K F (l.map fun i=>vs.getD i .non) ((l.map fun i=>ps.getD i (0,0)).map prD)
 | [],_=>.nil
 | i :: l,g=>.cons (Qd h (g i ζg)) (We h l fun j hj=>g j (ζl _ hj))
theorem WJ {ta:TE} {ps:List (Int×Int)} (h:EvL K S false ta Γ (ps.map prD)) (sm:vz ps) (nd:ps.Nodup) (h64:ps.length < 64):EvO K S κ (tCB (tV K) (ye ta tNil)) Γ ((srtP ps).map prD):=fun H0 F0 H F σ e Q q =>
 h H0 F0 H F σ e _ fun a vs H1 F1 g1 p1 k1=>by
  have pv:=TW k1
  have vl:=pv.len
  refine ⟨a,vs,ps,rfl,p1,Wc g1.le pv,sm,nd,by omega,fun y po up l hp=>?_⟩
  have pk':=We pv y.toList po.lt
  rw [vl] at po up
  rw [UK sm po up] at pk'
  refine q l _ _ F1 (g1.trans (.newO g1.le hp _)) (g1.h.free hp) zi (g1.le.free hp) (wP (fun d hd=>?_) pk')
  obtain ⟨z,_,rfl⟩:=ζr.mp hd
  rfl
end
end PD
namespace Dsp
inductive Anc (pa:Nat→Nat→Prop):Nat→Nat→Prop
 | refl (v:Nat):Anc pa v v
 | step {a b c:Nat}:pa a b→Anc pa b c→Anc pa a c
def Hi (pa:Nat→Nat→Prop) (Z:Nat→Prop) (v:Nat):Prop:=∃ z,Z z∧Anc pa v z
inductive Bb (pa:Nat→Nat→Prop) (Z:Nat→Prop) (x:Nat):Nat→Bool→Prop
 | start:Bb pa Z x x false
 | up {v u:Nat} {w:Bool}:Bb pa Z x v w→pa u v→(w=true↔Z v)→Bb pa Z x u false
 | down {v u:Nat} {w:Bool}:Bb pa Z x v w→pa v u→¬ Z v→Bb pa Z x u true
def Cd (pa:Nat→Nat→Prop) (Z:Nat→Prop) (t v u:Nat):Prop:=(pa t v∧pa u v→Hi pa Z v)∧(¬ (pa t v∧pa u v)→¬ Z v)
def Adj (pa:Nat→Nat→Prop) (a b:Nat):Prop:=pa a b∨pa b a
def Ok (pa:Nat→Nat→Prop) (Z:Nat→Prop):List Nat→Prop
 | []=>True
 | u :: r=>match r with
  | []=>True
  | v :: s=>Adj pa v u∧(∀ t,s.head?=some t→Cd pa Z t v u)∧Ok pa Z r
section
variable {pa:Nat→Nat→Prop} {Z:Nat→Prop} {x y:Nat} {rk:Nat→Nat}
theorem zO {u v:Nat} {s:List Nat}:Ok pa Z (u :: v :: s)↔Adj pa v u∧(∀ t,s.head?=some t→Cd pa Z t v u)∧Ok pa Z (v :: s):=by
 rw [Ok]
theorem uS {u:Nat}:Ok pa Z [u]:=by rw [Ok]; trivial
theorem Ok.tail {u:Nat} {r:List Nat} (h:Ok pa Z (u :: r)):Ok pa Z r:=by
 cases r with
 | nil=>rw [Ok]; trivial
 | cons v s=>exact (zO.mp h).2.2
theorem Ok.suf {B:List Nat}:∀ {A:List Nat},Ok pa Z (A ++ B)→Ok pa Z B
 | [],h=>h
 | _ :: A,h=>Ok.suf (A:=A) (Ok.tail h)
theorem Ok.pre {B:List Nat}:∀ {A:List Nat},Ok pa Z (A ++ B)→Ok pa Z A
 | [],_=>by rw [Ok]; trivial
 | [u],_=>uS
 | u :: v :: s,h=>by
  have h':=zO.mp h
  refine zO.mpr ⟨h'.1,fun t ht=>h'.2.1 t ?_,Ok.pre (A:=v :: s) h'.2.2⟩
  cases s with
  | nil=>cases ht
  | cons c s=>exact ht
theorem Ok.at {v a t:Nat} {T:List Nat} (hT:T.head?=some t):∀ {A:List Nat},Ok pa Z (A ++ v :: T)→A.getLast?=some a→Cd pa Z t v a
 | [],_,e=>by cases e
 | [b],h,e=>by cases e; exact (zO.mp h).2.1 t hT
 | b :: c :: A,h,e=>Ok.at hT (A:=c :: A) (Ok.tail h) (by rw [List.getLast?_cons_cons] at e; exact e)
theorem Ok.splice {v:Nat} {B D:List Nat} (hD:Ok pa Z (v :: D)):∀ {A:List Nat},Ok pa Z (A ++ v :: B)→(∀ a d,A.getLast?=some a→D.head?=some d→Cd pa Z d v a)→Ok pa Z (A ++ v :: D)
 | [],_,_=>hD
 | [b],h,j=>zO.mpr ⟨(zO.mp h).1,fun t ht=>j b t rfl ht,hD⟩
 | b :: c :: A,h,j=>by
  have h':=(zO (s:=A ++ v :: B)).mp h
  have ih:=Ok.splice hD (A:=c :: A) h'.2.2 fun a d ha hd=>j a d (by rw [List.getLast?_cons_cons]; exact ha) hd
  refine (zO (s:=A ++ v :: D)).mpr ⟨h'.1,fun t ht=>h'.2.1 t ?_,ih⟩
  cases A with
  | nil=>exact ht
  | cons e A=>exact ht
theorem Hi.up {a b:Nat} (h:Hi pa Z b) (p:pa a b):Hi pa Z a:=let ⟨z,hz,q⟩:=h; ⟨z,hz,.step p q⟩
theorem Uo (dag:∀ a b,pa a b→rk a < rk b):∀ (rest:List Nat) (s0 s1 e:Nat),Ok pa Z (s0 :: s1 :: rest)→pa s0 s1→(s1 :: rest).getLast?=some e→Hi pa Z s0∨rk s0 < rk e
 | [],s0,s1,e,_,p,he=>by cases he; exact .inr (dag _ _ p)
 | s2 :: rest,s0,s1,e,h,p,he=>by
  obtain ⟨_,h2,h3⟩:=zO.mp h
  by_cases c:pa s2 s1
  ·exact .inl (Hi.up ((h2 s2 rfl).1 ⟨c,p⟩) p)
  ·have q:pa s1 s2:=by
    rcases (zO.mp h3).1 with q | q
    ·exact absurd q c
    ·exact q
   rcases Uo dag rest s1 s2 e h3 q (by rw [List.getLast?_cons_cons] at he; exact he) with z | z
   ·exact .inl (Hi.up z p)
   ·have:=dag _ _ p
    exact .inr (by omega)
theorem zbN:∀ {l:List Nat},¬ l.Nodup→∃ A v B D,l=A ++ v :: (B ++ v :: D)
 | [],h=>absurd ζ1 h
 | a :: r,h=>by
  by_cases c:a∈r
  ·obtain ⟨B,D,rfl⟩:=ξK c
   exact ⟨[],a,B,D,rfl⟩
  ·obtain ⟨A,v,B,D,rfl⟩:=zbN (l:=r) fun z=>h (ζC.mpr ⟨c,z⟩)
   exact ⟨a :: A,v,B,D,rfl⟩
theorem zaM (dag:∀ a b,pa a b→rk a < rk b) {A B D:List Nat} {v:Nat} (h:Ok pa Z (A ++ v :: (B ++ v :: D))):Ok pa Z (A ++ v :: D):=by
 have hS:Ok pa Z (v :: (B ++ v :: D)):=h.suf
 have hD:Ok pa Z (v :: D):=Ok.suf (A:=v :: B) hS
 refine Ok.splice hD h fun a d ha hd=>?_
 obtain ⟨t,ht⟩:∃ t,(B ++ v :: D).head?=some t:=by cases B with
  | nil=>exact ⟨_,rfl⟩
  | cons b B=>exact ⟨_,rfl⟩
 have c1:Cd pa Z t v a:=Ok.at ht h ha
 have adj:Adj pa t v:=by
  cases B with
  | nil=>cases ht; exact (zO.mp hS).1
  | cons b B=>cases ht; exact (zO.mp hS).1
 refine ⟨fun hc=>?_,fun hc=>?_⟩
 ·by_cases q:pa t v
  ·exact c1.1 ⟨q,hc.2⟩
  ·have q2:pa v t:=adj.resolve_left q
   have hP:Ok pa Z (v :: (B ++ [v])):=by
    refine Ok.pre (B:=D) ?_
    rw [ξe,ζX]
    exact hS
   obtain ⟨s,hs⟩:∃ s,B ++ [v]=t :: s:=by cases B with
    | nil=>cases ht; exact ⟨[],rfl⟩
    | cons b B=>cases ht; exact ⟨B ++ [v],rfl⟩
   rw [hs] at hP
   rcases Uo dag s v t v hP q2 (by rw [← hs,List.getLast?_append]; rfl) with z | z
   ·exact z
   ·omega
 ·by_cases q:pa t v∧pa a v
  ·have nd:¬ pa d v:=fun z=>hc ⟨z,q.2⟩
   obtain ⟨k,hk⟩:∃ k,(A ++ v :: B).getLast?=some k:=by
    cases e:(A ++ v :: B).getLast? with
    | none=>rw [List.getLast?_eq_none_iff] at e; cases A <;> cases e
    | some k=>exact ⟨k,rfl⟩
   have c2:Cd pa Z d v k:=Ok.at (A:=A ++ v :: B) hd (by rw [ζX]; exact h) hk
   exact c2.2 fun z=>nd z.1
  ·exact c1.2 q
theorem TM (dag:∀ a b,pa a b→rk a < rk b):∀ (n:Nat) (l:List Nat),l.length≤n→Ok pa Z l→∃ l',Ok pa Z l'∧l'.Nodup∧l'.head?=l.head?∧l'.getLast?=l.getLast?
 | 0,l,hl,h=>⟨l,h,by rw [ζ6.mp (Nat.le_zero.mp hl)]; exact ζ1,rfl,rfl⟩
 | n + 1,l,hl,h=>by
  by_cases nd:l.Nodup
  ·exact ⟨l,h,nd,rfl,rfl⟩
  ·obtain ⟨A,v,B,D,rfl⟩:=zbN nd
   obtain ⟨l',h1,h2,h3,h4⟩:=TM dag n (A ++ v :: D) (by simp only [List.length_append,List.length_cons] at hl ⊢; omega) (zaM dag h)
   refine ⟨l',h1,h2,h3.trans ?_,h4.trans ?_⟩
   ·cases A <;> rfl
   ·rw [List.getLast?_append,List.getLast?_append,List.getLast?_cons,List.getLast?_cons,List.getLast?_append,List.getLast?_cons]
    rfl
theorem zdg {v z:Nat} (ha:Anc pa v z) (hz:Z z):Bb pa Z x v true→¬ Z v→Bb pa Z x v false:=by
 induction ha with
 | refl v=>exact fun _ n=>absurd hz n
 | step p _ ih =>
  rename_i a b c _
  intro h n
  have hb:Bb pa Z x b true:=.down h p n
  by_cases q:Z b
  ·exact .up hb p ⟨fun _=>q,fun _=>rfl⟩
  ·exact .up (ih hz hb q) p ⟨fun e=>(by cases e),fun e=>absurd e q⟩
theorem zcd (dag:∀ a b,pa a b→rk a < rk b) (hx:¬ Z x):∀ (r:List Nat) (v:Nat),Ok pa Z (v :: r)→(v :: r).getLast?=some x→(r=[]∧Bb pa Z x v false)∨∃ t s,r=t :: s∧((pa t v∧Bb pa Z x v true)∨(pa v t∧Bb pa Z x v false))
 | [],v,_,e=>by cases e; exact .inl ⟨rfl,.start⟩
 | t :: s,v,h,e=>by
  have as:∀ {a b:Nat},pa a b→¬ pa b a:=fun p q=>by have:=dag _ _ p; have:=dag _ _ q; omega
  obtain ⟨h1,h2,h3⟩:=zO.mp h
  refine .inr ⟨t,s,rfl,?_⟩
  rcases zcd dag hx s t h3 (by rw [List.getLast?_cons_cons] at e; exact e) with ⟨rfl,b⟩ | ⟨q,s',rfl,b⟩
  ·rw [List.getLast?_cons_cons] at e
   cases e
   rcases h1 with p | p
   ·exact .inl ⟨p,.down b p hx⟩
   ·exact .inr ⟨p,.up b p ⟨fun e=>(by cases e),fun e=>absurd e hx⟩⟩
  ·have c:=h2 q rfl
   rcases b with ⟨pq,b⟩ | ⟨pq,b⟩
   ·rcases h1 with p | p
    ·exact .inl ⟨p,.down b p (c.2 fun z=>as p z.2)⟩
    ·refine .inr ⟨p,?_⟩
     by_cases zt:Z t
     ·exact .up b p ⟨fun _=>zt,fun _=>rfl⟩
     ·obtain ⟨z,hz,ha⟩:=c.1 ⟨pq,p⟩
      exact .up (zdg ha hz b zt) p ⟨fun e=>(by cases e),fun e=>absurd e zt⟩
   ·have nz:¬ Z t:=c.2 fun z=>as pq z.1
    rcases h1 with p | p
    ·exact .inl ⟨p,.down b p nz⟩
    ·exact .inr ⟨p,.up b p ⟨fun e=>(by cases e),fun e=>absurd e nz⟩⟩
theorem zdD (dag:∀ a b,pa a b→rk a < rk b) {v:Nat} {w:Bool} (b:Bb pa Z x v w):∃ r,Ok pa Z (v :: r)∧(v :: r).getLast?=some x∧(w=true→∃ t s,r=t :: s∧pa t v)∧(w=false→r=[]∨∃ t s,r=t :: s∧pa v t):=by
 have as:∀ {a b:Nat},pa a b→¬ pa b a:=fun p q=>by have:=dag _ _ p; have:=dag _ _ q; omega
 induction b with
 | start=>exact ⟨[],uS,rfl,fun e=>(by cases e),fun _=>.inl rfl⟩
 | up _ p hw ih =>
  rename_i v u w _
  obtain ⟨r,h1,h2,h3,h4⟩:=ih
  refine ⟨v :: r,zO.mpr ⟨.inr p,fun t ht=>?_,h1⟩,by rw [List.getLast?_cons_cons]; exact h2,fun e=>(by cases e),fun _=>.inr ⟨v,r,rfl,p⟩⟩
  cases r with
  | nil=>cases ht
  | cons t' s =>
   cases ht
   cases w with
   | true =>
    obtain ⟨_,_,e,q⟩:=h3 rfl
    cases e
    exact ⟨fun _=>⟨v,hw.mp rfl,.refl v⟩,fun c=>absurd ⟨q,p⟩ c⟩
   | false =>
    rcases h4 rfl with e | ⟨_,_,e,q⟩
    ·cases e
    ·cases e
     exact ⟨fun c=>absurd c.1 (as q),fun _ z=>by have:=hw.mpr z; cases this⟩
 | down _ p nz ih =>
  rename_i v u w _
  obtain ⟨r,h1,h2,h3,h4⟩:=ih
  exact ⟨v :: r,zO.mpr ⟨.inl p,fun t ht=>⟨fun c=>absurd c.2 (as p),fun _=>nz⟩,h1⟩,by rw [List.getLast?_cons_cons]; exact h2,fun _=>⟨v,r,rfl,p⟩,fun e=>(by cases e)⟩
theorem TX (dag:∀ a b,pa a b→rk a < rk b) (hx:¬ Z x):(∃ w,Bb pa Z x y w)↔∃ l,Ok pa Z l∧l.Nodup∧l.head?=some y∧l.getLast?=some x:=by
 constructor
 ·rintro ⟨w,b⟩
  obtain ⟨r,h1,h2,_⟩:=zdD dag b
  obtain ⟨l',a1,a2,a3,a4⟩:=TM dag _ _ (ζi _) h1
  exact ⟨l',a1,a2,a3,a4.trans h2⟩
 ·rintro ⟨l,h1,_,h3,h4⟩
  cases l with
  | nil=>cases h3
  | cons v r =>
   cases h3
   rcases zcd dag hx r _ h1 h4 with ⟨_,b⟩ | ⟨_,_,_,⟨_,b⟩ | ⟨_,b⟩⟩
   ·exact ⟨_,b⟩
   ·exact ⟨_,b⟩
   ·exact ⟨_,b⟩
theorem Cd.sy {t v u:Nat} (h:Cd pa Z t v u):Cd pa Z u v t:=⟨fun c=>h.1 ⟨c.2,c.1⟩,fun c=>h.2 fun z=>c ⟨z.2,z.1⟩⟩
theorem Ok.rev:∀ {l:List Nat},Ok pa Z l→Ok pa Z l.reverse
 | [],h=>h
 | [_],h=>h
 | u :: v :: s,h=>by
  obtain ⟨h1,h2,h3⟩:=zO.mp h
  have ih:=Ok.rev h3
  rw [ζW] at ih ⊢
  rw [ζW,ζX]
  refine Ok.splice (B:=[]) (D:=[u]) (zO.mpr ⟨h1.symm,fun t ht=>(by cases ht),uS⟩) ih fun a d ha hd=>?_
  cases hd
  rw [List.getLast?_reverse] at ha
  exact (h2 a ha).sy
theorem Anc.trans {a b c:Nat} (h:Anc pa a b) (k:Anc pa b c):Anc pa a c:=by
 induction h with
 | refl _=>exact k
 | step p _ ih=>exact .step p (ih k)
end
end Dsp
namespace PD
open PySem L2
section
variable {K:ζa} {S S':Sx} {κ κ':Bool} {Γ Γ' Γ'' Γ3 Γ4:Ctx} {P:Post}
end
end PD
namespace L2
open PySem PySem.Spec PyProof.Rows
section
variable {X:Cx} {y:Str} {N:List Str} {scope:Scope} {cl:List (Str×Addr)} {js:List (Option Nat)} {pins:List (Addr×Obj)} {σ:St} {H:Hp} {s:Shared} {fp:List Addr}
end
section
variable {X:Cx} {y:Str} {N:List Str} {scope:Scope} {cl:List (Str×Addr)} {js:List (Option Nat)} {pins:List (Addr×Obj)} {σ:St} {H:Hp} {s:Shared}
end
section
variable {X:Cx} {K:ζa}
end
end L2
namespace PD
open PySem L2
section
variable {K:ζa} {S S':Sx} {κ κ':Bool} {Γ Γ' Γ'':Ctx} {P:Post}
end
section
open PySem.W PyProof.Rows
variable {K:ζa} {P:Program} {w:World} {mg:Str→Option Value} {base:Heap} {S:Sx} {κ:Bool} {Γ:Ctx}
theorem LamD.mono {kk:Nat} {p1:PyData→PyData→Prop} {F F':Hp} {a:Addr} (s:Same F F') (h:LamD P w K mg base kk p1 F a):LamD P w K mg base kk p1 F' a:=by
 obtain ⟨fd,x,spl,nm,q,pr,bd,ls,cl,pm,c',ct,h1,h2,h3,h4⟩:=h
 exact ⟨fd,x,spl,nm,q,pr,bd,ls,cl,pm,c',ct,h1,h2,s _ _ h3,fun H' F2 v d r Q z=>h4 H' F2 v d r Q (s.trans z)⟩
end
end PD
namespace L2
open PySem PySem.Spec PyProof.Rows PySem.Calls
def Vl (o:Obj):Bool:=match o.cls,o.data with
 | .type "tuple", .seq its _=>(match its.toList with
  | [.int _ _,.int _ _]=>false
  | _=>true)
 | _,_=>true
def tj (K:ζa):Bool:=K.all fun p=>Vl p.2
theorem za8 {K:ζa} (h:tj K=true) {a:Addr} {o:Obj} (e:K.lookup a=some o):Vl o=true:=ξi.mp h (a,o) (vZ e)
theorem zcj {K:ζa} (nt:tj K=true) {H:Hp} {a:Addr} {i j:Int} (h:SqT K H a [.int i,.int j]):Rd H a (.tup [.int i,.int j]):=by
 rcases h with h | ⟨o,its,n,e,h1,h2,_,h3⟩
 ·exact h
 ·have np:=za8 nt e
  exfalso
  cases hl:its.toList with
  | nil=>rw [hl] at h3; cases h3
  | cons u r =>
   rw [hl] at h3
   cases h3 with
   | cons ru h3 =>
    cases h3 with
    | cons rv h3 =>
     cases h3
     obtain ⟨t1,e1⟩:=ru
     obtain ⟨t2,e2⟩:=rv
     subst e1 e2
     unfold Vl at np
     rw [h1,h2] at np
     simp only [hl] at np
     cases np
abbrev pkey (i j:Int):List Key:=[.inl i,.inl j]
def TC (tk tv:TE):TE:=fun σ H Q=>∀ p,H p=none→W1 [(tk,tv)] σ (upd H p (.dT [])) fun ps H2=>∃ x y b ks,ps=[(x,y)]∧x=.ref b∧Rd H2 b (.tup (ks.map kV))∧H2 p=some (.dT [])∧Q (.ref p) (upd H2 p (.dT [(ks,y)]))
theorem Qo {X:Cx} {pos:Pos} {k v:Expr} {tk tv:TE} (hu:X.A.units + 1 < cLine) (hk:PE X k tk) (hv:PE X v tv):PE X (.Dict [some k] [v] pos) (TC tk tv):=by
 intro pins s σ H Q I q
 have hn:=I.hok.fresh (ζi s.heap.objs.size)
 have I1:=I.laid (a:=s.heap.objs.size) (o:=.dT []) (h':=s.heap.push { cls:=.type "dict", data:=.dict #[] }) (t':=s.toks) (fun _ _ q=>ζh _ q) (ζi _) (zag s.heap I.big)
 refine wpAny_Dict_any rfl rfl (fun z=>nomatch z) (by show 1≤15; decide) (thn ((Qf hk hv zaV) pins _ σ _ _ I1 (q _ hn)) fun ws s2 ⟨ps,H2,I2,rel,x,y,b,ks,ep,ex,eb,e,q2⟩=>?_)
 subst ep ex
 cases rel with
 | @cons p0 q0 ps0 qs0 hr hr2 =>
  cases hr2
  obtain ⟨kv,vv⟩:=q0
  obtain ⟨r1,r2⟩:=hr
  cases (show kv=Value.ref b from r1)
  obtain ⟨z,hd,xs,rl,dd⟩:=zaf I2.hok e
  cases rl
  unfold storeAll
  rw [List.forIn_cons]
  refine wpAny_bind (wpAny_bind (wpAny_dictSet_heap (hsz:=ζE _) (knd:=tupleKind (yh X.prog X.w)) (Nat.lt_of_succ_lt hu) (w8 I2.hok eb) dd fun h' dd' hs=>wpAny_pure ?_))
  show wpAny _ _ (forIn ([]:List (Value×Value)) PUnit.unit _) _ _ _
  rw [List.forIn_nil]
  refine wpAny_pure ⟨.ref s.heap.objs.size,_,?_,rfl,q2⟩
  obtain ⟨qo,es,ep,hq,h2,h3,h4,_,h5⟩:=dd'
  refine tM I2 (by rw [e]; exact True.intro) hs ⟨qo,hq⟩ ⟨by show 1≤sizeLine; rw [sizeLine_eq]; omega,hd,_,?_,qo,es,ep,hq,h2,h3,h4,h5⟩
  refine KT.keeps (H:=H2) (KT.put (kvs:=[]) .nil ks (tO I2.hok eb) r2) fun c ys ec=>?_
  exact ec.imp (fun y=>by rw [zm (Yi y e (fun z=>nomatch z))]; exact y) fun ⟨o,n,y⟩=>⟨o,n,by rw [zm (Yi y e (fun z=>nomatch z))]; exact y⟩
end L2
namespace PD
open PySem L2
section
variable {K:ζa} {S S':Sx} {κ κ':Bool} {Γ Γ' Γ'':Ctx} {P:Post}
abbrev PTab:=List (List Key×V)
def tGet (m:PTab) (i j:Int):Option V:=valV m (pkey i j)
def tPut (m:PTab) (i j:Int) (v:V):PTab:=putK m (pkey i j) v
theorem XT (m:PTab) (i j k l:Int) (v:V):tGet (tPut m i j v) k l=if k=i∧l=j then some v else tGet m k l:=by
 unfold tGet tPut
 rw [XN]
 by_cases c:k=i∧l=j
 ·rw [if_pos c,c.1,c.2,if_pos rfl]
 ·rw [if_neg c,if_neg fun e=>c ?_]
  injection e with e1 e2
  injection e2 with e2 _
  injection e1 with e1
  injection e2 with e2
  exact ⟨e1,e2⟩
theorem YS (nt:tj K=true) {κ:Bool} {H0 H F:Hp} {v:V} {i j:Int} (le:Same F H) (p:Rp K κ S H0 F v (.tuple [.int i,.int j])):∃ b,v=.ref b∧Rd H b (.tup ((pkey i j).map kV)):=by
 obtain ⟨b,vs,rfl,h1,h2⟩:=Va p
 cases h2 with
 | cons p1 h2=>cases h2 with
  | cons p2 h2 =>
   cases h2
   cases yf p1
   cases yf p2
   refine ⟨b,rfl,?_⟩
   rcases zcj nt h1 with z | ⟨o,z⟩
   ·exact .inl (le _ _ z)
   ·exact .inr ⟨o,le _ _ z⟩
theorem zc5 {neg:Bool} {ta tb:TE} {i:Int} {b:Bool} {G:PyData→Prop} (ha:EvE K S false ta Γ (.int i)) (hb:EvG K S false tb Γ G) (hg:∀ d,G d→∃ ns:List Int,d=.list (ns.map .int)∧(if neg then !decide (i∈ns) else decide (i∈ns))=b):EvT K S (Tz (tOp (rIn K neg) ta tb)) Γ b:=fun H0 F0 H F σ e Q q =>
 ha H0 F0 H F σ e _ fun v H1 F1 g1 p1=>hb H0 F0 H1 F1 σ (e.mono g1) _ fun d w H2 F2 hd g2 p2=>by
  cases yf p1
  obtain ⟨ns,rfl,hi⟩:=hg d hd
  obtain ⟨a,vs,rfl,h1,h2⟩:=tU p2
  cases yj (ya h2)
  refine ⟨a,_,rfl,.inl (g2.le.seq h1),rfl,WG ns,⟨_,rfl,?_⟩⟩
  rw [Ub,hi]
  exact q H2 F2 (g1.trans g2)
theorem TB (i j k l:Int) (v:V):tGet [(pkey i j,v)] k l=if k=i∧l=j then some v else none:=XT [] i j k l v
end
section
open PySem.W PyProof.Rows
variable {K:ζa} {P:Program} {w:World} {mg:Str→Option Value} {base:Heap} {S S':Sx} {κ:Bool} {Γ Γ':Ctx} {Po:Post}
end
end PD
namespace L2
open PySem PySem.Spec PyProof.Rows PySem.Calls
section
variable {prog:Program} {w:World} {κ:Type} [DecidableEq κ] {kd:HeapKind prog w κ} {A:Around} {E:Value→Shared→Prop} {s:Shared}
theorem sdH {D b:Addr} {xs:List (κ×Addr×Value)} {k:κ} {r:Value} {Q:Value→Shared→Prop} (room:kd.room A) (isk:kd.is s.heap k b) (dh:s.heap.DictOfH kd D xs) (z:xs.length≤sizeLine)
  (q1:∀ p,atKey xs k=some p→Q p.2 { s with toks:=s.toks + kd.draws k })
  (q2:atKey xs k=none→∀ h',h'.DictOfH kd D (storedH xs k b r)→Heap.SameBut D s.heap h'→Q r { s with heap:=h',toks:=s.toks + kd.draws k }) :
  wpAny (model prog w) A (dictSetDefault D (.ref b) r) Q E s:=by
 obtain ⟨ob,es,n,g,cl,dd,en,ks,nd⟩:=dh
 unfold dictSetDefault
 refine wpAny_holding (wpAny_bind (kd.pyHash room isk (wpAny_bind (wpAny_dictFind_heap (s:={ s with toks:=s.toks + kd.draws k }) room isk g dd en ks nd (fun no=>?_) fun j p hj=>?_))))
 ·have e0:=atKey_none_of_get no
  have nk:=not_mem_keys_of_get no
  have sz:es.size≤sizeLine:=by have e:=size_of_entries en; omega
  refine wpAny_bind (wpAny_rule (wpAny_bind ?_))
  refine wpAny_updateDictKeys (hz:=sz) (s:={ s with toks:=s.toks + kd.draws k }) g dd (wpAny_pure (q2 e0 _ ?_ (Heap.SameBut.update ..)))
  rw [storedH_new e0]
  refine ⟨_,_,n + 1,Heap.get?_update_self _ g (Obj.isFreed_of_dict (Obj.data_mapDictKeys dd _)),cl.mapDictKeys _,Obj.data_mapDictKeys dd _,by simp [en,entryOfKey],fun x hx=>?_,?_⟩
  ·rcases ζs.mp hx with y | y
   ·exact kd.keeps (ks x y) g dd (Heap.SameBut.update ..)
   ·cases ζf.mp y
    exact kd.keeps isk g dd (Heap.SameBut.update ..)
  ·rw [ζn,ζD]
   refine ⟨nd,by simp,fun x hx y hy q=>nk ?_⟩
   have hy:y=k:=by simpa using hy
   rw [← hy,← q]
   exact hx
 ·refine wpAny_bind (wpAny_dictEntries (s:={ s with toks:=s.toks + kd.draws k }) g dd ?_)
  rw [entry_at en j,hj]
  exact wpAny_bind (wpAny_rule (wpAny_pure (q1 p (atKey_of_get nd hj))))
theorem UT (D b:Addr) (ns:(D == sysModules)=false) (r:Value):MeetsIn prog w (Builtin.«dict.setdefault» ⟨[.ref D,.ref b,r],[]⟩) (fun A R s=>kd.room A.in1∧∃ k xs,kd.is s.heap k b∧s.heap.DictOfH kd D xs∧xs.length≤sizeLine ∧
   (∀ p,atKey xs k=some p→R (.ok (.ret p.2)) { s with toks:=s.toks + kd.draws k }) ∧
   (atKey xs k=none→∀ h',h'.DictOfH kd D (storedH xs k b r)→Heap.SameBut D s.heap h'→R (.ok (.ret r)) { s with heap:=h',toks:=s.toks + kd.draws k })) :=
 .of_wp fun A R s ⟨room,k,xs,isk,dh,z,q1,q2⟩=>by
  unfold Builtin.«dict.setdefault»
  refine wpAny_bind ?_
  unfold Builtin.Dict.keyAndDefault
  refine wpAny_bind (wpAny_notOrdered_dict dh.typeIs (wpAny_pure ?_))
  show wpAny _ _ (if (D == sysModules)=true then _ else (dictSetDefault D (.ref b) r >>= _)) _ _ s
  rw [if_neg (by rw [ns]; exact ζw)]
  exact wpAny_bind (sdH room isk dh z (fun p e=>wpAny_pure ⟨_,rfl,q1 p e⟩) fun e h' d' sb=>wpAny_pure ⟨_,rfl,q2 e h' d' sb⟩)
end
def tDSd (td ty tx:TE):TE:=fun σ H Q=>td σ H fun x H1=>∃ a,x=.ref a∧IsD H1 a∧ty σ H1 fun y H2=>tx σ H2 fun z H3=>∃ b ks kvs,y=.ref b∧Rd H3 b (.tup (ks.map kV))∧H3 a=some (.dT kvs)∧kvs.length < sizeLine ∧
 (∀ v,valV kvs ks=some v→Q v H3)∧(valV kvs ks=none→Q z (upd H3 a (.dT (putK kvs ks z))))
section
variable {X:Cx} {o e f:Expr} {apos cpos:Pos} {td ty tx:TE}
theorem zcx (hu:X.A.units + 1 < cLine) (ho:PE X o td) (he:PE X e ty) (hf:PE X f tx) (m:M2 X o "setdefault" apos e f cpos):PE X (.Call (.Attribute o "setdefault" apos) [e,f] [] cpos) (tDSd td ty tx):=by
 intro pins s σ H Q I h
 refine wpAny_Call_method m.base m.few m.line ξZ PySem.F.slot_dict_setdefault PySem.F.type_dict_setdefault (thn (ho pins s σ H _ I h) fun u s1 ⟨x,H1,I1,rx,a,ex,d,q1⟩=>?_)
 subst ex
 obtain rfl:u=Value.ref a:=rx
 obtain ⟨t1,t2,_⟩:=Vz I1 d
 refine ⟨t1,t2,?_⟩
 rw [m.trees]
 refine Calls.callWith_builtin rfl (Calls.evalArgs_plain (Calls.spliced_cons (thn (he pins s1 σ H1 _ I1 q1) fun iv s2 ⟨y,H2,I2,ry,q2⟩ =>
  Calls.spliced_cons (thn (hf pins s2 σ H2 _ I2 q2) fun fv s3 ⟨z,H3,I3,rz,b,ks,kvs,ey,eb,ea,zl,p1,p2⟩=>Calls.spliced_nil ?_))))
 subst ey
 cases (show iv=Value.ref b from ry)
 obtain ⟨z',hd,xs,rel,dd⟩:=zaf I3.hok ea
 have hl:xs.length=kvs.length:=rel.length.symm
 refine call_meetsIn PySem.F.slot_dict_setdefault dd.typeIs PySem.F.entry_dict_setdefault (PySem.F.args_dict_setdefault_3 _ _ _) (UT (kd:=tupleKind (yh X.prog X.w)) a b hd fv) ⟨tupleKind_room_in1 hu,ks,xs,w8 I3.hok eb,dd,by omega,fun p e=>?_,fun e h' d' sb=>?_⟩
 ·have rv:=rel.val ks
  rw [e] at rv
  cases hv:valV kvs ks with
  | none=>rw [hv] at rv; exact rv.elim
  | some v =>
   rw [hv] at rv
   exact ⟨v,H3,I3.tok _,rv,p1 v hv⟩
 ·have rv:=rel.val ks
  rw [e] at rv
  cases hv:valV kvs ks with
  | some v=>rw [hv] at rv; exact rv.elim
  | none =>
   obtain ⟨qo,es,ep,hq,h2,h3,h4,_,h5⟩:=d'
   refine ⟨z,upd H3 a (.dT (putK kvs ks z)),?_,rz,p2 hv⟩
   refine tM I3 (by rw [ea]; exact True.intro) sb ⟨qo,hq⟩ ⟨by have:=xx kvs ks z; omega,hd,_,?_,qo,es,ep,hq,h2,h3,h4,h5⟩
   refine KT.keeps (H:=H3) (KT.put rel ks (tO I3.hok eb) rz) fun c ys ec=>?_
   exact ec.imp (fun y=>by rw [zm (Yi y ea (fun z=>nomatch z))]; exact y) fun ⟨o,n,y⟩=>⟨o,n,by rw [zm (Yi y ea (fun z=>nomatch z))]; exact y⟩
end
end L2
namespace PD
open PySem L2
section
variable {K:ζa} {S S':Sx} {κ κ':Bool} {Γ Γ' Γ'':Ctx} {P:Post} {E:XK}
theorem DEnv.putNO {H0 F0 H F:Hp} {σ:St} {i:Nat} {a b:Addr} {v:V} {oo:HO} {x y:DV} (e:DEnv K S H0 F0 H F σ Γ) (h:Γ[i]?=some (some x)) (ha:σ[i]?=some (some v)) (ho:Owns H v x a)
  (k:HasV K S H0 (upd H a oo) F v y) (ko:∀ c,Owns (upd H a oo) v y c→Owns H v x c∨c=b) (nb:∀ (j:Nat) (f:DV) (u:V),Γ[j]?=some (some f)→σ[j]?=some (some u)→¬ Owns H u f b):DEnv K S H0 F0 (upd H a oo) F σ (Γ.set i (some y)):=by
 obtain ⟨v',q1,q2⟩:=e.has i x h
 rw [ha] at q1
 cases q1
 obtain ⟨ws,w⟩:=q2.owns ho
 have hs:Same F (upd H a oo):=fun b u z=>by
  have:b≠a:=by rintro rfl; rw [w.f] at z; cases z
  rw [zm this]; exact e.le _ _ z
 have li:=(ζc.mp h).1
 have far:∀ {j:Nat} {f:DV} {u:V},j≠i→Γ[j]?=some (some f)→σ[j]?=some (some u)→¬ Owns H u f a:=fun {j f u} hj z r o=>hj (e.ne j i f x u v a z h r ha o ho)
 refine ⟨⟨fun b u z=>?_,e.gr.f,hs,e.gr.ap⟩,e.l0,fun b c=>?_,e.s0,by simp [e.len],fun j f z=>?_,fun j k' x1 y1 v1 w1 c g1 g2 g3 g4 o1 o2=>?_⟩
 ·rw [zm (zy z w.n)]; exact e.gr.h _ _ z
 ·obtain ⟨o,q⟩:=e.sd b c
  by_cases hb:b=a
  ·subst hb; exact ⟨_,zi⟩
  ·exact ⟨o,by rw [zm hb]; exact q⟩
 ·by_cases hj:j=i
  ·subst hj
   rw [ζt li] at z
   cases z
   exact ⟨_,ha,k⟩
  ·rw [ζv (Ne.symm hj)] at z
   obtain ⟨u,r1,r2⟩:=e.has j f z
   exact ⟨u,r1,r2.other (far hj z r1)⟩
 ·have bk:∀ {j:Nat} {f:DV} {u:V},(Γ.set i (some y))[j]?=some (some f)→σ[j]?=some (some u)→Owns (upd H a oo) u f c→(∃ g,Γ[j]?=some (some g)∧Owns H u g c)∨(j=i∧c=b):=fun {j f u} z r o=>by
   by_cases hj:j=i
   ·subst hj
    rw [ζt li] at z
    cases z
    rw [ha] at r
    cases r
    rcases ko c o with o | o
    ·exact .inl ⟨x,h,o⟩
    ·exact .inr ⟨rfl,o⟩
   ·rw [ζv (Ne.symm hj)] at z
    obtain ⟨u',r1,r2⟩:=e.has j f z
    rw [r] at r1
    cases r1
    exact .inl ⟨f,z,o.other r2 (far hj z r)⟩
  rcases bk g1 g3 o1 with ⟨f1,z1,w1'⟩ | ⟨j1,c1⟩
  ·rcases bk g2 g4 o2 with ⟨f2,z2,w2'⟩ | ⟨j2,c2⟩
   ·exact e.ne j k' f1 f2 v1 w1 c z1 z2 g3 g4 w1' w2'
   ·subst c2
    exact absurd w1' (nb j f1 v1 z1 g3)
  ·rcases bk g2 g4 o2 with ⟨f2,z2,w2'⟩ | ⟨j2,c2⟩
   ·subst c1
    exact absurd w2' (nb k' f2 w1 z2 g4)
   ·rw [j1,j2]
abbrev LTab:=Int→Int→Option (Bool×List PyData)
def LTab.put (T:LTab) (i j:Int) (e:Bool×List PyData):LTab:=fun k l=>if k=i∧l=j then some e else T k l
def LTab.frz (T:LTab) (i j:Int):LTab:=fun k l=>if k=i∧l=j then (T i j).map (fun e=>(false,e.2)) else T k l
def LTab.at (T:LTab) (i j:Int):List PyData:=match T i j with | some e=>e.2 | none=>[]
theorem LTab.put_eq (T:LTab) (i j:Int) (e:Bool×List PyData):T.put i j e i j=some e:=if_pos ⟨rfl,rfl⟩
theorem LTab.put_ne {T:LTab} {i j k l:Int} {e:Bool×List PyData} (h:¬ (k=i∧l=j)):T.put i j e k l=T k l:=if_neg h
theorem LTab.frz_ne {T:LTab} {i j k l:Int} (h:¬ (k=i∧l=j)):T.frz i j k l=T k l:=if_neg h
def adP (T:LTab) (H:Hp) (v:V) (a:Addr):Prop:=v=.ref a∨∃ p tab i j ds,v=.ref p∧H p=some (.dT tab)∧T i j=some (true,ds)∧tGet tab i j=some (.ref a)
def EnP (K:ζa) (S:Sx) (H0 H F:Hp) (b:Addr):Bool×List PyData→Prop
 | (true,ds)=>∃ us,H b=some (.lst us)∧zn K true S H0 F us ds
 | (false,ds)=>Rp K true S H0 F (.ref b) (.list ds)
structure LtOk (K:ζa) (T:LTab) (n:Nat) (S:Sx) (H0 H F:Hp) (p:Addr) (tab:PTab):Prop where
 h:H p=some (.dT tab)
 l:tab.length≤n
 no:∀ i j,T i j=none→tGet tab i j=none
 en:∀ i j e,T i j=some e→∃ b,tGet tab i j=some (.ref b)∧EnP K S H0 H F b e
 ap:∀ i j k l d1 d2 b,T i j=some (true,d1)→T k l=some (true,d2)→tGet tab i j=some (.ref b)→tGet tab k l=some (.ref b)→k=i∧l=j
def psP (K:ζa) (T:LTab) (n:Nat):Sx→Hp→Hp→Hp→V→Prop:=fun S H0 H F v=>∃ p tab,v=.ref p∧LtOk K T n S H0 H F p tab
theorem EnP.mono {H0 H F H' F':Hp} {b:Addr} {e:Bool×List PyData} (h:EnP K S H0 H F b e) (s:Same F F') (q:e.1=true→H' b=H b):EnP K S H0 H' F' b e:=by
 obtain ⟨fl,ds⟩:=e
 cases fl with
 | true =>
  obtain ⟨us,h1,h2⟩:=h
  exact ⟨us,by rw [q rfl]; exact h1,zq s h2⟩
 | false=>exact yX s h
theorem gokP (K:ζa) (T:LTab) (n:Nat):GOk (adP T) (psP K T n):=by
 refine ⟨fun H H' v c a=>⟨fun z=>?_,fun z=>?_⟩,fun S H0 H H' F F' v c s ⟨p,tab,ev,o⟩=>⟨p,tab,ev,?_⟩⟩
 ·rcases z with z | ⟨p,tab,i,j,ds,ev,hp,hT,hg⟩
  ·exact .inl z
  ·rw [c p (.inl ev)] at hp
   exact .inr ⟨p,tab,i,j,ds,ev,hp,hT,hg⟩
 ·rcases z with z | ⟨p,tab,i,j,ds,ev,hp,hT,hg⟩
  ·exact .inl z
  ·rw [← c p (.inl ev)] at hp
   exact .inr ⟨p,tab,i,j,ds,ev,hp,hT,hg⟩
 ·refine ⟨by rw [c p (.inl ev)]; exact o.h,o.l,o.no,fun i j e he=>?_,o.ap⟩
  obtain ⟨b,hb,he'⟩:=o.en i j e he
  refine ⟨b,hb,he'.mono s fun q=>c b (.inr ⟨p,tab,i,j,e.2,ev,o.h,?_,hb⟩)⟩
  rw [he,← q]
abbrev pT (K:ζa) (T:LTab) (n:Nat):DV:=.og (adP T) (psP K T n)
theorem zbo (nt:tj K=true) {i:Nat} {tk tv:TE} {u:TS} {k l:Int} {ds:List PyData} (hk:EvE K S false tk Γ (.tuple [.int k,.int l])) (hv:EvO K S true tv Γ ds) (es:SetC Γ i (some (pT K (LTab.put (fun _ _=>none) k l (true,ds)) 1)) Γ') (kk:ExT K S S' u Γ' P):ExT K S S' (tSeq (tAsg (TC tk tv) (y9 i)) u) Γ P:=fun H0 F0 H F σ B e bb vv D I=>by
 refine fun p hp=>?_
 have g0:Gr H F (upd H p (.dT [])) F:=.newO e.le hp _
 refine hk H0 F0 _ F σ (e.mono g0) _ fun v1 H1 F1 g1 p1=>hv H0 F0 H1 F1 σ ((e.mono g0).mono g1) _ fun b us H2 F2 g2 hb hb2 fb kb=>?_
 obtain ⟨c,rfl,eb⟩:=YS nt g2.le (yX g2.f p1)
 have hH2:H2 p=some (.dT []):=g2.h _ _ (g1.h _ _ zi)
 have hF2:F2 p=none:=g2.ap p _ (g1.h _ _ zi) (g1.ap p _ zi (e.le.free hp))
 refine ⟨_,_,c,pkey k l,rfl,rfl,eb,hH2,?_⟩
 have g:Gr H F (upd H2 p (.dT [(pkey k l,.ref b)])) F2:=by
  refine ⟨fun c o z=>?_,g1.f.trans g2.f,fun c o z=>?_,fun c o z y=>?_⟩
  ·have ne:c≠p:=zy z hp
   rw [zm ne]
   exact g2.h _ _ (g1.h _ _ (by rw [zm ne]; exact z))
  ·have ne:c≠p:=fun q=>by rw [q,hF2] at z; cases z
   rw [zm ne]
   exact g2.le _ _ z
  ·have ne:c≠p:=zy z hp
   have z1:upd H p (.dT []) c=some o:=by rw [zm ne]; exact z
   exact g2.ap c _ (g1.h _ _ z1) (g1.ap c _ z1 y)
 have nbp:b≠p:=by rintro rfl; rw [g1.h _ _ zi] at hb; cases hb
 have hb0:H b=none:=by
  cases q:H b with
  | none=>rfl
  | some o =>
   have:upd H p (.dT []) b=some o:=by rw [zm nbp]; exact q
   rw [g1.h _ _ this] at hb
   cases hb
 have tg:∀ i' j':Int,tGet [(pkey k l,.ref b)] i' j'=if i'=k∧j'=l then some (.ref b) else none:=fun i' j'=>TB k l i' j' _
 have lt:LtOk K (LTab.put (fun _ _=>none) k l (true,ds)) 1 S H0 (upd H2 p (.dT [(pkey k l,.ref b)])) F2 p [(pkey k l,.ref b)]:=by
  refine ⟨zi,ζi _,fun i' j' z=>?_,fun i' j' e' z=>?_,fun i1 j1 i2 j2 d1 d2 b' z1 z2 _ _=>?_⟩
  ·rw [tg]
   by_cases q:i'=k∧j'=l
   ·rw [q.1,q.2,LTab.put_eq] at z
    cases z
   ·exact if_neg q
  ·by_cases q:i'=k∧j'=l
   ·rw [q.1,q.2,LTab.put_eq] at z
    cases z
    refine ⟨b,by rw [tg,if_pos q],us,by rw [zm nbp]; exact hb2,kb⟩
   ·rw [LTab.put_ne q] at z
    cases z
  ·have q1:i1=k∧j1=l:=Classical.byContradiction fun q=>by rw [LTab.put_ne q] at z1; cases z1
   have q2:i2=k∧j2=l:=Classical.byContradiction fun q=>by rw [LTab.put_ne q] at z2; cases z2
   exact ⟨q2.1.trans q1.1.symm,q2.2.trans q1.2.symm⟩
 have pl:∀ {c:Addr},adP (LTab.put (fun _ _=>none) k l (true,ds)) (upd H2 p (.dT [(pkey k l,.ref b)])) (.ref p) c→c=p∨c=b:=fun {c} z=>by
  rcases z with z | ⟨q,tab,i',j',ds',ev,hq,_,hg⟩
  ·cases z; exact .inl rfl
  ·cases ev
   rw [zi] at hq
   cases hq
   rw [tg] at hg
   split at hg
   ·cases hg; exact .inr rfl
   ·cases hg
 have e1:=(e.mono g).set (i:=i) (v:=.ref p) (x:=pT K (LTab.put (fun _ _=>none) k l (true,ds)) 1) ⟨gokP K _ _,fun c z=>by
  rcases pl z with rfl | rfl
  ·exact ⟨_,⟨zi,hF2,e.gr.h.free hp,e.out hp⟩⟩
  ·exact ⟨_,⟨by rw [zm nbp]; exact hb2,fb,e.gr.h.free hb0,e.out hb0⟩⟩,p,_,rfl,lt⟩ fun c oc j y w hj z hw o=>by
  rcases pl oc with rfl | rfl
  ·exact e.newOwn g hp j y w z hw o
  ·exact e.newOwn g hb0 j y w z hw o
 rw [es.eq] at e1
 exact kk H0 F0 _ F2 _ B e1 (bb.trans (g1.f.trans g2.f)) vv D I
theorem YK {α:Type} {l:List α} {i:Nat} {x:α} (h:l[i]?=some x):l.set i x=l:=by
 obtain ⟨hi,rfl⟩:=ζc.mp h
 exact List.set_getElem_self hi
theorem WF {T:LTab} {i j:Int} (h:∀ ds,T i j≠some (true,ds)):T.frz i j=T:=by
 funext k l
 unfold LTab.frz
 by_cases q:k=i∧l=j
 ·rw [if_pos q,q.1,q.2]
  cases e:T i j with
  | none=>rfl
  | some p =>
   obtain ⟨fl,ds⟩:=p
   cases fl with
   | true=>exact absurd e (h ds)
   | false=>rfl
 ·rw [if_neg q]
theorem zbp (nt:tj K=true) {T:LTab} {n i j:Nat} {tk:TE} {u:TS} {c l:Int} {Γ1 Γ2:Ctx} (h:GetC Γ i (pT K T n)) (hk:EvE K S false tk Γ (.tuple [.int c,.int l])) (es1:SetC Γ i (some (pT K (T.frz c l) n)) Γ1) (es2:SetC Γ1 j (some (.fz true (.list (T.at c l)))) Γ2) (kk:ExT K S S' u Γ2 P) :
  ExT K S S' (tSeq (tAsg (TF (tVar i) tk (tLst tNil)) (y9 j)) u) Γ P:=fun H0 F0 H F σ B e bb vv D I=>by
 obtain ⟨v0,q1,ok,own,p,tab,rfl,lt⟩:=e.has i _ h.eq
 refine ⟨_,q1,p,rfl,.inr ⟨tab,.inl lt.h⟩,hk H0 F0 H F σ e _ fun v1 H1 F1 g1 p1=>⟨ζE _,fun z hz=>?_⟩⟩
 have g2:Gr H1 F1 (upd H1 z (.lst [])) (upd F1 z (.lst [])):=.new g1.le hz _
 have e2:=(e.mono g1).mono g2
 have nz:=(e.mono g1).out hz
 obtain ⟨kb,rfl,eb⟩:=YS nt g2.le (yX g2.f p1)
 obtain ⟨v0,q2,ok2,own2,p2,tab2,ev,lt2⟩:=e2.has i _ h.eq
 rw [q1] at q2
 cases q2
 cases ev
 refine ⟨tGet tab2 c l,DGet.t (k:=pkey c l) lt2.h eb,?_⟩
 have bb2:Same B (upd F1 z (.lst [])):=bb.trans (g1.f.trans g2.f)
 have fin:∀ (F3:Hp) (v:V),Same (upd F1 z (.lst [])) F3→DEnv K S H0 F0 (upd H1 z (.lst [])) F3 σ (Γ.set i (some (pT K (T.frz c l) n)))→Rp K true S H0 F3 v (.list (T.at c l))→u D (σ.set j (some v)) (upd H1 z (.lst [])):=fun F3 v s e3 pv=>by
  have e4:=e3.setF (i:=j) pv
  rw [es1.eq,es2.eq] at e4
  exact kk H0 F0 _ F3 _ B e4 (bb2.trans s) vv D I
 cases hT:T c l with
 | none =>
  rw [lt2.no c l hT]
  refine fin _ _ (.refl _) ?_ ?_
  ·rw [WF fun ds q=>(by rw [hT] at q; cases q),YK h.eq]
   exact e2
  ·unfold LTab.at
   rw [hT]
   exact .lst (LN.new nz) .nil
 | some en =>
  obtain ⟨b,hb,he⟩:=lt2.en c l _ hT
  rw [hb]
  obtain ⟨fl,ds⟩:=en
  have ea:T.at c l=ds:=by unfold LTab.at; rw [hT]
  cases fl with
  | false =>
   refine fin _ _ (.refl _) ?_ (by rw [ea]; exact he)
   rw [WF fun ds q=>(by rw [hT] at q; cases q),YK h.eq]
   exact e2
  | true =>
   obtain ⟨us,hu,kb'⟩:=he
   have ob:Owns (upd H1 z (.lst [])) (.ref p) (pT K T n) b:=.inr ⟨p,tab2,c,l,ds,rfl,lt2.h,hT,hb⟩
   obtain ⟨o,w⟩:=own2 b ob
   have:=w.h
   rw [hu] at this
   cases this
   have np:b≠p:=by rintro rfl; rw [lt2.h] at hu; cases hu
   have sm:Same (upd F1 z (.lst [])) (upd (upd F1 z (.lst [])) b (.lst us)):=Same.new w.f _
   have back:∀ {i' j':Int} {ds':List PyData},T.frz c l i' j'=some (true,ds')→T i' j'=some (true,ds')∧¬ (i'=c∧j'=l):=fun {i' j' ds'} q=>by
    by_cases y:i'=c∧j'=l
    ·unfold LTab.frz at q
     rw [if_pos y,hT] at q
     cases q
    ·rw [LTab.frz_ne y] at q
     exact ⟨q,y⟩
   have ko:∀ a,adP (T.frz c l) (upd H1 z (.lst [])) (.ref p) a→adP T (upd H1 z (.lst [])) (.ref p) a∧a≠b:=fun a q=>by
    rcases q with q | ⟨p',tab',i',j',ds',ev,hp,hT',hg⟩
    ·exact ⟨.inl q,by cases q; exact np.symm⟩
    ·have bk:=back hT'
     refine ⟨.inr ⟨p',tab',i',j',ds',ev,hp,bk.1,hg⟩,fun y=>bk.2 ?_⟩
     cases ev
     rw [lt2.h] at hp
     cases hp
     subst y
     exact lt2.ap c l i' j' ds ds' _ hT bk.1 hb hg
   obtain ⟨_,e3⟩:=e2.froz (y:=pT K (T.frz c l) n) h.eq q1 ob w ⟨gokP K _ _,fun a q=>by
     obtain ⟨o,w'⟩:=own2 a (ko a q).1
     exact ⟨o,w'.frz (ko a q).2⟩,p,tab2,rfl,lt2.h,lt2.l,fun i' j' q=>lt2.no i' j' (by
      by_cases y:i'=c∧j'=l
      ·unfold LTab.frz at q
       rw [if_pos y,hT] at q
       cases q
      ·rwa [LTab.frz_ne y] at q),fun i' j' e' q=>by
      by_cases y:i'=c∧j'=l
      ·unfold LTab.frz at q
       rw [if_pos y,hT] at q
       cases q
       refine ⟨b,by rw [y.1,y.2]; exact hb,?_⟩
       exact .lst (LN.new w.s) (zq sm kb')
      ·rw [LTab.frz_ne y] at q
       obtain ⟨b',hb',he'⟩:=lt2.en i' j' e' q
       exact ⟨b',hb',he'.mono sm fun _=>rfl⟩,fun i1 j1 i2 j2 d1 d2 b' z1 z2=>lt2.ap i1 j1 i2 j2 d1 d2 b' (back z1).1 (back z2).1⟩ fun a q=>(ko a q).1
   exact fin _ _ sm e3 (by rw [ea]; exact .lst (LN.new w.s) (zq sm kb'))
theorem DEnv.forget {H0 F0 H F:Hp} {σ:St} (i:Nat) (e:DEnv K S H0 F0 H F σ Γ):DEnv K S H0 F0 H F σ (Γ.set i none):=by
 have bk:∀ (j:Nat) (d:DV),(Γ.set i none)[j]?=some (some d)→Γ[j]?=some (some d):=fun j d h=>by
  by_cases hj:j=i
  ·subst hj; rw [List.getElem?_set] at h; simp at h
  ·rw [ζv (Ne.symm hj)] at h; exact h
 exact ⟨e.gr,e.l0,e.sd,e.s0,by simp [e.len],fun j d h=>e.has j d (bk j _ h),fun m n x y v w a h1 h2=>e.ne m n x y v w a (bk m _ h1) (bk n _ h2)⟩
theorem zaR {T:LTab} {i j:Int} {e f:Bool×List PyData}:(T.put i j e).put i j f=T.put i j f:=by
 funext k l
 by_cases q:k=i∧l=j
 ·rw [q.1,q.2,LTab.put_eq,LTab.put_eq]
 ·rw [LTab.put_ne q,LTab.put_ne q,LTab.put_ne q]
theorem zc0 (nt:tj K=true) {T:LTab} {n i:Nat} {tk te:TE} {c l:Int} {d:PyData} {Γn:Ctx} (h:GetC Γ i (pT K T n)) (hk:EvE K S false tk Γ (.tuple [.int c,.int l])) (hT:∀ ds,T c l≠some (false,ds)) (en:SetC Γ i none Γn) (he:EvE K S true te Γn d) (hn:n < sizeLine) (hz:(T.at c l).length < sizeLine)
  (es:SetC Γ i (some (pT K (T.put c l (true,T.at c l ++ [d])) (n + 1))) Γ') (k:P.nx Γ'):ExS K S (x3 (tBM K "list" wF (tDSd (tVar i) tk (tLst tNil)) (ye te tNil))) Γ P:=fun H0 F0 H F σ B e bb _ D I=>by
 obtain ⟨v0,q1,ok,own,p,tab,rfl,lt⟩:=e.has i _ h.eq
 refine ⟨_,q1,p,rfl,.inr ⟨tab,.inl lt.h⟩,hk H0 F0 H F σ e _ fun v1 H1 F1 g1 p1=>⟨ζE _,fun z hz'=>?_⟩⟩
 have g2:Gr H1 F1 (upd H1 z (.lst [])) F1:=.newO g1.le hz' _
 have e2:=(e.mono g1).mono g2
 have nz:=(e.mono g1).out hz'
 have z0:H z=none:=g1.h.free hz'
 obtain ⟨kb,rfl,eb⟩:=YS nt g2.le p1
 obtain ⟨v0,q2,ok2,own2,p2,tab2,ev,lt2⟩:=e2.has i _ h.eq
 rw [q1] at q2
 cases q2
 cases ev
 have l2:=lt2.l
 have li:=(ζc.mp h.eq).1
 have fin:∀ (T1:LTab) (H3:Hp) (b:Addr) (tab3:PTab),DEnv K S H0 F0 H3 F1 σ (Γ.set i (some (pT K T1 (n + 1))))→T1 c l=some (true,T.at c l)→T1.put c l (true,T.at c l ++ [d])=T.put c l (true,T.at c l ++ [d])→H3 p=some (.dT tab3)→tGet tab3 c l=some (.ref b) →
   tyV K "list" (.ref b) H3∧(ye te tNil) σ H3 fun xs H4=>wF (.ref b) xs H4 fun _ H5=>D.nx σ H5:=fun T1 H3 b tab3 e3 t1 tp hp3 hb3=>by
  have hg:(Γ.set i (some (pT K T1 (n + 1))))[i]?=some (some (pT K T1 (n + 1))):=ζt li
  obtain ⟨v0,q3,ok3,own3,p3,tab3',ev,lt3⟩:=e3.has i _ hg
  rw [q1] at q3
  cases q3
  cases ev
  have:=lt3.h
  rw [hp3] at this
  cases this
  obtain ⟨b',hb',us,hu,kb'⟩:=lt3.en c l _ t1
  rw [hb3] at hb'
  cases hb'
  have eN:=e3.forget i
  rw [List.set_set,en.eq] at eN
  refine ⟨.inl ⟨rfl,_,SqL.of hu⟩,he H0 F0 H3 F1 σ eN _ fun v H4 F4 g4 p4=>?_⟩
  have hu4:=g4.h _ _ hu
  have hp4:=g4.h _ _ hp3
  refine ⟨b,us,v,rfl,rfl,hu4,by rw [zn.length kb']; exact hz,?_⟩
  have e4:=e3.mono g4
  obtain ⟨v0,q4,ok4,own4,p4',tab4,ev,lt4⟩:=e4.has i _ hg
  rw [q1] at q4
  cases q4
  cases ev
  have:=lt4.h
  rw [hp4] at this
  cases this
  have ob:Owns H4 (.ref p) (pT K T1 (n + 1)) b:=.inr ⟨p,tab3,c,l,_,rfl,hp4,t1,hb3⟩
  have np:b≠p:=by rintro rfl; rw [hp4] at hu4; cases hu4
  have back:∀ {i' j':Int} {ds':List PyData},T1.put c l (true,T.at c l ++ [d]) i' j'=some (true,ds')→∃ ds0,T1 i' j'=some (true,ds0):=fun {i' j' ds'} q=>by
   by_cases y:i'=c∧j'=l
   ·rw [y.1,y.2]
    exact ⟨_,t1⟩
   ·rw [LTab.put_ne y] at q
    exact ⟨_,q⟩
  have ko:∀ a,adP (T1.put c l (true,T.at c l ++ [d])) (upd H4 b (.lst (us ++ [v]))) (.ref p) a→adP T1 H4 (.ref p) a:=fun a q=>by
   rcases q with q | ⟨p',tab',i',j',ds',ev,hp,hT',hg⟩
   ·exact .inl q
   ·cases ev
    rw [zm np.symm] at hp
    obtain ⟨ds0,t0⟩:=back hT'
    exact .inr ⟨p,tab',i',j',ds0,rfl,hp,t0,hg⟩
  have e5:=e4.put (vs:=us ++ [v]) (y:=pT K (T1.put c l (true,T.at c l ++ [d])) (n + 1)) hg q1 ob ⟨gokP K _ _,fun a q=>by
    obtain ⟨o,w⟩:=own4 a (ko a q)
    by_cases ab:a=b
    ·subst ab
     exact ⟨_,⟨zi,w.f,w.n,w.s⟩⟩
    ·exact ⟨o,w.other ab⟩,p,tab3,rfl,by rw [zm np.symm]; exact hp4,lt4.l,fun i' j' q=>lt4.no i' j' (by
     by_cases y:i'=c∧j'=l
     ·rw [y.1,y.2,LTab.put_eq] at q
      cases q
     ·rwa [LTab.put_ne y] at q),fun i' j' e' q=>by
     by_cases y:i'=c∧j'=l
     ·rw [y.1,y.2,LTab.put_eq] at q
      cases q
      exact ⟨b,by rw [y.1,y.2]; exact hb3,us ++ [v],zi,zn.append (zq g4.f kb') (.cons p4 .nil)⟩
     ·rw [LTab.put_ne y] at q
      obtain ⟨b2,hb2,he2⟩:=lt4.en i' j' e' q
      refine ⟨b2,hb2,he2.mono (.refl _) fun et=>zm fun z=>y ?_⟩
      subst z
      have q:T1 i' j'=some (true,e'.2):=by rw [q,← et]
      exact lt4.ap c l i' j' _ _ _ t1 q hb3 hb2,fun i1 j1 i2 j2 d1 d2 b' z1 z2=>by
     obtain ⟨_,w1⟩:=back z1
     obtain ⟨_,w2⟩:=back z2
     exact lt4.ap i1 j1 i2 j2 _ _ b' w1 w2⟩ ko
  rw [List.set_set,tp,es.eq] at e5
  exact I.nx _ _ _ F4 k (bb.trans (g1.f.trans g4.f)) e5
 refine ⟨kb,pkey c l,tab2,rfl,eb,lt2.h,by omega,fun v hv=>?_,fun hv=>?_⟩
 ·have hv:tGet tab2 c l=some v:=hv
  cases hTc:T c l with
  | none=>rw [lt2.no c l hTc] at hv; cases hv
  | some en' =>
   obtain ⟨fl,ds⟩:=en'
   cases fl with
   | false=>exact absurd hTc (hT ds)
   | true =>
    obtain ⟨b,hb,_⟩:=lt2.en c l _ hTc
    rw [hb] at hv
    cases hv
    have ea:T.at c l=ds:=by unfold LTab.at; rw [hTc]
    refine fin T _ b tab2 ?_ (by rw [ea]; exact hTc) rfl lt2.h hb
    have hh:HasV K S H0 (upd H1 z (.lst [])) F1 (.ref p) (pT K T (n + 1)):=⟨gokP K _ _,own2,p,tab2,rfl,lt2.h,by omega,lt2.no,lt2.en,lt2.ap⟩
    have e6:=e2.set (i:=i) hh fun a oa j y w hj zj hw o=>hj (e2.ne j i y _ w _ a zj h.eq hw q1 o oa)
    rw [YK q1] at e6
    exact e6
 ·have hv:tGet tab2 c l=none:=hv
  have hTc:T c l=none:=by
   cases q:T c l with
   | none=>rfl
   | some en' =>
    obtain ⟨b,hb,_⟩:=lt2.en c l _ q
    rw [hv] at hb
    cases hb
  have ea:T.at c l=[]:=by unfold LTab.at; rw [hTc]
  have hz2:upd H1 z (.lst []) z=some (.lst []):=zi
  have nzp:z≠p:=fun q=>by
   have:=lt2.h
   rw [← q,hz2] at this
   cases this
  have tg:∀ i' j':Int,tGet (putK tab2 (pkey c l) (.ref z)) i' j'=if i'=c∧j'=l then some (.ref z) else tGet tab2 i' j':=fun i' j'=>XT tab2 c l i' j' _
  have back:∀ {i' j':Int} {e':Bool×List PyData},¬ (i'=c∧j'=l)→T.put c l (true,[]) i' j'=some e'→T i' j'=some e':=fun y q=>by rwa [LTab.put_ne y] at q
  have pl:∀ a,adP (T.put c l (true,[])) (upd (upd H1 z (.lst [])) p (.dT (putK tab2 (pkey c l) (.ref z)))) (.ref p) a→adP T (upd H1 z (.lst [])) (.ref p) a∨a=z:=fun a q=>by
   rcases q with q | ⟨p',tab',i',j',ds',ev,hp,hT',hg⟩
   ·exact .inl (.inl q)
   ·cases ev
    rw [zi] at hp
    cases hp
    rw [tg] at hg
    by_cases y:i'=c∧j'=l
    ·rw [if_pos y] at hg
     cases hg
     exact .inr rfl
    ·rw [if_neg y] at hg
     exact .inl (.inr ⟨p,tab2,i',j',ds',rfl,lt2.h,back y hT',hg⟩)
  have own:∀ (j:Nat) (f:DV) (u:V),Γ[j]?=some (some f)→σ[j]?=some (some u)→¬ Owns (upd H1 z (.lst [])) u f z:=fun j f u zj hw=>e.newOwn (g1.trans g2) z0 j f u zj hw
  have old:∀ {i' j':Int} {b:Addr} {ds':List PyData},T i' j'=some (true,ds')→tGet tab2 i' j'=some (.ref b)→b≠z:=fun {i' j' b ds'} t1 hb y=>by
   subst y
   exact own i _ _ h.eq q1 (.inr ⟨p,tab2,i',j',ds',rfl,lt2.h,t1,hb⟩)
  have e7:=e2.putNO (b:=z) (a:=p) (oo:=.dT (putK tab2 (pkey c l) (.ref z))) (y:=pT K (T.put c l (true,[])) (n + 1)) h.eq q1 (.inl rfl) ⟨gokP K _ _,fun a q=>by
    rcases pl a q with q | rfl
    ·obtain ⟨o,w⟩:=own2 a q
     by_cases ap:a=p
     ·subst ap
      exact ⟨_,⟨zi,w.f,w.n,w.s⟩⟩
     ·exact ⟨o,w.other ap⟩
    ·exact ⟨_,⟨by rw [zm nzp]; exact hz2,g1.le.free hz',(e.mono g1).gr.h.free hz',nz⟩⟩,p,_,rfl,zi,by have:=xx tab2 (pkey c l) (.ref z); omega,fun i' j' q=>by
    by_cases y:i'=c∧j'=l
    ·rw [y.1,y.2,LTab.put_eq] at q
     cases q
    ·rw [LTab.put_ne y] at q
     rw [tg,if_neg y]
     exact lt2.no i' j' q,fun i' j' e' q=>by
    by_cases y:i'=c∧j'=l
    ·rw [y.1,y.2,LTab.put_eq] at q
     cases q
     exact ⟨z,by rw [tg,if_pos y],[],by rw [zm nzp]; exact hz2,.nil⟩
    ·obtain ⟨b2,hb2,he2⟩:=lt2.en i' j' e' (back y q)
     refine ⟨b2,by rw [tg,if_neg y]; exact hb2,he2.mono (.refl _) fun et=>zm ?_⟩
     rintro rfl
     obtain ⟨fl,ds'⟩:=e'
     cases et
     obtain ⟨us,hu,_⟩:=he2
     exact absurd hu (by rw [lt2.h]; exact fun z=>nomatch z),fun i1 j1 i2 j2 d1 d2 b' z1 z2 h1 h2=>by
    rw [tg] at h1 h2
    by_cases y1:i1=c∧j1=l
    ·by_cases y2:i2=c∧j2=l
     ·exact ⟨y2.1.trans y1.1.symm,y2.2.trans y1.2.symm⟩
     ·rw [if_pos y1] at h1
      cases h1
      rw [if_neg y2] at h2
      exact absurd rfl (old (back y2 z2) h2)
    ·by_cases y2:i2=c∧j2=l
     ·rw [if_pos y2] at h2
      cases h2
      rw [if_neg y1] at h1
      exact absurd rfl (old (back y1 z1) h1)
     ·rw [if_neg y1] at h1
      rw [if_neg y2] at h2
      exact lt2.ap i1 j1 i2 j2 _ _ b' (back y1 z1) (back y2 z2) h1 h2⟩ (fun a q=>pl a q) own
  exact fin _ _ z _ e7 (by rw [ea]; exact LTab.put_eq ..) zaR zi (by rw [tg,if_pos ⟨rfl,rfl⟩])
end
end PD
namespace L2
open PySem PySem.Spec PyProof.Rows PySem.SeqAt PySem.MeetsSeq PySem.MeetsSeq2 PySem.MeetsSeq3
open AutoSeq1 (wpAny_loadPart')
def zP:List Int→List Int→Bool
 | [],[]=>false
 | [],_ :: _=>true
 | _ :: _,[]=>false
 | x :: xs,y :: ys=>if x=y then zP xs ys else decide (x < y)
theorem zbd (ns ms:List Int) (h:ns=[]∨ms=[]):zP ns ms=decide (ns.length < ms.length):=by
 rcases h with rfl | rfl
 ·cases ms <;> simp [zP]
 ·cases ns <;> simp [zP]
theorem Zh:∀ {us:List Value} {ns:List Int} {i:Nat},IntsAre us ns→(h:i < us.length)→∃ n t,us[i]?=some (.int n t)∧ns[i]?=some n
 | _,_,_,.nil,h=>absurd h (ζV _)
 | _,_,0,.cons n t _,_=>⟨n,t,rfl,rfl⟩
 | _,_,i + 1,.cons _ _ r,h=>Zh (i:=i) r (ξM h)
theorem zbc (l b:Addr) (xs ys:Array Value) (n m:Nat) (dx dy:Option Addr) (sx sy:Array (Option Value)) (ns ms:List Int) (hx:IntsAre xs.toList ns) (hy:IntsAre ys.toList ms) :
  ∀ (k i:Nat),min xs.size ys.size - i=k→i≤min xs.size ys.size→Meets (Builtin.«list.__eq__.loop» ⟨[.ref l,.ref b,rawInt i,rawInt 0],[]⟩)
   (fun _ R s=>s.heap.get? l=some { cls:=.type "list", dict:=dx,data:=.seq xs n,slots:=sx }∧s.heap.get? b=some { cls:=.type "list", dict:=dy,data:=.seq ys m,slots:=sy } ∧
    R (.ok (.ret (.bool (zP (ns.drop i) (ms.drop i))))) s):=by
 have lx:xs.size=ns.length:=by rw [← IntsAre.length hx]; simp
 have ly:ys.size=ms.length:=by rw [← IntsAre.length hy]; simp
 intro k
 induction k with
 | zero =>
  intro i hk hi prog w A R s h
  obtain ⟨hp,g,d,tk,os⟩:=s; obtain ⟨hl,hb,h⟩:=h
  wp_walk using wpAny_loadPart' hl,wpAny_loadPart' hb
  have e:zP (ns.drop i) (ms.drop i)=decide (xs.size < ys.size):=by
   rw [zbd _ _ (by
    rcases Nat.le_total xs.size ys.size with z | z
    ·exact .inl (List.drop_eq_nil_of_le (by omega))
    ·exact .inr (List.drop_eq_nil_of_le (by omega)))]
   rw [ξd,ξd]
   exact decide_eq_decide.mpr (by omega)
  rw [e] at h
  by_cases c:i < xs.size
  ·have h1:xs[((i:Nat):Int).toNat]?=some xs[i]:=by simp [c]
   have h2:ys[((i:Nat):Int).toNat]?=none:=by simp; omega
   rw [h1,h2]
   wp_walk using wpAny_loadPart' hl,wpAny_loadPart' hb
   exact h
  ·have h1:xs[((i:Nat):Int).toNat]?=none:=by simp; omega
   rw [h1]
   wp_walk using wpAny_loadPart' hl,wpAny_loadPart' hb
   exact h
 | succ k ih =>
  intro i hk hi prog w A R s h
  obtain ⟨hp,g,d,tk,os⟩:=s; obtain ⟨hl,hb,h⟩:=h
  wp_walk using wpAny_loadPart' hl,wpAny_loadPart' hb
  have c1:i < xs.size:=by omega
  have c2:i < ys.size:=by omega
  obtain ⟨x,tx,ex,gx⟩:=Zh (i:=i) hx (by simpa using c1)
  obtain ⟨y,ty,ey,gy⟩:=Zh (i:=i) hy (by simpa using c2)
  have h1:xs[((i:Nat):Int).toNat]?=some (.int x tx):=by rw [← ex]; simp
  have h2:ys[((i:Nat):Int).toNat]?=some (.int y ty):=by rw [← ey]; simp
  have hc:((i:Int) + 1)=((i + 1:Nat):Int):=by push_cast; rfl
  have d1:ns.drop i=x :: ns.drop (i + 1):=by
   obtain ⟨z,rfl⟩:=ζc.mp gx
   exact ζ4 z
  have d2:ms.drop i=y :: ms.drop (i + 1):=by
   obtain ⟨z,rfl⟩:=ζc.mp gy
   exact ζ4 z
  rw [d1,d2] at h
  rw [h1,h2]
  refine wpAny_bind (wpAny_eqBool_int ?_)
  by_cases c:x=y
  ·rw [show (x == y)=true by simp [c]]
   rw [show zP (x :: ns.drop (i + 1)) (y :: ms.drop (i + 1))=zP (ns.drop (i + 1)) (ms.drop (i + 1)) from if_pos c] at h
   wp_walk
   rw [hc]
   exact ⟨plainId_quiet plain_eq_loop _,codeAny_builtin entry_eq_loop (by
    rw [Around.under_plainId plain_eq_loop _]
    exact ih (i + 1) (by omega) (by omega) prog w A R _ ⟨hl,hb,h⟩)⟩
  ·rw [show (x == y)=false by simp [c]]
   rw [show zP (x :: ns.drop (i + 1)) (y :: ms.drop (i + 1))=decide (x < y) from if_neg c] at h
   wp_walk using wpAny_loadPart' hl,wpAny_loadPart' hb
   rw [h1,h2]
   refine wpAny_bind (wpAny_lt_int ?_)
   exact wpAny_pure h
theorem UW (l b:Addr) (xs ys:Array Value) (n m:Nat) (dx dy:Option Addr) (sx sy:Array (Option Value)) (ns ms:List Int) (hx:IntsAre xs.toList ns) (hy:IntsAre ys.toList ms):Meets (Builtin.«list.__lt__» ⟨[.ref l,.ref b],[]⟩)
   (fun _ R s=>s.heap.get? l=some { cls:=.type "list", dict:=dx,data:=.seq xs n,slots:=sx }∧s.heap.get? b=some { cls:=.type "list", dict:=dy,data:=.seq ys m,slots:=sy } ∧
    R (.ok (.ret (.bool (zP ns ms)))) s):=by
 intro prog w A R s h
 obtain ⟨hp,g,d,tk,os⟩:=s; obtain ⟨hl,hb,h⟩:=h
 have f3:=AutoSeq1.sub_list_list
 wp_walk using wpAny_loadPart' hl,wpAny_loadPart' hb
 exact ⟨plainId_quiet plain_eq_loop _,codeAny_builtin entry_eq_loop (by
  rw [Around.under_plainId plain_eq_loop _]
  exact zbc l b xs ys n m dx dy sx sy ns ms hx hy _ 0 rfl (ζE _) prog w A R _ ⟨hl,hb,h⟩)⟩
section
variable {prog:Program} {w:World} {A:Around} {E:Value→Shared→Prop} {s:Shared}
theorem QK {l b:Addr} {xs ys:Array Value} {ns ms:List Int} {Q:Value→Shared→Prop} (hl:s.heap.IsList l xs) (hb:s.heap.IsList b ys) (hx:IntsAre xs.toList ns) (hy:IntsAre ys.toList ms) (hu:A.units < cLine) (h:Q (.bool (zP ns ms)) s) :
  wpAny (model prog w) A (richCompare .Lt (.ref l) (.ref b)) Q E s:=by
 obtain ⟨⟨c1,d1,a1,s1⟩,o1,e1,n1,z1⟩:=id hl
 obtain ⟨⟨c2,d2,a2,s2⟩,o2,e2,n2,z2⟩:=id hb
 simp only at e1 z1 e2 z2
 subst e1 z1 e2 z2
 exact richCompare_meets_room (op:=.Lt) ⟨_,o1,rfl⟩ ⟨_,o2,rfl⟩ F.slot_list_lt F.entry_list_lt (F.args_list_lt_2 _ _) (UW l b xs ys n1 n2 d1 d2 s1 s2 ns ms hx hy)
  ⟨o1,o2,show Value.bool (zP ns ms)≠Value.notImplemented∧Q (.bool (zP ns ms)) s from ⟨(fun x=>nomatch x),h⟩⟩ hu
end
def VT (a b:Int) (ns:List Int) (c d:Int) (ms:List Int):Bool:=if a=c then (if b=d then (if ns=ms then false else zP ns ms) else decide (b < d)) else decide (a < c)
section
variable {prog:Program} {w:World} {A:Around} {E:Value→Shared→Prop} {s:Shared}
end
section
variable {prog:Program} {w:World} {A:Around} {R:Result→Shared→Prop} {T S l:Addr} {xs:Array Value} {bt:Nat→Nat→Bool} {h0:Heap}
def xM (T S:Addr) (h0 h:Heap):Prop:=∀ b o,b≠T→b≠S→h0.get? b=some o→h.get? b=some o
def CmpH (prog:Program) (w:World) (A:Around) (xs:Array Value) (bt:Nat→Nat→Bool) (h0:Heap) (T S:Addr):Prop :=
 ∀ i j x y (s:Shared) (Q:Value→Shared→Prop) (E:Value→Shared→Prop),xs[i]?=some x→xs[j]?=some y→xM T S h0 s.heap→Q (.bool (bt i j)) s→wpAny (model prog w) A (richCompare .Lt x y) Q E s
theorem Vp (hh:A.handled=none) (nl:l≠T) (nT:S≠T) (nS:S≠l) (hc:CmpH prog w A.in1 xs bt h0 T S) :
  ∀ (k j:Nat) (s:Shared) (y:Value) (c:Nat),xs.size - (j + 1)=k→j + 1≤xs.size→(s.heap.IsListIter T l (j + 1)∧s.heap.IsList l xs)→xs[argBest bt j]?=some y→xM T S h0 s.heap →
  s.heap.get? S=some (seqObj "list" #[y,y] c) →
  (∀ v h tk,xs[argBest bt (xs.size - 1)]?=some v→xM T S h0 h→R (.ok (.ret v)) { s with heap:=h,toks:=tk }) →
  codeAny (model prog w) A (.builtin "min.loop" ⟨[.ref T,.none,.ref S],[]⟩) R s:=by
 have W:=Walks.list (prog:=prog) (w:=w) (A:=A.in1) hh T l nl xs
 have sw:S∉[T]:=fun z=>nT (ζf.mp z)
 have sf:S∉[T,l]:=fun z=>by
  rcases ζo.mp z with z | z
  ·exact nT z
  ·exact nS (ζf.mp z)
 have nm:(toString "min" ++ toString ".loop" : String) = "min.loop" := by decide
 have kp:∀ {h h':Heap},xM T S h0 h→(∀ b o,b∉[T]→h.get? b=some o→h'.get? b=some o)→xM T S h0 h':=fun k1 k2 b o n1 n2 e=>k2 b o (fun z=>n1 (ζf.mp z)) (k1 b o n1 n2 e)
 have ku:∀ {h:Heap} (f:Obj→Obj),xM T S h0 h→xM T S h0 (h.update S f):=fun f k1 b o n1 n2 e=>(ξn _ _ (Ne.symm n2)).trans (k1 b o n1 n2 e)
 intro k
 induction k with
 | zero =>
  intro j s y c hk hj st hy kb hS hR
  have hin:j + 1=xs.size:=by omega
  rw [hin] at st
  refine codeAny_builtin F.entry_min_loop ?_
  rw [Around.under_plainId F.plain_min_loop _]
  refine wpAny_bind (m:=seqItems? (.ref S)) (wpAny_seqItems hS rfl ?_)
  refine wpAny_bind (m:=tryCatch (pyNext (.ref T)) _) (wpAny_tryCatch (W.done s _ _ st fun h' tk k2=>?_))
  refine wpAny_bind (m:=updateSeq S (fun _=>#[])) ?_
  refine wpAny_updateSeq (k2 S _ sw hS) rfl (wpAny_bind (wpAny_letGo (wpAny_pure ?_)))
  exact hR y _ tk (by rw [← hin]; exact hy) (ku _ (kp kb k2))
 | succ k ih =>
  intro j s y c hk hj st hy kb hS hR
  have hlt:j + 1 < xs.size:=by omega
  refine codeAny_builtin F.entry_min_loop ?_
  rw [Around.under_plainId F.plain_min_loop _]
  refine wpAny_bind (m:=seqItems? (.ref S)) (wpAny_seqItems hS rfl ?_)
  refine wpAny_bind (m:=tryCatch (pyNext (.ref T)) _) (wpAny_tryCatch (W.item (j + 1) s _ _ hlt st fun v h' tk hv st' k2=>?_))
  have hS':=k2 S _ sw hS
  refine wpAny_bind (m:=tryCatch (holding [v,v] (richCompare .Lt v y >>= _)) _) (wpAny_tryCatch (wpAny_holding (wpAny_bind (hc (j + 1) (argBest bt j) v y _ _ _ hv hy (kp kb k2) ?_))))
  refine wpAny_bind (wpAny_holding (wpAny_truthy_bool ?_))
  refine wpAny_bind (wpAny_letGo (wpAny_pure ?_))
  cases hb:bt (j + 1) (argBest bt j) with
  | true =>
   simp only [if_true]
   refine wpAny_bind (wpAny_updateSeq hS' rfl (wpAny_bind (wpAny_letGo ?_)))
   rw [nm]
   have fr:=W.frame _ _ (h'.update S (Obj.mapSeq fun _=>#[v,v])) st' fun b hbf o e=>(ξn _ _ (fun z:S=b=>sf (z ▸ hbf))).trans e
   exact wpAny_pure ⟨plainId_quiet F.plain_min_loop _,ih (j + 1) _ v _ (by omega) hlt fr (by simp only [argBest,hb,if_true]; exact hv) (ku _ (kp kb k2)) (Heap.get?_update_self _ hS' rfl) fun v' h'' t' hv' k3=>hR v' h'' t' hv' k3⟩
  | false =>
   simp only [Bool.false_eq_true,if_false]
   refine wpAny_bind (wpAny_letGo ?_)
   rw [nm]
   exact wpAny_pure ⟨plainId_quiet F.plain_min_loop _,ih (j + 1) _ y c (by omega) hlt st' (by simp only [argBest,hb,Bool.false_eq_true,if_false]; exact hy) (kp kb k2) hS' fun v' h'' t' hv' k3=>hR v' h'' t' hv' k3⟩
theorem Vq (hh:A.handled=none) (nl:l≠T) (nT:S≠T) (nS:S≠l) (hc:CmpH prog w A.in1 xs bt h0 T S) {s:Shared} {c:Nat} (hn:0 < xs.size) (st:s.heap.IsListIter T l 0∧s.heap.IsList l xs) (kb:xM T S h0 s.heap) (hS:s.heap.get? S=some (seqObj "list" #[] c))
  (hR:∀ v h tk,xs[argBest bt (xs.size - 1)]?=some v→xM T S h0 h→R (.ok (.ret v)) { s with heap:=h,toks:=tk }) :
  codeAny (model prog w) A (.builtin "min.loop" ⟨[.ref T,.none,.ref S],[]⟩) R s:=by
 have W:=Walks.list (prog:=prog) (w:=w) (A:=A.in1) hh T l nl xs
 have sw:S∉[T]:=fun z=>nT (ζf.mp z)
 have sf:S∉[T,l]:=fun z=>by
  rcases ζo.mp z with z | z
  ·exact nT z
  ·exact nS (ζf.mp z)
 have nm:(toString "min" ++ toString ".loop" : String) = "min.loop" := by decide
 refine codeAny_builtin F.entry_min_loop ?_
 rw [Around.under_plainId F.plain_min_loop _]
 refine wpAny_bind (m:=seqItems? (.ref S)) (wpAny_seqItems hS rfl ?_)
 refine wpAny_bind (m:=tryCatch (pyNext (.ref T)) _) (wpAny_tryCatch (W.item 0 s _ _ hn st fun v h' tk hv st' k2=>?_))
 have hS':=k2 S _ sw hS
 refine wpAny_bind (m:=updateSeq S (fun _=>#[v,v])) (wpAny_updateSeq hS' rfl ?_)
 rw [nm]
 have fr:=W.frame _ _ (h'.update S (Obj.mapSeq fun _=>#[v,v])) st' fun b hbf o e=>(ξn _ _ (fun z:S=b=>sf (z ▸ hbf))).trans e
 refine wpAny_pure ⟨plainId_quiet F.plain_min_loop _,Vp hh nl nT nS hc _ 0 _ v _ rfl hn fr hv (fun b o n1 n2 e=>?_) (Heap.get?_update_self _ hS' rfl) fun v' h'' t' hv' k3=>hR v' h'' t' hv' k3⟩
 exact (ξn _ _ (Ne.symm n2)).trans (k2 b o (fun z=>n1 (ζf.mp z)) (kb b o n1 n2 e))
end
section
variable {prog:Program} {w:World} {A:Around} {E:Value→Shared→Prop} {s:Shared}
def IsLs (h:Heap) (v:Value) (ns:List Int):Prop:=∃ a ys,v=.ref a∧h.IsList a ys∧IntsAre ys.toList ns
theorem IsLs.keep {h h':Heap} {v:Value} {ns:List Int} (x:IsLs h v ns) (k:∀ b o,h.get? b=some o→h'.get? b=some o):IsLs h' v ns:=by
 obtain ⟨a,ys,rfl,⟨o,e,r⟩,i⟩:=x
 exact ⟨a,ys,rfl,⟨o,k _ _ e,r⟩,i⟩
theorem US {l:Addr} {xs:Array Value} {nss:List (List Int)} {Q:Value→Shared→Prop} (hh:A.handled=none) (hu:A.units + 1 < cLine) (hl:s.heap.IsList l xs) (hx:∀ (i:Nat) v,xs[i]?=some v→IsLs s.heap v (nss.getD i [])) (hn:0 < xs.size)
  (h:∀ v h' tk,xs[argBest (fun i j=>zP (nss.getD i []) (nss.getD j [])) (xs.size - 1)]?=some v→(∀ b o,s.heap.get? b=some o→h'.get? b=some o)→Q v { s with heap:=h',toks:=tk }) :
  wpAny (model prog w) A (call (.builtin "min") [.ref l]) Q E s:=by
 have nm:(toString "min" ++ toString ".loop" : String) = "min.loop" := by decide
 refine call_function_tree F.kind_min F.plain_min F.entry_min (F.args_min1 _) ?_
 refine wpAny_bind (m:=Builtin.Builtins.bindParams "min" ["key", "default"] 0 ⟨[],[]⟩) (wpAny_of_eq (a:=[none,none]) rfl ?_)
 refine wpAny_bind (wpAny_pure ?_)
 have hlt:l < s.heap.objs.size:=by obtain ⟨_,e,_⟩:=hl; exact ζq e
 refine wpAny_bind (wpAny_pyIter_list hl ?_)
 refine wpAny_bind (wpAny_newObj_type ?_)
 rw [nm]
 generalize hI:({ cls:=.type "list_iterator", data:=.fields #[.ref l,.int 0 0] }:Obj)=it
 have hT:(s.heap.push it).get? s.heap.objs.size=some it:=ζB _ (by rw [← hI]; rfl)
 have sz:(s.heap.push it).objs.size=s.heap.objs.size + 1:=Heap.size_push ..
 have old:∀ b o,s.heap.get? b=some o→∀ o2,((s.heap.push it).push o2).get? b=some o:=fun b o e o2=>ζh _ (ζh _ e)
 refine wpAny_pure ⟨plainId_quiet F.plain_min_loop _,Vq (h0:=s.heap) (bt:=fun i j=>zP (nss.getD i []) (nss.getD j [])) (T:=s.heap.objs.size) (l:=l) (xs:=xs) hh (ζA hlt) (by rw [sz]; exact ξs (ξ3 _)) (by rw [sz]; exact ξs (ξu hlt)) (fun i j x y s1 Q1 E1 e1 e2 kb q=>?_) hn ⟨⟨it,ζh _ hT,by rw [← hI],by rw [← hI]; rfl⟩,?_⟩ (fun b o _ _ e=>old b o e _) (ζB _ rfl) fun v h' tk hv kb=>h v h' tk hv fun b o e=>kb b o ?_ ?_ e⟩
 ·have n1:∀ {b o},s.heap.get? b=some o→s1.heap.get? b=some o:=fun {b o} e=>kb b o (ζA (ζq e)) (by rw [sz]; exact ζA (ξu (ζq e))) e
  obtain ⟨a1,y1,rfl,l1,i1⟩:=(hx i x e1).keep fun b o e=>n1 e
  obtain ⟨a2,y2,rfl,l2,i2⟩:=(hx j y e2).keep fun b o e=>n1 e
  exact QK l1 l2 i1 i2 hu q
 ·obtain ⟨o,e,r⟩:=hl
  exact ⟨o,old l o e _,r⟩
 ·exact ζA (ζq e)
 ·rw [sz]
  exact ζA (ξu (ζq e))
end
end L2
namespace L2
open PySem PySem.Spec PyProof.Rows
theorem tI:∀ a:List Int,zP a a=false
 | []=>rfl
 | x :: a=>by unfold zP; rw [if_pos rfl]; exact tI a
theorem Yl:∀ {a b c:List Int},zP a b=true→zP b c=true→zP a c=true
 | [],[],_,h,_=>by unfold zP at h; cases h
 | [],_ :: _,[],_,h=>by unfold zP at h; cases h
 | [],_ :: _,_ :: _,_,_=>by unfold zP; rfl
 | _ :: _,[],_,h,_=>by unfold zP at h; cases h
 | _ :: _,_ :: _,[],_,h=>by unfold zP at h; cases h
 | x :: a,y :: b,z :: c,h1,h2=>by
  unfold zP at h1 h2 ⊢
  by_cases e1:x=y
  ·rw [if_pos e1] at h1
   subst e1
   by_cases e2:x=z
   ·rw [if_pos e2] at h2 ⊢
    exact Yl h1 h2
   ·rw [if_neg e2] at h2 ⊢
    exact h2
  ·rw [if_neg e1] at h1
   have h1:=of_decide_eq_true h1
   by_cases e2:y=z
   ·subst e2
    rw [if_neg e1]
    exact decide_eq_true h1
   ·rw [if_neg e2] at h2
    have h2:=of_decide_eq_true h2
    rw [if_neg (by omega)]
    exact decide_eq_true (by omega)
theorem Xd:∀ {a b:List Int},a≠b→zP a b=true∨zP b a=true
 | [],[],h=>absurd rfl h
 | [],_ :: _,_=>.inl (by unfold zP; rfl)
 | _ :: _,[],_=>.inr (by unfold zP; rfl)
 | x :: a,y :: b,h=>by
  unfold zP
  by_cases e:x=y
  ·rw [if_pos e,if_pos e.symm]
   exact Xd fun z=>h (by rw [e,z])
  ·rw [if_neg e,if_neg fun z=>e z.symm]
   rcases Int.lt_or_gt_of_ne e with z | z
   ·exact .inl (decide_eq_true z)
   ·exact .inr (decide_eq_true z)
def minL (nss:List (List Int)):List Int:=nss.getD (argBest (fun i j=>zP (nss.getD i []) (nss.getD j [])) (nss.length - 1)) []
theorem ZB (bt:Nat→Nat→Bool):∀ k,argBest bt k≤k
 | 0=>ζi _
 | k + 1=>by
  have:=ZB bt k
  unfold argBest
  split <;> omega
theorem wq (f:Nat→List Int):∀ k i,i≤k→zP (f i) (f (argBest (fun i j=>zP (f i) (f j)) k))=false
 | 0,i,h=>by
  obtain rfl:i=0:=by omega
  exact tI _
 | k + 1,i,h=>by
  unfold argBest
  cases c:zP (f (k + 1)) (f (argBest (fun i j=>zP (f i) (f j)) k)) with
  | true =>
   rw [if_pos rfl]
   by_cases e:i=k + 1
   ·rw [e]; exact tI _
   ·refine ξY.mpr fun z=>?_
    have:=wq f k i (by omega)
    rw [Yl z c] at this
    cases this
  | false =>
   rw [if_neg (by simp)]
   by_cases e:i=k + 1
   ·rw [e]; exact c
   ·exact wq f k i (by omega)
theorem Wt {nss:List (List Int)} (h:nss≠[]):minL nss∈nss:=by
 have l:=ξP.mpr h
 have:=ZB (fun i j=>zP (nss.getD i []) (nss.getD j [])) (nss.length - 1)
 unfold minL
 rw [ζe,ζm (by omega)]
 exact ξ4 _
theorem Zb {nss:List (List Int)} {ns:List Int} (h:ns∈nss):zP ns (minL nss)=false:=by
 obtain ⟨i,hi,rfl⟩:=ξA.mp h
 have:=wq (fun i=>nss.getD i []) (nss.length - 1) i (by omega)
 rw [ζe,ζm hi] at this
 exact this
def T9 (K:ζa):List V→Hp→VK→Prop:=fun xs H Q=>∃ p ws,∃ nss:List (List Int),xs=[.ref p]∧SqL K H p ws∧ws.length=nss.length∧0 < nss.length∧(∀ (i:Nat) v,ws[i]?=some v→∃ a,v=.ref a∧SqL K H a ((nss.getD i []).map V.int)) ∧
 ∀ v,ws[argBest (fun i j=>zP (nss.getD i []) (nss.getD j [])) (nss.length - 1)]?=some v→Q v H
theorem uO:∀ {ws:List V} {its:List Value} {i:Nat} {u:Value},Vals ws its→its[i]?=some u→∃ v,ws[i]?=some v∧RelV v u
 | _,_,_,_,.nil,h=>by cases h
 | _,_,0,_,.cons r _,h=>by cases h; exact ⟨_,rfl,r⟩
 | _,_,i + 1,_,.cons _ t,h=>uO (i:=i) t (by simpa using h)
section
variable {X:Cx} {K:ζa}
theorem Th (hc:X.calm=true) (hu:X.A.units + 1 < cLine):yQ X (.builtin "min") (T9 X.K):=by
 intro pins s σ H xs us Q I r h
 obtain ⟨p,ws,nss,rfl,hq,hl,h0,ha,q⟩:=h
 obtain ⟨u,rfl,rx⟩:=vP r
 cases rx
 obtain ⟨its,r',pl,hz⟩:=I.list hq
 have hl':=r'.length
 refine US (nss:=nss) (I.ok.hd hc) hu pl.isList (fun i v hv=>?_) (by simp; omega) fun v h' tk hv hk=>?_
 ·obtain ⟨y,hy,ry⟩:=uO (u:=v) r' (by simpa using hv)
  obtain ⟨a,rfl,sq⟩:=ha i y hy
  cases ry
  obtain ⟨js,rj,pj,_⟩:=I.list sq
  exact ⟨a,js.toArray,rfl,pj.isList,by simpa using v5 rj⟩
 ·have e:its.toArray.size - 1=nss.length - 1:=by simp; omega
  rw [e] at hv
  obtain ⟨y,hy,ry⟩:=uO (u:=v) r' (by simpa using hv)
  exact ⟨y,H,I.kept hk,ry,q y hy⟩
theorem Zv (hK:X.K=K) (hc:X.calm=true) (hu:X.A.units + 1 < cLine):yQ X (.builtin "min") (T9 K):=by subst hK; exact Th hc hu
end
end L2
namespace PD
open PySem L2
section
variable {K:ζa} {S S':Sx} {κ κ':Bool} {Γ Γ' Γ'':Ctx} {P:Post}
theorem Uh {ta:TE} {nss:List (List Int)} (ha:EvL K S κ ta Γ (nss.map fun ns=>.list (ns.map .int))) (h0:nss≠[]):EvE K S κ (tCB (T9 K) (ye ta tNil)) Γ (.list ((minL nss).map .int)):=fun H0 F0 H F σ e Q q =>
 ha H0 F0 H F σ e _ fun a vs H1 F1 g1 h1 p1=>by
  have hl:=zn.length p1
  rw [ζb] at hl
  have l0:=ξP.mpr h0
  refine ⟨a,vs,nss,rfl,h1,hl,l0,fun i v hv=>?_,fun v hv=>?_⟩
  ·obtain ⟨d,hd,r⟩:=zn.get' p1 hv
   rw [ζG] at hd
   cases hn:nss[i]? with
   | none=>rw [hn] at hd; cases hd
   | some ns =>
    rw [hn] at hd
    cases hd
    obtain ⟨b,us,rfl,h2,h3⟩:=tU r
    cases yj (ya h3)
    refine ⟨b,rfl,?_⟩
    rw [ζe,hn]
    exact g1.le.seq h2.sq
  ·obtain ⟨d,hd,r⟩:=zn.get' p1 hv
   rw [ζG] at hd
   refine q v H1 F1 g1 ?_
   unfold minL
   rw [ζe]
   cases hn:nss[argBest (fun i j=>zP (nss.getD i []) (nss.getD j [])) (nss.length - 1)]? with
   | none=>rw [hn] at hd; cases hd
   | some ns =>
    rw [hn] at hd
    cases hd
    exact r
end
section
variable {K:ζa} {S S':Sx} {κ κ':Bool} {Γ Γ' Γ'':Ctx} {P:Post} {E:XK}
end
section
variable {K:ζa} {S S':Sx} {κ κ':Bool} {Γ Γ' Γ'' Γ3:Ctx} {P:Post} {E:XK}
theorem U9 {t:TE} {tl th:TO} {G:PyData→Prop} {lo hi:Option Int} (h:EvG K S κ t Γ G) (hg:∀ d,G d→∃ xs,d=.list xs) (hl:EvP K S tl Γ lo) (hh:EvP K S th Γ hi):EvG K S κ (tSl (rSlL K) t tl th) Γ (fun d=>∃ xs,G (.list xs)∧d=.list (cutD xs lo hi)):=fun H0 F0 H F σ e Q q =>
 h H0 F0 H F σ e _ fun d v H1 F1 hd g1 p1=>by
  obtain ⟨xs,rfl⟩:=hg d hd
  obtain ⟨a,vs,rfl,h1,k1⟩:=tU p1
  refine hl H0 F0 H1 F1 σ (e.mono g1) _ fun H2 F2 g2=>hh H0 F0 H2 F2 σ ((e.mono g1).mono g2) _ fun H3 F3 g3=>⟨a,vs,rfl,(g2.h.trans g3.h).seq (g1.le.seq h1.sq),fun p hp=>?_⟩
  exact q _ _ _ (upd F3 p _) ⟨xs,hd,rfl⟩ (((g1.trans g2).trans g3).trans (.new g3.le hp _)) (.lst (LN.new ((((e.mono g1).mono g2).mono g3).out hp)) (zq (Same.new (g3.le.free hp) _) (zap (zq (g2.f.trans g3.f) k1))))
end
end PD
namespace Dsp
variable {pa:Nat→Nat→Prop} {Z:Nat→Prop} {rk:Nat→Nat} {q:Nat→Nat→Nat→Bool} {x y:Nat}
def vv (q:Nat→Nat→Nat→Bool):Option Nat→Nat→Option Nat→Nat
 | some a,v,some b=>if q a v b=true then 1 else 0
 | _,_,_=>0
def vc (q:Nat→Nat→Nat→Bool):List Nat→Nat
 | a :: v :: l=>vv q (some a) v l.head? + vc q (v :: l)
 | _=>0
theorem xR (A:List Nat) (v:Nat) (B:List Nat):vc q (A ++ v :: B)=vc q (A ++ [v]) + vv q A.getLast? v B.head? + vc q (v :: B):=by
 induction A with
 | nil=>show vc q (v :: B)=0 + 0 + vc q (v :: B); omega
 | cons a A ih =>
  cases A with
  | nil=>show vv q (some a) v B.head? + vc q (v :: B)=(0 + 0) + vv q (some a) v B.head? + vc q (v :: B); omega
  | cons b A =>
   have e1:vc q (a :: b :: A ++ v :: B)=vv q (some a) b (A ++ v :: B).head? + vc q (b :: A ++ v :: B):=rfl
   have e2:vc q (a :: b :: A ++ [v])=vv q (some a) b (A ++ [v]).head? + vc q (b :: A ++ [v]):=rfl
   have e3:(A ++ v :: B).head?=(A ++ [v]).head?:=by cases A <;> rfl
   have e4:(a :: b :: A).getLast?=(b :: A).getLast?:=List.getLast?_cons_cons
   rw [e1,e2,e3,e4,ih]
   omega
theorem zds (hq:∀ a v b,q a v b=true↔pa a v∧pa b v) (a:Option Nat) (v:Nat) (b:Option Nat):vv q a v b=vv q b v a:=by
 cases a with
 | none=>cases b <;> rfl
 | some a=>cases b with
  | none=>rfl
  | some b =>
   show (if q a v b=true then 1 else 0)=(if q b v a=true then 1 else 0)
   have:q a v b=true↔q b v a=true:=by rw [hq,hq]; exact And.comm
   by_cases c:q a v b=true
   ·rw [if_pos c,if_pos (this.mp c)]
   ·rw [if_neg c,if_neg fun z=>c (this.mpr z)]
theorem WY (hq:∀ a v b,q a v b=true↔pa a v∧pa b v):∀ l:List Nat,vc q l.reverse=vc q l
 | []=>rfl
 | [a]=>rfl
 | a :: v :: s=>by
  have ih:=WY hq (v :: s)
  rw [ζW] at ih
  rw [ζW,ζW,ζX]
  show vc q (s.reverse ++ v :: [a])=vv q (some a) v s.head? + vc q (v :: s)
  rw [xR,ih,List.getLast?_reverse,zds hq]
  show vc q (v :: s) + vv q (some a) v s.head? + (0 + 0)=_
  omega
theorem xW (A:List Nat) (v:Nat) (B:List Nat):Ok pa Z (A ++ v :: B)↔Ok pa Z (A ++ [v])∧Ok pa Z (v :: B)∧∀ a b,A.getLast?=some a→B.head?=some b→Cd pa Z b v a:=by
 constructor
 ·intro h
  refine ⟨Ok.pre (B:=B) (by rw [ζX]; exact h),h.suf,fun a b ha hb=>?_⟩
  exact Ok.at hb h ha
 ·rintro ⟨h1,h2,h3⟩
  induction A with
  | nil=>exact h2
  | cons a A ih =>
   cases A with
   | nil =>
    have:=zO.mp (show Ok pa Z (a :: v :: []) from h1)
    exact zO.mpr ⟨this.1,fun t ht=>h3 a t rfl ht,h2⟩
   | cons b A =>
    have:=zO.mp (show Ok pa Z (a :: b :: (A ++ [v])) from h1)
    refine zO.mpr ⟨this.1,fun t ht=>this.2.1 t ?_,ih this.2.2 fun c d hc hd=>h3 c d (by rw [List.getLast?_cons_cons]; exact hc) hd⟩
    rw [← ht]
    cases A <;> rfl
def Dn (pa:Nat→Nat→Prop):Nat→List Nat→Nat→Prop
 | v,[],w=>pa v w
 | v,d :: D,w=>pa v d∧Dn pa d D w
theorem Dn.lt (dag:∀ a b,pa a b→rk a < rk b):∀ {D:List Nat} {v w:Nat},Dn pa v D w→rk v < rk w∧∀ d∈D,rk v < rk d∧rk d < rk w
 | [],v,w,h=>⟨dag _ _ h,fun _ z=>(nomatch z)⟩
 | d :: D,v,w,h=>by
  have ih:=Dn.lt dag h.2
  have:=dag _ _ h.1
  refine ⟨by omega,fun e he=>?_⟩
  rcases ζo.mp he with rfl | he
  ·exact ⟨this,ih.1⟩
  ·have:=ih.2 e he
   omega
theorem Dn.nd (dag:∀ a b,pa a b→rk a < rk b):∀ {D:List Nat} {v w:Nat},Dn pa v D w→D.Nodup
 | [],_,_,_=>ζ1
 | d :: D,v,w,h=>ζC.mpr ⟨fun z=>by have:=(Dn.lt dag h.2).2 d z; omega,Dn.nd dag h.2⟩
theorem Dn.head {D C:List Nat} {v w b:Nat} (h:Dn pa v D w) (hb:(D ++ w :: C).head?=some b):pa v b:=by
 cases D with
 | nil=>cases hb; exact h
 | cons d D=>cases hb; exact h.1
theorem Dn.last:∀ {D:List Nat} {v w a:Nat},Dn pa v D w→(v :: D).getLast?=some a→pa a w
 | [],v,w,a,h,e=>by cases e; exact h
 | d :: D,v,w,a,h,e=>by rw [List.getLast?_cons_cons] at e; exact Dn.last h.2 e
theorem x6 (dag:∀ a b,pa a b→rk a < rk b) {a b:Nat} (h:pa a b):¬ pa b a:=fun z=>by
 have:=dag _ _ h
 have:=dag _ _ z
 omega
theorem Dn.ok (dag:∀ a b,pa a b→rk a < rk b):∀ {D:List Nat} {v w:Nat},Dn pa v D w→(∀ d∈D,¬ Z d)→Ok pa Z (v :: (D ++ [w]))
 | [],v,w,h,_=>zO.mpr ⟨.inr h,fun t ht=>(by cases ht),uS⟩
 | d :: D,v,w,h,nz=>zO.mpr ⟨.inr h.1,fun t ht=>by
   have dt:pa d t:=Dn.head (C:=[]) h.2 ht
   exact ⟨fun c=>absurd c.1 (x6 dag dt),fun _=>nz d ζg⟩,Dn.ok dag h.2 fun e he=>nz e (ζl _ he)⟩
theorem Dn.vc (dag:∀ a b,pa a b→rk a < rk b) (hq:∀ a v b,q a v b=true↔pa a v∧pa b v):∀ {D:List Nat} {v w:Nat},Dn pa v D w→vc q (v :: (D ++ [w]))=0
 | [],v,w,h=>rfl
 | d :: D,v,w,h=>by
  have ih:=Dn.vc dag hq h.2
  show vv q (some v) d (D ++ [w]).head? + Dsp.vc q (d :: (D ++ [w]))=0
  rw [ih]
  cases e:(D ++ [w]).head? with
  | none=>rfl
  | some t =>
   have dt:pa d t:=Dn.head (C:=[]) h.2 e
   show (if q v d t=true then 1 else 0) + 0=0
   rw [if_neg fun z=>x6 dag dt ((hq _ _ _).mp z).2]
theorem Uw (dag:∀ a b,pa a b→rk a < rk b) (hq:∀ a v b,q a v b=true↔pa a v∧pa b v):∀ (m:Nat) (B:List Nat) (v w a:Nat),B.length=m→vc q (v :: B ++ [w])=0→Ok pa Z (v :: B ++ [w])→(v :: B).getLast?=some a→pa w a→rk w < rk v
 | 0,B,v,w,a,l,_,_,e,h=>by
  rw [ζ6.mp l] at e
  cases e
  exact dag _ _ h
 | m + 1,B,v,w,a,l,hv,ho,e,h=>by
  obtain ⟨B',a',rfl⟩:∃ B' a',B=B' ++ [a']:=by
   rcases ζY B with rfl | ⟨t,k,e⟩
   ·cases l
   ·exact ⟨t,k,by rw [e,ζZ]⟩
  have ea:a'=a:=by
   rw [← ξe,List.getLast?_append] at e
   cases e
   rfl
  subst ea
  have e1:v :: (B' ++ [a']) ++ [w]=(v :: B') ++ a' :: [w]:=by simp
  rw [e1] at hv ho
  rw [xR] at hv
  obtain ⟨o1,o2,o3⟩:=(xW _ _ _).mp ho
  cases f:(v :: B').getLast? with
  | none=>simp at f
  | some c =>
   rw [f] at hv
   have nv:¬ q c a' w=true:=fun z=>by
    have:vv q (some c) a' [w].head?=1:=if_pos z
    omega
   have ac:Adj pa a' c:=by
    obtain ⟨t,k,ek⟩:∃ t k,v :: B'=t ++ [k]:=by
     rcases ζY (v :: B') with z | ⟨t,k,z⟩
     ·cases z
     ·exact ⟨t,k,by rw [z,ζZ]⟩
    have fk:k=c:=by
     rw [ek,List.getLast?_append] at f
     exact ζI f
    rw [fk] at ek
    rw [ek,ζX] at o1
    exact (zO.mp (show Ok pa Z (c :: a' :: []) from o1.suf)).1
   have pc:pa a' c:=ac.resolve_right fun z=>nv ((hq _ _ _).mpr ⟨z,h⟩)
   rw [ζd] at l
   have:=Uw dag hq m B' v a' c (by simpa using l) (by omega) o1 f pc
   have:=dag _ _ h
   omega
structure Rt (pa:Nat→Nat→Prop) (Z:Nat→Prop) (x y:Nat) (l:List Nat):Prop where
 ok:Ok pa Z l
 nd:l.Nodup
 hd:l.head?=some x
 la:l.getLast?=some y
theorem QA {A B C D:List Nat} {v w:Nat} (h:(A ++ v :: (B ++ w :: C)).Nodup) (dn:D.Nodup) (hd:∀ d∈D,d∉A ++ v :: (B ++ w :: C)):(A ++ v :: (D ++ w :: C)).Nodup:=by
 obtain ⟨h1,h2,h3⟩:=ζD.mp h
 obtain ⟨h4,h5⟩:=ζC.mp h2
 obtain ⟨h6,h7,h8⟩:=ζD.mp h5
 refine ζD.mpr ⟨h1,ζC.mpr ⟨fun z=>?_,ζD.mpr ⟨dn,h7,fun a ha b hb e=>hd a ha ?_⟩⟩,fun a ha b hb e=>?_⟩
 ·rcases ζs.mp z with z | z
  ·exact hd v z (ζk _ ζg)
  ·exact h4 (ζk _ z)
 ·rw [e]
  exact ζk _ (ζl _ (ζk _ hb))
 ·rcases ζo.mp hb with hb | hb
  ·exact h3 a ha b (hb ▸ ζg) e
  ·rcases ζs.mp hb with hb | hb
   ·exact hd b hb (e ▸ ζz _ ha)
   ·exact h3 a ha b (ζl _ (ζk _ hb)) e
theorem uE {A B:List Nat} (h:A≠[]):(A ++ B).head?=A.head?:=by cases A with | nil=>exact absurd rfl h | cons _ _=>rfl
theorem yP {A B:List Nat} {v:Nat}:(A ++ v :: B).getLast?=(v :: B).getLast?:=by rw [List.getLast?_append]; cases e:(v :: B).getLast? with | none=>simp at e | some _=>rfl
theorem zbG (dag:∀ a b,pa a b→rk a < rk b) (hq:∀ a v b,q a v b=true↔pa a v∧pa b v) {A B C D:List Nat} {v w a b:Nat} (hr:Rt pa Z x y (A ++ v :: (B ++ w :: C))) (min:∀ l,Rt pa Z x y l→vc q (A ++ v :: (B ++ w :: C))≤vc q l)
  (ha:A.getLast?=some a) (hb:(B ++ w :: C).head?=some b) (va:pa a v) (vb:pa b v) (dn:Dn pa v D w) (hd:∀ d∈D,d∉A ++ v :: (B ++ w :: C)) (nv:¬ Z v) (nd:∀ d∈D,¬ Z d) (hw:Hi pa Z w):False:=by
 have A0:A≠[]:=fun z=>by rw [z] at ha; cases ha
 obtain ⟨o1,o2,o3⟩:=(xW _ _ _).mp hr.ok
 obtain ⟨o4,o5,o6⟩:=(xW (v :: B) w C).mp o2
 have d1:=dn.ok dag nd
 have dv:=dn.vc dag hq
 have okw:∀ a' b',(v :: D).getLast?=some a'→C.head?=some b'→Cd pa Z b' w a':=fun a' b' h1 h2=>⟨fun _=>hw,fun n z=>by
  cases e:(v :: B).getLast? with
  | none=>simp at e
  | some c =>
   have cd:=o6 c b' e h2
   by_cases k:pa b' w
   ·exact n ⟨k,dn.last h1⟩
   ·exact cd.2 (fun z=>k z.1) z⟩
 have ok2:Ok pa Z (v :: (D ++ w :: C)):=(xW (v :: D) w C).mpr ⟨d1,o5,okw⟩
 have ok1:Ok pa Z (A ++ v :: (D ++ w :: C)):=(xW _ _ _).mpr ⟨o1,ok2,fun a' b' h1 h2=>by
  have p:=dn.head h2
  exact ⟨fun c=>absurd c.1 (x6 dag p),fun _=>nv⟩⟩
 have le:=min _ ⟨ok1,QA hr.nd (dn.nd dag) hd,by rw [uE A0]; have:=hr.hd; rwa [uE A0] at this,by
  have:=hr.la
  rw [yP,← ξe,yP] at this
  rw [yP,← ξe,yP]
  exact this⟩
 rw [xR,xR A v (D ++ w :: C)] at le
 have s1:vc q (v :: (B ++ w :: C))=vc q (v :: B ++ [w]) + vv q (v :: B).getLast? w C.head? + vc q (w :: C):=xR (v :: B) w C
 have s2:vc q (v :: (D ++ w :: C))=vc q (v :: D ++ [w]) + vv q (v :: D).getLast? w C.head? + vc q (w :: C):=xR (v :: D) w C
 have dv':vc q (v :: D ++ [w])=0:=dv
 have t1:vv q A.getLast? v (B ++ w :: C).head?=1:=by rw [ha,hb]; exact if_pos ((hq _ _ _).mpr ⟨va,vb⟩)
 have t2:vv q A.getLast? v (D ++ w :: C).head?=0:=by
  cases e:(D ++ w :: C).head? with
  | none=>rw [ha]; rfl
  | some d =>
   rw [ha]
   exact if_neg fun z=>x6 dag (dn.head e) ((hq _ _ _).mp z).2
 have one:∀ o1 o2,vv q o1 w o2≤1:=fun o1 o2=>by
  cases o1 with
  | none=>exact ζE _
  | some _=>cases o2 with
   | none=>exact ζE _
   | some _=>show (if _ then 1 else 0)≤1; split <;> omega
 have m1:=one (v :: D).getLast? C.head?
 rw [t1,t2,s1,s2,dv'] at le
 have z1:vc q (v :: B ++ [w])=0:=by omega
 have z2:vv q (v :: B).getLast? w C.head?=0:=by omega
 have z3:vv q (v :: D).getLast? w C.head?=1:=by omega
 cases eC:C.head? with
 | none=>rw [eC] at z3; cases h:(v :: D).getLast? with | none=>rw [h] at z3; cases z3 | some _=>rw [h] at z3; cases z3
 | some c =>
  cases eB:(v :: B).getLast? with
  | none=>simp at eB
  | some e =>
   cases eD:(v :: D).getLast? with
   | none=>simp at eD
   | some f =>
    rw [eC,eD] at z3
    rw [eC,eB] at z2
    have qc:q f w c=true:=Classical.byContradiction fun z=>by rw [show vv q (some f) w (some c)=0 from if_neg z] at z3; cases z3
    have qe:¬ q e w c=true:=fun z=>by rw [show vv q (some e) w (some c)=1 from if_pos z] at z2; cases z2
    have cw:=((hq _ _ _).mp qc).2
    have ae:Adj pa w e:=by
     obtain ⟨t,k,ek⟩:∃ t k,v :: B=t ++ [k]:=by
      rcases ζY (v :: B) with z | ⟨t,k,z⟩
      ·cases z
      ·exact ⟨t,k,by rw [z,ζZ]⟩
     have fk:k=e:=by
      rw [ek,List.getLast?_append] at eB
      exact ζI eB
     rw [fk] at ek
     rw [ek,ζX] at o4
     exact (zO.mp (show Ok pa Z (e :: w :: []) from o4.suf)).1
    have we:pa w e:=ae.resolve_right fun z=>qe ((hq _ _ _).mpr ⟨z,cw⟩)
    have:=Uw dag hq _ B v w e rfl z1 o4 eB we
    have:=(dn.lt dag).1
    omega
theorem Rt.rev {l:List Nat} (h:Rt pa Z x y l):Rt pa Z y x l.reverse:=⟨h.ok.rev,by
 exact ξ9.mpr (h.nd.imp fun hn e=>hn e.symm),by rw [List.head?_reverse]; exact h.la,by rw [List.getLast?_reverse]; exact h.hd⟩
theorem zbF (dag:∀ a b,pa a b→rk a < rk b) (hq:∀ a v b,q a v b=true↔pa a v∧pa b v) {A B C D E:List Nat} {u v t a b c d:Nat} (hr:Rt pa Z x y (A ++ u :: (B ++ v :: C))) (min:∀ l,Rt pa Z x y l→vc q (A ++ u :: (B ++ v :: C))≤vc q l)
  (ha:A.getLast?=some a) (hb:(B ++ v :: C).head?=some b) (ua:pa a u) (ub:pa b u) (hc:(u :: B).getLast?=some c) (hd:C.head?=some d) (vc':pa c v) (vd:pa d v)
  (de:Dn pa u E t) (dd:Dn pa v D t) (hE:∀ e∈E,e∉A ++ u :: (B ++ v :: C)) (hD:∀ e∈D,e∉A ++ u :: (B ++ v :: C)) (ht:t∉A ++ u :: (B ++ v :: C)) (ED:∀ e∈E,e∉D) (nu:¬ Z u) (nv:¬ Z v) (nE:∀ e∈E,¬ Z e) (nD:∀ e∈D,¬ Z e) (hi:Hi pa Z t):False:=by
 have A0:A≠[]:=fun z=>by rw [z] at ha; cases ha
 obtain ⟨o1,o2,o3⟩:=(xW _ _ _).mp hr.ok
 obtain ⟨o4,o5,o6⟩:=(xW (u :: B) v C).mp o2
 have e1:=de.ok dag nE
 have ve:=de.vc dag hq
 have f1:Ok pa Z (t :: D.reverse ++ [v]):=by
  have:=(dd.ok dag nD).rev
  rw [show (v :: (D ++ [t])).reverse=t :: D.reverse ++ [v] by simp] at this
  exact this
 have vf:vc q (t :: D.reverse ++ [v])=0:=by
  have:=dd.vc dag hq
  rw [← WY hq,show (v :: (D ++ [t])).reverse=t :: D.reverse ++ [v] by simp] at this
  exact this
 have lastD:∀ a',(t :: D.reverse).getLast?=some a'→pa v a':=fun a' h=>by
  have:(t :: D.reverse).getLast?=(D ++ t :: []).head?:=by rw [← List.head?_reverse]; simp
  rw [this] at h
  exact dd.head h
 have headD:∀ b',(D.reverse ++ v :: C).head?=some b'→pa b' t:=fun b' h=>by
  have:(D.reverse ++ v :: C).head?=(v :: D).getLast?:=by
   rcases ζY D with rfl | ⟨D',k,rfl⟩
   ·rfl
   ·rw [ζZ,List.reverse_append,← ξe,List.getLast?_append]
    rfl
  rw [this] at h
  exact dd.last h
 have ok3:Ok pa Z (t :: (D.reverse ++ v :: C)):=(xW (t :: D.reverse) v C).mpr ⟨f1,o5,fun a' b' h1 h2=>⟨fun z=>absurd z.2 (x6 dag (lastD a' h1)),fun _=>nv⟩⟩
 have ok2:Ok pa Z (u :: (E ++ t :: (D.reverse ++ v :: C))):=(xW (u :: E) t _).mpr ⟨e1,ok3,fun a' b' h1 h2=>⟨fun _=>hi,fun n=>absurd ⟨headD b' h2,de.last h1⟩ n⟩⟩
 have ok1:Ok pa Z (A ++ u :: (E ++ t :: (D.reverse ++ v :: C))):=(xW _ _ _).mpr ⟨o1,ok2,fun a' b' h1 h2=>⟨fun z=>absurd z.1 (x6 dag (de.head h2)),fun _=>nu⟩⟩
 have nd:(A ++ u :: (E ++ t :: (D.reverse ++ v :: C))).Nodup:=by
  have rE:=de.lt dag
  have rD:=dd.lt dag
  have:(A ++ u :: ((E ++ t :: D.reverse) ++ v :: C)).Nodup:=QA hr.nd (ζD.mpr ⟨de.nd dag,ζC.mpr ⟨fun z=>by have:=(rD.2 t (ξc.mp z)).2; omega,ξ9.mpr ((dd.nd dag).imp fun hn e=>hn e.symm)⟩,fun e he f hf z=>by
    rcases ζo.mp hf with hf | hf
    ·have:=(rE.2 e he).2
     rw [z,hf] at this
     omega
    ·exact ED e he (z ▸ ξc.mp hf)⟩) fun e he=>by
   rcases ζs.mp he with he | he
   ·exact hE e he
   ·rcases ζo.mp he with he | he
    ·rw [he]; exact ht
    ·exact hD e (ξc.mp he)
  rw [ζX] at this
  exact this
 have le:=min _ ⟨ok1,nd,by rw [uE A0]; have:=hr.hd; rwa [uE A0] at this,by
  have:=hr.la
  rw [yP,← ξe,yP] at this
  rw [yP,← ξe,yP,← ξe,yP]
  exact this⟩
 have s0:vc q (A ++ u :: (B ++ v :: C))=vc q (A ++ [u]) + vv q A.getLast? u (B ++ v :: C).head? + vc q (u :: (B ++ v :: C)):=xR ..
 have s1:vc q (u :: (B ++ v :: C))=vc q (u :: B ++ [v]) + vv q (u :: B).getLast? v C.head? + vc q (v :: C):=xR (u :: B) v C
 have s2:vc q (A ++ u :: (E ++ t :: (D.reverse ++ v :: C)))=vc q (A ++ [u]) + vv q A.getLast? u (E ++ t :: (D.reverse ++ v :: C)).head? + vc q (u :: (E ++ t :: (D.reverse ++ v :: C))):=xR ..
 have s3:vc q (u :: (E ++ t :: (D.reverse ++ v :: C)))=vc q (u :: E ++ [t]) + vv q (u :: E).getLast? t (D.reverse ++ v :: C).head? + vc q (t :: (D.reverse ++ v :: C)):=xR (u :: E) t _
 have s4:vc q (t :: (D.reverse ++ v :: C))=vc q (t :: D.reverse ++ [v]) + vv q (t :: D.reverse).getLast? v C.head? + vc q (v :: C):=xR (t :: D.reverse) v C
 have ve':vc q (u :: E ++ [t])=0:=ve
 have t1:vv q A.getLast? u (B ++ v :: C).head?=1:=by rw [ha,hb]; exact if_pos ((hq _ _ _).mpr ⟨ua,ub⟩)
 have t2:vv q (u :: B).getLast? v C.head?=1:=by rw [hc,hd]; exact if_pos ((hq _ _ _).mpr ⟨vc',vd⟩)
 have t3:vv q A.getLast? u (E ++ t :: (D.reverse ++ v :: C)).head?=0:=by
  cases e:(E ++ t :: (D.reverse ++ v :: C)).head? with
  | none=>rw [ha]; rfl
  | some f=>rw [ha]; exact if_neg fun z=>x6 dag (de.head e) ((hq _ _ _).mp z).2
 have t4:vv q (t :: D.reverse).getLast? v C.head?=0:=by
  cases e:(t :: D.reverse).getLast? with
  | none=>simp at e
  | some f=>rw [hd]; exact if_neg fun z=>x6 dag (lastD f e) ((hq _ _ _).mp z).1
 have t5:vv q (u :: E).getLast? t (D.reverse ++ v :: C).head?≤1:=by
  cases (u :: E).getLast? with
  | none=>exact ζE _
  | some _=>cases (D.reverse ++ v :: C).head? with
   | none=>exact ζE _
   | some _=>show (if _ then 1 else 0)≤1; split <;> omega
 omega
def Wy (pa:Nat→Nat→Prop) (Z:Nat→Prop):Nat→List Nat→Prop
 | v,[]=>Z v
 | v,d :: T=>¬ Z v∧pa v d∧Wy pa Z d T
theorem Wy.split:∀ {D T:List Nat} {v w:Nat},Wy pa Z v (D ++ w :: T)→Dn pa v D w∧¬ Z v∧(∀ d∈D,¬ Z d)∧Wy pa Z w T
 | [],T,v,w,h=>⟨h.2.1,h.1,fun _ z=>(nomatch z),h.2.2⟩
 | d :: D,T,v,w,h=>by
  obtain ⟨a,b,c,e⟩:=Wy.split (D:=D) h.2.2
  refine ⟨⟨h.2.1,a⟩,h.1,fun f hf=>?_,e⟩
  rcases ζo.mp hf with rfl | hf
  ·exact b
  ·exact c f hf
theorem Wy.hi:∀ {T:List Nat} {v:Nat},Wy pa Z v T→Hi pa Z v
 | [],v,h=>⟨v,h,.refl _⟩
 | d :: T,v,h=>Hi.up (Wy.hi h.2.2) h.2.1
theorem Wy.lt (dag:∀ a b,pa a b→rk a < rk b):∀ {T:List Nat} {v:Nat},Wy pa Z v T→T.Nodup∧∀ t∈T,rk v < rk t
 | [],v,h=>⟨ζ1,fun _ z=>(nomatch z)⟩
 | d :: T,v,h=>by
  obtain ⟨a,b⟩:=Wy.lt dag h.2.2
  have:=dag _ _ h.2.1
  refine ⟨ζC.mpr ⟨fun z=>by have:=b d z; omega,a⟩,fun t ht=>?_⟩
  rcases ζo.mp ht with rfl | ht
  ·exact this
  ·have:=b t ht
   omega
theorem Zk {P:Nat→Prop}:∀ {T:List Nat},(∃ d∈T,P d)→∃ D w T2,T=D ++ w :: T2∧P w∧∀ d∈D,¬ P d
 | [],h=>by obtain ⟨_,h,_⟩:=h; cases h
 | t :: T,h=>by
  by_cases c:P t
  ·exact ⟨[],t,T,rfl,c,fun _ z=>(nomatch z)⟩
  ·obtain ⟨d,hd,hp⟩:=h
   rcases ζo.mp hd with rfl | hd
   ·exact absurd hp c
   ·obtain ⟨D,w,T2,e,h1,h2⟩:=Zk ⟨d,hd,hp⟩
    refine ⟨t :: D,w,T2,by rw [e]; rfl,h1,fun f hf=>?_⟩
    rcases ζo.mp hf with rfl | hf
    ·exact c
    ·exact h2 f hf
structure wB (pa:Nat→Nat→Prop) (r:List Nat) (v:Nat) (A B:List Nat):Prop where
 eq:r=A ++ v :: B
 l:∃ a,A.getLast?=some a∧pa a v
 r:∃ b,B.head?=some b∧pa b v
theorem wB.rev {r:List Nat} {v:Nat} {A B:List Nat} (h:wB pa r v A B):wB pa r.reverse v B.reverse A.reverse:=⟨by rw [h.eq]; simp,by
 obtain ⟨b,h1,h2⟩:=h.r
 exact ⟨b,by rw [List.getLast?_reverse]; exact h1,h2⟩,by
 obtain ⟨a,h1,h2⟩:=h.l
 exact ⟨a,by rw [List.head?_reverse]; exact h1,h2⟩⟩
theorem uP {v:Nat}:∀ {A A' B B':List Nat},A ++ v :: B=A' ++ v :: B'→(A ++ v :: B).Nodup→A=A'∧B=B'
 | [],[],B,B',e,_=>⟨rfl,by injection e⟩
 | [],a :: A',B,B',e,n=>by
  injection e with e1 e2
  exact absurd (by rw [e2]; exact ζk _ ζg) (ζC.mp n).1
 | a :: A,[],B,B',e,n=>by
  injection e with e1 e2
  rw [e1] at n
  exact absurd (ζk _ ζg) (ζC.mp n).1
 | a :: A,a' :: A',B,B',e,n=>by
  injection e with e1 e2
  obtain ⟨h1,h2⟩:=uP e2 (ζC.mp n).2
  exact ⟨by rw [e1,h1],h2⟩
section
variable (dag:∀ a b,pa a b→rk a < rk b) (hq:∀ a v b,q a v b=true↔pa a v∧pa b v)
include dag hq
theorem Yg {r A B T:List Nat} {v:Nat} (hr:Rt pa Z x y r) (min:∀ l,Rt pa Z x y l→vc q r≤vc q l) (ve:wB pa r v A B) {D T2:List Nat} {w:Nat} (wy:Wy pa Z v (D ++ w :: T2)) (hw:w∈B) (hd:∀ d∈D,d∉r):False:=by
 obtain ⟨B1,C,e⟩:=ξK hw
 obtain ⟨d1,d2,d3,d4⟩:=wy.split
 obtain ⟨a,a1,a2⟩:=ve.l
 obtain ⟨b,b1,b2⟩:=ve.r
 have er:=ve.eq
 rw [e] at er b1
 rw [er] at hr min hd
 exact zbG dag hq hr min a1 b1 a2 b2 d1 hd d2 d3 d4.hi
theorem tP {r A B T:List Nat} {v:Nat} (hr:Rt pa Z x y r) (min:∀ l,Rt pa Z x y l→vc q r≤vc q l) (ve:wB pa r v A B) (wy:Wy pa Z v T):∀ t∈T,t∉r:=fun t ht hm=>by
 obtain ⟨D,w,T2,e,h1,h2⟩:=Zk (P:=fun d=>d∈r) ⟨t,ht,hm⟩
 rw [e] at wy
 have wv:w≠v:=fun z=>by
  have:=(wy.lt dag).2 w (ζk _ ζg)
  rw [z] at this
  omega
 have h1':=h1
 rw [ve.eq] at h1'
 rcases ζs.mp h1' with z | z
 ·refine Yg (T:=T) dag hq hr.rev (fun l hl=>?_) ve.rev wy (ξc.mpr z) fun d hd=>by rw [ξc]; exact h2 d hd
  have:=min _ hl.rev
  rw [WY hq] at this ⊢
  exact this
 ·rcases ζo.mp z with z | z
  ·exact wv z
  ·exact Yg (T:=T) dag hq hr min ve wy z h2
theorem uZ {r A B A' B' T S:List Nat} {u v:Nat} (hr:Rt pa Z x y r) (min:∀ l,Rt pa Z x y l→vc q r≤vc q l) (ue:wB pa r u A B) (ve:wB pa r v A' B') (uv:v∈B) (us:Wy pa Z u S) (vt:Wy pa Z v T):∀ t∈S,t∉T:=fun t ht hm=>by
 have offS:=tP dag hq hr min ue us
 have offT:=tP dag hq hr min ve vt
 obtain ⟨E,t,S2,eS,h1,h2⟩:=Zk (P:=fun d=>d∈T) ⟨t,ht,hm⟩
 obtain ⟨D,T2,eT⟩:=ξK h1
 obtain ⟨B1,C,eB⟩:=ξK uv
 have er:=ue.eq
 rw [eB] at er
 have er2:r=(A ++ u :: B1) ++ v :: C:=by rw [er]; simp
 have nd:=hr.nd
 have sp:=uP (ve.eq.symm.trans er2) (ve.eq ▸ nd)
 obtain ⟨a,a1,a2⟩:=ue.l
 obtain ⟨b,b1,b2⟩:=ue.r
 obtain ⟨c,c1,c2⟩:=ve.l
 obtain ⟨d,e1,e2⟩:=ve.r
 rw [sp.1,yP] at c1
 rw [sp.2] at e1
 rw [eB] at b1
 rw [eS] at us offS
 rw [eT] at vt offT
 obtain ⟨s1,s2,s3,s4⟩:=us.split
 obtain ⟨t1,t2,t3,t4⟩:=vt.split
 rw [er] at hr min offS offT
 exact zbF dag hq hr min a1 b1 a2 b2 c1 e1 c2 e2 s1 t1 (fun e he=>offS e (ζz _ he)) (fun e he=>offT e (ζz _ he)) (offS t (ζk _ ζg)) (fun e he hd=>h2 e he (by rw [eT]; exact ζz _ hd)) s2 t2 s3 t3 s4.hi
theorem XQ {r A B A' B' T S:List Nat} {u v:Nat} (hr:Rt pa Z x y r) (min:∀ l,Rt pa Z x y l→vc q r≤vc q l) (ue:wB pa r u A B) (ve:wB pa r v A' B') (uv:u≠v) (us:Wy pa Z u S) (vt:Wy pa Z v T):∀ t∈S,t∉T:=fun t ht hm=>by
 have vm:v∈r:=by rw [ve.eq]; exact ζk _ ζg
 rw [ue.eq] at vm
 rcases ζs.mp vm with z | z
 ·have um:u∈B':=by
   obtain ⟨A1,A2,e⟩:=ξK z
   have er:r=A1 ++ v :: (A2 ++ u :: B):=by rw [ue.eq,e]; simp
   have sp:=uP (ve.eq.symm.trans er) (ve.eq ▸ hr.nd)
   rw [sp.2]
   exact ζk _ ζg
  exact uZ dag hq hr min ve ue um vt us t hm ht
 ·rcases ζo.mp z with z | z
  ·exact uv z.symm
  ·exact uZ dag hq hr min ue ve z us vt t ht hm
theorem Tm {r:List Nat} (hr:Rt pa Z x y r) (min:∀ l,Rt pa Z x y l→vc q r≤vc q l) (W:Nat→List Nat):∀ {vs:List Nat},vs.Nodup→(∀ v∈vs,(∃ A B,wB pa r v A B)∧Wy pa Z v (W v))→(r ++ (vs.map W).flatten).Nodup:=by
 intro vs nd h
 have key:∀ {vs:List Nat},vs.Nodup→(∀ v∈vs,(∃ A B,wB pa r v A B)∧Wy pa Z v (W v))→(vs.map W).flatten.Nodup:=fun {vs}=>by
  induction vs with
  | nil=>intro _ _; exact ζ1
  | cons u vs ih =>
   intro nd h
   obtain ⟨n1,n2⟩:=ζC.mp nd
   obtain ⟨⟨A,B,ue⟩,us⟩:=h u ζg
   rw [ζN,List.flatten_cons]
   refine ζD.mpr ⟨(us.lt dag).1,ih n2 fun v hv=>h v (ζl _ hv),fun a ha b hb e=>?_⟩
   obtain ⟨T,hT,hbT⟩:=List.mem_flatten.mp hb
   obtain ⟨v,hv,rfl⟩:=ζr.mp hT
   obtain ⟨⟨A',B',ve⟩,vt⟩:=h v (ζl _ hv)
   exact XQ dag hq hr min ue ve (fun z=>n1 (z ▸ hv)) us vt a ha (e ▸ hbT)
 refine ζD.mpr ⟨hr.nd,key nd h,fun a ha b hb e=>?_⟩
 obtain ⟨T,hT,hbT⟩:=List.mem_flatten.mp hb
 obtain ⟨v,hv,rfl⟩:=ζr.mp hT
 obtain ⟨⟨A',B',ve⟩,vt⟩:=h v hv
 exact tP dag hq hr min ve vt b hbT (e ▸ ha)
end
end Dsp
namespace PD
open PySem L2
section
variable {K:ζa} {S S':Sx} {κ κ':Bool} {Γ Γ' Γ'' Γ3:Ctx} {P:Post}
def EvC (K:ζa) (S:Sx) (t:TE) (Γ:Ctx) (d:PyData):Prop:=∀ (H0 F0 H F:Hp) (σ:St),DEnv K S H0 F0 H F σ Γ→∀ Q:VK,(∀ v H' F',Gr H F H' F'→Rp K true .fresh H F' v d→Q v H')→t σ H Q
theorem zbw {pre:List PyData→PyData→Prop} {E:XK} {t:TA} {ds:List PyData} {d:PyData} (h:EvA K S false t Γ ds) (hp:pre ds d):EvC K S (u0 (spD K true pre) [] E t) Γ d:=fun H0 F0 H F σ e Q q =>
 h H0 F0 H F σ e _ fun vs H1 F1 g1 p1=>⟨F1,ds,d,g1.le,by rw [ζJ]; exact ya p1,hp,fun v H2 F2 g2 p2=>q v H2 F2 (g1.trans g2) (wc (κ:=true) (κ':=true) (fun a xs z=>⟨z.1,fun c=>z.2 (by
  show H1 a≠none
  cases w:H a with
  | none=>exact absurd w c
  | some o=>rw [g1.h _ _ w]; simp)⟩) (fun _ _ z=>z) p2)⟩
theorem Uk (i:Nat) {κ0:Bool} {t:TE} {ds0:List PyData} {d:PyData} {Γf:Ctx} (h:GetC Γ i (.ow κ0 ds0)) (es:SetC Γ i (some (.fz κ0 (.list ds0))) Γf) (k:EvC K S t Γf d):EvC K S t Γ d:=fun H0 F0 H F σ e Q q=>by
 obtain ⟨v0,q1,a,vs,rfl,w,q5⟩:=e.has i _ h.eq
 obtain ⟨s,e'⟩:=e.froz (y:=.fz κ0 (.list ds0)) h.eq q1 rfl w (.lst (LN.new w.s) (zq (Same.new w.f _) q5)) fun _ z=>z.elim
 rw [es.eq] at e'
 have g:∀ H' F',Gr H (upd F a (.lst vs)) H' F'→Gr H F H' (drop (fun c=>c=a) F'):=fun H' F' g=>by
  refine ⟨g.h,fun c o z=>ym.mpr ⟨g.f _ _ (s _ _ z),?_⟩,fun c o z=>g.le _ _ (ym.mp z).1,fun c o z n=>?_⟩
  ·rintro ⟨rfl,_⟩
   rw [w.f] at z; cases z
  ·by_cases hc:c=a
   ·subst hc
    exact uW (g.f _ _ zi) rfl
   ·cases q':drop (fun c=>c=a) F' c with
    | none=>rfl
    | some o' =>
     have:=(ym.mp q').1
     rw [g.ap _ _ z (by rw [zm hc]; exact n)] at this; cases this
 refine k H0 F0 H _ σ e' _ fun v H2 F2 g2 p2=>q v H2 _ (g H2 F2 g2) (wc (κ:=true) (κ':=true) (fun x xs z=>⟨ym.mpr ⟨z.1,fun c=>z.2 ?_⟩,z.2⟩) (fun x xs z=>?_) p2)
 ·show H x≠none
  rw [c.1,w.h]
  simp
 ·rcases z with (z | ⟨o,z⟩) | z
  ·exact .inl (.inl (ym.mpr ⟨z,fun c=>nomatch c.2⟩))
  ·exact .inl (.inr ⟨o,ym.mpr ⟨z,fun c=>nomatch c.2⟩⟩)
  ·exact .inr z
theorem Q4 {te:TE} {u:TS} {d:PyData} (h:EvE K S false te Γ d) (k:ExT K S S' u Γ P):ExT K S S' (tSeq (x3 te) u) Γ P:=yJ (·=Γ) (zbm h rfl) fun _ z=>z ▸ k
theorem EvC.toE {t:TE} {d:PyData} (h:EvC K S t Γ d):EvE K S κ t Γ d:=fun H0 F0 H F σ e Q q=>h H0 F0 H F σ e Q fun v H' F' g p=>q v H' F' g (vC (κ:=true) (fun _=>rfl) (wc (κ:=true) (κ':=true) (S':=S) (H0':=H0) (fun a xs z=>⟨z.1,fun c=>by
  obtain ⟨u,hu⟩:=e.sd a c
  exact z.2 (by show H a≠none; rw [hu]; simp)⟩) (fun _ _ z=>z) p))
end
end PD
open PySem L2 PD
local macro_rules | `(tactic| walk_at"comp_ok")=>`(tactic| (refine vB.of (by with_unfolding_all rfl) (by decide +kernel) rfl (by decide +kernel) ?_ (by with_unfolding_all rfl) rfl (by with_unfolding_all rfl); (repeat (with_unfolding_all refine List.forall_mem_cons.mpr ⟨by with_unfolding_all rfl,?_⟩)); exact List.forall_mem_nil _))
local macro_rules | `(tactic| walk_at"comp_okC")=>`(tactic| (refine CompOkC.of (by with_unfolding_all rfl) (fun _ _=>by with_unfolding_all rfl) (by decide +kernel) rfl rfl rfl (by decide +kernel) ?_ (by with_unfolding_all rfl) rfl (by with_unfolding_all rfl); (repeat (with_unfolding_all refine List.forall_mem_cons.mpr ⟨by with_unfolding_all rfl,?_⟩)); exact List.forall_mem_nil _))
local macro_rules | `(tactic| walk_at"comp_lam")=>`(tactic| exact vB.lam (by assumption) (by decide +kernel) rfl (by decide +kernel) (by decide +kernel) rfl (by with_unfolding_all rfl))
local macro_rules | `(tactic| walk_at"gc")=>`(tactic| ((repeat ((with_reducible apply GetC.succ))) ; (with_reducible exact GetC.zero)))
local macro_rules | `(tactic| walk_at"sc")=>`(tactic| ((repeat ((with_reducible apply SetC.succ))) ; (with_reducible exact SetC.zero)))
local macro_rules | `(tactic| walk_at"st")=>`(tactic| ((repeat (first | (with_reducible apply xf.got) | ((with_reducible apply xf.no)))) ; (with_reducible exact xf.z)))
local macro_rules | `(tactic| walk_at"cc")=>`(tactic| ((repeat (first | (with_reducible apply x2.no) | ((with_reducible apply x2.got) ; focus walk_at"gc"))); (with_reducible exact x2.nil)))
local macro_rules | `(tactic| walk_at"mk")=>`(tactic| ((repeat (first | ((with_reducible apply MarkC.got); focus (first | exact MkD.fz | exact MkD.ow | exact MkD.im rfl | exact MkD.ox)) | (with_reducible apply MarkC.no))); (with_reducible exact MarkC.nil)))
local macro_rules | `(tactic| walk_at"sp")=>`(tactic| ((repeat (first | ((with_reducible apply SpC.got); focus (first | exact SpD.fz | exact SpD.ow | exact SpD.im rfl | exact SpD.ox | exact SpD.tn)) | (with_reducible apply SpC.no))); (with_reducible exact SpC.nil)))
local macro_rules | `(tactic| walk_at"sd")=>`(tactic| first | ((with_reducible apply asm) ; assumption) | decide | omega | skip)
local macro_rules | `(tactic| walk_at"ln")=>`(tactic| (simp only [List.length_cons,List.length_nil]; decide))
local macro_rules | `(tactic| walk_at"ev")=>`(tactic| first
 | (with_reducible exact zc3)
 | (with_reducible exact zc1)
 | (with_reducible exact zdH)
 | (with_reducible exact ev_str)
 | (with_reducible exact zab)
 | (with_reducible exact zG)
 | (with_reducible exact vJ)
 | ((with_reducible apply asm) ; (with_reducible assumption))
 | ((with_reducible apply evv) ; walk_at"gc"; decide)
 | ((with_reducible apply evi) ; walk_at"gc"; rfl)
 | ((with_reducible apply evtn) ; walk_at"gc"; done)
 | ((with_reducible apply evw) ; walk_at"gc"; decide)
 | ((with_reducible apply vk) <;> walk_at"ev")
 | ((with_reducible apply wN) <;> walk_at"ev")
 | ((with_reducible apply Zm) <;> walk_at"ev")
 | ((with_reducible apply ev_le) <;> walk_at"ev")
 | ((with_reducible apply Zn) <;> walk_at"ev")
 | ((with_reducible apply zdG) <;> walk_at"ev")
 | ((with_reducible apply Xx) <;> walk_at"ev")
 | ((with_reducible apply tL) <;> walk_at"ev")
 | ((with_reducible apply ev_fdivB) <;> walk_at"ev")
 | ((with_reducible apply yE) <;> walk_at"ev")
 | ((with_reducible apply ev_pow) <;> walk_at"ev")
 | ((with_reducible apply vj) <;> walk_at"ev")
 | ((with_reducible refine' VF (EvE.toD (κ:=false) ?_)) <;> walk_at"ev")
 | ((with_reducible refine' ev_notN (EvE.toD (κ:=false) ?_)) <;> walk_at"ev")
 | ((with_reducible apply zr) <;> walk_at"ev")
 | ((with_reducible apply Xy) <;> walk_at"ev")
 | ((with_reducible apply v7) <;> walk_at"ev" <;> done)
 | ((with_reducible apply Xw) <;> walk_at"ev" <;> done)
 | ((with_reducible apply ev_eqB) <;> walk_at"ev" <;> done)
 | ((with_reducible apply ev_neB) <;> walk_at"ev" <;> done)
 | ((with_reducible apply ev_eqS) <;> walk_at"ev" <;> done)
 | ((with_reducible apply ev_neS) <;> walk_at"ev" <;> done)
 | ((with_reducible apply Zq) <;> (try (with_reducible intro _)) <;> walk_at"ev")
 | ((with_reducible apply zb7) <;> (try (with_reducible intro _)) <;> walk_at"ev")
 | ((with_reducible apply VE) <;> walk_at"ev")
 | ((with_reducible apply zC) <;> walk_at"ev")
 | ((with_reducible apply et_B) <;> walk_at"ev")
 | ((with_reducible apply wO) <;> (try (with_reducible intro _)) <;> walk_at"ev")
 | ((with_reducible apply vR) <;> (try (with_reducible intro _)) <;> walk_at"ev")
 | ((with_reducible apply xA) <;> walk_at"ev")
 | ((with_reducible apply zk) <;> walk_at"ev")
 | ((with_reducible apply v6) <;> walk_at"ev")
 | ((with_reducible apply EvO.toE) ; ((with_reducible apply zQ)) <;> walk_at"ev")
 | ((with_reducible apply zQ) <;> walk_at"ev")
 | ((with_reducible apply yg) <;> walk_at"ev" <;> done)
 | ((with_reducible apply ev_lenT) <;> walk_at"ev")
 | ((with_reducible apply EvO.toE) ; ((with_reducible apply yz)) <;> walk_at"ev")
 | ((with_reducible apply yz) <;> walk_at"ev")
 | ((with_reducible apply ev_abs) <;> walk_at"ev")
 | ((with_reducible apply vI) <;> walk_at"ev")
 | ((with_reducible apply EvO.toE) ; ((with_reducible apply xQ)) <;> walk_at"ev")
 | ((with_reducible apply xQ) <;> walk_at"ev")
 | ((with_reducible apply EvO.toE) ; ((with_reducible apply xK)) <;> walk_at"ev")
 | ((with_reducible apply xK) <;> walk_at"ev")
 | ((with_reducible apply EvO.toE) ; ((with_reducible apply evo_rep)) <;> walk_at"ev")
 | ((with_reducible apply evo_rep) <;> walk_at"ev")
 | ((with_reducible apply EvO.toE) ; ((with_reducible apply vh)) <;> walk_at"ev")
 | ((with_reducible apply vh) <;> walk_at"ev")
 | ((with_reducible refine' zc2 (EvE.toD (κ:=false) ?_) ?_) <;> walk_at"ev")
 | ((with_reducible apply zv) <;> walk_at"ev")
 | ((with_reducible apply ev_callN) <;> walk_at"ev")
 | ((with_reducible apply Q7) ; walk_at"ev"; done)
 | ((with_reducible apply evl_opts) ; walk_at"ev"; done)
 | ((with_reducible apply EvE.toL) ; walk_at"ev"; done)
 | ((with_reducible apply EvO.toL) ; walk_at"ev"; done)
 | (with_reducible apply isE)
 | (with_reducible apply isL)
 | (with_reducible apply isT)
 | (with_reducible apply isA)
 | (with_reducible apply isO)
 | (with_reducible apply isD)
 | (with_reducible apply isI)
 | (with_reducible exact atI0)
 | (with_reducible exact atI1)
 | ((with_reducible apply asm) ; (with_reducible assumption))
 | ((with_reducible apply zcQ) ; with_unfolding_all rfl)
 | (simp only [List.length_cons,List.length_nil]; decide)
 | decide
 | omega
 | skip)
local macro_rules | `(tactic| walk_at"go")=>`(tactic| repeat (first
 | ((with_reducible apply exo (te:=tLst tNil) true) ; (focus (walk_at"ev"; done)); (focus walk_at"sc"))
 | ((with_reducible apply exs true) ; (focus (walk_at"ev"; done)); (focus walk_at"sc"))
 | ((with_reducible apply exs false) ; (focus (walk_at"ev"; done)); (focus walk_at"sc"))
 | ((with_reducible apply exa) ; (focus walk_at"gc"); (focus (walk_at"ev"; done)); (focus walk_at"sc"); (focus (walk_at"sd"; done)))
 | (with_reducible apply exn)))
local macro_rules | `(tactic| walk_at"run")=>`(tactic| (apply zaP; assumption; assumption; assumption; assumption; focus walk_at"st"))
local macro_rules | `(tactic| walk_at"ot")=>`(tactic| first | exact oneT_of (Nat.le_refl 1) | exact oneT_of (Nat.zero_le 1))
local macro_rules | `(tactic| walk_at"sv")=>`(tactic| ((repeat (first | (with_reducible apply xc.got) | ((with_reducible apply xc.no)))) ; (with_reducible exact xc.z)))
local macro_rules | `(tactic| walk_at"runv")=>`(tactic| (apply TU; assumption; assumption; assumption; assumption; focus walk_at"sv"))
namespace K38
open PySem L2 PD Cm
def top (i:Nat):Stmt:=PySem.Challenge.pw_causebook_k38_downs_apart.main.body.getD i (.Pass ⟨0,0,0,0⟩)
structure Bs (mg:Str→Option Value):Prop where
 len:mg "len" = none
 set:mg "set" = none
 range:mg "range" = none
 list:mg "list" = none
 sorted:mg "sorted" = none
 min:mg "min" = none
 max:mg "max" = none
 isinstance:mg "isinstance" = none
 int:mg "int" = none
 bool:mg "bool" = none
 reversed:mg "reversed" = none
structure Cs (K:ζa) (mg:Str→Option Value) (τa τb:Tok):Prop where
 n_AGAINST:mg "AGAINST" = some (.int 0 τa)
 n_ALONG:mg "ALONG" = some (.int 1 τb)
 nt:tj K=true
section
variable {P:Program} {w:World} {K:ζa} {mg:Str→Option Value} {base:Heap} {f:Addr} {fd:FuncData} {τa τb:Tok}
open Wd Sh Sx2
theorem zK:200000 < sizeLine:=by decide
abbrev nl (ks:List Nat):PyData:=.list (ks.map fun k:Nat=>.int (k:Int))
theorem yU (ks:List Nat):∀ d∈ks.map (fun k:Nat=>PyData.int (k:Int)),imm d=true:=fun d hd=>by
 obtain ⟨n,_,rfl⟩:=ζr.mp hd
 rfl
abbrev nls (cs:List (List Nat)):PyData:=.list (cs.map nl)
def nD (cs:List Nat):List PyData:=cs.map fun k:Nat=>.int (k:Int)
def zl (ks:List Nat):List Int:=ks.map fun k:Nat=>(k:Int)
theorem yv (ks:List Nat):nl ks=il (zl ks):=by
 unfold zl
 show PyData.list _=.list _
 rw [ζR]
 rfl
theorem VO (ks:List Nat):(srt (zl ks))=zl ((srt (zl ks)).map Int.toNat):=by
 unfold zl
 rw [ζR]
 refine ((ξG fun x hx=>?_).trans (List.map_id _)).symm
 obtain ⟨k,_,rfl⟩:=ζr.mp ((ug _).mem_iff.mp hx)
 rfl
def srtN (cs:List Nat):List Nat:=(srt (zl cs)).map Int.toNat
theorem yL (cs:List Nat):(srtN cs).Perm cs:=by
 have pr:(zl (srtN cs)).Perm (zl cs):=by
  unfold srtN
  rw [← VO]
  exact ug _
 have:=pr.map Int.toNat
 unfold zl at this
 rw [ζR,ζR] at this
 have e:(Int.toNat∘fun k:Nat=>(k:Int))=id:=by funext k; rfl
 rw [e,List.map_id,List.map_id] at this
 exact this
theorem XB {α:Type} (g:α→PyData) (xs:List α) (k:Nat):cutD (xs.map g) none (some (k:Int))=(xs.take k).map g:=by
 unfold cutD
 rw [HT.YR]
 show ((xs.map g).drop 0).take (min k (xs.map g).length - 0)=_
 rw [List.drop_zero,Nat.sub_zero,ζb,← List.map_take]
 congr 1
 rcases Nat.le_total k xs.length with h | h
 ·rw [Nat.min_eq_left h]
 ·rw [Nat.min_eq_right h,ζM (ζi _),ζM h]
theorem getD_some {α:Type} {l:List α} {k:Nat} {d:α} (h:k < l.length):l[k]?=some (l.getD k d):=by
 rw [ζe,ζm h]
 rfl
def unN:PyData→List Nat
 | .list ds=>ds.map fun d=>match d with | .int i=>i.toNat | _=>0
 | _=>[]
theorem YF (cs:List Nat):unN (nl cs)=cs:=by
 show (cs.map fun k:Nat=>PyData.int (k:Int)).map _=cs
 rw [ζR]
 exact List.map_id' _
theorem yi {k:Nat} {r:List Nat}:decide ((k:Int)∈zl r)=decide (k∈r):=by
 unfold zl
 by_cases h:k∈r
 ·rw [decide_eq_true h,decide_eq_true (ζr.mpr ⟨k,h,rfl⟩)]
 ·rw [decide_eq_false h,decide_eq_false fun z=>?_]
  obtain ⟨j,hj,e⟩:=ζr.mp z
  have:j=k:=by omega
  exact h (this ▸ hj)
theorem Z8 {cs:List Nat} (h:cs.Nodup):(srtN cs).Pairwise (· < ·):=by
 have h1:(srtN cs).Nodup:=(yL cs).nodup_iff.mpr h
 have h2:(srtN cs).Pairwise (·≤·):=by
  have:=tT (zl cs)
  unfold srtN
  rw [ξv]
  refine this.imp fun {a b} hab=>?_
  omega
 rw [List.nodup_iff_pairwise_ne] at h1
 exact (h1.and h2).imp fun {a b} z=>by omega
def kD (ks:List Nat):List PyData:=ks.map fun k:Nat=>.int (k:Int)
theorem Vy (ks:List Nat):(kD ks).length=ks.length:=ζb ..
theorem TK (ks:List Nat):(srt (zl ks)).map PyData.int=kD (srtN ks):=by
 have:=VO ks
 have e:(srt (zl ks)).map PyData.int=(zl (srtN ks)).map PyData.int:=congrArg (List.map PyData.int) this
 rw [e]
 show (List.map _ (srtN ks)).map PyData.int=_
 rw [ζR]
 rfl
def effF (cs:List (List Nat)) (k:Nat):List Nat:=(List.range cs.length).filter fun o=>decide (k∈cs.getD o [])
def yI (ds:List PyData) (d:PyData):Prop:=∃ (cs:List (List Nat)) (k:Nat),ds=[nls cs,.int k]∧cs.length≤1000∧d=nl (effF cs k)
theorem Wz (ds:List PyData) (d:PyData) (h:yI ds d):ds.length=2:=by obtain ⟨a,b,rfl,_⟩:=h; rfl
theorem W7:zI ["causes", "k"] ["causes", "k"] (zo (top 2)):=⟨rfl,rfl,rfl,by decide +kernel,rfl,by decide +kernel,by decide +kernel⟩
theorem Vi (F:Fun K "effects" "effects" (top 2) f fd) (B:Bs mg) (Z:Cs K mg τa τb)  : FnOk P w K mg base CX0 1 f fd ["causes", "k"] (spD K true yI):=by
 have sc:=W7
 refine F.ok sc (fun vs H Q E h=>zX Wz h) (fun cdv A outer s H vs Q E hr h=>?_)
 obtain ⟨Fh,ds,d,le,dp,p,q⟩:=h
 refine ⟨_,(zf (zD (yM rfl (N:=["other", "k", "causes"]) (js:=[none,some 1,some 0]) (by walk_at"comp_ok") (xj rfl B.range (zb (zA (zp (K:=K) rfl) rfl B.len (by decide +kernel) (zb (pv 0) zd)) zd)) (fun _ _ _ _=>(zH (i:=0) (show List.Nodup (["other", "k", "causes"]:List PySem.Str) by decide +kernel) rfl (Or.inl rfl))) (fun _ _ _ _=>(xq (zB (yd (K:=K) rfl) (pv 1) (zz (zh (K:=K) rfl) (pv 2) (pv 0) (fun _ _=>rfl)) (rfl)))) (fun _ _ _ _=>(pv 0))))),?_⟩
 have hN:(["causes", "k"]:List Str).length=2:=rfl
 obtain ⟨cs,k,rfl,hl,rfl⟩:=p
 have big:=zK
 have el:(((cs.map nl).length:Nat):Int)=(cs.length:Int):=by rw [ζb]
 walk_at"run"
 refine yc true (EvO.toE (Yu (is:=[0]) (n:=cs.length) (fun o=>.int (o:Int)) (fun o=>decide (k∈cs.getD o [])) (zk (EvE.eq (yg (ds:=cs.map nl) (by walk_at"ev")) (congrArg PyData.int el)) zG) (by omega) (by walk_at"cc") rfl (by decide) ?_)) rfl (.inl ⟨rfl,rfl⟩)
 intro o ho
 have a1:atI (cs.map nl) (o:Int)=some (nl (cs.getD o [])):=yF (getD_some ho)
 refine egn (by walk_at"sc") ⟨EvT.eq (zC (yr (neg:=false) (i:=(k:Int)) (ns:=zl (cs.getD o [])) (by walk_at"ev") (EvE.toL (EvE.eq (zr (κ:=false) (ds:=cs.map nl) (by walk_at"ev") (by walk_at"ev") a1) (yv _))))) ?_,fun _=>by walk_at"ev"⟩
 show decide _=_
 exact yi
theorem vY {x y:Nat} (h:PyData.int (x:Int)=.int (y:Int)):x=y:=Int.ofNat.inj (PyData.int.inj h)
structure ShOk (n:Nat) (cs:List (List Nat)):Prop where
 l:cs.length=n
 e:∀ r∈cs,(∀ x∈r,x < n)∧r.length≤60
theorem ShOk.at {n:Nat} {cs:List (List Nat)} (h:ShOk n cs) {k:Nat} (hk:k < n):cs[k]?=some (cs.getD k [])∧(∀ x∈cs.getD k [],x < n)∧(cs.getD k []).length≤60:=by
 have z:cs[k]?=some (cs.getD k []):=getD_some (by rw [h.l]; exact hk)
 have:=h.e _ (ζj z)
 exact ⟨z,this.1,this.2⟩
theorem VD {S:Sx} {κ:Bool} {Γ:PD.Ctx} {t:TE} {a b:List PyData} (h:EvL K S κ t Γ a) (e:a=b):EvL K S κ t Γ b:=e ▸ h
inductive Rch (nx:Nat→List Nat) (sm:List Nat):Nat→Prop
 | base {x:Nat}:x∈sm→Rch nx sm x
 | step {x y:Nat}:Rch nx sm x→y∈nx x→Rch nx sm y
open Classical in
noncomputable def rchL (n:Nat) (nx:Nat→List Nat) (sm:List Nat):List Nat:=(List.range n).filter fun x=>decide (Rch nx sm x)
theorem UI (n:Nat) (nx:Nat→List Nat) (sm:List Nat):(rchL n nx sm).Pairwise (· < ·):=List.Pairwise.sublist ξQ ξN
theorem w4 {n:Nat} {nx:Nat→List Nat} {sm:List Nat} {x:Nat}:x∈rchL n nx sm↔x < n∧Rch nx sm x:=by
 unfold rchL
 rw [ζp,ζK]
 simp
structure NxOk (n:Nat) (nx:Nat→List Nat):Prop where
 n12:n≤24
 lt:∀ x,x < n→∀ y∈nx x,y < n
 l:∀ x,x < n→(nx x).length≤80
structure SmOk (n:Nat) (sm:List Nat):Prop where
 lt:∀ x∈sm,x < n
 l:sm.length≤80
theorem Rch.lt {n:Nat} {nx:Nat→List Nat} {sm:List Nat} (h:NxOk n nx) (hs:SmOk n sm) {x:Nat} (r:Rch nx sm x):x < n:=by
 induction r with
 | base z=>exact hs.lt _ z
 | step _ z ih=>exact h.lt _ ih _ z
theorem X8 (n:Nat) (nx:Nat→List Nat) (sm:List Nat):(rchL n nx sm).length≤n:=by
 have:=ζF (fun x=>@decide (Rch nx sm x) (Classical.propDecidable _)) (List.range n)
 rwa [ζy] at this
theorem X5:∀ {a b:List Nat},a.Pairwise (· < ·)→b.Pairwise (· < ·)→(∀ x,x∈a↔x∈b)→a=b
 | [],[],_,_,_=>rfl
 | [],y :: b,_,_,h=>by have:=(h y).mpr ζg; cases this
 | x :: a,[],_,_,h=>by have:=(h x).mp ζg; cases this
 | x :: a,y :: b,ha,hb,h=>by
  obtain ⟨a1,a2⟩:=ζ3.mp ha
  obtain ⟨b1,b2⟩:=ζ3.mp hb
  have e:x=y:=by
   rcases ζo.mp ((h x).mp ζg) with z | z
   ·exact z
   ·rcases ζo.mp ((h y).mpr ζg) with w | w
    ·exact w.symm
    ·have:=b1 x z
     have:=a1 y w
     omega
  subst e
  refine congrArg (x :: ·) (X5 a2 b2 fun z=>⟨fun hz=>?_,fun hz=>?_⟩)
  ·rcases ζo.mp ((h z).mp (ζl _ hz)) with w | w
   ·subst w
    have:=a1 z hz
    omega
   ·exact w
  ·rcases ζo.mp ((h z).mpr (ζl _ hz)) with w | w
   ·subst w
    have:=b1 z hz
    omega
   ·exact w
theorem wj:∀ (n:Nat) (l:List Nat),l.Nodup→(∀ x∈l,x < n)→l.length≤n
 | 0,[],_,_=>ζi _
 | 0,x :: l,_,h=>absurd (h x ζg) (ζV _)
 | n + 1,l,nd,h=>by
  have e:=wj n (l.erase n) (nd.erase n) fun x hx=>by
   have h1:=h x (List.mem_of_mem_erase hx)
   have h2:x≠n:=fun z=>by subst z; exact (List.Nodup.not_mem_erase nd) hx
   omega
  have:=List.length_erase (a:=n) (l:=l)
  split at this <;> omega
structure GI (n:Nat) (nx:Nat→List Nat) (sm fo wa:List Nat):Prop where
 nd:fo.Nodup
 fl:∀ x∈fo,Rch nx sm x
 wl:∀ x∈wa,Rch nx sm x
 cl:∀ x∈fo,∀ y∈nx x,y∈fo∨y∈wa
 sm:∀ x∈sm,x∈fo∨x∈wa
 ll:wa.length≤80 + 80 * fo.length
theorem GI.old {n:Nat} {nx:Nat→List Nat} {sm fo wa:List Nat} {k:Nat} (h:GI n nx sm fo (wa ++ [k])) (hk:k∈fo):GI n nx sm fo wa:=by
 have out:∀ {x:Nat},x∈fo∨x∈wa ++ [k]→x∈fo∨x∈wa:=fun {x} z=>by
  rcases z with z | z
  ·exact .inl z
  ·rcases ζs.mp z with z | z
   ·exact .inr z
   ·rw [ζf.mp z]; exact .inl hk
 have l:=h.ll
 rw [ζd] at l
 exact ⟨h.nd,h.fl,fun x hx=>h.wl x (ζz _ hx),fun x hx y hy=>out (h.cl x hx y hy),fun x hx=>out (h.sm x hx),by omega⟩
theorem GI.new {n:Nat} {nx:Nat→List Nat} {sm fo wa:List Nat} {k:Nat} (h:GI n nx sm fo (wa ++ [k])) (hl:(nx k).length≤80) (hk:k∉fo):GI n nx sm (fo ++ [k]) (wa ++ nx k):=by
 have rk:=h.wl k (ζk _ (ζf.mpr rfl))
 have out:∀ {x:Nat},x∈fo∨x∈wa ++ [k]→x∈fo ++ [k]∨x∈wa ++ nx k:=fun {x} z=>by
  rcases z with z | z
  ·exact .inl (ζz _ z)
  ·rcases ζs.mp z with z | z
   ·exact .inr (ζz _ z)
   ·exact .inl (ζk _ z)
 have l:=h.ll
 rw [ζd] at l
 have l:wa.length + 1≤_:=l
 refine ⟨?_,fun x hx=>?_,fun x hx=>?_,fun x hx y hy=>?_,fun x hx=>out (h.sm x hx),?_⟩
 ·rw [ζD]
  exact ⟨h.nd,by simp,fun a ha b hb=>by rw [List.mem_singleton.mp hb]; rintro rfl; exact hk ha⟩
 ·rcases ζs.mp hx with hx | hx
  ·exact h.fl x hx
  ·rw [ζf.mp hx]; exact rk
 ·rcases ζs.mp hx with hx | hx
  ·exact h.wl x (ζz _ hx)
  ·exact .step rk hx
 ·rcases ζs.mp hx with hx | hx
  ·exact out (h.cl x hx y hy)
  ·rw [ζf.mp hx] at hy
   exact .inr (ζk _ hy)
 ·rw [ζd,ζd]
  show _≤80 + 80 * (fo.length + 1)
  omega
theorem GI.end {n:Nat} {nx:Nat→List Nat} {sm fo:List Nat} (no:NxOk n nx) (so:SmOk n sm) (h:GI n nx sm fo []):srtN fo=rchL n nx sm:=by
 refine X5 (Z8 h.nd) (UI n nx sm) fun x=>?_
 rw [(yL fo).mem_iff,w4]
 refine ⟨fun z=>⟨(h.fl x z).lt no so,h.fl x z⟩,fun z=>?_⟩
 have cl:∀ {y:Nat},y∈fo∨y∈([]:List Nat)→y∈fo:=fun z=>z.elim (fun z=>z) fun z=>nomatch z
 have r:=z.2
 clear z
 induction r with
 | base z=>exact cl (h.sm _ z)
 | step _ z ih=>exact cl (h.cl _ ih _ z)
def cP (c:Nat):Int×Int:=(((c / 2:Nat):Int),((c % 2:Nat):Int))
def cD (c:Nat):PyData:=.tuple [.int ((c / 2:Nat):Int),.int ((c % 2:Nat):Int)]
abbrev pl (cs:List Nat):PyData:=.list (cs.map cD)
theorem zar (c:Nat):low (cD c)=true:=rfl
theorem zbB (cs:List Nat):∀ e∈cs.map cD,low e=true:=fun e he=>by
 obtain ⟨c,_,rfl⟩:=ζr.mp he
 exact zar c
theorem Qh (cs:List Nat):∀ d∈cs.map cD,imm d=true:=fun d hd=>by
 obtain ⟨c,_,rfl⟩:=ζr.mp hd
 rfl
theorem zdd {a b:Nat} (h:cD a=cD b):a=b:=by
 injection h with h
 injection h with h1 h2
 injection h2 with h2 _
 injection h1 with h1
 injection h2 with h2
 omega
theorem zde (a b:Nat):PyData.eqv (cD a) (cD b)=decide (a=b):=by
 have e:PyData.eqv (cD a) (cD b)=((((a / 2:Nat):Int) == ((b / 2:Nat):Int)) && (((a % 2:Nat):Int) == ((b % 2:Nat):Int))):=by
  unfold cD
  simp [PyData.eqv,PyData.eqvAll]
 rw [e]
 by_cases c:a=b
 ·subst c
  rw [decide_eq_true rfl]
  simp
 ·rw [decide_eq_false c]
  refine ξY.mpr fun z=>c ?_
  have z:=(ξF _ _).mp z
  have z1:=eq_of_beq z.1
  have z2:=eq_of_beq z.2
  omega
theorem zdk (cs:List Nat) (k:Nat):((cs.map cD).any fun e=>PyData.eqv e (cD k))=decide (k∈cs):=by
 induction cs with
 | nil=>rfl
 | cons x r ih =>
  rw [ζN,ξx,ih,zde]
  by_cases h:x=k
  ·subst h
   rw [decide_eq_true rfl,decide_eq_true ζg]
   rfl
  ·rw [decide_eq_false h]
   refine (Bool.false_or _).trans (decide_eq_decide.mpr ⟨ζl _,fun z=>?_⟩)
   rcases ζo.mp z with z | z
   ·exact absurd z.symm h
   ·exact z
theorem Uu (cs:List Nat):cs.map cD=(cs.map cP).map prD:=by rw [ζR]; rfl
theorem WT (cs:List Nat):vz (cs.map cP):=⟨fun q hq=>by
 obtain ⟨c,_,rfl⟩:=ζr.mp hq
 show 0≤((c % 2:Nat):Int)∧((c % 2:Nat):Int) < 1000
 omega⟩
theorem zdc {a b:Nat} (h:cP a=cP b):a=b:=by
 have h1:((a / 2:Nat):Int)=((b / 2:Nat):Int):=congrArg Prod.fst h
 have h2:((a % 2:Nat):Int)=((b % 2:Nat):Int):=congrArg Prod.snd h
 omega
theorem zdK {cs:List Nat} (h:cs.Nodup):(cs.map cP).Nodup:=ξv.mpr (h.imp fun z e=>z (zdc e))
theorem zcm {cs:List Nat} (nd:cs.Nodup):srtP (cs.map cP)=(srtN cs).map cP:=by
 refine (wK (WT (srtN cs)) (((yL cs).map cP).trans (Z7 _).symm) ?_ (u6 _)).symm
 rw [ξv]
 refine (Z8 nd).imp fun {a b} h=>?_
 show ((a / 2:Nat):Int) * 1000 + ((a % 2:Nat):Int)≤((b / 2:Nat):Int) * 1000 + ((b % 2:Nat):Int)
 omega
theorem VN (r:List Nat) (k:Nat):(zl (r ++ [k])).map PyData.int=(zl r).map PyData.int ++ [.int (k:Int)]:=by
 unfold zl
 rw [ζn,ζn]
 rfl
theorem zce (r t:List Nat):(zl (r ++ t)).map PyData.int=(zl r).map PyData.int ++ (t.map fun k:Nat=>.int (k:Int)):=by
 unfold zl
 rw [ζn,ζn,ζR (l:=t)]
 rfl
theorem uN (r:List Nat):(zl r).length=r.length:=ζb ..
def gI (n:Nat) (nx:Nat→List Nat):PyData→PyData→Prop:=fun d r=>∃ k:Nat,k < n∧d=.int (k:Int)∧r=nl (nx k)
def gP (n:Nat) (nx:Nat→List Nat):PyData→PyData→Prop:=fun d r=>∃ k:Nat,k < n∧d=cD k∧r=pl (nx k)
def ZP (ds:List PyData) (p1:PyData→PyData→Prop) (d:PyData):Prop:=∃ (n:Nat) (nx:Nat→List Nat) (sm:List Nat),ds=[nl sm]∧NxOk n nx∧SmOk n sm∧p1=gI n nx∧d=nl (rchL n nx sm)
def ZO (ds:List PyData) (p1:PyData→PyData→Prop) (d:PyData):Prop:=∃ (n:Nat) (nx:Nat→List Nat) (sm:List Nat),ds=[pl sm]∧NxOk n nx∧SmOk n sm∧p1=gP n nx∧d=pl (rchL n nx sm)
def xG (ds:List PyData) (p1:PyData→PyData→Prop) (d:PyData):Prop:=ZP ds p1 d∨ZO ds p1 d
theorem Xn (ds:List PyData) (p1:PyData→PyData→Prop) (d:PyData) (h:xG ds p1 d):ds.length=1:=by rcases h with ⟨a,b,c,rfl,_⟩ | ⟨a,b,c,rfl,_⟩ <;> rfl
theorem X3:zI ["some", "nexts", "found", "waiting", "k"] ["some", "nexts"] (zo (top 4)):=⟨rfl,rfl,rfl,by decide +kernel,rfl,by decide +kernel,by decide +kernel⟩
theorem Wo (F:Fun K "gathered" "gathered" (top 4) f fd) (B:Bs mg) (Z:Cs K mg τa τb)  : FnOk P w K mg base CX0 4 f fd ["some", "nexts"] (spG P w K mg base 3 xG):=by
 have sc:=X3
 refine F.ok sc (fun vs H Q E h=>zaI Xn h) (fun cdv A outer s H vs Q E hr h=>?_)
 obtain ⟨Fh,ds,d,us,a,p1,rfl,le,dp,lam,p,q⟩:=h
 obtain ⟨fdL,xL,splL,nmL,qL,pL,bL,lL,clL,pmL,cL,ctL,FL,hbL,haL,prL⟩:=lam
 rcases p with p | p
 ·obtain ⟨n,nx,sm,rfl,no,so,rfl,rfl⟩:=p
  refine ⟨_,(ze (zu (i:=2) sc.nd rfl (Or.inl rfl) (yb zd))
   (ze (zu (i:=3) sc.nd rfl (Or.inl rfl) (zW (zS (K:=K) rfl) rfl B.list (by decide +kernel) (zb (pv 0) zd)))
   (ze (xT PassesOwn.never (zB Za (zA (zp (K:=K) rfl) rfl B.len (by decide +kernel) (zb (pv 3) zd)) zg (zU _)) (ze (zu (i:=4) sc.nd rfl (Or.inl rfl) (uB (K:=K) rfl ζu PySem.F.slot_list_pop PySem.F.type_list_pop QD (pv 3)))
   (zf (yo (zB (zZ (K:=K) rfl) (pv 4) (pv 2) (rfl)) (ze (yp (y6 (K:=K) rfl ζu ζP ζO yy (pv 2) (zb (pv 4) zd)))
   (zf (yp (y6 (K:=K) rfl ζu PySem.F.slot_list_extend PySem.F.type_list_extend (tm (K:=K) rfl) (pv 3) (zb (Qm 1 FL hbL (hr.mono (by decide)) (zb (pv 4) zd)) zd))))) zL))))
   (zf (zD (zA (uK (K:=K) rfl) rfl B.sorted (by decide +kernel) (zb (pv 2) zd))))))),?_⟩
  have big:=zK
  have n12:=no.n12
  have sl:=so.l
  have bk:x9 K fdL [xL] []:=hbL
  refine V1 (φ:=fun F1 v=>v=.ref a∧(∃ nm q params body lsc cl pm c' ctv,F1 a=some (knw (PySem.W.kla_obj nm q params body lsc cl pm c' ctv)))∧∀ (H' F':Hp) (v:V) (d r:PyData) (Q:VK),Same F1 F'→Same F' H'→Dp K F' v d→gI n nx d r→(∀ v' H'' F'',Gr H' F' H'' F''→Rp K false .fresh H' F'' v' r→Q v' H'')→splL [v] H' Q E0) le dp q (n:=5) rfl (by rw [zE.length dp]; show 1 < 5; decide) (by walk_at"st") (by show SetC _ 1 _ _; walk_at"sc") ⟨rfl,⟨_,_,_,_,_,_,_,_,_,haL⟩,prL⟩ ?_
  generalize hφ:(fun (F1:Hp) (v:V)=>v=.ref a∧(∃ nm q params body lsc cl pm c' ctv,F1 a=some (knw (PySem.W.kla_obj nm q params body lsc cl pm c' ctv)))∧∀ (H' F':Hp) (v:V) (d r:PyData) (Q:VK),Same F1 F'→Same F' H'→Dp K F' v d→gI n nx d r→(∀ v' H'' F'',Gr H' F' H'' F''→Rp K false .fresh H' F'' v' r→Q v' H'')→splL [v] H' Q E0)=φ
  refine exo true (ds:=(zl []).map .int) (zQ (ds:=[]) zG (by decide)) (by walk_at"sc") ?_
  refine exo true (ds:=(zl sm).map .int) (EvO.eq (yz (EvL.imm (κ:=false) (EvE.toL (by walk_at"ev")) (yU sm))) (by unfold zl; rw [List.map_map]; rfl)) (by walk_at"sc") ?_
  refine yJ (fun Γ=>∃ fo x y,GI n nx sm fo []∧Γ=[some (.fz false (nl sm)),some (.xp φ),some (.ow true ((zl fo).map .int)),x,y]) (xY (fun m Γ=>∃ (fo wa:List Nat) (x:Option DV),GI n nx sm fo wa∧m=(n - fo.length) * 81 + wa.length∧Γ=[some (.fz false (nl sm)),some (.xp φ),some (.ow true ((zl fo).map .int)),some (.ow true ((zl wa).map .int)),x]) _ ⟨[],sm,none,⟨ζ1,fun _ z=>(nomatch z),fun x hx=>.base hx,fun _ z=>(nomatch z),fun x hx=>.inr hx,by omega⟩,rfl,rfl⟩ ?_) ?_
  ·rintro m Γ' ⟨fo,wa,x,gi,rfl,rfl⟩
   have fl:=wj n fo gi.nd fun x hx=>(gi.fl x hx).lt no so
   have ll:=gi.ll
   refine ⟨decide (0 < (wa.length:Int)),EvT.eq (zC (Zn (i:=(wa.length:Int)) (j:=0) (EvE.eq (yg (ds:=(zl wa).map .int) (by walk_at"ev")) (by rw [ζb,uN])) (by walk_at"ev"))) rfl,fun h=>?_,fun h=>?_⟩
   ·have h':0 < (wa.length:Int):=by simpa using h
    obtain ⟨wb,k,rfl⟩:∃ wb k,wa=wb ++ [k]:=by
     rcases ζY wa with rfl | ⟨wb,k,e⟩
     ·exact absurd h' (by simp)
     ·exact ⟨wb,k,by rw [e,ζZ]⟩
    have rk:=gi.wl k (ζk _ (ζf.mpr rfl))
    have kn:=rk.lt no so
    have nl12:=no.l k kn
    rw [VN]
    rw [ζd] at ll ⊢
    refine yJ (·=[some (.fz false (nl sm)),some (.xp φ),some (.ow true ((zl fo).map .int)),some (.ow true ((zl wb).map .int)),some (.fz true (.int (k:Int)))]) (Uf (i:=3) (j:=4) (by walk_at"gc") (by decide) (by walk_at"sc") (by walk_at"sc") rfl) ?_
    rintro Γ' rfl
    refine wz (b:=!decide (k∈fo)) (EvT.eq (zC (yr (neg:=true) (i:=(k:Int)) (ns:=zl fo) (by walk_at"ev") (by walk_at"ev"))) (by show (!decide _)=_; rw [yi])) (fun c=>?_) (fun c=>?_)
    ·have c':k∉fo:=by simpa using c
     have gn:=gi.new nl12 c'
     have fn:fo.length + 1≤n:=by
      have:=wj n (fo ++ [k]) gn.nd fun x hx=>(gn.fl x hx).lt no so
      rwa [ζd] at this
     refine exa (d:=.int (k:Int)) (by walk_at"gc") (by walk_at"ev") (by walk_at"sc") (by rw [ζb,uN]; omega) ?_
     refine Ys (es:=(nx k).map fun k:Nat=>.int (k:Int)) (by walk_at"gc") (EvL.imm (κ:=false) (EvE.toL (Q9 (kk:=3) (fd:=fdL) (x:=xL) (by walk_at"gc") (fun F1 v hf=>by
      rw [← hφ] at hf
      exact ⟨hf.1,hf.2.1,fun H' F' v Q s1 s2 hd kq=>hf.2.2 H' F' v _ _ Q s1 s2 hd ⟨k,kn,rfl,rfl⟩ kq⟩) (by walk_at"ev"))) (yU _)) (by rw [ζb,ζb,uN]; omega) (by walk_at"sc") ?_
     refine ⟨_,?_,fo ++ [k],wb ++ nx k,_,gn,rfl,by rw [VN,zce]⟩
     rw [ζd,ζd]
     show (n - (fo.length + 1)) * 81 + _ < (n - fo.length) * 81 + (wb.length + 1)
     omega
    ·have c':k∈fo:=by simpa using c
     refine yx ⟨_,?_,fo,wb,_,gi.old c',rfl,rfl⟩
     show _ < _ + (wb.length + 1)
     omega
   ·have h':¬ 0 < (wa.length:Int):=by simpa using h
    have e:wa=[]:=ζ6.mp (by omega)
    subst e
    exact ⟨fo,_,_,gi,rfl⟩
  ·rintro Γ' ⟨fo,x,y,gi,rfl⟩
   have fl:=wj n fo gi.nd fun x hx=>(gi.fl x hx).lt no so
   refine yc true (EvO.toE (EvO.eq (Zl (ns:=zl fo) (by walk_at"ev") (by rw [uN]; omega)) (TK fo))) ?_ (.inl ⟨rfl,rfl⟩)
   show PyData.list (kD (srtN fo))=_
   rw [gi.end no so]
   rfl
 ·obtain ⟨n,nx,sm,rfl,no,so,rfl,rfl⟩:=p
  refine ⟨_,(ze (zu (i:=2) sc.nd rfl (Or.inl rfl) (yb zd))
   (ze (zu (i:=3) sc.nd rfl (Or.inl rfl) (zW (zS (K:=K) rfl) rfl B.list (by decide +kernel) (zb (pv 0) zd)))
   (ze (xT PassesOwn.never (zB Za (zA (zp (K:=K) rfl) rfl B.len (by decide +kernel) (zb (pv 3) zd)) zg (zU _)) (ze (zu (i:=4) sc.nd rfl (Or.inl rfl) (uB (K:=K) rfl ζu PySem.F.slot_list_pop PySem.F.type_list_pop QD (pv 3)))
   (zf (yo (zB (Ve (K:=K) rfl hr.units) (pv 4) (pv 2) (rfl)) (ze (yp (y6 (K:=K) rfl ζu ζP ζO yy (pv 2) (zb (pv 4) zd)))
   (zf (yp (y6 (K:=K) rfl ζu PySem.F.slot_list_extend PySem.F.type_list_extend (tm (K:=K) rfl) (pv 3) (zb (Qm 1 FL hbL (hr.mono (by decide)) (zb (pv 4) zd)) zd))))) zL))))
   (zf (zD (zA (ZZ (K:=K) rfl) rfl B.sorted (by decide +kernel) (zb (pv 2) zd))))))),?_⟩
  have big:=zK
  have n12:=no.n12
  have sl:=so.l
  have bk:x9 K fdL [xL] []:=hbL
  refine V1 (φ:=fun F1 v=>v=.ref a∧(∃ nm q params body lsc cl pm c' ctv,F1 a=some (knw (PySem.W.kla_obj nm q params body lsc cl pm c' ctv)))∧∀ (H' F':Hp) (v:V) (d r:PyData) (Q:VK),Same F1 F'→Same F' H'→Dp K F' v d→gP n nx d r→(∀ v' H'' F'',Gr H' F' H'' F''→Rp K false .fresh H' F'' v' r→Q v' H'')→splL [v] H' Q E0) le dp q (n:=5) rfl (by rw [zE.length dp]; show 1 < 5; decide) (by walk_at"st") (by show SetC _ 1 _ _; walk_at"sc") ⟨rfl,⟨_,_,_,_,_,_,_,_,_,haL⟩,prL⟩ ?_
  generalize hφ:(fun (F1:Hp) (v:V)=>v=.ref a∧(∃ nm q params body lsc cl pm c' ctv,F1 a=some (knw (PySem.W.kla_obj nm q params body lsc cl pm c' ctv)))∧∀ (H' F':Hp) (v:V) (d r:PyData) (Q:VK),Same F1 F'→Same F' H'→Dp K F' v d→gP n nx d r→(∀ v' H'' F'',Gr H' F' H'' F''→Rp K false .fresh H' F'' v' r→Q v' H'')→splL [v] H' Q E0)=φ
  refine exo true (ds:=([]:List Nat).map cD) (zQ (ds:=[]) zG (by decide)) (by walk_at"sc") ?_
  refine exo true (ds:=sm.map cD) (yz (EvL.imm (κ:=false) (EvE.toL (by walk_at"ev")) (Qh sm))) (by walk_at"sc") ?_
  refine yJ (fun Γ=>∃ fo x y,GI n nx sm fo []∧Γ=[some (.fz false (pl sm)),some (.xp φ),some (.ow true (fo.map cD)),x,y]) (xY (fun m Γ=>∃ (fo wa:List Nat) (x:Option DV),GI n nx sm fo wa∧m=(n - fo.length) * 81 + wa.length∧Γ=[some (.fz false (pl sm)),some (.xp φ),some (.ow true (fo.map cD)),some (.ow true (wa.map cD)),x]) _ ⟨[],sm,none,⟨ζ1,fun _ z=>(nomatch z),fun x hx=>.base hx,fun _ z=>(nomatch z),fun x hx=>.inr hx,by omega⟩,rfl,rfl⟩ ?_) ?_
  ·rintro m Γ' ⟨fo,wa,x,gi,rfl,rfl⟩
   have fl:=wj n fo gi.nd fun x hx=>(gi.fl x hx).lt no so
   have ll:=gi.ll
   refine ⟨decide (0 < (wa.length:Int)),EvT.eq (zC (Zn (i:=(wa.length:Int)) (j:=0) (EvE.eq (yg (ds:=wa.map cD) (by walk_at"ev")) (by rw [ζb])) (by walk_at"ev"))) rfl,fun h=>?_,fun h=>?_⟩
   ·have h':0 < (wa.length:Int):=by simpa using h
    obtain ⟨wb,k,rfl⟩:∃ wb k,wa=wb ++ [k]:=by
     rcases ζY wa with rfl | ⟨wb,k,e⟩
     ·exact absurd h' (by simp)
     ·exact ⟨wb,k,by rw [e,ζZ]⟩
    have rk:=gi.wl k (ζk _ (ζf.mpr rfl))
    have kn:=rk.lt no so
    have nl12:=no.l k kn
    rw [show (wb ++ [k]).map cD=wb.map cD ++ [cD k] from by rw [ζn]; rfl]
    rw [ζd] at ll ⊢
    refine yJ (·=[some (.fz false (pl sm)),some (.xp φ),some (.ow true (fo.map cD)),some (.ow true (wb.map cD)),some (.fz true (cD k))]) (Uf (ds:=wb.map cD) (d:=cD k) (i:=3) (j:=4) (by walk_at"gc") (by decide) (by walk_at"sc") (by walk_at"sc") rfl) ?_
    rintro Γ' rfl
    refine wz (b:=!decide (k∈fo)) (EvT.eq (zC (zc4 (neg:=true) (d:=cD k) (ds:=fo.map cD) (by walk_at"ev") (by walk_at"ev") (zar k) (zbB fo))) (by show (!List.any _ _)=_; rw [zdk])) (fun c=>?_) (fun c=>?_)
    ·have c':k∉fo:=by simpa using c
     have gn:=gi.new nl12 c'
     have fn:fo.length + 1≤n:=by
      have:=wj n (fo ++ [k]) gn.nd fun x hx=>(gn.fl x hx).lt no so
      rwa [ζd] at this
     refine exa (d:=cD k) (by walk_at"gc") (by walk_at"ev") (by walk_at"sc") (by rw [ζb]; omega) ?_
     refine Ys (es:=(nx k).map cD) (by walk_at"gc") (EvL.imm (κ:=false) (EvE.toL (Q9 (kk:=3) (fd:=fdL) (x:=xL) (by walk_at"gc") (fun F1 v hf=>by
      rw [← hφ] at hf
      exact ⟨hf.1,hf.2.1,fun H' F' v Q s1 s2 hd kq=>hf.2.2 H' F' v _ _ Q s1 s2 hd ⟨k,kn,rfl,rfl⟩ kq⟩) (by walk_at"ev"))) (Qh _)) (by rw [ζb,ζb]; omega) (by walk_at"sc") ?_
     refine ⟨_,?_,fo ++ [k],wb ++ nx k,_,gn,rfl,by rw [ζn,ζn]; rfl⟩
     rw [ζd,ζd]
     show (n - (fo.length + 1)) * 81 + _ < (n - fo.length) * 81 + (wb.length + 1)
     omega
    ·have c':k∈fo:=by simpa using c
     refine yx ⟨_,?_,fo,wb,_,gi.old c',rfl,rfl⟩
     show _ < _ + (wb.length + 1)
     omega
   ·have h':¬ 0 < (wa.length:Int):=by simpa using h
    have e:wa=[]:=ζ6.mp (by omega)
    subst e
    exact ⟨fo,_,_,gi,rfl⟩
  ·rintro Γ' ⟨fo,x,y,gi,rfl⟩
   have fl:=wj n fo gi.nd fun x hx=>(gi.fl x hx).lt no so
   refine yc true (EvO.toE (EvO.eq (WJ (ps:=fo.map cP) (VD (by walk_at"ev") (Uu fo)) (WT fo) (zdK gi.nd) (by rw [ζb]; omega)) (by rw [zcm gi.nd,← Uu]))) ?_ (.inl ⟨rfl,rfl⟩)
   show PyData.list ((srtN fo).map cD)=_
   rw [gi.end no so]
theorem zcf (a b:List Nat):((zl a).any fun k=>decide (k∈zl b))=a.any fun k=>decide (k∈b):=by
 unfold zl
 rw [List.any_map]
 refine congrArg (fun f=>List.any a f) (funext fun k=>?_)
 exact yi
def uw (ds:List PyData) (d:PyData):Prop:=∃ a b:List Nat,ds=[nl a,nl b]∧a.length + b.length < 2000∧d=.bool (a.any fun k=>decide (k∈b))
theorem QP (ds:List PyData) (d:PyData) (h:uw ds d):ds.length=2:=by obtain ⟨a,b,rfl,_⟩:=h; rfl
theorem zaO:zI ["some", "others"] ["some", "others"] (zo (top 1)):=⟨rfl,rfl,rfl,by decide +kernel,rfl,by decide +kernel,by decide +kernel⟩
theorem za5 (F:Fun K "meet" "meet" (top 1) f fd) (B:Bs mg) (Z:Cs K mg τa τb)  : FnOk P w K mg base CX0 1 f fd ["some", "others"] (spD K true uw):=by
 have sc:=zaO
 refine F.ok sc (fun vs H Q E h=>zX QP h) (fun cdv A outer s H vs Q E hr h=>?_)
 obtain ⟨Fh,ds,d,le,dp,p,q⟩:=h
 refine ⟨_,(zf (zD (yR Za (zA (Ti (b:=w.params.followText "set-order")) rfl B.len (by decide +kernel) (zb (zw (za3 rfl rfl) (zW (Yy (K:=K) rfl rfl rfl) rfl B.set (by decide +kernel) (zb (pv 0) zd)) (zW (Yy (K:=K) rfl rfl rfl) rfl B.set (by decide +kernel) (zb (pv 1) zd))) zd)) zg (zU _)))),?_⟩
 have hN:(["some", "others"]:List Str).length=2:=rfl
 obtain ⟨a,b,rfl,hl,rfl⟩:=p
 walk_at"run"
 refine yc true (EvE.eq (Zn (Ta (ns:=zl a) (ms:=zl b) (EvE.toL (EvE.eq (κ:=false) (by walk_at"ev") (yv a))) (EvE.toL (EvE.eq (κ:=false) (by walk_at"ev") (yv b))) (by rw [uN,uN]; exact hl)) (by walk_at"ev")) ?_) rfl (.inl ⟨rfl,rfl⟩)
 rw [QI,zcf]
def upC (cs:List (List Nat)) (k:Nat):List Nat:=(cs.getD k []).map fun c=>2 * c
def dnC (cs:List (List Nat)) (k:Nat):List Nat:=(effF cs k).map fun e=>2 * e + 1
def stC (cs:List (List Nat)) (kn:List Nat) (c:Nat):List Nat:=if c / 2∈kn then (if c % 2=1 then upC cs (c / 2) else []) else (if c % 2=1 then dnC cs (c / 2) else upC cs (c / 2) ++ dnC cs (c / 2))
def xU (ds:List PyData) (d:PyData):Prop:=∃ (n:Nat) (cs:List (List Nat)) (kn:List Nat) (c:Nat),ds=[nls cs,nl kn,cD c]∧ShOk n cs∧n≤12∧c / 2 < n∧d=pl (stC cs kn c)
theorem Zd (ds:List PyData) (d:PyData) (h:xU ds d):ds.length=3:=by obtain ⟨a,b,c,e,rfl,_⟩:=h; rfl
theorem ZK:zI ["causes", "known", "pair", "k", "way", "ups", "downs"] ["causes", "known", "pair"] (zo (top 11)):=⟨rfl,rfl,rfl,by decide +kernel,rfl,by decide +kernel,by decide +kernel⟩
theorem ZQ (F:Fun K "steps_from" "steps_from" (top 11) f fd) (B:Bs mg) (Z:Cs K mg τa τb) (c_effects:zF P w K mg base CX0 "effects" ["causes", "k"] 1 (spD K true yI)):FnOk P w K mg base CX0 2 f fd ["causes", "known", "pair"] (spD K true xU):=by
 have sc:=ZK
 refine F.ok sc (fun vs H Q E h=>zX Zd h) (fun cdv A outer s H vs Q E hr h=>?_)
 obtain ⟨Fh,ds,d,le,dp,p,q⟩:=h
 refine ⟨_,(ze (zu (i:=3) sc.nd rfl (Or.inl rfl) (zz (Xq (K:=K) rfl) (pv 2) zg (fun _ _=>rfl)))
   (ze (zu (i:=4) sc.nd rfl (Or.inl rfl) (zz (Xq (K:=K) rfl) (pv 2) zg (fun _ _=>rfl)))
   (ze (xh (i:=5) rfl sc.nd rfl rfl (N:=["c"]) (js:=[none]) (by walk_at"comp_ok") (zJ (K:=K) rfl (zz (zh (K:=K) rfl) (pv 0) (pv 3) (fun _ _=>rfl))) (fun _ _ _ _=>(zH (i:=0) (show List.Nodup (["c"]:List PySem.Str) by decide +kernel) rfl (Or.inl rfl))) (fun _ _ _ _=>xH) (fun _ _ _ _=>(uR (zb (pv 0) (zb (uA (v:=.int 0) rfl Z.n_AGAINST ⟨_,rfl⟩) zd)))))
   (ze (xh (i:=6) rfl sc.nd rfl rfl (N:=["e"]) (js:=[none]) (by walk_at"comp_ok") (zJ (K:=K) rfl (zN c_effects (hr.mono (by decide)) rfl zM (zb (pv 0) (zb (pv 3) zd)))) (fun _ _ _ _=>(zH (i:=0) (show List.Nodup (["e"]:List PySem.Str) by decide +kernel) rfl (Or.inl rfl))) (fun _ _ _ _=>xH) (fun _ _ _ _=>(uR (zb (pv 0) (zb (uA (v:=.int 1) rfl Z.n_ALONG ⟨_,rfl⟩) zd)))))
   (ze (yo (zB (yd (K:=K) rfl) (pv 3) (pv 1) (rfl)) (zf (zD (Wg (zB Yf (pv 4) (uA (v:=.int 1) rfl Z.n_ALONG ⟨_,rfl⟩) (zU _)) (pv 5) (yb zd)))) zL)
   (zf (zD (Wg (zB Yf (pv 4) (uA (v:=.int 1) rfl Z.n_ALONG ⟨_,rfl⟩) (zU _)) (pv 6) (zw (xw (K:=K) rfl) (pv 5) (pv 6)))))))))),?_⟩
 have hN:(["causes", "known", "pair", "k", "way", "ups", "downs"]:List Str).length=7:=rfl
 obtain ⟨n,cs,kn,c,rfl,ok,n12,hc,rfl⟩:=p
 have big:=zK
 have A:=ok.at hc
 have A2:=A.2.2
 have cl:=ok.l
 have ak:atI (cs.map nl) ((c / 2:Nat):Int)=some (nl (cs.getD (c / 2) [])):=yF A.1
 have el:(effF cs (c / 2)).length≤12:=by
  have:=ζF (fun o=>decide (c / 2∈cs.getD o [])) (List.range cs.length)
  rw [ζy] at this
  unfold effF
  omega
 walk_at"run"
 refine exs false (d:=.int ((c / 2:Nat):Int)) (Xy (κ:=false) (ds:=[.int ((c / 2:Nat):Int),.int ((c % 2:Nat):Int)]) (i:=0) (EvE.eq (a:=cD c) (by walk_at"ev") rfl) (by walk_at"ev") rfl) (by walk_at"sc") ?_
 refine exs false (d:=.int ((c % 2:Nat):Int)) (Xy (κ:=false) (ds:=[.int ((c / 2:Nat):Int),.int ((c % 2:Nat):Int)]) (i:=1) (EvE.eq (a:=cD c) (by walk_at"ev") rfl) (by walk_at"ev") rfl) (by walk_at"sc") ?_
 have tw:∀ k:Nat,2 * k / 2=k∧2 * k % 2=0∧(2 * k + 1) / 2=k∧(2 * k + 1) % 2=1:=fun k=>by omega
 have d0:∀ k:Nat,PyData.tuple [.int (k:Int),.int 0]=cD (2 * k):=fun k=>by unfold cD; rw [(tw k).1,(tw k).2.1]; rfl
 have d1:∀ k:Nat,PyData.tuple [.int (k:Int),.int 1]=cD (2 * k + 1):=fun k=>by unfold cD; rw [(tw k).2.2.1,(tw k).2.2.2]; rfl
 refine exs true (d:=pl (upC cs (c / 2))) (EvO.toE (EvO.eq (xz (κ:=true) (is:=[0]) (xs:=cs.getD (c / 2) []) false (fun k:Nat=>.int (k:Int)) (fun k=>cD (2 * k)) (fun x _ y _ h=>by cases vY h; rfl) (zT (zr (κ:=false) (by walk_at"ev") (by walk_at"ev") ak)) (by walk_at"cc") rfl (by decide) (by omega) ?_) (by unfold upC; rw [List.map_map]; rfl))) (by walk_at"sc") ?_
 ·intro k hk
  exact egn (by walk_at"sc") (EvE.eq (v6 (ds:=[.int (k:Int),.int 0]) (by walk_at"ev") (by show 2≤_; omega)) (d0 k))
 refine exs true (d:=pl (dnC cs (c / 2))) (EvO.toE (EvO.eq (xz (κ:=true) (is:=[0]) (xs:=effF cs (c / 2)) false (fun k:Nat=>.int (k:Int)) (fun k=>cD (2 * k + 1)) (fun x _ y _ h=>by cases vY h; rfl) (zT (zv (by walk_at"ev") ⟨cs,c / 2,rfl,by omega,rfl⟩)) (by walk_at"cc") rfl (by decide) (by omega) ?_) (by unfold dnC; rw [List.map_map]; rfl))) (by walk_at"sc") ?_
 ·intro k hk
  exact egn (by walk_at"sc") (EvE.eq (v6 (ds:=[.int (k:Int),.int 1]) (by walk_at"ev") (by show 2≤_; omega)) (d1 k))
 have ul:(upC cs (c / 2)).length≤60:=by unfold upC; rw [List.length_map]; exact A2
 have dl:(dnC cs (c / 2)).length≤12:=by unfold dnC; rw [List.length_map]; exact el
 unfold stC
 generalize upC cs (c / 2)=up at ul
 generalize dnC cs (c / 2)=dn at dl
 generalize c / 2=k
 refine vQ (b:=decide (k∈kn)) (EvT.eq (zC (yr (neg:=false) (i:=(k:Int)) (ns:=zl kn) (by walk_at"ev") (EvE.toL (EvE.eq (κ:=false) (by walk_at"ev") (yv _))))) yi) (fun h=>?_) (fun h=>?_)
 ·rw [if_pos (of_decide_eq_true h)]
  refine exrs true (Q8 (b:=decide (((c % 2:Nat):Int)=1)) (zC (v7 (by walk_at"ev") (by walk_at"ev"))) (fun z=>?_) (fun z=>?_)) rfl (.inl ⟨rfl,rfl⟩)
  ·rw [if_pos (by have:=of_decide_eq_true z; omega)]
   walk_at"ev"
  ·rw [if_neg (by have:=of_decide_eq_false z; omega)]
   exact EvO.toE (zQ (ds:=[]) zG (by decide))
 ·refine exn ?_
  rw [if_neg (of_decide_eq_false h)]
  refine yc true (Q8 (b:=decide (((c % 2:Nat):Int)=1)) (zC (v7 (by walk_at"ev") (by walk_at"ev"))) (fun z=>?_) (fun z=>?_)) rfl (.inl ⟨rfl,rfl⟩)
  ·rw [if_pos (by have:=of_decide_eq_true z; omega)]
   walk_at"ev"
  ·rw [if_neg (by have:=of_decide_eq_false z; omega)]
   exact EvO.toE (EvO.eq (xK (xs:=up.map cD) (ys:=dn.map cD) (by walk_at"ev") (by walk_at"ev") (by rw [ζb,ζb]; omega)) (by rw [ζn]))
theorem zbS {n:Nat} {cs:List (List Nat)} (ok:ShOk n cs) (n12:n≤12) (kn:List Nat):NxOk (2 * n) (stC cs kn):=by
 have up:∀ x,x < 2 * n→∀ y∈upC cs (x / 2),y < 2 * n:=fun x hx y hy=>by
  obtain ⟨c,hc,rfl⟩:=ζr.mp hy
  have:=(ok.at (k:=x / 2) (by omega)).2.1 c hc
  omega
 have dn:∀ x,∀ y∈dnC cs (x / 2),y < 2 * n:=fun x y hy=>by
  obtain ⟨e,he,rfl⟩:=ζr.mp hy
  have:=ζK.mp (ζp.mp he).1
  rw [ok.l] at this
  omega
 refine ⟨by omega,fun x hx y hy=>?_,fun x hx=>?_⟩
 ·unfold stC at hy
  split at hy
  ·split at hy
   ·exact up x hx y hy
   ·cases hy
  ·split at hy
   ·exact dn x y hy
   ·rcases ζs.mp hy with hy | hy
    ·exact up x hx y hy
    ·exact dn x y hy
 ·have a:=(ok.at (k:=x / 2) (by omega)).2.2
  have c:(dnC cs (x / 2)).length≤12:=by
   have b:=ζF (fun o=>decide (x / 2∈cs.getD o [])) (List.range cs.length)
   rw [ζy] at b
   have:=ok.l
   unfold dnC effF
   rw [ζb]
   omega
  have d:(upC cs (x / 2)).length≤60:=by
   unfold upC
   rw [ζb]
   exact a
  unfold stC
  split
  ·split
   ·omega
   ·exact ζE _
  ·split
   ·omega
   ·rw [ζd]
    omega
def uQ (ds:List PyData) (d:PyData):Prop:=∃ (n:Nat) (cs:List (List Nat)) (x:Nat) (kn:List Nat),ds=[nls cs,.int x,nl kn]∧ShOk n cs∧n≤12∧x < n∧d=pl (rchL (2 * n) (stC cs kn) [2 * x])
theorem UX (ds:List PyData) (d:PyData) (h:uQ ds d):ds.length=3:=by obtain ⟨a,b,c,e,rfl,_⟩:=h; rfl
theorem TN:zI ["causes", "x", "known"] ["causes", "x", "known"] (zo (top 12)):=⟨rfl,rfl,rfl,by decide +kernel,rfl,by decide +kernel,by decide +kernel⟩
theorem Qt (F:Fun K "reach" "reach" (top 12) f fd) (L:Ym K f "reach" = true) (B:Bs mg) (Z:Cs K mg τa τb) (c_gathered:zF P w K mg base CX0 "gathered" ["some", "nexts"] 4 (spG P w K mg base 3 xG)) (c_steps_from:zF P w K mg base CX0 "steps_from" ["causes", "known", "pair"] 2 (spD K true xU)):FnOk P w K mg base CX0 5 f fd ["causes", "x", "known"] (spD K true uQ):=by
 have sc:=TN
 refine F.okL L sc (fun vs H Q E h=>zX UX h) (fun c T A outer s H vs Q E hhd htab hr h=>?_)
 obtain ⟨Fh,ds,d,le,dp,p,q⟩:=h
 refine ⟨_,(zf (zD (t9 (caps:=[("causes", 0),("known", 2)]) c_gathered (hr.mono (by decide)) rfl (yb (zb (uR (zb (pv 1) (zb (uA (v:=.int 0) rfl Z.n_AGAINST ⟨_,rfl⟩) zd))) zd)) rfl hhd htab rfl rfl rfl (ζL.mpr ⟨⟨rfl,rfl⟩,(ζL.mpr ⟨⟨rfl,rfl⟩,(fun _ z=>nomatch z)⟩)⟩) (ζL.mpr ⟨⟨by first | exact .head _ | exact .tail _ (.head _) | exact .tail _ (.tail _ (.head _)) | exact .tail _ (.tail _ (.tail _ (.head _))),rfl⟩,(ζL.mpr ⟨⟨by first | exact .head _ | exact .tail _ (.head _) | exact .tail _ (.tail _ (.head _)) | exact .tail _ (.tail _ (.tail _ (.head _))),rfl⟩,(fun _ z=>nomatch z)⟩)⟩) (ζL.mpr ⟨rfl,(ζL.mpr ⟨rfl,(fun _ z=>nomatch z)⟩)⟩) (fun _=>rfl)))),?_⟩
 have hN:(["causes", "x", "known"]:List Str).length=3:=rfl
 obtain ⟨n,cs,x,kn,rfl,ok,n12,hx,rfl⟩:=p
 have big:=zK
 obtain ⟨dc,e1,e2⟩:∃ dc:Str→PyData,dc "causes" = nls cs∧dc "known" = nl kn:=⟨fun y=>if y = "causes" then nls cs else nl kn,if_pos rfl,if_neg (by decide)⟩
 have d0:PyData.tuple [.int (x:Int),.int 0]=cD (2 * x):=by unfold cD; rw [show 2 * x / 2=x by omega,show 2 * x % 2=0 by omega]; rfl
 walk_at"run"
 refine yc true (Zp (P:=P) (w:=w) (mg:=mg) (base:=base) (kk:=2) (x := "pair") (dc:=dc) (p1:=gP (2 * n) (stC cs kn)) (d1:=pl [2 * x]) (EvO.toE (zQ (ds:=[cD (2 * x)]) (zk (EvE.eq (v6 (ds:=[.int (x:Int),.int 0]) (by walk_at"ev") (by show 2≤_; omega)) d0) zG) (by show 1≤sizeLine; omega))) (ζL.mpr ⟨⟨false,by show _=some (some (DV.fz false (dc "causes"))); rw [e1]; rfl⟩,ζL.mpr ⟨⟨false,by show _=some (some (DV.fz false (dc "known"))); rw [e2]; rfl⟩,fun _ z=>nomatch z⟩⟩) (WD (by decide +kernel)) (fun cl pm c' ctv=>x9.all fun us hl=>match us,hl with | [_],_=>rfl) (fun _ _ _ hcl _ _ _ _ hr=>(zN c_steps_from (hr.mono (by decide)) rfl zM (zb (pv 1) (zb (pv 2) (zb (pv 0) zd))))) (fun d r h=>?_) (.inr ⟨2 * n,stC cs kn,[2 * x],rfl,zbS ok n12 kn,⟨fun z hz=>by rw [ζf.mp hz]; omega,by show 1≤80; decide⟩,rfl,rfl⟩)) rfl (.inl ⟨rfl,rfl⟩)
 obtain ⟨k,kn',rfl,rfl⟩:=h
 show EvE K .fresh false _ [some (.fz false (cD k)),some (.fz false (dc "causes")),some (.fz false (dc "known"))] _
 rw [e1,e2]
 exact zv (by walk_at"ev") ⟨n,cs,kn,k,rfl,ok,n12,by omega,rfl⟩
theorem QE {cs:List (List Nat)} {k b:Nat}:b∈upC cs k↔b % 2=0∧b / 2∈cs.getD k []:=by
 unfold upC
 rw [ζr]
 constructor
 ·rintro ⟨c,hc,rfl⟩
  rw [show 2 * c / 2=c by omega]
  exact ⟨by omega,hc⟩
 ·rintro ⟨h1,h2⟩
  exact ⟨b / 2,h2,by omega⟩
theorem QH {n:Nat} {cs:List (List Nat)} (ok:ShOk n cs) {k b:Nat} (hb:b / 2 < n):b∈dnC cs k↔b % 2=1∧k∈cs.getD (b / 2) []:=by
 unfold dnC effF
 rw [ζr]
 constructor
 ·rintro ⟨c,hc,rfl⟩
  rw [show (2 * c + 1) / 2=c by omega]
  exact ⟨by omega,of_decide_eq_true (ζp.mp hc).2⟩
 ·rintro ⟨h1,h2⟩
  exact ⟨b / 2,ζp.mpr ⟨ζK.mpr (by rw [ok.l]; exact hb),decide_eq_true h2⟩,by omega⟩
theorem Vr {n:Nat} {cs:List (List Nat)} (ok:ShOk n cs) {kn:List Nat} {a b:Nat} (hb:b / 2 < n):(b % 2=0→(b∈stC cs kn a↔b / 2∈cs.getD (a / 2) []∧(a % 2=1↔a / 2∈kn)))∧(b % 2=1→(b∈stC cs kn a↔a / 2∈cs.getD (b / 2) []∧a / 2∉kn)):=by
 unfold stC
 by_cases c:a / 2∈kn
 ·rw [if_pos c]
  by_cases d:a % 2=1
  ·rw [if_pos d,QE]
   exact ⟨fun z=>⟨fun y=>⟨y.2,fun _=>c,fun _=>d⟩,fun y=>⟨z,y.1⟩⟩,fun z=>⟨fun y=>by omega,fun y=>absurd c y.2⟩⟩
  ·rw [if_neg d]
   exact ⟨fun z=>⟨fun y=>(by cases y),fun y=>absurd (y.2.mpr c) d⟩,fun z=>⟨fun y=>(by cases y),fun y=>absurd c y.2⟩⟩
 ·rw [if_neg c]
  by_cases d:a % 2=1
  ·rw [if_pos d,QH ok hb]
   exact ⟨fun z=>⟨fun y=>by omega,fun y=>absurd (y.2.mp d) c⟩,fun z=>⟨fun y=>⟨y.2,c⟩,fun y=>⟨z,y.1⟩⟩⟩
  ·rw [if_neg d,ζs,QE,QH ok hb]
   refine ⟨fun z=>⟨fun y=>⟨?_,fun w=>absurd w d,fun w=>absurd w c⟩,fun y=>.inl ⟨z,y.1⟩⟩,fun z=>⟨fun y=>⟨?_,c⟩,fun y=>.inr ⟨z,y.1⟩⟩⟩
   ·rcases y with y | y
    ·exact y.2
    ·omega
   ·rcases y with y | y
    ·omega
    ·exact y.2
abbrev paC (cs:List (List Nat)) (c v:Nat):Prop:=c∈cs.getD v []
abbrev InL (l:List Nat) (v:Nat):Prop:=v∈l
theorem zct {n:Nat} {cs:List (List Nat)} {kn:List Nat} {x:Nat} (ok:ShOk n cs) (n12:n≤12) (hx:x < n) {c:Nat} (h:Rch (stC cs kn) [2 * x] c):c < 2 * n∧Dsp.Bb (paC cs) (InL kn) x (c / 2) (decide (c % 2=1)):=by
 induction h with
 | base z =>
  rw [ζf.mp z,show 2 * x / 2=x by omega,show 2 * x % 2=0 by omega]
  exact ⟨by omega,.start⟩
 | @step a b _ z ih =>
  have hb:=(zbS ok n12 kn).lt a ih.1 b z
  have ms:=Vr ok (kn:=kn) (a:=a) (b:=b) (by omega)
  refine ⟨hb,?_⟩
  rcases Nat.mod_two_eq_zero_or_one b with e | e
  ·have m:=(ms.1 e).mp z
   rw [e]
   exact .up ih.2 m.1 ⟨fun w=>m.2.mp (of_decide_eq_true w),fun w=>decide_eq_true (m.2.mpr w)⟩
  ·have m:=(ms.2 e).mp z
   rw [e]
   exact .down ih.2 m.1 m.2
theorem zdh {n:Nat} {cs:List (List Nat)} {kn:List Nat} {x:Nat} (ok:ShOk n cs) (hx:x < n) {v:Nat} {w:Bool} (h:Dsp.Bb (paC cs) (InL kn) x v w):v < n∧Rch (stC cs kn) [2 * x] (2 * v + cond w 1 0):=by
 induction h with
 | start=>exact ⟨hx,.base (ζf.mpr rfl)⟩
 | @up v u w _ p hw ih =>
  have hu:=(ok.at ih.1).2.1 u p
  refine ⟨hu,.step ih.2 ?_⟩
  have ms:=(Vr ok (kn:=kn) (a:=2 * v + cond w 1 0) (b:=2 * u + cond false 1 0) (by show (2 * u + 0) / 2 < n; omega)).1 (by show (2 * u + 0) % 2=0; omega)
  refine ms.mpr ?_
  rw [show (2 * u + cond false 1 0) / 2=u by show (2 * u + 0) / 2=u; omega]
  cases w with
  | true =>
   rw [show (2 * v + cond true 1 0) / 2=v by show (2 * v + 1) / 2=v; omega,show (2 * v + cond true 1 0) % 2=1 by show (2 * v + 1) % 2=1; omega]
   exact ⟨p,fun _=>hw.mp rfl,fun _=>rfl⟩
  | false =>
   rw [show (2 * v + cond false 1 0) / 2=v by show (2 * v + 0) / 2=v; omega,show (2 * v + cond false 1 0) % 2=0 by show (2 * v + 0) % 2=0; omega]
   exact ⟨p,fun e=>(by cases e),fun e=>(by have:=hw.mpr e; cases this)⟩
 | @down v u w _ p nz ih =>
  have hu:u < n:=by
   have:u < cs.length:=Classical.byContradiction fun c=>by
    have e:cs.getD u []=[]:=by rw [ζe,ξa (by omega)]; rfl
    have p:v∈cs.getD u []:=p
    rw [e] at p
    cases p
   rw [← ok.l]; exact this
  refine ⟨hu,.step ih.2 ?_⟩
  have e:(2 * v + cond w 1 0) / 2=v:=by cases w <;> simp only [cond_true,cond_false] <;> omega
  have ms:=(Vr ok (kn:=kn) (a:=2 * v + cond w 1 0) (b:=2 * u + cond true 1 0) (by show (2 * u + 1) / 2 < n; omega)).2 (by show (2 * u + 1) % 2=1; omega)
  refine ms.mpr ?_
  rw [e,show (2 * u + cond true 1 0) / 2=u by show (2 * u + 1) / 2=u; omega]
  exact ⟨p,nz⟩
open Classical in
noncomputable def brB (cs:List (List Nat)) (kn:List Nat) (x y:Nat):Bool:=decide (¬ ∃ w,Dsp.Bb (paC cs) (InL kn) x y w)
open Classical in
theorem zdM {cs:List (List Nat)} {kn:List Nat} {x y:Nat} (h:¬ ∃ w,Dsp.Bb (paC cs) (InL kn) x y w):brB cs kn x y=true:=decide_eq_true h
open Classical in
theorem zcc {cs:List (List Nat)} {kn:List Nat} {x y:Nat} (h:∃ w,Dsp.Bb (paC cs) (InL kn) x y w):brB cs kn x y=false:=decide_eq_false fun z=>z h
noncomputable def reL (n:Nat) (cs:List (List Nat)) (kn:List Nat) (x:Nat):List Nat:=(rchL (2 * n) (stC cs kn) [2 * x]).map fun c=>c / 2
theorem QF {n:Nat} {cs:List (List Nat)} {kn:List Nat} {x y:Nat} (ok:ShOk n cs) (n12:n≤12) (hx:x < n):y∈reL n cs kn x↔∃ w,Dsp.Bb (paC cs) (InL kn) x y w:=by
 unfold reL
 rw [ζr]
 constructor
 ·rintro ⟨c,hc,rfl⟩
  exact ⟨_,(zct ok n12 hx (w4.mp hc).2).2⟩
 ·rintro ⟨w,h⟩
  have b:=zdh ok hx h
  refine ⟨2 * y + cond w 1 0,w4.mpr ⟨?_,b.2⟩,?_⟩ <;> cases w <;> simp only [cond_true,cond_false] <;> omega
def yS (ds:List PyData) (d:PyData):Prop:=∃ (n:Nat) (cs:List (List Nat)) (x:Nat) (kn:List Nat),ds=[nls cs,.int x,nl kn]∧ShOk n cs∧n≤12∧x < n∧d=nl (reL n cs kn x)
theorem v3 (ds:List PyData) (d:PyData) (h:yS ds d):ds.length=3:=by obtain ⟨a,b,c,e,rfl,_⟩:=h; rfl
theorem ui:zI ["causes", "x", "known"] ["causes", "x", "known"] (zo (top 13)):=⟨rfl,rfl,rfl,by decide +kernel,rfl,by decide +kernel,by decide +kernel⟩
theorem uD (F:Fun K "reached_things" "reached_things" (top 13) f fd) (B:Bs mg) (Z:Cs K mg τa τb) (c_reach:zF P w K mg base CX0 "reach" ["causes", "x", "known"] 5 (spD K true uQ)):FnOk P w K mg base CX0 6 f fd ["causes", "x", "known"] (spD K true yS):=by
 have sc:=ui
 refine F.ok sc (fun vs H Q E h=>zX v3 h) (fun cdv A outer s H vs Q E hr h=>?_)
 obtain ⟨Fh,ds,d,le,dp,p,q⟩:=h
 refine ⟨_,(zf (zD (yM rfl (N:=["pair"]) (js:=[none]) (by walk_at"comp_ok") (zJ (K:=K) rfl (zN c_reach (hr.mono (by decide)) rfl zM (zb (pv 0) (zb (pv 1) (zb (pv 2) zd))))) (fun _ _ _ _=>(zH (i:=0) (show List.Nodup (["pair"]:List PySem.Str) by decide +kernel) rfl (Or.inl rfl))) (fun _ _ _ _=>xH) (fun _ _ _ _=>(zz (Xq (K:=K) rfl) (pv 0) zg (fun _ _=>rfl)))))),?_⟩
 have hN:(["causes", "x", "known"]:List Str).length=3:=rfl
 obtain ⟨n,cs,x,kn,rfl,ok,n12,hx,rfl⟩:=p
 have big:=zK
 have rl:=X8 (2 * n) (stC cs kn) [2 * x]
 walk_at"run"
 refine yc true (EvO.toE (EvO.eq (xz (κ:=true) (is:=[0]) (xs:=rchL (2 * n) (stC cs kn) [2 * x]) false cD (fun c=>.int ((c / 2:Nat):Int)) (fun a _ b _ h=>by cases zdd h; rfl) (zT (zv (by walk_at"ev") ⟨n,cs,x,kn,rfl,ok,n12,hx,rfl⟩)) (by walk_at"cc") rfl (by decide) (by omega) ?_) (by unfold reL; rw [List.map_map]; rfl))) rfl (.inl ⟨rfl,rfl⟩)
 intro c hc
 exact egn (by walk_at"sc") (EvE.imm (κ:=false) (Xy (κ:=false) (ds:=[.int ((c / 2:Nat):Int),.int ((c % 2:Nat):Int)]) (i:=0) (EvE.eq (a:=cD c) (by walk_at"ev") rfl) (by walk_at"ev") rfl) rfl)
def vX (ds:List PyData) (d:PyData):Prop:=∃ (n:Nat) (cs:List (List Nat)) (x y:Nat) (kn:List Nat),ds=[nls cs,.int x,.int y,nl kn]∧ShOk n cs∧n≤12∧x < n∧d=.bool (brB cs kn x y)
theorem Vw (ds:List PyData) (d:PyData) (h:vX ds d):ds.length=4:=by obtain ⟨a,b,c,e,f,rfl,_⟩:=h; rfl
theorem UH:zI ["causes", "x", "y", "known"] ["causes", "x", "y", "known"] (zo (top 14)):=⟨rfl,rfl,rfl,by decide +kernel,rfl,by decide +kernel,by decide +kernel⟩
theorem UQ (F:Fun K "barred" "barred" (top 14) f fd) (B:Bs mg) (Z:Cs K mg τa τb) (c_reached_things:zF P w K mg base CX0 "reached_things" ["causes", "x", "known"] 6 (spD K true yS)):FnOk P w K mg base CX0 7 f fd ["causes", "x", "y", "known"] (spD K true vX):=by
 have sc:=UH
 refine F.ok sc (fun vs H Q E h=>zX Vw h) (fun cdv A outer s H vs Q E hr h=>?_)
 obtain ⟨Fh,ds,d,le,dp,p,q⟩:=h
 refine ⟨_,(zf (zD (yR (zZ (K:=K) rfl) (pv 2) (zN c_reached_things (hr.mono (by decide)) rfl zM (zb (pv 0) (zb (pv 1) (zb (pv 3) zd)))) (rfl)))),?_⟩
 have hN:(["causes", "x", "y", "known"]:List Str).length=4:=rfl
 obtain ⟨n,cs,x,y,kn,rfl,ok,n12,hx,rfl⟩:=p
 have e:(!decide (y∈reL n cs kn x))=brB cs kn x y:=by
  by_cases c:y∈reL n cs kn x
  ·rw [decide_eq_true c,zcc ((QF ok n12 hx).mp c)]; rfl
  ·rw [decide_eq_false c,zdM fun z=>c ((QF ok n12 hx).mpr z)]; rfl
 walk_at"run"
 exact yc true (EvE.eq (yr (neg:=true) (i:=(y:Int)) (ns:=zl (reL n cs kn x)) (by walk_at"ev") (EvE.toL (EvE.eq (κ:=false) (zv (by walk_at"ev") ⟨n,cs,x,kn,rfl,ok,n12,hx,rfl⟩) (yv _)))) (by show PyData.bool (!decide _)=_; rw [yi,e])) rfl (.inl ⟨rfl,rfl⟩)
def cauF (cs:List (List Nat)) (k:Nat):List Nat:=cs.getD k []
theorem zae {n:Nat} {cs:List (List Nat)} (h:ShOk n cs) (n12:n≤12):NxOk n (effF cs):=⟨by omega,fun x hx y hy=>by
 have:=ζK.mp (ζp.mp hy).1
 rw [h.l] at this
 exact this,fun x hx=>by
 have:=ζF (fun o=>decide (x∈cs.getD o [])) (List.range cs.length)
 rw [ζy] at this
 have e:=h.l
 show (List.filter (fun o=>decide (x∈cs.getD o [])) (List.range cs.length)).length≤80
 omega⟩
theorem y8 {n:Nat} {cs:List (List Nat)} (h:ShOk n cs) {x y:Nat}:y∈effF cs x↔y < n∧x∈cauF cs y:=by
 unfold effF cauF
 rw [ζp,ζK,h.l]
 simp
theorem xl {n:Nat} {cs:List (List Nat)} (ok:ShOk n cs) {c v:Nat} (h:paC cs c v):c < n∧v < n:=by
 have hv:v < cs.length:=Classical.byContradiction fun z=>by
  have e:cs.getD v []=[]:=by rw [ζe,ξa (by omega)]; rfl
  have h:c∈cs.getD v []:=h
  rw [e] at h
  cases h
 rw [ok.l] at hv
 exact ⟨(ok.at hv).2.1 c h,hv⟩
theorem WN {α:Type} (g:α→PyData) (l:List α):PyData.eqv (.list (l.map g)) (.list [])=decide (l.length=0):=by cases l <;> rfl
theorem UA {n:Nat} {cs:List (List Nat)} (ok:ShOk n cs) {k j:Nat} (hk:k < n):(j < n∧Rch (effF cs) [k] j)↔Dsp.Anc (paC cs) k j:=by
 constructor
 ·rintro ⟨lt,h⟩
  clear lt
  induction h with
  | base z=>rw [ζf.mp z]; exact .refl _
  | step _ z ih=>exact ih.trans (.step ((y8 ok).mp z).2 (.refl _))
 ·intro h
  have:∀ {a b:Nat},Dsp.Anc (paC cs) a b→a < n→Rch (effF cs) [k] a→b < n∧Rch (effF cs) [k] b:=fun {a b} h=>by
   induction h with
   | refl _=>exact fun l r=>⟨l,r⟩
   | step p _ ih =>
    intro _ r
    have l:=(xl ok p).2
    exact ih l (r.step ((y8 ok).mpr ⟨l,p⟩))
  exact this h hk (.base (ζf.mpr rfl))
theorem zdl {n:Nat} {cs:List (List Nat)} (ok:ShOk n cs) {k y:Nat} (hy:y < n):(k < n∧Rch (cauF cs) [y] k)↔Dsp.Anc (paC cs) k y:=by
 constructor
 ·rintro ⟨lt,h⟩
  clear lt
  induction h with
  | base z=>rw [ζf.mp z]; exact .refl _
  | step _ z ih=>exact .step z ih
 ·intro h
  induction h with
  | refl _=>exact ⟨hy,.base (ζf.mpr rfl)⟩
  | step p _ ih=>exact ⟨(xl ok p).1,(ih hy).2.step p⟩
theorem zcE {n k:Nat} (h:k < n):SmOk n [k]:=⟨fun x hx=>by rw [ζf.mp hx]; exact h,by show 1≤80; decide⟩
def wX (ds:List PyData) (d:PyData):Prop:=∃ (n:Nat) (cs:List (List Nat)) (sm:List Nat),ds=[nls cs,nl sm]∧ShOk n cs∧n≤12∧SmOk n sm∧d=nl (rchL n (effF cs) sm)
theorem WA (ds:List PyData) (d:PyData) (h:wX ds d):ds.length=2:=by obtain ⟨a,b,c,rfl,_⟩:=h; rfl
theorem W8:zI ["causes", "some"] ["causes", "some"] (zo (top 3)):=⟨rfl,rfl,rfl,by decide +kernel,rfl,by decide +kernel,by decide +kernel⟩
theorem Vj (F:Fun K "beneath" "beneath" (top 3) f fd) (L:Ym K f "beneath" = true) (B:Bs mg) (Z:Cs K mg τa τb) (c_gathered:zF P w K mg base CX0 "gathered" ["some", "nexts"] 4 (spG P w K mg base 3 xG)) (c_effects:zF P w K mg base CX0 "effects" ["causes", "k"] 1 (spD K true yI)):FnOk P w K mg base CX0 5 f fd ["causes", "some"] (spD K true wX):=by
 have sc:=W8
 refine F.okL L sc (fun vs H Q E h=>zX WA h) (fun c T A outer s H vs Q E hhd htab hr h=>?_)
 obtain ⟨Fh,ds,d,le,dp,p,q⟩:=h
 refine ⟨_,(zf (zD (t9 (caps:=[("causes", 0)]) c_gathered (hr.mono (by decide)) rfl (pv 1) rfl hhd htab rfl rfl rfl (ζL.mpr ⟨⟨rfl,rfl⟩,(fun _ z=>nomatch z)⟩) (ζL.mpr ⟨⟨by first | exact .head _ | exact .tail _ (.head _) | exact .tail _ (.tail _ (.head _)) | exact .tail _ (.tail _ (.tail _ (.head _))),rfl⟩,(fun _ z=>nomatch z)⟩) (ζL.mpr ⟨rfl,(fun _ z=>nomatch z)⟩) (fun _=>rfl)))),?_⟩
 have hN:(["causes", "some"]:List Str).length=2:=rfl
 obtain ⟨n,cs,sm,rfl,ok,n12,so,rfl⟩:=p
 have cl:=ok.l
 walk_at"run"
 refine yc true (Zp (P:=P) (w:=w) (mg:=mg) (base:=base) (kk:=2) (x := "k") (dc:=fun _=>nls cs) (p1:=gI n (effF cs)) (by walk_at"ev") (ζL.mpr ⟨⟨_,rfl⟩,fun _ z=>nomatch z⟩) (WD (by decide +kernel)) (fun cl pm c' ctv=>x9.all fun us hl=>match us,hl with | [_],_=>rfl) (fun _ _ _ hcl _ _ _ _ hr=>(zN c_effects (hr.mono (by decide)) rfl zM (zb (pv 1) (zb (pv 0) zd)))) (fun d r h=>?_) (.inl ⟨n,effF cs,sm,rfl,zae ok n12,so,rfl,rfl⟩)) rfl (.inl ⟨rfl,rfl⟩)
 obtain ⟨k,kn,rfl,rfl⟩:=h
 show EvE K .fresh false _ [some (.fz false (.int k)),some (.fz false (nls cs))] _
 exact zv (by walk_at"ev") ⟨cs,k,rfl,by omega,rfl⟩
def veeB (cs:List (List Nat)) (r:List Nat) (k:Nat):Bool:=decide (r.getD (k - 1) 0∈cs.getD (r.getD k 0) []) && decide (r.getD (k + 1) 0∈cs.getD (r.getD k 0) [])
theorem yC {r:List Nat} {k:Nat} (h:k < r.length):atI (r.map fun k:Nat=>PyData.int (k:Int)) (k:Int)=some (.int (r.getD k 0:Nat)):=yF (getD_some h)
theorem Zx {n:Nat} {r:List Nat} (h:∀ x∈r,x < n) {k:Nat} (hk:k < r.length):r.getD k 0 < n:=h _ (ζj (getD_some (d:=0) hk))
def wJ (ds:List PyData) (d:PyData):Prop:=∃ (n:Nat) (cs:List (List Nat)) (r:List Nat) (k:Nat),ds=[nls cs,nl r,.int k]∧ShOk n cs∧(∀ x∈r,x < n)∧1≤k∧k + 1 < r.length∧d=.bool (veeB cs r k)
theorem Vv (ds:List PyData) (d:PyData) (h:wJ ds d):ds.length=3:=by obtain ⟨a,b,c,e,rfl,_⟩:=h; rfl
theorem UG:zI ["causes", "road", "place", "own"] ["causes", "road", "place"] (zo (top 17)):=⟨rfl,rfl,rfl,by decide +kernel,rfl,by decide +kernel,by decide +kernel⟩
theorem UP (F:Fun K "is_vee" "is_vee" (top 17) f fd) (B:Bs mg) (Z:Cs K mg τa τb)  : FnOk P w K mg base CX0 1 f fd ["causes", "road", "place"] (spD K true wJ):=by
 have sc:=UG
 refine F.ok sc (fun vs H Q E h=>zX Vv h) (fun cdv A outer s H vs Q E hr h=>?_)
 obtain ⟨Fh,ds,d,le,dp,p,q⟩:=h
 refine ⟨_,(ze (zu (i:=3) sc.nd rfl (Or.inl rfl) (zz (zh (K:=K) rfl) (pv 0) (zz (zh (K:=K) rfl) (pv 1) (pv 2) (fun _ _=>rfl)) (fun _ _=>rfl)))
   (zf (zD (Y1 (yR (yd (K:=K) rfl) (zz (zh (K:=K) rfl) (pv 1) (zw yT (pv 2) zg) (fun _ _=>rfl)) (pv 3) (rfl)) (Y0 (yR (yd (K:=K) rfl) (zz (zh (K:=K) rfl) (pv 1) (zw yu (pv 2) zg) (fun _ _=>rfl)) (pv 3) (rfl))))))),?_⟩
 have hN:(["causes", "road", "place", "own"]:List Str).length=4:=rfl
 obtain ⟨n,cs,r,k,rfl,ok,hr,k1,kl,rfl⟩:=p
 have kn:=Zx hr (show k < r.length by omega)
 have a0:=yC (r:=r) (show k < r.length by omega)
 have am:=yC (r:=r) (show k - 1 < r.length by omega)
 have ap:=yC (r:=r) kl
 rw [show ((k - 1:Nat):Int)=(k:Int) - 1 by omega] at am
 rw [show ((k + 1:Nat):Int)=(k:Int) + 1 by omega] at ap
 have ac:atI (cs.map nl) (r.getD k 0:Nat)=some (nl (cs.getD (r.getD k 0) [])):=yF (ok.at kn).1
 walk_at"run"
 refine exs false (d:=nl (cs.getD (r.getD k 0) [])) (zr (κ:=false) (by walk_at"ev") (zr (κ:=false) (by walk_at"ev") (by walk_at"ev") a0) ac) (by walk_at"sc") ?_
 exact yc true (Zq (EvE.eq (yr (neg:=false) (i:=(r.getD (k - 1) 0:Nat)) (ns:=zl (cs.getD (r.getD k 0) [])) (zr (κ:=false) (by walk_at"ev") (by walk_at"ev") am) (EvE.toL (EvE.eq (κ:=false) (by walk_at"ev") (yv _)))) (congrArg PyData.bool yi)) fun _=>EvE.eq (yr (neg:=false) (i:=(r.getD (k + 1) 0:Nat)) (ns:=zl (cs.getD (r.getD k 0) [])) (zr (κ:=false) (by walk_at"ev") (by walk_at"ev") ap) (EvE.toL (EvE.eq (κ:=false) (by walk_at"ev") (yv _)))) (congrArg PyData.bool yi)) rfl (.inl ⟨rfl,rfl⟩)
abbrev innD (r:List Nat):List PyData:=(List.range (r.length - 2)).map fun i:Nat=>.int (1 + (i:Int))
def xi (ds:List PyData) (d:PyData):Prop:=∃ r:List Nat,ds=[nl r]∧r.length≤1000∧d=.list (innD r)
theorem uU (ds:List PyData) (d:PyData) (h:xi ds d):ds.length=1:=by obtain ⟨a,rfl,_⟩:=h; rfl
theorem tD:zI ["road"] ["road"] (zo (top 18)):=⟨rfl,rfl,rfl,by decide +kernel,rfl,by decide +kernel,by decide +kernel⟩
theorem tE (F:Fun K "inner_places" "inner_places" (top 18) f fd) (B:Bs mg) (Z:Cs K mg τa τb)  : FnOk P w K mg base CX0 1 f fd ["road"] (spD K true xi):=by
 have sc:=tD
 refine F.ok sc (fun vs H Q E h=>zX uU h) (fun cdv A outer s H vs Q E hr h=>?_)
 obtain ⟨Fh,ds,d,le,dp,p,q⟩:=h
 refine ⟨_,(zf (zD (zW (Z1 rfl) rfl B.list (by decide +kernel) (zb (zW Tf rfl B.range (by decide +kernel) (zb zg (zb (zw yT (zA (zp (K:=K) rfl) rfl B.len (by decide +kernel) (zb (pv 0) zd)) zg) zd))) zd)))),?_⟩
 have hN:(["road"]:List Str).length=1:=rfl
 obtain ⟨r,rfl,hl,rfl⟩:=p
 walk_at"run"
 refine yc true (EvO.toE (EvO.eq (Xu (a:=1) (b:=(r.length:Int) - 1) (zk (by walk_at"ev") (zk (wN (EvE.eq (yg (ds:=r.map fun k:Nat=>.int (k:Int)) (by walk_at"ev")) (by rw [ζb])) (by walk_at"ev")) zG)) (by omega) (by omega) (by omega) (by omega)) ?_)) rfl (.inl ⟨rfl,rfl⟩)
 rw [show ((r.length:Int) - 1 - 1).toNat=r.length - 2 by omega]
noncomputable def barB (n:Nat) (cs:List (List Nat)) (r kn:List Nat) (k:Nat):Bool:=bif veeB cs r k then !((rchL n (effF cs) [r.getD k 0]).any fun j=>decide (j∈kn)) else decide (r.getD k 0∈kn)
def wY (ds:List PyData) (d:PyData):Prop:=∃ (n:Nat) (cs:List (List Nat)) (r kn:List Nat) (k:Nat),ds=[nls cs,nl r,.int k,nl kn]∧ShOk n cs∧n≤12∧(∀ x∈r,x < n)∧1≤k∧k + 1 < r.length∧kn.length≤1000∧d=.bool (barB n cs r kn k)
theorem WB (ds:List PyData) (d:PyData) (h:wY ds d):ds.length=4:=by obtain ⟨a,b,c,e,f,rfl,_⟩:=h; rfl
theorem W9:zI ["causes", "road", "place", "known", "k"] ["causes", "road", "place", "known"] (zo (top 20)):=⟨rfl,rfl,rfl,by decide +kernel,rfl,by decide +kernel,by decide +kernel⟩
theorem Vk (F:Fun K "bars_at" "bars_at" (top 20) f fd) (B:Bs mg) (Z:Cs K mg τa τb) (c_is_vee:zF P w K mg base CX0 "is_vee" ["causes", "road", "place"] 1 (spD K true wJ)) (c_meet:zF P w K mg base CX0 "meet" ["some", "others"] 1 (spD K true uw)) (c_beneath:zF P w K mg base CX0 "beneath" ["causes", "some"] 5 (spD K true wX)):FnOk P w K mg base CX0 6 f fd ["causes", "road", "place", "known"] (spD K true wY):=by
 have sc:=W9
 refine F.ok sc (fun vs H Q E h=>zX WB h) (fun cdv A outer s H vs Q E hr h=>?_)
 obtain ⟨Fh,ds,d,le,dp,p,q⟩:=h
 refine ⟨_,(ze (zu (i:=4) sc.nd rfl (Or.inl rfl) (zz (zh (K:=K) rfl) (pv 1) (pv 2) (fun _ _=>rfl)))
   (ze (yo (yq (zN c_is_vee (hr.mono (by decide)) rfl zM (zb (pv 0) (zb (pv 1) (zb (pv 2) zd))))) (zf (zD (Ql (zN c_meet (hr.mono (by decide)) rfl zM (zb (zN c_beneath (hr.mono (by decide)) rfl zM (zb (pv 0) (zb (yb (zb (pv 4) zd)) zd))) (zb (pv 3) zd)))))) zL)
   (zf (zD (yR (yd (K:=K) rfl) (pv 4) (pv 3) (rfl)))))),?_⟩
 have hN:(["causes", "road", "place", "known", "k"]:List Str).length=5:=rfl
 obtain ⟨n,cs,r,kn,k,rfl,ok,n12,hr,k1,kl,hk,rfl⟩:=p
 have xn:=Zx hr (show k < r.length by omega)
 have a0:=yC (r:=r) (show k < r.length by omega)
 walk_at"run"
 refine exs false (d:=.int (r.getD k 0:Nat)) (zr (κ:=false) (by walk_at"ev") (by walk_at"ev") a0) (by walk_at"sc") ?_
 have rl:=X8 n (effF cs) [r.getD k 0]
 refine vQ (b:=veeB cs r k) (et_B (zv (by walk_at"ev") ⟨n,cs,r,k,rfl,ok,hr,k1,kl,rfl⟩)) (fun h=>?_) (fun h=>?_)
 ·refine exrs true (VE (zv (zk (zv (ds:=[nls cs,.list [.int (r.getD k 0:Nat)]]) (d:=nl (rchL n (effF cs) [r.getD k 0])) (by walk_at"ev") ⟨n,cs,[r.getD k 0],rfl,ok,n12,zcE xn,rfl⟩) (zk (by walk_at"ev") zG)) ⟨rchL n (effF cs) [r.getD k 0],kn,rfl,by omega,rfl⟩)) ?_ (.inl ⟨rfl,rfl⟩)
  show _=PyData.bool (barB n cs r kn k)
  unfold barB
  rw [h]
  rfl
 ·refine exn ?_
  refine yc true (EvE.eq (yr (neg:=false) (i:=(r.getD k 0:Nat)) (ns:=zl kn) (by walk_at"ev") (EvE.toL (EvE.eq (κ:=false) (by walk_at"ev") (yv _)))) (congrArg PyData.bool yi)) ?_ (.inl ⟨rfl,rfl⟩)
  show _=PyData.bool (barB n cs r kn k)
  unfold barB
  rw [h]
  rfl
theorem zbC {ns:List Int} {k:Nat} (h:k < ns.length):atI (ns.map PyData.int) (k:Int)=some (.int (ns.getD k 0)):=by
 rw [ζe,ζm h]
 exact yF (ζm h)
theorem wA {ns:List Int} {i:Int} (h0:0≤i) (h1:i < ns.length):∃ v:Int,atI (ns.map PyData.int) i=some (.int v):=by
 have:=zbC (ns:=ns) (k:=i.toNat) (by omega)
 rw [Int.toNat_of_nonneg h0] at this
 exact ⟨_,this⟩
theorem QC {i j:Int} (h0:-(2 ^ 64) < i) (h1:i < 2 ^ 64):IntMulOk i j:=.of_left (intBits_le_64 h0 h1)
def xE (ds:List PyData) (G:PyData→Prop):Prop:=∃ ns:List Int,ds=[il ns,.int 63]∧ns.length≤63∧G=fun d=>∃ ps:List Int,ps.length=63∧d=il ps
theorem Xj (ds:List PyData) (G:PyData→Prop) (h:xE ds G):ds.length=2:=by obtain ⟨a,rfl,_⟩:=h; rfl
theorem XZ:zI ["_law_script", "_law_many", "_law_pool_here", "_law_k", "_law_seed", "_law_number"] ["_law_script", "_law_many"] (zo (top 26)):=⟨rfl,rfl,rfl,by decide +kernel,rfl,by decide +kernel,by decide +kernel⟩
theorem Wk (F:Fun K "_law_pool" "_law_pool" (top 26) f fd) (B:Bs mg) (Z:Cs K mg τa τb)  : FnOk P w K mg base CX0 1 f fd ["_law_script", "_law_many"] (spW K true xE):=by
 have sc:=XZ
 refine F.ok sc (fun vs H Q E h=>uh Xj h) (fun cdv A outer s H vs Q E hr h=>?_)
 obtain ⟨Fh,ds,G,le,dp,p,q⟩:=h
 refine ⟨_,(ze (zu (i:=2) sc.nd rfl (Or.inl rfl) (zW (zS (K:=K) rfl) rfl B.list (by decide +kernel) (zb (wZ (wT (K:=K) rfl) (pv 0) uy (ux (pv 1))) zd)))
   (ze (xT PassesOwn.never (zB Ye (zA (zp (K:=K) rfl) rfl B.len (by decide +kernel) (zb (pv 2) zd)) (pv 1) (zU _)) (ze (zu (i:=3) sc.nd rfl (Or.inl rfl) (zA (zp (K:=K) rfl) rfl B.len (by decide +kernel) (zb (pv 2) zd)))
   (ze (zu (i:=4) sc.nd rfl (Or.inl rfl) (zw yu zg (pv 3)))
   (ze (yo (zB Za (pv 3) zg (zU _)) (zf (zu (i:=4) sc.nd rfl (Or.inl rfl) (zw yu (zz (zh (K:=K) rfl) (pv 2) (zw tH (pv 3) zg) (fun _ _=>rfl)) (zw xI zg (zz (zh (K:=K) rfl) (pv 2) (zw yT (pv 3) zg) (fun _ _=>rfl)))))) zL)
   (ze (zu (i:=5) sc.nd rfl (Or.inl rfl) (zw yu (zw yu (zw xI (zw yA (pv 4) zg) zg) (zw xI (zw xI (pv 3) (pv 3)) zg)) zg))
   (zf (yp (y6 (K:=K) rfl ζu ζP ζO yy (pv 2) (zb (zw yA (zw xI (pv 5) (pv 5)) zg) zd)))))))))
   (zf (zD (pv 2))))),?_⟩
 have hN:(["_law_script", "_law_many", "_law_pool_here", "_law_k", "_law_seed", "_law_number"]:List Str).length=6:=rfl
 obtain ⟨ns,rfl,h63,rfl⟩:=p
 have big:=zK
 refine wU le dp q hN (by walk_at"st") ?_
 have et:ns.take 63=ns:=ζM h63
 refine exo true (ds:=ns.map .int) (yz (EvO.toL (EvO.eq (xQ (ds:=ns.map .int) (hi:=some 63) (EvL.imm (κ:=false) (by walk_at"ev") (Zi ns)) vJ (vI (by walk_at"ev"))) (show cutD (ns.map .int) none (some ((63:Nat):Int))=ns.map .int by rw [zao,et])))) (by walk_at"sc") ?_
 refine yJ (fun Γ=>∃ (ps:List Int) (x y z:Option DV),ps.length=63∧Γ=[some (.fz false (il ns)),some (.fz false (.int 63)),some (.ow true (ps.map .int)),x,y,z]) (xY (fun m Γ=>∃ (ps:List Int) (x y z:Option DV),ps.length + m=63∧Γ=[some (.fz false (il ns)),some (.fz false (.int 63)),some (.ow true (ps.map .int)),x,y,z]) (63 - ns.length) ⟨ns,none,none,none,by omega,rfl⟩ ?_) ?_
 ·rintro m Γ' ⟨ps,x,y,z,hm,rfl⟩
  have el:PyData.int (((ps.map PyData.int).length:Nat):Int)=.int (ps.length:Int):=by rw [ζb]
  refine ⟨decide ((ps.length:Int) < 63),zC (Zm (EvE.eq (yg (by walk_at"ev")) el) (by walk_at"ev")),fun h=>?_,fun h=>?_⟩
  ·have h':ps.length < 63:=by
    have:(ps.length:Int) < 63:=by simpa using h
    omega
   refine exs true (d:=.int ps.length) (EvE.eq (yg (by walk_at"ev")) el) (by walk_at"sc") ?_
   refine exs true (d:=.int (29 + ps.length)) (by walk_at"ev") (by walk_at"sc") ?_
   generalize hk:ps.length=k at *
   refine exif (b:=decide ((0:Int) < k)) (fun Γ=>∃ s:Int,Γ=[some (.fz false (il ns)),some (.fz false (.int 63)),some (.ow true (ps.map .int)),some (.fz true (.int k)),some (.fz true (.int s)),z]) (by walk_at"ev") (fun h2=>?_) (fun h2=>?_) ?_
   ·have h3:0 < k:=by
     have:(0:Int) < k:=by simpa using h2
     omega
    obtain ⟨u1,a1⟩:=wA (ns:=ps) (i:=(k:Int) / 2) (by omega) (by omega)
    obtain ⟨u2,a2⟩:=wA (ns:=ps) (i:=(k:Int) - 1) (by omega) (by omega)
    have c2:CDiv (k:Int) 2:=⟨by decide,by decide⟩
    refine exs1 true (vk (zr (κ:=false) (by walk_at"ev") (by walk_at"ev") a1) (Xx (by walk_at"ev") (zr (κ:=false) (by walk_at"ev") (by walk_at"ev") a2) (QC (by decide) (by decide)))) (by walk_at"sc") ⟨_,rfl⟩
   ·exact yx ⟨_,rfl⟩
   ·rintro Γ2 ⟨s,rfl⟩
    have kk:(k:Int) * k≤63 * 63:=Int.mul_le_mul (by omega) (by omega) (by omega) (by omega)
    have kk0:(0:Int)≤(k:Int) * k:=Int.mul_nonneg (by omega) (by omega)
    have s0:=ξf s (show (1000003:Int)≠0 by decide)
    have s1:=ξm s (show (0:Int) < 1000003 by decide)
    have m1:IntMulOk (s % 1000003) 48271:=xg (by decide) (by decide)
    have m2:IntMulOk (k:Int) (k:Int):=xg (by omega) (by omega)
    have m3:IntMulOk ((k:Int) * k) 7919:=xg (by decide) (by decide)
    refine exs true (d:=.int (s % 1000003 * 48271 + (k:Int) * k * 7919 + 13)) (by walk_at"ev") (by walk_at"sc") ?_
    have m4:IntMulOk (s % 1000003 * 48271 + (k:Int) * k * 7919 + 13) (s % 1000003 * 48271 + (k:Int) * k * 7919 + 13):=xg (by omega) (by omega)
    refine exa1 (by walk_at"gc") (by walk_at"ev") (by walk_at"sc") (by rw [ζb]; omega) ?_
    exact ⟨m - 1,by omega,ps ++ [_],_,_,_,by rw [ζd,hk]; show _ + 1 + _=_; omega,by rw [ζn]; rfl⟩
  ·have h':¬ ps.length < 63:=by
    have:¬ (ps.length:Int) < 63:=by simpa using h
    omega
   exact ⟨ps,x,y,z,by omega,rfl⟩
 ·rintro Γ' ⟨ps,x,y,z,hp,rfl⟩
  exact exro (by walk_at"gc") ⟨ps,hp,rfl⟩ (.inl ⟨rfl,rfl⟩)
structure OrdN (n:Nat) (ord:List Nat):Prop where
 l:ord.length=n
 e:∀ x∈ord,x < n
 nd:ord.Nodup
theorem OrdN.at {n:Nat} {ord:List Nat} (h:OrdN n ord) {k:Nat} (hk:k < n):atI (ord.map fun k:Nat=>PyData.int (k:Int)) (k:Int)=some (.int (ord.getD k 0:Nat))∧ord.getD k 0 < n:=by
 have z:ord[k]?=some (ord.getD k 0):=getD_some (by rw [h.l]; exact hk)
 exact ⟨yF z,h.e _ (ζj z)⟩
theorem OrdN.ne {n:Nat} {ord:List Nat} (h:OrdN n ord) {i j:Nat} (hi:i < n) (hj:j < n) (hij:i≠j):ord.getD i 0≠ord.getD j 0:=by
 have z1:ord[i]?=some (ord.getD i 0):=getD_some (by rw [h.l]; exact hi)
 have z2:ord[j]?=some (ord.getD j 0):=getD_some (by rw [h.l]; exact hj)
 intro e
 rw [← e] at z2
 obtain ⟨a1,b1⟩:=ζc.mp z1
 obtain ⟨a2,b2⟩:=ζc.mp z2
 exact hij ((ξE h.nd).mp (b1.trans b2.symm))
theorem OrdN.fresh {n:Nat} {ord:List Nat} (h:OrdN n ord) {j:Nat} (hj:j < n):ord.getD j 0∉ord.take j:=fun z=>by
 obtain ⟨m,hm,e⟩:=ξA.mp z
 rw [ζS] at hm
 rw [List.getElem_take] at e
 refine h.ne (i:=m) (by omega) hj (by omega) ?_
 rw [← e,ζe,ζm (by omega)]
 rfl
def xm (ds:List PyData) (G:PyData→Prop):Prop:=∃ (ps:List Int) (n:Nat),ds=[il ps,.int n]∧ps.length=63∧n≤12∧G=fun d=>∃ ord,OrdN n ord∧d=nl ord
theorem ZV (ds:List PyData) (G:PyData→Prop) (h:xm ds G):ds.length=2:=by obtain ⟨a,b,rfl,_⟩:=h; rfl
theorem YM:zI ["_law_pool_here", "_law_many", "_law_order_here", "_law_k"] ["_law_pool_here", "_law_many"] (zo (top 27)):=⟨rfl,rfl,rfl,by decide +kernel,rfl,by decide +kernel,by decide +kernel⟩
theorem Y5 (F:Fun K "_law_order" "_law_order" (top 27) f fd) (B:Bs mg) (Z:Cs K mg τa τb)  : FnOk P w K mg base CX0 1 f fd ["_law_pool_here", "_law_many"] (spW K true xm):=by
 have sc:=YM
 refine F.ok sc (fun vs H Q E h=>uh ZV h) (fun cdv A outer s H vs Q E hr h=>?_)
 obtain ⟨Fh,ds,G,le,dp,p,q⟩:=h
 refine ⟨_,(ze (zu (i:=2) sc.nd rfl (Or.inl rfl) (yb zd))
   (ze (yD PassesOwn.never rfl (xj rfl B.range (zb (pv 1) zd)) (zH (i:=3) sc.nd rfl (Or.inl rfl)) (zf (yp (y6 (K:=K) rfl ζu PySem.F.slot_list_insert PySem.F.type_list_insert Yj (pv 2) (zb (zw yA (zw yA (zw xI (zw yA (zz (zh (K:=K) rfl) (pv 0) (zw yu zg (pv 3)) (fun _ _=>rfl)) zg) zg) zg) (zw yu (pv 3) zg)) (zb (pv 3) zd))))))
   (zf (zD (pv 2))))),?_⟩
 have hN:(["_law_pool_here", "_law_many", "_law_order_here", "_law_k"]:List Str).length=4:=rfl
 obtain ⟨ps,n,rfl,hp,hn,rfl⟩:=p
 have big:=zK
 refine wU le dp q hN (by walk_at"st") ?_
 refine exo true (zQ (ds:=[]) zG (by decide)) (by walk_at"sc") ?_
 refine wx (ds:=(List.range n).map fun i:Nat=>.int (i:Int)) true (fun i Γ=>∃ (ord:List Nat) (x:Option DV),OrdN i ord∧Γ=[some (.fz false (il ps)),some (.fz false (.int n)),some (.ow true (ord.map fun k:Nat=>.int (k:Int))),x]) (vK (n:=(n:Int)) (by walk_at"ev") (by omega) (by omega)) ⟨[],none,⟨rfl,(fun x hx=>by cases hx),ζ1⟩,rfl⟩ ?_ ?_
 ·rintro i d Γ' hd ⟨ord,x,ok,rfl⟩
  obtain ⟨hi,rfl⟩:=vF hd
  have ol:=ok.l
  refine ⟨_,egn (by walk_at"sc") ?_⟩
  obtain ⟨u,a1⟩:=wA (ns:=ps) (i:=50 + (i:Int)) (by omega) (by omega)
  have m1:IntMulOk (u % 1000003) 31:=xg (by decide) (by decide)
  generalize hv:u % 1000003 * 31 % 10007 % ((i:Int) + 1)=v
  have v0:0≤v:=by rw [← hv]; exact ξf _ (by omega)
  have v1:v < (i:Int) + 1:=by rw [← hv]; exact ξm _ (by omega)
  refine exin (m:=v) (d:=.int i) (by walk_at"gc") (EvE.eq (yE (j:=(i:Int) + 1) (yE (Xx (yE (zr (κ:=false) (by walk_at"ev") (by walk_at"ev") a1) (by walk_at"ev") (by decide)) (by walk_at"ev") m1) (by walk_at"ev") (by decide)) (by walk_at"ev") (by omega)) (congrArg PyData.int hv)) (by walk_at"ev") v0 (by rw [ζb]; omega) (by rw [ζb]; omega) (by walk_at"sc") ?_
  have hni:i∉ord:=fun z=>by have:=ok.e i z; omega
  have pm:(ord.take v.toNat ++ i :: ord.drop v.toNat).Perm (i :: ord):=by
   refine List.perm_middle.trans ?_
   rw [ξk]
  refine ⟨ord.take v.toNat ++ i :: ord.drop v.toNat,some (.fz true (.int i)),⟨by rw [pm.length_eq,ζ2,ol],fun y hy=>?_,pm.nodup_iff.mpr (ζC.mpr ⟨hni,ok.nd⟩)⟩,?_⟩
  ·rcases ζo.mp (pm.mem_iff.mp hy) with h | h
   ·omega
   ·have:=ok.e y h; omega
  ·rw [ζn,ζN,List.map_take,List.map_drop]
 ·rintro Γ' ⟨ord,x,ok,rfl⟩
  rw [xN] at ok
  exact exro (by walk_at"gc") ⟨ord,ok,rfl⟩ (.inl ⟨rfl,rfl⟩)
structure CO (n c:Nat) (css:List (List Nat)):Prop where
 l:css.length=n
 e:∀ r∈css,(∀ x∈r,x < n)∧r.length≤c
def xb (kin:List (List Nat)) (o x:Nat):List (List Nat):=kin.set o (kin.getD o [] ++ [x])
theorem UB (kin:List (List Nat)) {o x:Nat}:(kin.map kD).set o (kD (kin.getD o []) ++ [.int (x:Int)])=(xb kin o x).map kD:=by
 unfold xb
 rw [List.map_set]
 congr 1
 unfold kD
 rw [ζn]
 rfl
theorem CO.mono {n c c':Nat} {css:List (List Nat)} (h:CO n c css) (hc:c≤c'):CO n c' css:=⟨h.l,fun r hr=>⟨(h.e r hr).1,ζU (h.e r hr).2 hc⟩⟩
theorem CO.at {n c:Nat} {css:List (List Nat)} (h:CO n c css) {o:Nat} (ho:o < n):(css.map kD)[o]?=some (kD (css.getD o []))∧ixN (css.map kD).length (o:Int)=some o∧(css.getD o []).length≤c:=by
 have z:css[o]?=some (css.getD o []):=getD_some (by rw [h.l]; exact ho)
 exact ⟨by rw [ζG,z]; rfl,zbh (by rw [ζb,h.l]; exact ho),(h.e _ (ζj z)).2⟩
theorem CO.add {n c:Nat} {css:List (List Nat)} (h:CO n c css) {o x c':Nat} (ho:o < n) (hx:x < n) (hc:c≤c') (hl:(css.getD o []).length + 1≤c'):CO n c' (xb css o x):=by
 unfold xb
 refine ⟨by rw [List.length_set]; exact h.l,fun r hr=>?_⟩
 rcases List.mem_or_eq_of_mem_set hr with hr | hr
 ·exact ⟨(h.e r hr).1,ζU (h.e r hr).2 hc⟩
 ·have z:css[o]?=some (css.getD o []):=getD_some (by rw [h.l]; exact ho)
  have g:=h.e _ (ζj z)
  rw [hr]
  refine ⟨fun y hy=>?_,by rw [ζd]; exact hl⟩
  rcases ζs.mp hy with hy | hy
  ·exact g.1 y hy
  ·rw [ζf.mp hy]; exact hx
theorem CO.sort {n c:Nat} {css:List (List Nat)} (h:CO n c css) (hc:c≤60):ShOk n (css.map srtN):=by
 refine ⟨by rw [ζb]; exact h.l,fun r hr=>?_⟩
 obtain ⟨q,hq,rfl⟩:=ζr.mp hr
 have:=h.e q hq
 exact ⟨fun x hx=>this.1 x ((yL q).mem_iff.mp hx),by rw [(yL q).length_eq]; omega⟩
theorem CO.nil (n c:Nat):CO n c (List.replicate n []):=⟨List.length_replicate ..,fun r hr=>by
 have:r=[]:=List.eq_of_mem_replicate hr
 subst this
 exact ⟨(fun c hc=>by cases hc),ζE _⟩⟩
theorem zdw (n:Nat):List.replicate n ([]:List PyData)=(List.replicate n ([]:List Nat)).map kD:=by
 rw [List.map_replicate]
 rfl
theorem ZD (kin:List (List Nat)) {o x p:Nat} (h:p≠o):(xb kin o x).getD p []=kin.getD p []:=by
 unfold xb
 rw [ζe,ζe (i:=p),ζv (Ne.symm h)]
theorem ZE (kin:List (List Nat)) {o x:Nat} (h:o < kin.length):(xb kin o x).getD o []=kin.getD o [] ++ [x]:=by
 unfold xb
 rw [ζe,ζt h]
 rfl
theorem vg (n o:Nat):(List.replicate n ([]:List Nat)).getD o []=[]:=by
 rw [ζe,ξJ]
 split <;> rfl
def Dg (cs:List (List Nat)):Prop:=∃ rk:Nat→Nat,∀ e c,c∈cs.getD e []→rk c < rk e
def UpO (ord:List Nat) (css:List (List Nat)):Prop:=∀ e c,c∈css.getD e []→ord.idxOf c < ord.idxOf e
theorem UpO.nil (ord:List Nat) (n:Nat):UpO ord (List.replicate n []):=fun e c h=>by rw [vg] at h; cases h
theorem Zj (css:List (List Nat)) (e:Nat):(css.map srtN).getD e []=srtN (css.getD e []):=by
 rw [ζe,ζe,ζG]
 cases css[e]? with
 | none=>exact (List.perm_nil.mp (yL [])).symm
 | some r=>rfl
def tot (cs:List (List Nat)):Nat:=((List.range cs.length).map fun e=>(cs.getD e []).length).sum
theorem tR {f g:Nat→Nat}:∀ n,(∀ e,f e=g e)→((List.range n).map f).sum=((List.range n).map g).sum:=fun n h=>by rw [show f=g from funext h]
theorem XU {f g:Nat→Nat} {o:Nat} (ho:g o=f o + 1) (hn:∀ e,e≠o→g e=f e):∀ n,((List.range n).map g).sum≤((List.range n).map f).sum + (if o < n then 1 else 0)
 | 0=>ζE _
 | n + 1=>by
  have ih:=XU ho hn n
  rw [ξ8,ζn,ζn,ξ7,ξ7]
  show _ + (g n + 0)≤_ + (f n + 0) + _
  by_cases c:n=o
  ·subst c
   rw [if_neg (ζ5 _)] at ih
   rw [if_pos (ξ3 _)]
   omega
  ·rw [hn n c]
   by_cases d:o < n
   ·rw [if_pos d] at ih
    rw [if_pos (by omega)]
    omega
   ·rw [if_neg d] at ih
    rw [if_neg (by omega)]
    omega
theorem VU {css:List (List Nat)} {o x:Nat} (ho:o < css.length):tot (xb css o x)≤tot css + 1:=by
 have l:(xb css o x).length=css.length:=by unfold xb; rw [List.length_set]
 unfold tot
 rw [l]
 refine ζU (XU (f:=fun e=>(css.getD e []).length) (o:=o) ?_ (fun e he=>?_) css.length) (by rw [if_pos ho]; exact ζi _)
 ·show ((xb css o x).getD o []).length=_
  rw [ZE _ ho,ζd]
  rfl
 ·show ((xb css o x).getD e []).length=_
  rw [ZD _ he]
theorem zaC (n:Nat):tot (List.replicate n [])=0:=by
 unfold tot
 rw [tR (g:=fun _=>0) _ fun e=>by rw [vg]; rfl]
 generalize (List.replicate n ([]:List Nat)).length=m
 induction m with
 | zero=>rfl
 | succ m ih =>
  rw [ξ8,ζn,ξ7,ih]
  rfl
theorem Tv (css:List (List Nat)):tot (css.map srtN)=tot css:=by
 unfold tot
 rw [ζb]
 exact tR _ fun e=>by rw [Zj]; exact (yL _).length_eq
def xB (cs:List (List Nat)):Prop:=∀ e,(cs.getD e []).Nodup
theorem xB.add {css:List (List Nat)} (h:xB css) {o x:Nat} (ho:o < css.length) (hx:x∉css.getD o []):xB (xb css o x):=fun e=>by
 by_cases q:e=o
 ·subst q
  rw [ZE _ ho,ζD]
  exact ⟨h e,by simp,fun a ha b hb z=>hx (by rw [← List.mem_singleton.mp hb,← z]; exact ha)⟩
 ·rw [ZD _ q]
  exact h e
theorem xB.sort {css:List (List Nat)} (h:xB css):xB (css.map srtN):=fun e=>by
 rw [Zj]
 exact (yL _).nodup_iff.mpr (h e)
theorem xB.nil (n:Nat):xB (List.replicate n []):=fun e=>by
 rw [vg]
 exact ζ1
theorem zdp {ord:List Nat} {i:Nat} {c:Nat} (h:c∈ord.take i):c∈ord.take (i + 1):=by
 obtain ⟨m,hm⟩:=ζ9.mp h
 have ml:m < i:=by have:=(ζc.mp hm).1; rw [ζS] at this; omega
 rw [ζT ml] at hm
 exact ζj (i:=m) (by rw [ζT (by omega)]; exact hm)
def unk (n:Nat) (fs:List Nat):Nat:=((List.range n).filter fun k=>!decide (k∈fs)).length
theorem zci (n:Nat) (fs:List Nat):unk n fs≤n:=by
 have:=ζF (fun k=>!decide (k∈fs)) (List.range n)
 rw [ζy] at this
 exact this
theorem Yq {α:Type} {p q:α→Bool} {x:α}:∀ {l:List α},(∀ y∈l,p y=true→q y=true)→x∈l→q x=true→p x=false→(l.filter p).length < (l.filter q).length
 | [],_,h,_,_=>by cases h
 | y :: l,hpq,hx,hq,hp=>by
  have le:(l.filter p).length≤(l.filter q).length:=by
   have hh:∀ z∈l,p z=true→q z=true:=fun z hz=>hpq z (ζl _ hz)
   clear hpq hx
   induction l with
   | nil=>exact ζi _
   | cons z l ih =>
    have ih:=ih fun w hw=>hh w (ζl _ hw)
    rw [ζ8,ζ8]
    cases hz:p z with
    | true=>rw [hh z List.mem_cons_self hz]; simpa using ih
    | false =>
     cases q z with
     | true=>simp; omega
     | false=>simpa using ih
  rw [ζ8,ζ8]
  rcases ζo.mp hx with rfl | hx
  ·rw [hp,hq]
   simp
   omega
  ·have ih:=Yq (fun z hz=>hpq z (ζl _ hz)) hx hq hp
   cases hz:p y with
   | true=>rw [hpq y List.mem_cons_self hz]; simpa using ih
   | false =>
    cases q y with
    | true=>simp; omega
    | false=>simpa using ih
theorem Tt {n:Nat} {fs ys:List Nat} (h:∀ y∈ys,y < n∧y∉fs) (hl:ys.length≤60):(fs ++ ys).length + 60 * unk n (fs ++ ys)≤fs.length + 60 * unk n fs:=by
 cases ys with
 | nil=>rw [ζJ]; exact ζi _
 | cons y t =>
  have hy:=h y ζg
  have:unk n (fs ++ y :: t) < unk n fs:=Yq (x:=y) (fun z _ hz=>by
   have:z∉fs ++ y :: t:=by simpa using hz
   have:z∉fs:=fun w=>this (ζz _ w)
   simpa using this) (List.mem_range.mpr hy.1) (by simpa using hy.2) (by simp)
  rw [ζd]
  omega
def yO (ds:List PyData) (G:PyData→Prop):Prop:=∃ (n:Nat) (cs:List (List Nat)) (sm:List Nat),ds=[nls cs,nl sm]∧ShOk n cs∧n≤12∧(∀ x∈sm,x < n)∧sm.length≤60∧G=fun d=>∃ fs:List Nat,(∀ x,x∈fs↔Rch (cauF cs) sm x)∧d=nl fs
theorem ZY (ds:List PyData) (G:PyData→Prop) (h:yO ds G):ds.length=2:=by obtain ⟨a,b,c,rfl,_⟩:=h; rfl
theorem YQ:zI ["_law_causes", "_law_some", "_law_found", "_law_at"] ["_law_causes", "_law_some"] (zo (top 29)):=⟨rfl,rfl,rfl,by decide +kernel,rfl,by decide +kernel,by decide +kernel⟩
theorem Y8 (F:Fun K "_law_above" "_law_above" (top 29) f fd) (B:Bs mg) (Z:Cs K mg τa τb)  : FnOk P w K mg base CX0 1 f fd ["_law_causes", "_law_some"] (spW K true yO):=by
 have sc:=YQ
 refine F.ok sc (fun vs H Q E h=>uh ZY h) (fun cdv A outer s H vs Q E hr h=>?_)
 obtain ⟨Fh,ds,G,le,dp,p,q⟩:=h
 refine ⟨_,(ze (zu (i:=2) sc.nd rfl (Or.inr rfl) (zW (zS (K:=K) rfl) rfl B.list (by decide +kernel) (zb (pv 1) zd)))
   (ze (zu (i:=3) sc.nd rfl (Or.inl rfl) zg)
   (ze (xT PassesOwn.never (zB Ye (pv 3) (zA (zp (K:=K) rfl) rfl B.len (by decide +kernel) (zb (pv 2) zd)) (zU _)) (ze (zu (i:=2) sc.nd rfl (Or.inr rfl) (zw (xw (K:=K) rfl) (pv 2) (yM rfl (N:=["_law_one", "_law_found"]) (js:=[none,some 2]) (by walk_at"comp_ok") (zJ (K:=K) rfl (zz (zh (K:=K) rfl) (pv 0) (zz (zh (K:=K) rfl) (pv 2) (pv 3) (fun _ _=>rfl)) (fun _ _=>rfl))) (fun _ _ _ _=>(zH (i:=0) (show List.Nodup (["_law_one", "_law_found"]:List PySem.Str) by decide +kernel) rfl (Or.inl rfl))) (fun _ _ _ _=>(xq (zB (zZ (K:=K) rfl) (pv 0) (pv 1) (rfl)))) (fun _ _ _ _=>(pv 0)))))
   (zf (zu (i:=3) sc.nd rfl (Or.inl rfl) (zw yu (pv 3) zg)))))
   (zf (zD (pv 2)))))),?_⟩
 have hN:(["_law_causes", "_law_some", "_law_found", "_law_at"]:List Str).length=4:=rfl
 obtain ⟨n,cs,sm,rfl,ok,hn,so,sl,rfl⟩:=p
 have big:=zK
 refine wU le dp q hN (by walk_at"st") ?_
 refine exs true (d:=nl sm) (EvO.toE (yz (EvL.imm (κ:=false) (by walk_at"ev") (yU sm)))) (by walk_at"sc") ?_
 refine exs true (d:=.int ((0:Nat):Int)) (show EvE K .fresh true _ _ (.int 0) by walk_at"ev") (by walk_at"sc") ?_
 refine yJ (fun Γ=>∃ (fs:List Nat) (a:Nat),(∀ x,x∈fs↔Rch (cauF cs) sm x)∧Γ=[some (.fz false (nls cs)),some (.fz false (nl sm)),some (.fz true (nl fs)),some (.fz true (.int a))]) (xY (fun m Γ=>∃ (fs:List Nat) (a:Nat),(∀ x∈fs,x < n)∧(∀ x∈fs,Rch (cauF cs) sm x)∧(∀ x∈sm,x∈fs)∧(∀ i x,i < a→fs[i]?=some x→∀ y∈cs.getD x [],y∈fs)∧fs.length + 60 * unk n fs≤60 + 60 * n∧a + m=60 + 60 * n∧Γ=[some (.fz false (nls cs)),some (.fz false (nl sm)),some (.fz true (nl fs)),some (.fz true (.int a))]) (60 + 60 * n) ⟨sm,0,so,fun x hx=>.base hx,fun x hx=>hx,fun i x hi=>absurd hi (ζV _),by have:=zci n sm; omega,by omega,rfl⟩ ?_) ?_
 ·rintro m Γ' ⟨fs,a,hf,hR,hS,hC,hb,hm,rfl⟩
  have el:PyData.int (((fs.map fun k:Nat=>PyData.int (k:Int)).length:Nat):Int)=.int (fs.length:Int):=by rw [ζb]
  refine ⟨decide ((a:Int) < fs.length),zC (Zm (by walk_at"ev") (EvE.eq (yg (by walk_at"ev")) el)),fun h=>?_,fun h=>⟨fs,a,?_,rfl⟩⟩
  rotate_left
  ·have h':¬ ((a:Int) < fs.length):=by simpa using h
   refine fun x=>⟨hR x,fun r=>?_⟩
   induction r with
   | base z=>exact hS _ z
   | @step u v _ z ih =>
    obtain ⟨i,hi⟩:=ζ9.mp ih
    have:=(ζc.mp hi).1
    exact hC i u (by omega) hi v z
  have h':a < fs.length:=by
   have:(a:Int) < fs.length:=by simpa using h
   omega
  have g:fs[a]?=some (fs.getD a 0):=getD_some h'
  have gl:=hf _ (ζj g)
  have gr0:=hR _ (ζj g)
  have a1:atI (fs.map fun k:Nat=>PyData.int (k:Int)) (a:Int)=some (.int (fs.getD a 0:Nat)):=yF g
  generalize fs.getD a 0=x at gl a1 gr0 g
  have A:=ok.at gl
  have a2:atI (cs.map nl) (x:Int)=some (nl (cs.getD x [])):=yF A.1
  obtain ⟨_,A1,A2⟩:=A
  have st:∀ y∈cs.getD x [],Rch (cauF cs) sm y:=fun y hy=>gr0.step hy
  generalize hrr:cs.getD x []=r at a2 A1 A2 st
  have fl:=ζF (fun k=>!decide (k∈fs)) r
  refine exs true (d:=nl (fs ++ r.filter fun k=>!decide (k∈fs))) (EvO.toE (EvO.eq (xK (xs:=fs.map fun k:Nat=>.int (k:Int)) (ys:=(r.filter fun k=>!decide (k∈fs)).map fun k:Nat=>.int (k:Int)) (by walk_at"ev") (EvO.toL (yB (κ:=true) (κ':=false) (is:=[0]) (xs:=r) (fun k:Nat=>.int (k:Int)) (fun k:Nat=>.int (k:Int)) (fun k=>!decide (k∈fs)) (fun x _ y _ h=>by cases vY h; exact ⟨rfl,rfl⟩) (zT (zr (κ:=false) (by walk_at"ev") (EvE.imm (κ:=false) (zr (κ:=false) (by walk_at"ev") (by walk_at"ev") a1) rfl) a2)) (by walk_at"cc") rfl (by decide) (by omega) ?_)) ?_) (by rw [ζn]))) (by walk_at"sc") ?_
  ·intro k hk
   refine egn (by walk_at"sc") ⟨EvT.eq (zC (yr (neg:=true) (i:=(k:Int)) (ns:=zl fs) (by walk_at"ev") (EvE.toL (EvE.eq (κ:=false) (by walk_at"ev") (yv _))))) ?_,fun _=>by walk_at"ev"⟩
   show (!decide _)=_
   rw [yi]
  ·rw [ζb,ζb]
   omega
  refine exs1 true (d:=.int ((a + 1:Nat):Int)) (EvE.eq (vk (by walk_at"ev") (by walk_at"ev")) (congrArg PyData.int (show (a:Int) + 1=((a + 1:Nat):Int) by omega))) (by walk_at"sc") ?_
  have gr:=Tt (n:=n) (fs:=fs) (ys:=r.filter fun k=>!decide (k∈fs)) (fun y hy=>by
   have:=ζp.mp hy
   exact ⟨A1 y this.1,by simpa using this.2⟩) (by omega)
  refine ⟨m - 1,by omega,_,a + 1,fun y hy=>?_,fun y hy=>?_,fun y hy=>ζz _ (hS y hy),fun i u hi hu y hy=>?_,ζU gr hb,by omega,rfl⟩
  ·rcases ζs.mp hy with hy | hy
   ·exact hf y hy
   ·exact A1 y (ζp.mp hy).1
  ·rcases ζs.mp hy with hy | hy
   ·exact hR y hy
   ·exact st y (ζp.mp hy).1
  ·by_cases hia:i < a
   ·rw [ξC (by omega)] at hu
    exact ζz _ (hC i u hia hu y hy)
   ·have e:i=a:=by omega
    subst e
    rw [ξC h',g] at hu
    cases hu
    rw [hrr] at hy
    by_cases hyf:y∈fs
    ·exact ζz _ hyf
    ·exact List.mem_append_right _ (List.mem_filter.mpr ⟨hy,by simpa using hyf⟩)
 ·rintro Γ' ⟨fs,a,hx,rfl⟩
  exact exrs true (by walk_at"ev") ⟨fs,hx,rfl⟩ (.inl ⟨rfl,rfl⟩)
theorem Dg.sort {css:List (List Nat)} (h:Dg css):Dg (css.map srtN):=let ⟨rk,h⟩:=h; ⟨rk,fun e c hc=>by
 rw [Zj] at hc
 exact h e c ((yL _).mem_iff.mp hc)⟩
theorem uT {css:List (List Nat)} {o x e c:Nat} (ho:o < css.length):c∈(xb css o x).getD e []↔c∈css.getD e []∨(e=o∧c=x):=by
 by_cases q:e=o
 ·subst q
  rw [ZE _ ho,ζs,ζf]
  exact ⟨fun z=>z.imp id fun w=>⟨rfl,w⟩,fun z=>z.imp id fun w=>w.2⟩
 ·rw [ZD _ q]
  exact ⟨.inl,fun z=>z.elim id fun w=>absurd w.1 q⟩
open Classical in
theorem VI {css:List (List Nat)} (h:Dg css) {o x:Nat} (ho:o < css.length) (na:¬ Dsp.Anc (paC css) o x):Dg (xb css o x):=by
 obtain ⟨rk,h⟩:=h
 refine ⟨fun v=>if Dsp.Anc (paC css) o v then rk v + rk x + 1 else rk v,fun e c hc=>?_⟩
 rcases (uT ho).mp hc with hc | ⟨rfl,rfl⟩
 ·have l:=h e c hc
  by_cases q:Dsp.Anc (paC css) o c
  ·have q2:Dsp.Anc (paC css) o e:=q.trans (.step hc (.refl _))
   show (if _ then _ else _) < (if _ then _ else _)
   rw [if_pos q,if_pos q2]
   omega
  ·show (if _ then _ else _) < (if _ then _ else _)
   rw [if_neg q]
   by_cases q2:Dsp.Anc (paC css) o e
   ·rw [if_pos q2]
    omega
   ·rw [if_neg q2]
    exact l
 ·show (if _ then _ else _) < (if _ then _ else _)
  rw [if_neg na,if_pos (.refl _)]
  omega
structure LnO (ord:List Nat) (t:Nat) (css:List (List Nat)):Prop where
 dg:Dg css
 e:∀ e c,c∈css.getD e []→c∈ord.take (t + 1)∧e∈ord.take (t + 1)
def NewO (ord:List Nat) (j a b:Nat):Prop:=(∃ m,m < j∧b=ord.getD m 0∧a=ord.getD j 0)∨∃ m,m < j∧a=ord.getD m 0∧b=ord.getD j 0
theorem LnO.nil (ord:List Nat) (n:Nat):LnO ord 0 (List.replicate n []):=⟨⟨fun _=>0,fun e c h=>by rw [vg] at h; cases h⟩,fun e c h=>by rw [vg] at h; cases h⟩
theorem uC {n:Nat} {ord:List Nat} (ok:OrdN n ord) {m j:Nat} (hj:j < n) (hm:m≤j):ord.getD m 0∈ord.take (j + 1):=by
 have z:ord[m]?=some (ord.getD m 0):=getD_some (by rw [ok.l]; omega)
 exact ζj (i:=m) (by rw [ζT (by omega)]; exact z)
theorem Tl {pa:Nat→Nat→Prop} {a b:Nat} (h:Dsp.Anc pa a b):a=b∨∃ c,pa a c:=by
 cases h with
 | refl _=>exact .inl rfl
 | step p _=>exact .inr ⟨_,p⟩
theorem zax {pa:Nat→Nat→Prop} {a b:Nat} (h:Dsp.Anc pa a b):a=b∨∃ c,pa c b:=by
 induction h with
 | refl _=>exact .inl rfl
 | step p _ ih =>
  rcases ih with e | e
  ·exact .inr ⟨_,e ▸ p⟩
  ·exact .inr e
theorem LnO.add {n:Nat} {ord:List Nat} {t:Nat} {css:List (List Nat)} (h:LnO ord t css) (ok:OrdN n ord) (ht:t + 1 < n) {a b:Nat} (hb:b < css.length) (nw:NewO ord (t + 1) a b):LnO ord (t + 1) (xb css b a):=by
 have fr:=ok.fresh ht
 have big:∀ z∈ord.take (t + 1),z∈ord.take (t + 1 + 1):=fun z hz=>by
  obtain ⟨m,hm⟩:=ζ9.mp hz
  have ml:m < t + 1:=by have:=(ζc.mp hm).1; rw [ζS] at this; omega
  rw [ζT ml] at hm
  exact ζj (i:=m) (by rw [ζT (by omega)]; exact hm)
 rcases nw with ⟨m,hm,rfl,rfl⟩ | ⟨m,hm,rfl,rfl⟩
 ·have ne:=ok.ne (show m < n by omega) ht (by omega)
  refine ⟨VI h.dg hb fun z=>?_,fun e c hc=>?_⟩
  ·rcases zax z with e | ⟨c,p⟩
   ·exact ne e
   ·exact fr (h.e _ _ p).2
  ·rcases (uT hb).mp hc with hc | ⟨rfl,rfl⟩
   ·exact ⟨big _ (h.e e c hc).1,big _ (h.e e c hc).2⟩
   ·exact ⟨uC ok ht (ζi _),uC ok ht (by omega)⟩
 ·have ne:=ok.ne ht (show m < n by omega) (by omega)
  refine ⟨VI h.dg hb fun z=>?_,fun e c hc=>?_⟩
  ·rcases Tl z with e | ⟨c,p⟩
   ·exact ne e
   ·exact fr (h.e _ _ p).1
  ·rcases (uT hb).mp hc with hc | ⟨rfl,rfl⟩
   ·exact ⟨big _ (h.e e c hc).1,big _ (h.e e c hc).2⟩
   ·exact ⟨uC ok ht (by omega),uC ok ht (ζi _)⟩
open Classical in
noncomputable def notB (p:Prop):Bool:=!decide p
open Classical in
theorem za7 {p q:Prop} [Decidable q] (h:q↔p):(!decide q)=notB p:=congrArg (fun b=>!b) (decide_eq_decide.mpr h)
open Classical in
theorem zcI {p:Prop} (h:notB p=true):¬ p:=fun z=>by
 unfold notB at h
 rw [decide_eq_true z] at h
 cases h
theorem LnO.new {n:Nat} {ord:List Nat} {t:Nat} {css:List (List Nat)} (h:LnO ord t css) (ok:OrdN n ord) (ht:t + 1 < n) {a b:Nat} (nw:NewO ord (t + 1) a b):a∉css.getD b []:=fun z=>by
 have fr:=ok.fresh ht
 rcases nw with ⟨m,hm,rfl,rfl⟩ | ⟨m,hm,rfl,rfl⟩
 ·exact fr (h.e _ _ z).1
 ·exact fr (h.e _ _ z).2
def wH (ds:List PyData) (G:PyData→Prop):Prop:=∃ (ps:List Int) (n:Nat),ds=[il ps,.int n]∧ps.length=63∧2≤n∧n≤12∧G=fun d=>∃ cs,ShOk n cs∧Dg cs∧xB cs∧tot cs≤15∧d=nls cs
theorem Xl (ds:List PyData) (G:PyData→Prop) (h:wH ds G):ds.length=2:=by obtain ⟨a,b,rfl,_⟩:=h; rfl
theorem X1:zI ["_law_pool_here", "_law_many", "_law_order_here", "_law_causes", "_law_long", "_law_at", "_law_one", "_law_other", "_law_k", "_law_fits"] ["_law_pool_here", "_law_many"] (zo (top 30)):=⟨rfl,rfl,rfl,by decide +kernel,rfl,by decide +kernel,by decide +kernel⟩
theorem Wm (F:Fun K "_law_line" "_law_line" (top 30) f fd) (B:Bs mg) (Z:Cs K mg τa τb) (c_law_order:zF P w K mg base CX0 "_law_order" ["_law_pool_here", "_law_many"] 1 (spW K true xm)) (c_law_above:zF P w K mg base CX0 "_law_above" ["_law_causes", "_law_some"] 1 (spW K true yO)):FnOk P w K mg base CX0 2 f fd ["_law_pool_here", "_law_many"] (spW K true wH):=by
 have sc:=X1
 refine F.ok sc (fun vs H Q E h=>uh Xl h) (fun cdv A outer s H vs Q E hr h=>?_)
 obtain ⟨Fh,ds,G,le,dp,p,q⟩:=h
 refine ⟨_,(ze (zu (i:=2) sc.nd rfl (Or.inl rfl) (zN c_law_order (hr.mono (by decide)) rfl zM (zb (pv 0) (zb (pv 1) zd))))
   (ze (xh (i:=3) rfl sc.nd rfl rfl (N:=["_law_k"]) (js:=[none]) (by walk_at"comp_ok") (xj rfl B.range (zb (pv 1) zd)) (fun _ _ _ _=>(zH (i:=0) (show List.Nodup (["_law_k"]:List PySem.Str) by decide +kernel) rfl (Or.inl rfl))) (fun _ _ _ _=>xH) (fun _ _ _ _=>(yb zd)))
   (ze (zu (i:=4) sc.nd rfl (Or.inl rfl) (zA (Yz rfl) rfl B.max (by decide +kernel) (zb zg (zb (zw yT (pv 1) (zw yA (zz (zh (K:=K) rfl) (pv 0) zg (fun _ _=>rfl)) zg)) zd))))
   (ze (yD PassesOwn.never rfl (wu rfl B.range (zb zg (zb (pv 1) zd))) (zH (i:=5) sc.nd rfl (Or.inl rfl)) (ze (zu (i:=6) sc.nd rfl (Or.inl rfl) (zz (zh (K:=K) rfl) (pv 2) (zw yT (pv 5) zg) (fun _ _=>rfl)))
   (ze (zu (i:=7) sc.nd rfl (Or.inl rfl) (zz (zh (K:=K) rfl) (pv 2) (pv 5) (fun _ _=>rfl)))
   (ze (yo (zB zdC (pv 5) (pv 4) (zU _)) (zf (zu (i:=6) sc.nd rfl (Or.inl rfl) (zz (zh (K:=K) rfl) (pv 2) (zw yA (zw tH (zz (zh (K:=K) rfl) (pv 0) (zw yu zg (pv 5)) (fun _ _=>rfl)) zg) (pv 5)) (fun _ _=>rfl)))) (zf (yo (zB Yf (zw yA (zz (zh (K:=K) rfl) (pv 0) (zw yu zg (pv 5)) (fun _ _=>rfl)) zg) zg (zU _)) (ze (zu (i:=6) sc.nd rfl (Or.inl rfl) (zz (zh (K:=K) rfl) (pv 2) (pv 5) (fun _ _=>rfl)))
   (zf (zu (i:=7) sc.nd rfl (Or.inl rfl) (zz (zh (K:=K) rfl) (pv 2) (zw yT (pv 5) zg) (fun _ _=>rfl))))) zL)))
   (zf (yp (y6 (K:=K) rfl ζu ζP ζO yy (zz (zh (K:=K) rfl) (pv 3) (pv 7) (fun _ _=>rfl)) (zb (pv 6) zd))))))))
   (ze (yD PassesOwn.never rfl (xj rfl B.range (zb (zw yA (zz (zh (K:=K) rfl) (pv 0) zg (fun _ _=>rfl)) zg) zd)) (zH (i:=8) sc.nd rfl (Or.inl rfl)) (ze (zu (i:=6) sc.nd rfl (Or.inl rfl) (zz (zh (K:=K) rfl) (pv 2) (zw yA (zz (zh (K:=K) rfl) (pv 0) (zw yu zg (zw xI zg (pv 8))) (fun _ _=>rfl)) (pv 1)) (fun _ _=>rfl)))
   (ze (zu (i:=7) sc.nd rfl (Or.inl rfl) (zz (zh (K:=K) rfl) (pv 2) (zw yA (zz (zh (K:=K) rfl) (pv 0) (zw yu zg (zw xI zg (pv 8))) (fun _ _=>rfl)) (pv 1)) (fun _ _=>rfl)))
   (ze (zu (i:=9) sc.nd rfl (Or.inl rfl) (Y1 (yR Qs (pv 6) (pv 7) (zU _)) (Y1 (yR (zZ (K:=K) rfl) (pv 6) (zz (zh (K:=K) rfl) (pv 3) (pv 7) (fun _ _=>rfl)) (rfl)) (Y0 (yR Ye (zA (zp (K:=K) rfl) rfl B.len (by decide +kernel) (zb (zz (zh (K:=K) rfl) (pv 3) (pv 7) (fun _ _=>rfl)) zd)) zg (zU _))))))
   (zf (yo (PW.pt (wV (yq (pv 9)) (x5 (zB (zZ (K:=K) rfl) (pv 7) (zN c_law_above (hr.mono (by decide)) rfl zM (zb (pv 3) (zb (yb (zb (pv 6) zd)) zd))) (rfl))))) (zf (yp (y6 (K:=K) rfl ζu ζP ζO yy (zz (zh (K:=K) rfl) (pv 3) (pv 7) (fun _ _=>rfl)) (zb (pv 6) zd)))) zL))))))
   (zf (zD (yM rfl (N:=["_law_own"]) (js:=[none]) (by walk_at"comp_ok") (zJ (K:=K) rfl (pv 3)) (fun _ _ _ _=>(zH (i:=0) (show List.Nodup (["_law_own"]:List PySem.Str) by decide +kernel) rfl (Or.inl rfl))) (fun _ _ _ _=>xH) (fun _ _ _ _=>(zA (uK (K:=K) rfl) rfl B.sorted (by decide +kernel) (zb (pv 0) zd))))))))))),?_⟩
 have hN:(["_law_pool_here", "_law_many", "_law_order_here", "_law_causes", "_law_long", "_law_at", "_law_one", "_law_other", "_law_k", "_law_fits"]:List Str).length=10:=rfl
 obtain ⟨ps,n,rfl,hp,n2,hn,rfl⟩:=p
 have big:=zK
 refine wU le dp q hN (by walk_at"st") ?_
 refine exg true (xZ (by walk_at"ev") ⟨ps,n,rfl,hp,hn,rfl⟩) (fun d=>by walk_at"sc") ?_
 rintro d ⟨ord,ook,rfl⟩
 refine exo2 (ds:=(List.range n).map fun i:Nat=>.int (i:Int)) (κ':=true) (vK (n:=(n:Int)) (by walk_at"ev") (by omega) (by omega)) (by rw [xN]; omega) (by walk_at"sc") ?_
 rw [xN,zdw]
 obtain ⟨u2,a2⟩:=wA (ns:=ps) (i:=2) (by omega) (by omega)
 generalize hlg:max 2 ((n:Int) - u2 % 5)=lg
 have lg2:2≤lg:=by rw [← hlg]; exact Int.le_max_left ..
 refine exs true (d:=.int lg) (EvE.eq (Ui (by walk_at"ev") (wN (by walk_at"ev") (yE (zr (κ:=false) (by walk_at"ev") (by walk_at"ev") a2) (by walk_at"ev") (by decide)))) (congrArg PyData.int hlg)) (by walk_at"sc") ?_
 refine wx (ds:=(List.range ((n:Int) - 1).toNat).map fun i:Nat=>.int (1 + (i:Int))) true (fun t Γ=>∃ (css:List (List Nat)) (x y z:Option DV),CO n t css∧LnO ord t css∧xB css∧tot css≤t∧Γ=[some (.fz false (il ps)),some (.fz false (.int n)),some (.fz true (nl ord)),some (.o2 none (css.map kD)),some (.fz true (.int lg)),x,y,z,none,none]) (uH (m:=1) (n:=(n:Int)) (by walk_at"ev") (by omega)) ⟨_,none,none,none,.nil n 0,.nil ord n,.nil n,by rw [zaC]; exact ζE _,rfl⟩ ?_ ?_
 ·rintro t d Γ' hd ⟨css,x,y,z,co,ln,nd,tt,rfl⟩
  obtain ⟨ht,rfl⟩:=YW hd
  refine ⟨_,egn (by walk_at"sc") ?_⟩
  obtain ⟨j,hj⟩:∃ j:Nat,1 + (t:Int)=(j:Int):=⟨1 + t,by omega⟩
  rw [hj]
  have jn:j < n:=by omega
  have O:=ook.at jn
  have O1:=ook.at (show j - 1 < n by omega)
  have ej:((j - 1:Nat):Int)=(j:Int) - 1:=by omega
  rw [ej] at O1
  obtain ⟨u,au⟩:=wA (ns:=ps) (i:=3 + (j:Int)) (by omega) (by omega)
  refine exs true (d:=.int (ord.getD (j - 1) 0:Nat)) (EvE.imm (κ:=false) (zr (κ:=false) (by walk_at"ev") (by walk_at"ev") O1.1) rfl) (by walk_at"sc") ?_
  refine exs true (d:=.int (ord.getD j 0:Nat)) (EvE.imm (κ:=false) (zr (κ:=false) (by walk_at"ev") (by walk_at"ev") O.1) rfl) (by walk_at"sc") ?_
  have c2:CDiv u 2:=⟨by decide,by decide⟩
  refine exif (b:=decide (lg≤(j:Int))) (fun Γ=>∃ a b:Nat,a < n∧b < n∧NewO ord (t + 1) a b∧Γ=[some (.fz false (il ps)),some (.fz false (.int n)),some (.fz true (nl ord)),some (.o2 none (css.map kD)),some (.fz true (.int lg)),some (.fz true (.int j)),some (.fz true (.int a)),some (.fz true (.int b)),none,none]) (by walk_at"ev") (fun h=>?_) (fun h=>?_) ?_
  ·have p0:=ξf (u / 2) (show (j:Int)≠0 by omega)
   have p1:=ξm (u / 2) (show (0:Int) < j by omega)
   obtain ⟨m,hm⟩:∃ m:Nat,u / 2 % (j:Int)=(m:Int):=⟨(u / 2 % (j:Int)).toNat,by omega⟩
   have M:=ook.at (show m < n by omega)
   exact exs1 true (d:=.int (ord.getD m 0:Nat)) (EvE.imm (κ:=false) (zr (i:=(m:Int)) (κ:=false) (by walk_at"ev") (EvE.eq (yE (j:=(j:Int)) (tL (zr (κ:=false) (by walk_at"ev") (by walk_at"ev") au) (by walk_at"ev") c2) (by walk_at"ev") (by omega)) (congrArg PyData.int hm)) M.1) rfl) (by walk_at"sc") ⟨_,_,M.2,O.2,.inr ⟨m,by omega,rfl,by rw [show t + 1=j by omega]⟩,rfl⟩
  ·refine wz (b:=decide (u % 2=1)) (zC (v7 (yE (zr (κ:=false) (by walk_at"ev") (by walk_at"ev") au) (by walk_at"ev") (by decide)) (by walk_at"ev"))) (fun h=>?_) fun h=>yx ⟨_,_,O1.2,O.2,.inr ⟨j - 1,by omega,rfl,by rw [show t + 1=j by omega]⟩,rfl⟩
   refine exs true (d:=.int (ord.getD j 0:Nat)) (EvE.imm (κ:=false) (zr (κ:=false) (by walk_at"ev") (by walk_at"ev") O.1) rfl) (by walk_at"sc") ?_
   exact exs1 true (d:=.int (ord.getD (j - 1) 0:Nat)) (EvE.imm (κ:=false) (zr (κ:=false) (by walk_at"ev") (by walk_at"ev") O1.1) rfl) (by walk_at"sc") ⟨_,_,O.2,O1.2,.inl ⟨j - 1,by omega,rfl,by rw [show t + 1=j by omega]⟩,rfl⟩
  ·rintro Γ2 ⟨a,b,ha,hb,nw,rfl⟩
   have C:=co.at hb
   refine WH (d:=.int (a:Nat)) (by walk_at"gc") (by walk_at"ev") C.2.1 C.1 (by walk_at"ev") (by rw [Vy]; omega) (by walk_at"sc") ?_
   exact ⟨xb css b a,_,_,_,co.add hb ha (Nat.le_succ _) (by omega),ln.add ook (by omega) (by rw [co.l]; exact hb) nw,nd.add (by rw [co.l]; exact hb) (ln.new ook (by omega) nw),ζU (VU (by rw [co.l]; exact hb)) (by omega),by rw [UB]⟩
 rintro Γ' ⟨css,x,y,z,co,ln,nd,tt,rfl⟩
 rw [vV] at co tt
 replace ln:=ln.dg
 replace co:=co.mono (show ((n:Int) - 1).toNat≤12 by omega)
 obtain ⟨u20,a20⟩:=wA (ns:=ps) (i:=20) (by omega) (by omega)
 have q0:=ξf u20 (show (5:Int)≠0 by decide)
 have q1:=ξm u20 (show (0:Int) < 5 by decide)
 obtain ⟨mm,hmm⟩:∃ m:Nat,u20 % 5=(m:Int):=⟨(u20 % 5).toNat,by omega⟩
 refine wx (ds:=(List.range mm).map fun i:Nat=>.int (i:Int)) true (fun t Γ=>∃ (css:List (List Nat)) (x y z w v:Option DV),CO n (12 + t) css∧Dg css∧xB css∧tot css≤11 + t∧Γ=[some (.fz false (il ps)),some (.fz false (.int n)),some (.fz true (nl ord)),some (.o2 none (css.map kD)),some (.fz true (.int lg)),x,y,z,w,v]) (vK (n:=(mm:Int)) (zk (EvE.eq (yE (zr (κ:=false) (by walk_at"ev") (by walk_at"ev") a20) (by walk_at"ev") (by decide)) (congrArg PyData.int hmm)) zG) (by omega) (by omega)) ⟨css,x,y,z,none,none,co,ln,nd,by omega,rfl⟩ ?_ ?_
 ·clear co ln nd tt css x y z
  rintro t d Γ' hd ⟨css,x,y,z,w,v,co,dg,nd,tt,rfl⟩
  obtain ⟨ht,rfl⟩:=vF hd
  refine ⟨_,egn (by walk_at"sc") ?_⟩
  have m2:IntMulOk 2 (t:Int):=xg (by omega) (by omega)
  have pick:∀ u:Int,∃ m:Nat,u % (n:Int)=(m:Int)∧m < n:=fun u=>⟨(u % (n:Int)).toNat,by
   have p0:=ξf u (show (n:Int)≠0 by omega)
   have p1:=ξm u (show (0:Int) < n by omega)
   omega⟩
  obtain ⟨v1,b1⟩:=wA (ns:=ps) (i:=21 + 2 * (t:Int)) (by omega) (by omega)
  obtain ⟨v2,b2⟩:=wA (ns:=ps) (i:=22 + 2 * (t:Int)) (by omega) (by omega)
  obtain ⟨m1,e1,l1⟩:=pick v1
  obtain ⟨m2',e2,l2⟩:=pick v2
  have M1:=ook.at l1
  have M2:=ook.at l2
  refine exs true (d:=.int (ord.getD m1 0:Nat)) (EvE.imm (κ:=false) (zr (i:=(m1:Int)) (κ:=false) (by walk_at"ev") (EvE.eq (yE (j:=(n:Int)) (zr (κ:=false) (by walk_at"ev") (by walk_at"ev") b1) (by walk_at"ev") (by omega)) (congrArg PyData.int e1)) M1.1) rfl) (by walk_at"sc") ?_
  refine exs true (d:=.int (ord.getD m2' 0:Nat)) (EvE.imm (κ:=false) (zr (i:=(m2':Int)) (κ:=false) (by walk_at"ev") (EvE.eq (yE (j:=(n:Int)) (zr (κ:=false) (by walk_at"ev") (by walk_at"ev") b2) (by walk_at"ev") (by omega)) (congrArg PyData.int e2)) M2.1) rfl) (by walk_at"sc") ?_
  obtain ⟨_,lo⟩:=M1
  obtain ⟨_,lt'⟩:=M2
  generalize ord.getD m1 0=o1 at lo
  generalize ord.getD m2' 0=o2 at lt'
  have C:=co.at lt'
  have ll:PyData.int (((kD (css.getD o2 [])).length:Nat):Int)=.int ((css.getD o2 []).length:Int):=by rw [Vy]
  have kz:kD (css.getD o2 [])=(zl (css.getD o2 [])).map PyData.int:=PyData.list.inj (yv _)
  generalize hfit:(!decide ((o1:Int)=o2) && (!decide (o1∈css.getD o2 []) && decide (((css.getD o2 []).length:Int) < 5)))=fit
  refine exs true (d:=.bool fit) (EvE.eq (Zq (Xw (by walk_at"ev") (by walk_at"ev")) fun _=>Zq (EvE.eq (yr (neg:=true) (i:=(o1:Int)) (ns:=zl (css.getD o2 [])) (by walk_at"ev") (EvL.weak (kz ▸ Q6 (by walk_at"gc") (by walk_at"ev") C.2.1 C.1) fun h=>nomatch h)) (congrArg PyData.bool (show (!decide _)=_ by rw [yi]))) fun _=>Zm (EvE.eq (yg (EvL.weak (Q6 (by walk_at"gc") (by walk_at"ev") C.2.1 C.1) fun h=>nomatch h)) ll) (by walk_at"ev")) (congrArg PyData.bool hfit)) (by walk_at"sc") ?_
  have e5:(css.map kD).map PyData.list=css.map nl:=by rw [ζR]; rfl
  have sh:ShOk n css:=⟨co.l,fun r hr=>⟨(co.e r hr).1,by have:=(co.e r hr).2; omega⟩⟩
  have pa:yO [nls css,.list [.int (o1:Int)]] (fun d=>∃ fs:List Nat,(∀ x,x∈fs↔Rch (cauF css) [o1] x)∧d=nl fs):=⟨n,css,[o1],rfl,sh,hn,fun z hz=>by rw [ζf.mp hz]; exact lo,by show 1≤60; decide,rfl⟩
  refine wz (b:=fit && notB (Rch (cauF css) [o1] o2)) (wO (by walk_at"ev") fun _=>zac 3 (by walk_at"gc") (by walk_at"sc") (zc5 (neg:=true) (i:=(o2:Int)) (by walk_at"ev") (xZ (zk (EvE.eq (by walk_at"ev") (congrArg PyData.list e5)) (zk (EvO.toE (zQ (zk (by walk_at"ev") zG) (by show 1≤_; omega))) zG)) pa) (fun d ⟨fs,hf,hd⟩=>⟨zl fs,by rw [hd]; exact yv fs,by show (!decide _)=_; rw [yi]; exact za7 (hf o2)⟩))) (fun hif=>?_) (fun _=>yx ⟨css,_,_,_,_,_,co.mono (by omega),dg,nd,by omega,rfl⟩)
  refine WH (d:=.int (o1:Nat)) (by walk_at"gc") (by walk_at"ev") C.2.1 C.1 (by walk_at"ev") (by rw [Vy]; omega) (by walk_at"sc") ?_
  exact ⟨xb css o2 o1,_,_,_,_,_,co.add lt' lo (by omega) (by omega),VI dg (by rw [co.l]; exact lt') (fun z=>zcI (ζH.mp hif).2 ((zdl sh lo).mpr z).2),nd.add (by rw [co.l]; exact lt') (fun z=>by
   have h1:=(ζH.mp hif).1
   rw [← hfit] at h1
   have h2:=(ζH.mp (ζH.mp h1).2).1
   rw [decide_eq_true z] at h2
   cases h2),ζU (VU (by rw [co.l]; exact lt')) (by omega),by rw [UB]⟩
 ·rintro Γ' ⟨css,x,y,z,w,v,co,dg,nd,tt,rfl⟩
  rw [xN] at co
  have e5:(css.map kD).map PyData.list=css.map nl:=by rw [ζR]; rfl
  refine zdF 3 (by walk_at"gc") (by walk_at"sc") ?_
  rw [e5]
  refine yc true (EvO.toE (xz (κ:=true) (is:=[0]) (xs:=css) true nl (fun r=>nl (srtN r)) (fun x _ y _ h=>by rw [show x=y from by rw [← YF x,h,YF]]) (zT (by walk_at"ev")) (by walk_at"cc") rfl (by decide) (by rw [co.l]; omega) ?_)) ⟨css.map srtN,co.sort (by omega),dg.sort,nd.sort,by rw [Tv]; rw [vV] at tt; omega,by rw [nls,ζR]; rfl⟩ (.inl ⟨rfl,rfl⟩)
  intro r hr
  have k5:=(co.e r hr).2
  exact egn (by walk_at"sc") (EvE.eq (EvO.toE (Zl (ns:=zl r) (EvE.toL (EvE.eq (κ:=false) (by walk_at"ev") (yv r))) (by unfold zl; rw [List.length_map]; omega))) (congrArg PyData.list (TK _)))
theorem Ya (ks:List Nat):SeqAt.shaped (nl ks)=true:=Z9 (tJ (fun _=>rfl) ks) (by
 have:=vM (g:=fun k:Nat=>PyData.int (k:Int)) (n:=0) (fun _=>ζi _) ks
 show PyData.depthAll _ + 1≤50
 omega)
theorem wD (cs:List (List Nat)):SeqAt.shaped (nls cs)=true:=Z9 (tJ (g:=nl) (fun k=>tJ (g:=fun k:Nat=>PyData.int (k:Int)) (fun _=>rfl) k) cs) (by
 have:=vM (g:=nl) (n:=1) (fun k=>by
  have:=vM (g:=fun k:Nat=>PyData.int (k:Int)) (n:=0) (fun _=>ζi _) k
  show PyData.depthAll _ + 1≤1
  omega) cs
 show PyData.depthAll _ + 1≤50
 omega)
theorem Qi (u:Int) {n:Nat} (h:0 < n):∃ m:Nat,u % (n:Int)=(m:Int)∧m < n:=⟨(u % (n:Int)).toNat,by
 have h1:=ξf u (show (n:Int)≠0 by omega)
 have h2:=ξm u (show (0:Int) < (n:Int) by omega)
 omega⟩
theorem Qz {l:List Nat} (h:l.reverse.Nodup):l.Nodup:=(ξ9.mp h).imp fun hne e=>hne e.symm
inductive Pth (cs:List (List Nat)) (x:Nat):List Nat→Prop
 | one:Pth cs x [x]
 | more {u v:Nat} {s:List Nat}:Pth cs x (v :: s)→Dsp.Adj (paC cs) v u→u∉v :: s→Pth cs x (u :: v :: s)
theorem Pth.nd {cs:List (List Nat)} {x:Nat} {l:List Nat} (h:Pth cs x l):l.Nodup:=by
 induction h with
 | one=>simp
 | more _ _ n ih=>exact ζC.mpr ⟨n,ih⟩
theorem Pth.last {cs:List (List Nat)} {x:Nat} {l:List Nat} (h:Pth cs x l):l.getLast?=some x:=by
 induction h with
 | one=>rfl
 | more _ _ _ ih=>rw [List.getLast?_cons_cons]; exact ih
theorem Pth.lt {n:Nat} {cs:List (List Nat)} (ok:ShOk n cs) {x:Nat} (hx:x < n) {l:List Nat} (h:Pth cs x l):∀ y∈l,y < n:=by
 induction h with
 | one=>exact fun y hy=>by rw [ζf.mp hy]; exact hx
 | more _ a _ ih =>
  intro y hy
  rcases ζo.mp hy with rfl | hy
  ·rcases a with a | a
   ·exact (xl ok a).2
   ·exact (xl ok a).1
  ·exact ih y hy
def onB (cs:List (List Nat)) (r:List Nat) (k:Nat):Bool:=!decide (k∈r) && (decide (k∈cs.getD (r.getLastD 0) []) || decide (r.getLastD 0∈cs.getD k []))
def onR (cs:List (List Nat)) (r:List Nat) (j:Nat):List (List Nat):=((List.range j).filter (onB cs r)).map fun k=>r ++ [k]
theorem U0 {r:List Nat} {v:Nat} {s:List Nat} (h:r.reverse=v :: s):r.getLastD 0=v∧r.getLast?=some v:=by
 have e:r=s.reverse ++ [v]:=by rw [← ξz r,h,ζW]
 rw [e]
 exact ⟨by rw [ξB,List.getLast?_append]; rfl,by rw [List.getLast?_append]; rfl⟩
theorem Vc {cs:List (List Nat)} {x:Nat} {r:List Nat} {k:Nat} (h:Pth cs x r.reverse):Pth cs x (r ++ [k]).reverse↔onB cs r k=true:=by
 rw [List.reverse_append]
 show Pth cs x (k :: r.reverse)↔_
 cases e:r.reverse with
 | nil=>rw [e] at h; cases h
 | cons v s =>
  rw [e] at h
  have lh:=U0 e
  have mr:k∈r↔k∈v :: s:=by rw [← e,ξc]
  unfold onB
  rw [lh.1]
  constructor
  ·intro p
   cases p with
   | more _ a n =>
    rw [decide_eq_false fun z=>n (mr.mp z)]
    rcases a with a | a
    ·rw [decide_eq_true (show v∈cs.getD k [] from a),Bool.or_true]; rfl
    ·rw [decide_eq_true (show k∈cs.getD v [] from a),Bool.true_or]; rfl
  ·intro b
   obtain ⟨b1,b2⟩:=ζH.mp b
   refine .more h ?_ fun z=>?_
   ·rcases Bool.or_eq_true_iff.mp b2 with z | z
    ·exact .inr (of_decide_eq_true z)
    ·exact .inl (of_decide_eq_true z)
   ·rw [decide_eq_true (mr.mpr z)] at b1
    cases b1
theorem zaS {cs:List (List Nat)} {x:Nat}:∀ {t r:List Nat},Pth cs x (r ++ t).reverse→r≠[]→Pth cs x r.reverse:=by
 intro t
 induction t with
 | nil=>intro r h _; rwa [ζJ] at h
 | cons k t ih =>
  intro r h hr
  have h2:=ih (r:=r ++ [k]) (by rw [List.append_assoc]; exact h) (by simp)
  rw [List.reverse_append] at h2
  have h2:Pth cs x (k :: r.reverse):=h2
  cases e:r.reverse with
  | nil=>exact absurd (List.reverse_eq_nil_iff.mp e) hr
  | cons v s =>
   rw [e] at h2
   cases h2 with
   | more p _ _=>exact p
def arrL (cs:List (List Nat)):List (Nat×Nat):=(List.range cs.length).flatMap fun e=>(cs.getD e []).map fun c=>(c,e)
theorem zbE (cs:List (List Nat)):(arrL cs).length=tot cs:=by
 unfold arrL tot
 rw [List.length_flatMap]
 exact tR _ fun e=>ζb ..
theorem Uz {cs:List (List Nat)} {c e:Nat} (h:c∈cs.getD e []):(c,e)∈arrL cs:=by
 have el:e < cs.length:=Classical.byContradiction fun z=>by
  rw [ζe,ξa (by omega)] at h
  cases h
 exact ξp.mpr ⟨e,ζK.mpr el,ζr.mpr ⟨c,h,rfl⟩⟩
def frB (r:List Nat) (a:Nat×Nat):Bool:=!decide (a.1∈r.dropLast) && !decide (a.2∈r.dropLast)
def gW (cs:List (List Nat)) (r:List Nat):Nat:=2 ^ ((arrL cs).filter (frB r)).length
def gS (cs:List (List Nat)) (ls:List (List Nat)):Nat:=(ls.map (gW cs)).sum
theorem zcX (cs:List (List Nat)) (r:List Nat):1≤gW cs r:=Nat.two_pow_pos _
theorem cut2 {α:Type} (p q:α→Bool):∀ l:List α,(l.filter p).length=(l.filter fun a=>p a && q a).length + (l.filter fun a=>p a && !q a).length
 | []=>rfl
 | a :: l=>by
  have ih:=cut2 p q l
  rw [ζ8,ζ8,ζ8]
  cases p a <;> cases q a <;> simp only [Bool.true_and,Bool.false_and,Bool.not_true,Bool.not_false,if_true,Bool.false_eq_true,if_false,List.length_cons] <;> omega
theorem VY:∀ (l p:List Nat),l.Nodup→(∀ k∈l,k∈p)→l.length≤p.length
 | [],_,_,_=>ζE _
 | a :: l,p,nd,h=>by
  obtain ⟨n1,n2⟩:=ζC.mp nd
  have ap:=h a ζg
  have ih:=VY l (p.erase a) n2 fun k hk=>(List.mem_erase_of_ne (fun e:k=a=>n1 (e ▸ hk))).mpr (h k (ζl _ hk))
  rw [ξX ap] at ih
  have:=ξg ap
  rw [ζ2]
  omega
def otE (v:Nat) (a:Nat×Nat):Nat:=if a.1=v then a.2 else a.1
def incB (v:Nat) (a:Nat×Nat):Bool:=decide (a.1=v) || decide (a.2=v)
def outB (r:List Nat) (a:Nat×Nat):Bool:=!decide (a.1∈r) && !decide (a.2∈r)
theorem zcG {cs:List (List Nat)} {r0:List Nat} {v:Nat} (nd:(r0 ++ [v]).Nodup) (n:Nat):((List.range n).filter (onB cs (r0 ++ [v]))).length + ((arrL cs).filter (outB (r0 ++ [v]))).length≤((arrL cs).filter (frB (r0 ++ [v]))).length:=by
 have vr:v∉r0:=fun z=>(ζD.mp nd).2.2 v z v (ζf.mpr rfl) rfl
 have dl:(r0 ++ [v]).dropLast=r0:=ζ7
 have lD:(r0 ++ [v]).getLastD 0=v:=by rw [ξB,List.getLast?_append]; rfl
 rw [cut2 (frB (r0 ++ [v])) (incB v)]
 have e:(arrL cs).filter (fun a=>frB (r0 ++ [v]) a && !incB v a)=(arrL cs).filter (outB (r0 ++ [v])):=by
  refine congrArg (fun p=>(arrL cs).filter p) (funext fun a=>?_)
  unfold frB incB outB
  rw [dl]
  have m:∀ k,decide (k∈r0 ++ [v])=(decide (k∈r0) || decide (k=v)):=fun k=>by
   rw [← Bool.decide_or]
   exact decide_eq_decide.mpr (by rw [ζs,ζf])
  rw [m,m]
  cases decide (a.1∈r0) <;> cases decide (a.2∈r0) <;> cases decide (a.1=v) <;> cases decide (a.2=v) <;> rfl
 rw [e]
 refine Nat.add_le_add_right ?_ _
 rw [← ζb (f:=otE v)]
 refine VY _ _ (List.nodup_range.filter _) fun k hk=>?_
 have hb:=(ζp.mp hk).2
 unfold onB at hb
 rw [lD] at hb
 obtain ⟨b1,b2⟩:=ζH.mp hb
 have kn:k∉r0 ++ [v]:=by simpa using b1
 have k0:k∉r0:=fun z=>kn (ζz _ z)
 have kv:k≠v:=fun z=>kn (ζk _ (ζf.mpr z))
 rcases Bool.or_eq_true_iff.mp b2 with z | z
 ·refine ζr.mpr ⟨(k,v),ζp.mpr ⟨Uz (of_decide_eq_true z),?_⟩,if_neg kv⟩
  unfold frB incB
  rw [dl,decide_eq_false k0,decide_eq_false vr,decide_eq_true (show (k,v).2=v from rfl),Bool.or_true]
  rfl
 ·refine ζr.mpr ⟨(v,k),ζp.mpr ⟨Uz (of_decide_eq_true z),?_⟩,if_pos rfl⟩
  unfold frB incB
  rw [dl,decide_eq_false k0,decide_eq_false vr,decide_eq_true (show (v,k).1=v from rfl),Bool.true_or]
  rfl
theorem zaW {d b m:Nat} (h:d + b≤m):d * 2 ^ b + 1≤2 ^ m:=by
 have h1:2 ^ (d + b)≤2 ^ m:=ξy (by decide) h
 rw [Nat.pow_add] at h1
 have h2:(d + 1) * 2 ^ b≤2 ^ d * 2 ^ b:=Nat.mul_le_mul_right _ Nat.lt_two_pow_self
 have h3:=Nat.two_pow_pos b
 rw [Nat.add_mul,Nat.one_mul] at h2
 omega
theorem WE (cs:List (List Nat)) (c:Nat):∀ le:List (List Nat),(∀ r∈le,gW cs r=c)→gS cs le=le.length * c
 | [],_=>by rw [List.length_nil,Nat.zero_mul]; rfl
 | r :: le,h=>by
  have e:gS cs (r :: le)=gW cs r + gS cs le:=rfl
  rw [e,h r ζg,WE cs c le fun q hq=>h q (ζl _ hq),ζ2,Nat.add_mul,Nat.one_mul,Nat.add_comm]
theorem zcY (cs:List (List Nat)) (a b:List (List Nat)):gS cs (a ++ b)=gS cs a + gS cs b:=by
 unfold gS
 rw [ζn,ξ7]
theorem VA (cs:List (List Nat)):∀ le:List (List Nat),le.length≤gS cs le
 | []=>ζE _
 | r :: le=>by
  have:=VA cs le
  have h:=zcX cs r
  show le.length + 1≤gW cs r + gS cs le
  omega
theorem zcF {cs:List (List Nat)} {r0:List Nat} {v:Nat} (nd:(r0 ++ [v]).Nodup) (n:Nat):gS cs (onR cs (r0 ++ [v]) n) + 1≤gW cs (r0 ++ [v]):=by
 rw [WE cs (2 ^ ((arrL cs).filter (outB (r0 ++ [v]))).length) (onR cs (r0 ++ [v]) n) fun q hq=>by
  obtain ⟨k,_,rfl⟩:=ζr.mp hq
  unfold gW
  have:frB (r0 ++ [v] ++ [k])=outB (r0 ++ [v]):=funext fun a=>by
   unfold frB outB
   rw [ζ7]
  rw [this]]
 unfold onR
 rw [ζb]
 exact zaW (zcG nd n)
theorem Qu {pa:Nat→Nat→Prop} {Z:Nat→Prop}:∀ {l:List Nat},Dsp.Ok pa Z l↔(∀ i,i + 1 < l.length→Dsp.Adj pa (l.getD (i + 1) 0) (l.getD i 0))∧∀ i,i + 2 < l.length→Dsp.Cd pa Z (l.getD (i + 2) 0) (l.getD (i + 1) 0) (l.getD i 0)
 | []=>⟨fun _=>⟨fun _ z=>absurd z (ζV _),fun _ z=>absurd z (ζV _)⟩,fun _=>by rw [Dsp.Ok]; trivial⟩
 | [a]=>⟨fun _=>⟨fun _ z=>absurd z (by simp),fun _ z=>absurd z (by simp)⟩,fun _=>Dsp.uS⟩
 | u :: v :: s=>by
  rw [Dsp.zO,Qu (l:=v :: s)]
  constructor
  ·rintro ⟨h1,h2,h3,h4⟩
   refine ⟨fun i hi=>?_,fun i hi=>?_⟩
   ·cases i with
    | zero=>exact h1
    | succ i=>exact h3 i (by simp only [List.length_cons] at hi ⊢; omega)
   ·cases i with
    | zero =>
     cases s with
     | nil=>simp at hi
     | cons t s=>exact h2 t rfl
    | succ i=>exact h4 i (by simp only [List.length_cons] at hi ⊢; omega)
  ·rintro ⟨h1,h2⟩
   refine ⟨h1 0 (by simp),fun t ht=>?_,fun i hi=>h1 (i + 1) (by simp only [List.length_cons] at hi ⊢; omega),fun i hi=>h2 (i + 1) (by simp only [List.length_cons] at hi ⊢; omega)⟩
   cases s with
   | nil=>cases ht
   | cons t' s=>cases ht; exact h2 0 (by simp)
theorem Qb {cs:List (List Nat)} {x:Nat} {Z:Nat→Prop}:∀ {l:List Nat},Dsp.Ok (paC cs) Z l→l.Nodup→l.getLast?=some x→Pth cs x l
 | [],_,_,e=>by cases e
 | [_],_,_,e=>by cases e; exact .one
 | u :: v :: s,h,nd,e=>by
  obtain ⟨h1,_,h3⟩:=Dsp.zO.mp h
  obtain ⟨n1,n2⟩:=ζC.mp nd
  exact .more (Qb h3 n2 (by rw [List.getLast?_cons_cons] at e; exact e)) h1 n1
def nbr (cs:List (List Nat)) (v:Nat):List Nat:=cs.getD v [] ++ effF cs v
def yZ (ds:List PyData) (d:PyData):Prop:=∃ (n:Nat) (cs:List (List Nat)) (k:Nat),ds=[nls cs,.int k]∧ShOk n cs∧n≤12∧k < n∧d=nl (nbr cs k)
theorem Zf (ds:List PyData) (d:PyData) (h:yZ ds d):ds.length=2:=by obtain ⟨a,b,c,rfl,_⟩:=h; rfl
theorem ZM:zI ["causes", "k"] ["causes", "k"] (zo (top 16)):=⟨rfl,rfl,rfl,by decide +kernel,rfl,by decide +kernel,by decide +kernel⟩
theorem ZS (F:Fun K "neighbours" "neighbours" (top 16) f fd) (B:Bs mg) (Z:Cs K mg τa τb) (c_effects:zF P w K mg base CX0 "effects" ["causes", "k"] 1 (spD K true yI)):FnOk P w K mg base CX0 2 f fd ["causes", "k"] (spD K true yZ):=by
 have sc:=ZM
 refine F.ok sc (fun vs H Q E h=>zX Zf h) (fun cdv A outer s H vs Q E hr h=>?_)
 obtain ⟨Fh,ds,d,le,dp,p,q⟩:=h
 refine ⟨_,(zf (zD (zw (xw (K:=K) rfl) (zz (zh (K:=K) rfl) (pv 0) (pv 1) (fun _ _=>rfl)) (zN c_effects (hr.mono (by decide)) rfl zM (zb (pv 0) (zb (pv 1) zd)))))),?_⟩
 have hN:(["causes", "k"]:List Str).length=2:=rfl
 obtain ⟨n,cs,k,rfl,ok,n12,hk,rfl⟩:=p
 have big:=zK
 have cl:=ok.l
 have ac:atI (cs.map nl) (k:Int)=some (nl (cs.getD k [])):=yF (ok.at hk).1
 have l1:=(ok.at hk).2.2
 have l2:=(zae ok n12).l k hk
 walk_at"run"
 refine yc true (EvO.toE (EvO.eq (xK (xs:=(cs.getD k []).map fun k:Nat=>.int (k:Int)) (ys:=(effF cs k).map fun k:Nat=>.int (k:Int)) (EvL.imm (κ:=false) (EvE.toL (zr (κ:=false) (by walk_at"ev") (by walk_at"ev") ac)) (yU _)) (EvL.imm (κ:=false) (EvE.toL (zv (by walk_at"ev") ⟨cs,k,rfl,by omega,rfl⟩)) (yU _)) (by rw [List.length_map,List.length_map]; omega)) (by unfold nbr; rw [List.map_append]))) rfl (.inl ⟨rfl,rfl⟩)
def vsI (cs:List (List Nat)) (r:List Nat):List Nat:=(List.range (r.length - 2)).filter fun i=>veeB cs r (1 + i)
def vsF (cs:List (List Nat)) (r:List Nat):List Nat:=(vsI cs r).map fun i=>r.getD (1 + i) 0
def vN (cs:List (List Nat)) (r:List Nat):Nat:=(vsI cs r).length
theorem VP (cs:List (List Nat)) (r:List Nat):(vsF cs r).length=vN cs r:=ζb ..
theorem zbL (cs:List (List Nat)) (r:List Nat):vN cs r≤r.length - 2:=by
 have:=ζF (fun i=>veeB cs r (1 + i)) (List.range (r.length - 2))
 rwa [ζy] at this
def uu (ds:List PyData) (d:PyData):Prop:=∃ (n:Nat) (cs:List (List Nat)) (r:List Nat),ds=[nls cs,nl r]∧ShOk n cs∧(∀ x∈r,x < n)∧r.length≤1000∧d=nl (vsF cs r)
theorem QO (ds:List PyData) (d:PyData) (h:uu ds d):ds.length=2:=by obtain ⟨a,b,c,rfl,_⟩:=h; rfl
theorem zaN:zI ["causes", "road"] ["causes", "road"] (zo (top 19)):=⟨rfl,rfl,rfl,by decide +kernel,rfl,by decide +kernel,by decide +kernel⟩
theorem za4 (F:Fun K "vees" "vees" (top 19) f fd) (B:Bs mg) (Z:Cs K mg τa τb) (c_inner_places:zF P w K mg base CX0 "inner_places" ["road"] 1 (spD K true xi)) (c_is_vee:zF P w K mg base CX0 "is_vee" ["causes", "road", "place"] 1 (spD K true wJ)):FnOk P w K mg base CX0 2 f fd ["causes", "road"] (spD K true uu):=by
 have sc:=zaN
 refine F.ok sc (fun vs H Q E h=>zX QO h) (fun cdv A outer s H vs Q E hr h=>?_)
 obtain ⟨Fh,ds,d,le,dp,p,q⟩:=h
 refine ⟨_,(zf (zD (yM rfl (N:=["place", "road", "causes"]) (js:=[none,some 1,some 0]) (by walk_at"comp_ok") (zJ (K:=K) rfl (zN c_inner_places (hr.mono (by decide)) rfl zM (zb (pv 1) zd))) (fun _ _ _ _=>(zH (i:=0) (show List.Nodup (["place", "road", "causes"]:List PySem.Str) by decide +kernel) rfl (Or.inl rfl))) (fun _ _ _ _=>(xq (yq (zN c_is_vee (hr.mono (by decide)) rfl zM (zb (pv 2) (zb (pv 1) (zb (pv 0) zd))))))) (fun _ _ _ _=>(zz (zh (K:=K) rfl) (pv 1) (pv 0) (fun _ _=>rfl)))))),?_⟩
 have hN:(["causes", "road"]:List Str).length=2:=rfl
 obtain ⟨n,cs,r,rfl,ok,hr,rl,rfl⟩:=p
 have big:=zK
 walk_at"run"
 refine yc true (EvO.toE (EvO.eq (yB (κ:=true) (is:=[0]) (xs:=List.range (r.length - 2)) true (fun i:Nat=>.int (1 + (i:Int))) (fun i=>.int (r.getD (1 + i) 0:Nat)) (fun i=>veeB cs r (1 + i)) (fun x _ y _ h=>?_) (zT (zv (by walk_at"ev") ⟨r,rfl,rl,rfl⟩)) (by walk_at"cc") rfl (by decide) (by rw [List.length_range]; omega) ?_) (by unfold vsF vsI; rw [List.map_map]; rfl))) rfl (.inl ⟨rfl,rfl⟩)
 ·have e:x=y:=by have:=PyData.int.inj h; omega
  subst e
  exact ⟨rfl,rfl⟩
 ·intro i hi
  have hi:=ζK.mp hi
  rw [show (1:Int) + (i:Int)=((1 + i:Nat):Int) by omega]
  exact egn (by walk_at"sc") ⟨et_B (zv (by walk_at"ev") ⟨n,cs,r,1 + i,rfl,ok,hr,by omega,by omega,rfl⟩),fun _=>EvE.imm (κ:=false) (zr (κ:=false) (by walk_at"ev") (by walk_at"ev") (yC (by omega))) rfl⟩
noncomputable def goB (n:Nat) (cs:List (List Nat)) (kn r:List Nat):Bool:=decide (r.length < 3) || !barB n cs r kn (r.length - 2)
def wW (ds:List PyData) (d:PyData):Prop:=∃ (n:Nat) (cs:List (List Nat)) (r kn:List Nat),ds=[nls cs,nl r,nl kn]∧ShOk n cs∧n≤12∧(∀ x∈r,x < n)∧kn.length≤1000∧d=.bool (goB n cs kn r)
theorem Wx (ds:List PyData) (d:PyData) (h:wW ds d):ds.length=3:=by obtain ⟨a,b,c,e,rfl,_⟩:=h; rfl
theorem W6:zI ["causes", "road", "known"] ["causes", "road", "known"] (zo (top 24)):=⟨rfl,rfl,rfl,by decide +kernel,rfl,by decide +kernel,by decide +kernel⟩
theorem Vh (F:Fun K "goes_on" "goes_on" (top 24) f fd) (B:Bs mg) (Z:Cs K mg τa τb) (c_bars_at:zF P w K mg base CX0 "bars_at" ["causes", "road", "place", "known"] 6 (spD K true wY)):FnOk P w K mg base CX0 7 f fd ["causes", "road", "known"] (spD K true wW):=by
 have sc:=W6
 refine F.ok sc (fun vs H Q E h=>zX Wx h) (fun cdv A outer s H vs Q E hr h=>?_)
 obtain ⟨Fh,ds,d,le,dp,p,q⟩:=h
 refine ⟨_,(zf (zD (zdy (yR Ye (zA (zp (K:=K) rfl) rfl B.len (by decide +kernel) (zb (pv 1) zd)) zg (zU _)) (Y0 (Ql (zN c_bars_at (hr.mono (by decide)) rfl zM (zb (pv 0) (zb (pv 1) (zb (zw yT (zA (zp (K:=K) rfl) rfl B.len (by decide +kernel) (zb (pv 1) zd)) zg) (zb (pv 2) zd)))))))))),?_⟩
 have hN:(["causes", "road", "known"]:List Str).length=3:=rfl
 obtain ⟨n,cs,r,kn,rfl,ok,n12,hr,hk,rfl⟩:=p
 have er:PyData.int (((r.map fun k:Nat=>PyData.int (k:Int)).length:Nat):Int)=.int (r.length:Int):=by rw [ζb]
 walk_at"run"
 refine yc true (EvE.eq (zb7 (a:=decide ((r.length:Int) < 3)) (b:=!barB n cs r kn (r.length - 2)) (Zm (EvE.eq (yg (ds:=r.map fun k:Nat=>.int (k:Int)) (EvE.toL (by walk_at"ev"))) er) (by walk_at"ev")) (fun h=>?_)) ?_) rfl (.inl ⟨rfl,rfl⟩)
 ·have h:¬ (r.length:Int) < 3:=of_decide_eq_false h
  exact VE (zv (zk (by walk_at"ev") (zk (by walk_at"ev") (zk (EvE.eq (wN (EvE.eq (yg (ds:=r.map fun k:Nat=>.int (k:Int)) (EvE.toL (by walk_at"ev"))) er) (by walk_at"ev")) (congrArg PyData.int (show (r.length:Int) - 2=((r.length - 2:Nat):Int) by omega))) (zk (by walk_at"ev") zG)))) ⟨n,cs,r,kn,r.length - 2,rfl,ok,n12,hr,by omega,by omega,hk,rfl⟩)
 ·unfold goB
  rw [show decide ((r.length:Int) < 3)=decide (r.length < 3) from decide_eq_decide.mpr (by omega)]
noncomputable def lgB (n:Nat) (cs:List (List Nat)) (kn r:List Nat) (k:Nat):Bool:=!decide (k∈r) && goB n cs kn (r ++ [k])
noncomputable def lgR (n:Nat) (cs:List (List Nat)) (kn r:List Nat):List (List Nat):=((nbr cs (r.getLastD 0)).filter (lgB n cs kn r)).map fun k=>r ++ [k]
theorem Ud {α β:Type} (f:α→List β) {rs:List α} {i:Nat} {r:α} (h:rs[i]?=some r):∃ t,rs.flatMap f=(rs.take i).flatMap f ++ (f r ++ t):=by
 obtain ⟨hi,rfl⟩:=ζc.mp h
 refine ⟨(rs.drop (i + 1)).flatMap f,?_⟩
 have e:rs=rs.take i ++ (rs[i] :: rs.drop (i + 1)):=by rw [← ζ4 hi,ξk]
 conv=>lhs; rw [e]
 rw [List.flatMap_append,ξw]
def y0 (ds:List PyData) (d:PyData):Prop:=∃ (n:Nat) (cs:List (List Nat)) (kn:List Nat) (rs:List (List Nat)),ds=[nls cs,nls rs,nl kn]∧ShOk n cs∧n≤12∧kn.length≤1000∧(∀ r∈rs,(∀ x∈r,x < n)∧1≤r.length∧r.length≤12)∧(rs.flatMap (lgR n cs kn)).length≤100000∧d=nls (rs.flatMap (lgR n cs kn))
theorem Zg (ds:List PyData) (d:PyData) (h:y0 ds d):ds.length=3:=by obtain ⟨a,b,c,e,rfl,_⟩:=h; rfl
theorem ZN:zI ["causes", "roads", "known", "found", "road", "k"] ["causes", "roads", "known"] (zo (top 23)):=⟨rfl,rfl,rfl,by decide +kernel,rfl,by decide +kernel,by decide +kernel⟩
theorem ZT (F:Fun K "all_longer" "all_longer" (top 23) f fd) (B:Bs mg) (Z:Cs K mg τa τb) (c_neighbours:zF P w K mg base CX0 "neighbours" ["causes", "k"] 2 (spD K true yZ)) (c_goes_on:zF P w K mg base CX0 "goes_on" ["causes", "road", "known"] 7 (spD K true wW)):FnOk P w K mg base CX0 8 f fd ["causes", "roads", "known"] (spD K true y0):=by
 have sc:=ZN
 refine F.ok sc (fun vs H Q E h=>zX Zg h) (fun cdv A outer s H vs Q E hr h=>?_)
 obtain ⟨Fh,ds,d,le,dp,p,q⟩:=h
 refine ⟨_,(ze (zu (i:=3) sc.nd rfl (Or.inl rfl) (yb zd))
   (ze (yD PassesOwn.never rfl (zJ (K:=K) rfl (pv 1)) (zH (i:=4) sc.nd rfl (Or.inl rfl)) (zf (yD PassesOwn.never rfl (zJ (K:=K) rfl (zN c_neighbours (hr.mono (by decide)) rfl zM (zb (pv 0) (zb (zz (zh (K:=K) rfl) (pv 4) (uz wC zg) (fun _ _=>rfl)) zd)))) (zH (i:=5) sc.nd rfl (Or.inl rfl)) (zf (yo (PW.pt (wV (zB (zZ (K:=K) rfl) (pv 5) (pv 4) (rfl)) (x5 (yq (zN c_goes_on (hr.mono (by decide)) rfl zM (zb (pv 0) (zb (zw (xw (K:=K) rfl) (pv 4) (yb (zb (pv 5) zd))) (zb (pv 2) zd)))))))) (zf (yp (y6 (K:=K) rfl ζu ζP ζO yy (pv 3) (zb (zw (xw (K:=K) rfl) (pv 4) (yb (zb (pv 5) zd))) zd)))) zL)))))
   (zf (zD (pv 3))))),?_⟩
 have hN:(["causes", "roads", "known", "found", "road", "k"]:List Str).length=6:=rfl
 obtain ⟨n,cs,kn,rs,rfl,ok,n12,hk,hrs,bd,rfl⟩:=p
 have big:=zK
 walk_at"run"
 refine exo true (ds:=([]:List (List Nat)).map nl) (zQ (ds:=[]) zG (by decide)) (by walk_at"sc") ?_
 refine wx (ds:=rs.map nl) false (fun i Γ=>∃ u v,Γ=[some (.fz false (nls cs)),some (.fz false (nls rs)),some (.fz false (nl kn)),some (.ow true (((rs.take i).flatMap (lgR n cs kn)).map nl)),u,v]) (zT (by walk_at"ev")) ⟨none,none,rfl⟩ ?_ ?_
 ·rintro i d Γ' hd ⟨u,v,rfl⟩
  obtain ⟨r,hr,rfl⟩:=xr hd
  refine ⟨_,egn (by walk_at"sc") ?_⟩
  obtain ⟨rlt,r1,r12⟩:=hrs r (ζj hr)
  obtain ⟨tl,et⟩:=Ud (lgR n cs kn) hr
  have bl:=congrArg List.length et
  rw [ζd,ζd] at bl
  obtain ⟨r0,w,er⟩:∃ r0 w,r=r0 ++ [w]:=by
   rcases ζY r with rfl | ⟨wb,k,e⟩
   ·exact absurd r1 (by decide)
   ·exact ⟨wb,k,by rw [e,ζZ]⟩
  have lD:r.getLastD 0=w:=by rw [ξB,er,List.getLast?_append]; rfl
  have wn:w < n:=rlt w (by rw [er]; exact ζk _ (ζf.mpr rfl))
  have aw:atI (r.map fun k:Nat=>PyData.int (k:Int)) (-1)=some (.int (w:Int)):=by rw [er,ζn]; exact vx _ _
  have tk:(rs.take (i + 1)).flatMap (lgR n cs kn)=(rs.take i).flatMap (lgR n cs kn) ++ lgR n cs kn r:=by
   rw [take_succ hr,List.flatMap_append,ξw,List.flatMap_nil,ζJ]
  have eL:lgR n cs kn r=((nbr cs w).filter (lgB n cs kn r)).map fun k=>r ++ [k]:=by unfold lgR; rw [lD]
  rw [eL] at bl tk
  rw [ζb] at bl
  generalize (rs.take i).flatMap (lgR n cs kn)=fo at bl tk
  have nlt:∀ k∈nbr cs w,k < n:=fun k hk=>by
   rcases ζs.mp hk with z | z
   ·exact (ok.at wn).2.1 k z
   ·exact ((y8 ok).mp z).1
  have pn:yZ [nls cs,.int (w:Int)] (nl (nbr cs w)):=⟨n,cs,w,rfl,ok,n12,wn,rfl⟩
  generalize nbr cs w=nb at bl tk nlt pn
  refine uV (ds:=nb.map fun k:Nat=>.int (k:Int)) true (fun j Γ=>∃ v,Γ=[some (.fz false (nls cs)),some (.fz false (nls rs)),some (.fz false (nl kn)),some (.ow true ((fo ++ ((nb.take j).filter (lgB n cs kn r)).map fun k=>r ++ [k]).map nl)),some (.fz false (nl r)),v]) (zT (zv (zk (by walk_at"ev") (zk (zr (κ:=false) (EvE.toL (by walk_at"ev")) (vj (i:=1) (by walk_at"ev")) aw) zG)) pn)) ⟨_,by rw [List.take_zero,ξt,List.map_nil,ζJ]⟩ ?_ ?_
  ·rintro j d Γ3 hd ⟨v,rfl⟩
   obtain ⟨k,hk',rfl⟩:=xr hd
   refine ⟨_,egn (by walk_at"sc") ?_⟩
   have kn':=nlt k (ζj hk')
   have tl2:((nb.take j).filter (lgB n cs kn r)).length≤(nb.filter (lgB n cs kn r)).length:=((List.take_sublist j nb).filter _).length_le
   have cat:∀ {κ:Bool} {Γ1:PD.Ctx},GetC Γ1 4 (.fz false (nl r))→GetC Γ1 5 (.fz true (.int k))→EvE K .fresh κ (tOp (V2 K) (tVar 4) (tLst (ye (tVar 5) tNil))) Γ1 (nl (r ++ [k])):=fun h4 h5=>EvO.toE (EvO.eq (xK (xs:=r.map fun k:Nat=>.int (k:Int)) (ys:=[.int (k:Int)]) (EvL.imm (κ:=false) (EvE.toL (vi h4.eq)) (yU _)) (EvL.imm (κ:=true) (EvO.toL (zQ (ds:=[.int (k:Int)]) (zk (vi h5.eq) zG) (by show 1≤sizeLine; omega))) (yU [k])) (by rw [ζb]; show _ + 1≤_; omega)) (by rw [ζn]; rfl))
   have rk:∀ x∈r ++ [k],x < n:=fun x hx=>by
    rcases ζs.mp hx with hx | hx
    ·exact rlt x hx
    ·rw [ζf.mp hx]; exact kn'
   rw [take_succ hk',ξl]
   refine wz (b:=lgB n cs kn r k) (wO (EvT.eq (zC (yr (neg:=true) (i:=(k:Int)) (ns:=zl r) (by walk_at"ev") (EvE.toL (EvE.eq (κ:=false) (by walk_at"ev") (yv _))))) (by show (!decide _)=_; rw [yi])) fun _=>et_B (zv (zk (by walk_at"ev") (zk (cat (by walk_at"gc") (by walk_at"gc")) (zk (by walk_at"ev") zG))) ⟨n,cs,r ++ [k],kn,rfl,ok,n12,rk,hk,rfl⟩)) (fun h=>?_) (fun h=>?_)
   ·refine exa1 (d:=nl (r ++ [k])) (by walk_at"gc") (cat (by walk_at"gc") (by walk_at"gc")) (by walk_at"sc") (by rw [ζb,ζd,ζb]; omega) ?_
    refine ⟨some (.fz true (.int k)),?_⟩
    rw [ξ1 h,ξt,ζn (l₂:=[k]),← ζX,show List.map (fun k=>r ++ [k]) [k]=[r ++ [k]] from rfl,ζn (l₂:=[r ++ [k]])]
    rfl
   ·refine yx ⟨some (.fz true (.int k)),?_⟩
    rw [ξ2 (by rw [h]; exact fun z=>nomatch z),ξt,ζJ]
  ·rintro Γ3 ⟨v,rfl⟩
   rw [show (nb.map fun k:Nat=>PyData.int (k:Int)).length=nb.length from ζb ..,ξh,← tk]
   exact ⟨_,_,rfl⟩
 ·rintro Γ' ⟨u,v,rfl⟩
  rw [show (rs.map nl).length=rs.length from ζb ..,ξh]
  exact exro (by walk_at"gc") rfl (.inl ⟨rfl,rfl⟩)
structure Rd (cs:List (List Nat)) (kn:List Nat) (x:Nat) (r:List Nat):Prop where
 ok:Dsp.Ok (paC cs) (InL kn) r.reverse
 nd:r.Nodup
 hd:r.head?=some x
theorem T4 {l:List Nat} (h:l.Nodup):l.reverse.Nodup:=Qz (by rw [ξz]; exact h)
theorem Rd.pth {cs:List (List Nat)} {kn:List Nat} {x:Nat} {r:List Nat} (h:Rd cs kn x r):Pth cs x r.reverse:=Qb h.ok (T4 h.nd) (by rw [List.getLast?_reverse]; exact h.hd)
theorem Rd.lt {n:Nat} {cs:List (List Nat)} (ok:ShOk n cs) {kn:List Nat} {x:Nat} (hx:x < n) {r:List Nat} (h:Rd cs kn x r):∀ z∈r,z < n:=fun z hz=>h.pth.lt ok hx z (ξc.mpr hz)
theorem Rd.len {n:Nat} {cs:List (List Nat)} (ok:ShOk n cs) {kn:List Nat} {x:Nat} (hx:x < n) {r:List Nat} (h:Rd cs kn x r):r.length≤n:=wj n r h.nd (h.lt ok hx)
theorem Rd.ne {cs:List (List Nat)} {kn:List Nat} {x:Nat} {r:List Nat} (h:Rd cs kn x r):r≠[]:=fun e=>by
 have:=h.hd
 rw [e] at this
 cases this
theorem Rd.pos {cs:List (List Nat)} {kn:List Nat} {x:Nat} {r:List Nat} (h:Rd cs kn x r):1≤r.length:=ξP.mpr h.ne
theorem Rd.one (cs:List (List Nat)) (kn:List Nat) (x:Nat):Rd cs kn x [x]:=⟨Dsp.uS,by simp,rfl⟩
theorem Rd.only {cs:List (List Nat)} {kn:List Nat} {x:Nat} {r:List Nat} (h:Rd cs kn x r) (l:r.length=1):r=[x]:=by
 match r,l,h.hd with
 | [a],_,e=>cases e; rfl
theorem YX {cs:List (List Nat)} {kn:List Nat} {x:Nat} {r0:List Nat} {v k:Nat}:Rd cs kn x (r0 ++ [v] ++ [k])↔Rd cs kn x (r0 ++ [v])∧k∉r0 ++ [v]∧Dsp.Adj (paC cs) v k∧∀ t,r0.getLast?=some t→Dsp.Cd (paC cs) (InL kn) t v k:=by
 have e1:(r0 ++ [v] ++ [k]).reverse=k :: v :: r0.reverse:=by simp
 have e2:(r0 ++ [v]).reverse=v :: r0.reverse:=by simp
 constructor
 ·rintro ⟨a,b,c⟩
  rw [e1,Dsp.zO] at a
  have b':=ζD.mp b
  refine ⟨⟨by rw [e2]; exact a.2.2,b'.1,?_⟩,fun z=>b'.2.2 k z k (ζf.mpr rfl) rfl,a.1,fun t ht=>a.2.1 t (by rw [List.head?_reverse]; exact ht)⟩
  cases r0 with
  | nil=>exact c
  | cons _ _=>exact c
 ·rintro ⟨⟨a,b,c⟩,d,e,f⟩
  refine ⟨?_,List.nodup_append.mpr ⟨b,by simp,fun z hz y hy q=>d (by rw [← List.mem_singleton.mp hy,← q]; exact hz)⟩,?_⟩
  ·rw [e1,Dsp.zO]
   rw [e2] at a
   exact ⟨e,fun t ht=>f t (by rw [List.head?_reverse] at ht; exact ht),a⟩
  ·cases r0 with
   | nil=>exact c
   | cons _ _=>exact c
theorem app3 (r0:List Nat) (t v k:Nat):(r0 ++ [t,v,k]).getD r0.length 0=t∧(r0 ++ [t,v,k]).getD (r0.length + 1) 0=v∧(r0 ++ [t,v,k]).getD (r0.length + 2) 0=k:=by
 refine ⟨?_,?_,?_⟩ <;> rw [List.getD_eq_getElem?_getD,List.getElem?_append_right (by omega)] <;> simp
theorem zdi {n:Nat} {cs:List (List Nat)} (ok:ShOk n cs) {r0 kn:List Nat} {t v k:Nat} (hv:v < n) (hk:∀ z∈kn,z < n):barB n cs (r0 ++ [t,v,k]) kn (r0.length + 1)=false↔Dsp.Cd (paC cs) (InL kn) t v k:=by
 obtain ⟨e0,e1,e2⟩:=app3 r0 t v k
 have ev:veeB cs (r0 ++ [t,v,k]) (r0.length + 1)=(decide (t∈cs.getD v []) && decide (k∈cs.getD v [])):=by
  unfold veeB
  rw [e1,show r0.length + 1 - 1=r0.length by omega,e0,show r0.length + 1 + 1=r0.length + 2 by omega,e2]
 unfold barB
 rw [ev,e1]
 by_cases c:t∈cs.getD v []∧k∈cs.getD v []
 ·rw [decide_eq_true c.1,decide_eq_true c.2]
  show (!((rchL n (effF cs) [v]).any fun j=>decide (j∈kn)))=false↔_
  rw [Bool.not_eq_false',ξq]
  constructor
  ·rintro ⟨j,hj,hm⟩
   exact ⟨fun _=>⟨j,of_decide_eq_true hm,(UA ok hv).mp (w4.mp hj)⟩,fun w=>absurd c w⟩
  ·intro h
   obtain ⟨z,hz,a⟩:=h.1 c
   exact ⟨z,w4.mpr ((UA ok hv).mpr a),decide_eq_true hz⟩
 ·have e:(decide (t∈cs.getD v []) && decide (k∈cs.getD v []))=false:=ξY.mpr fun z=>by
   obtain ⟨z1,z2⟩:=ζH.mp z
   exact c ⟨of_decide_eq_true z1,of_decide_eq_true z2⟩
  rw [e]
  show decide (v∈kn)=false↔_
  rw [decide_eq_false_iff_not]
  exact ⟨fun z=>⟨fun w=>absurd w c,fun _=>z⟩,fun z=>z.2 c⟩
theorem zb4 {n:Nat} {cs:List (List Nat)} (ok:ShOk n cs) {r0 kn:List Nat} {v k:Nat} (hv:v < n) (hk:∀ z∈kn,z < n):goB n cs kn (r0 ++ [v] ++ [k])=true↔∀ t,r0.getLast?=some t→Dsp.Cd (paC cs) (InL kn) t v k:=by
 rcases ζY r0 with rfl | ⟨q,t,e⟩
 ·exact ⟨fun _ t ht=>(by cases ht),fun _=>rfl⟩
 ·rw [ζZ] at e
  subst e
  have e1:q ++ [t] ++ [v] ++ [k]=q ++ [t,v,k]:=by simp
  have el:(q ++ [t,v,k]).length=q.length + 3:=by rw [ζd]; rfl
  rw [e1]
  unfold goB
  rw [el,decide_eq_false (by omega),Bool.false_or,show q.length + 3 - 2=q.length + 1 by omega,Bool.not_eq_true',zdi ok hv hk]
  exact ⟨fun h u hu=>by rw [List.getLast?_append] at hu; cases hu; exact h,fun h=>h t (by rw [List.getLast?_append]; rfl)⟩
theorem V8 {n:Nat} {cs:List (List Nat)} (ok:ShOk n cs) {v k:Nat}:k∈nbr cs v↔Dsp.Adj (paC cs) v k:=by
 unfold nbr
 rw [ζs,y8 ok]
 exact ⟨fun h=>h.elim .inr fun z=>.inl z.2,fun h=>h.elim (fun z=>.inr ⟨(xl ok z).2,z⟩) .inl⟩
theorem yw {r:List Nat} (h:r≠[]):∃ r0 v,r=r0 ++ [v]:=by
 rcases ζY r with rfl | ⟨wb,k,e⟩
 ·exact absurd rfl h
 ·exact ⟨wb,k,by rw [e,ζZ]⟩
theorem xP (r0:List Nat) (v:Nat):(r0 ++ [v]).getLastD 0=v:=by rw [ξB,List.getLast?_append]; rfl
theorem Xa {n:Nat} {cs:List (List Nat)} (ok:ShOk n cs) {kn:List Nat} {x:Nat} (hx:x < n) (hk:∀ z∈kn,z < n) {r:List Nat} (h:Rd cs kn x r) {q:List Nat}:q∈lgR n cs kn r↔Rd cs kn x q∧q.dropLast=r:=by
 obtain ⟨r0,v,rfl⟩:=yw h.ne
 have hv:v < n:=h.lt ok hx v (ζk _ (ζf.mpr rfl))
 unfold lgR
 rw [xP,ζr]
 constructor
 ·rintro ⟨k,hm,rfl⟩
  obtain ⟨h1,h2⟩:=ζp.mp hm
  obtain ⟨h3,h4⟩:=ζH.mp h2
  exact ⟨YX.mpr ⟨h,by simpa using h3,(V8 ok).mp h1,(zb4 ok hv hk).mp h4⟩,List.dropLast_concat⟩
 ·rintro ⟨h1,h2⟩
  obtain ⟨q0,k,rfl⟩:=yw h1.ne
  rw [ζ7] at h2
  subst h2
  obtain ⟨_,h3,h4,h5⟩:=YX.mp h1
  exact ⟨k,List.mem_filter.mpr ⟨(V8 ok).mpr h4,Bool.and_eq_true_iff.mpr ⟨by simpa using h3,(zb4 ok hv hk).mpr h5⟩⟩,rfl⟩
theorem zcJ {n:Nat} {cs:List (List Nat)} (ok:ShOk n cs) (dg:Dg cs) (rn:xB cs) (v:Nat):(nbr cs v).Nodup:=by
 obtain ⟨rk,dg⟩:=dg
 refine ζD.mpr ⟨rn v,List.nodup_range.filter _,fun a ha b hb e=>?_⟩
 subst e
 have h1:=dg v a ha
 have h2:=dg a v ((y8 ok).mp hb).2
 omega
theorem QB {α β:Type} {f:α→β} (hf:∀ x y,f x=f y→x=y) {l:List α} (h:l.Nodup):(l.map f).Nodup:=ξv.mpr (h.imp fun hn e=>hn (hf _ _ e))
theorem zcM {n:Nat} {cs:List (List Nat)} (ok:ShOk n cs) (dg:Dg cs) (rn:xB cs) (kn r:List Nat):(lgR n cs kn r).Nodup:=QB (fun x y e=>by simpa using e) ((zcJ ok dg rn _).filter _)
theorem QM {n:Nat} {cs:List (List Nat)} {kn r q:List Nat} (h:q∈lgR n cs kn r):q.dropLast=r:=by
 obtain ⟨k,_,rfl⟩:=ζr.mp h
 exact ζ7
theorem Xs {n:Nat} {cs:List (List Nat)} (ok:ShOk n cs) (dg:Dg cs) (rn:xB cs) (kn:List Nat):∀ {rs:List (List Nat)},rs.Nodup→(rs.flatMap (lgR n cs kn)).Nodup
 | [],_=>ζ1
 | r :: rs,h=>by
  obtain ⟨h1,h2⟩:=ζC.mp h
  rw [ξw]
  refine ζD.mpr ⟨zcM ok dg rn kn r,Xs ok dg rn kn h2,fun a ha b hb e=>?_⟩
  subst e
  obtain ⟨r',hr',hm⟩:=ξp.mp hb
  have e:r'=r:=(QM hm).symm.trans (QM ha)
  exact h1 (e ▸ hr')
theorem zaA (cs:List (List Nat)) (r:List Nat) (k:Nat):vN cs r≤vN cs (r ++ [k]):=by
 have e:∀ i,i < r.length - 2→veeB cs r (1 + i)=veeB cs (r ++ [k]) (1 + i):=fun i hi=>by
  have g:∀ j,j < r.length→(r ++ [k]).getD j 0=r.getD j 0:=fun j hj=>by
   rw [ζe,ξC hj,← ζe]
  unfold veeB
  rw [g _ (by omega),g _ (by omega),g _ (by omega)]
 have h1:vsI cs r=(List.range (r.length - 2)).filter fun i=>veeB cs (r ++ [k]) (1 + i):=List.filter_congr fun i hi=>e i (ζK.mp hi)
 unfold vN
 rw [h1]
 unfold vsI
 rw [ζd]
 by_cases c:r.length < 2
 ·rw [show r.length - 2=0 by omega]
  exact ζE _
 ·rw [show r.length + [k].length - 2=(r.length - 2) + 1 by show r.length + 1 - 2=_; omega,ξ8,ξl,ζd]
  exact Nat.le_add_right _ _
theorem zbM {cs:List (List Nat)} {r:List Nat} (h:r≠[]):vN cs r.dropLast≤vN cs r:=by
 obtain ⟨r0,v,rfl⟩:=yw h
 rw [ζ7]
 exact zaA ..
theorem Rd.dl {cs:List (List Nat)} {kn:List Nat} {x:Nat} {r:List Nat} (h:Rd cs kn x r) (l:2≤r.length):Rd cs kn x r.dropLast:=by
 obtain ⟨q,k,rfl⟩:=yw h.ne
 rw [ζ7]
 have lq:q≠[]:=fun e=>by
  rw [e] at l
  have l:2≤1:=l
  omega
 obtain ⟨r0,v,rfl⟩:=yw lq
 exact (YX.mp h).1
def levF (n:Nat) (cs:List (List Nat)) (x:Nat):Nat→List (List Nat)
 | 0=>[[x]]
 | m + 1=>(levF n cs x m).flatMap fun r=>onR cs r n
theorem V9 {n:Nat} {cs:List (List Nat)} {x:Nat}:∀ m,∀ r∈levF n cs x m,Pth cs x r.reverse
 | 0,r,h=>by rw [ζf.mp h]; exact .one
 | m + 1,r,h=>by
  obtain ⟨q,hq,hr⟩:=ξp.mp h
  obtain ⟨k,hk,rfl⟩:=ζr.mp hr
  exact (Vc (V9 m q hq)).mpr (ζp.mp hk).2
theorem Xf {n:Nat} {cs:List (List Nat)} (ok:ShOk n cs) {x:Nat} (hx:x < n):∀ m r,Pth cs x r.reverse→r.length=m + 1→r∈levF n cs x m
 | 0,r,h,l=>by
  have hl:=h.last
  rw [List.getLast?_reverse] at hl
  match r,l,hl with
  | [a],_,e=>cases e; exact ζf.mpr rfl
 | m + 1,r,h,l=>by
  obtain ⟨q,k,rfl⟩:=yw (r:=r) (fun e=>by rw [e] at l; cases l)
  rw [ζd] at l
  have l:q.length + 1=m + 1 + 1:=l
  have pq:Pth cs x q.reverse:=zaS (t:=[k]) h fun e=>by rw [e] at l; cases l
  refine List.mem_flatMap.mpr ⟨q,Xf ok hx m q pq (by omega),List.mem_map.mpr ⟨k,List.mem_filter.mpr ⟨List.mem_range.mpr (h.lt ok hx k (by simp)),(Vc pq).mp h⟩,rfl⟩⟩
theorem Xe (n:Nat) (cs:List (List Nat)) (x:Nat):∀ m,gS cs (levF n cs x m)≤2 ^ tot cs
 | 0=>by
  show gW cs [x] + 0≤_
  rw [Nat.add_zero,← zbE]
  exact ξy (by decide) (ζF _ _)
 | m + 1=>by
  refine ζU ?_ (Xe n cs x m)
  have hp:=V9 (n:=n) (cs:=cs) (x:=x) m
  show gS cs ((levF n cs x m).flatMap fun r=>onR cs r n)≤_
  generalize levF n cs x m=L at hp
  induction L with
  | nil=>exact ζi _
  | cons r L ih =>
   rw [ξw,zcY]
   have e:gS cs (r :: L)=gW cs r + gS cs L:=rfl
   have:=ih fun q hq=>hp q (ζl _ hq)
   have pr:=hp r ζg
   obtain ⟨r0,v,rfl⟩:=yw (r:=r) (fun e=>by rw [e] at pr; cases pr)
   have:=zcF (cs:=cs) (Qz pr.nd) n
   omega
theorem tS {α:Type} [DecidableEq α]:∀ (l p:List α),l.Nodup→(∀ k∈l,k∈p)→l.length≤p.length
 | [],_,_,_=>ζE _
 | a :: l,p,nd,h=>by
  obtain ⟨n1,n2⟩:=ζC.mp nd
  have ap:=h a ζg
  have ih:=tS l (p.erase a) n2 fun k hk=>(List.mem_erase_of_ne (fun e:k=a=>n1 (e ▸ hk))).mpr (h k (ζl _ hk))
  rw [ξX ap] at ih
  have:=ξg ap
  rw [ζ2]
  omega
theorem many {n:Nat} {cs:List (List Nat)} (ok:ShOk n cs) {kn:List Nat} {x:Nat} (hx:x < n) (t15:tot cs≤15) {L:List (List Nat)} (nd:L.Nodup) {m:Nat} (h:∀ r∈L,Rd cs kn x r∧r.length=m):L.length≤32768:=by
 cases m with
 | zero =>
  cases L with
  | nil=>exact ζE _
  | cons r L =>
   have:=h r ζg
   have:=this.1.pos
   omega
 | succ m =>
  have h1:=tS L (levF n cs x m) nd fun r hr=>Xf ok hx m r (h r hr).1.pth (h r hr).2
  have h2:=VA cs (levF n cs x m)
  have h3:=Xe n cs x m
  have h4:2 ^ tot cs≤2 ^ 15:=ξy (by decide) t15
  omega
def lexL (a b c d:Nat):Prop:=a < c∨(a=c∧b < d)
structure PI (cs:List (List Nat)) (kn:List Nat) (x c l:Nat) (P:Nat→Nat→List (List Nat)):Prop where
 nd:∀ i j,(P i j).Nodup
 m:∀ i j r,r∈P i j↔Rd cs kn x r∧vN cs r=i∧r.length=j∧(j=1∨lexL (vN cs r.dropLast) (j - 1) c l)
theorem PI.full {cs:List (List Nat)} {kn:List Nat} {x c l:Nat} {P:Nat→Nat→List (List Nat)} (h:PI cs kn x c l P) (l1:1≤l) {r:List Nat}:r∈P c l↔Rd cs kn x r∧vN cs r=c∧r.length=l:=by
 rw [h.m]
 refine ⟨fun z=>⟨z.1,z.2.1,z.2.2.1⟩,fun z=>⟨z.1,z.2.1,z.2.2,.inr ?_⟩⟩
 have:=zbM (cs:=cs) z.1.ne
 rw [z.2.1] at this
 rcases ξI this with q | q
 ·exact .inl q
 ·exact .inr ⟨q,by omega⟩
def PX (cs:List (List Nat)) (P:Nat→Nat→List (List Nat)) (l:Nat) (L:List (List Nat)):Nat→Nat→List (List Nat):=fun i j=>if j=l + 1 then P i j ++ L.filter (fun r=>decide (vN cs r=i)) else P i j
theorem PI.next {n:Nat} {cs:List (List Nat)} (ok:ShOk n cs) (dg:Dg cs) (rn:xB cs) {kn:List Nat} {x:Nat} (hx:x < n) (hk:∀ z∈kn,z < n) {c l:Nat} {P:Nat→Nat→List (List Nat)} (h:PI cs kn x c l P) (l1:1≤l):PI cs kn x c (l + 1) (PX cs P l ((P c l).flatMap (lgR n cs kn))):=by
 have lm:∀ {q},q∈(P c l).flatMap (lgR n cs kn)↔Rd cs kn x q∧q.length=l + 1∧vN cs q.dropLast=c:=fun {q}=>by
  rw [ξp]
  constructor
  ·rintro ⟨r,hr,hq⟩
   obtain ⟨h1,h2,h3⟩:=(h.full l1).mp hr
   obtain ⟨g1,g2⟩:=(Xa ok hx hk h1).mp hq
   refine ⟨g1,?_,by rw [g2]; exact h2⟩
   have:=ξO (xs:=q)
   rw [g2] at this
   have:=g1.pos
   omega
  ·rintro ⟨h1,h2,h3⟩
   have d:=h1.dl (by omega)
   exact ⟨q.dropLast,(h.full l1).mpr ⟨d,h3,by rw [ξO]; omega⟩,(Xa ok hx hk d).mpr ⟨h1,rfl⟩⟩
 refine ⟨fun i j=>?_,fun i j r=>?_⟩
 ·unfold PX
  by_cases e:j=l + 1
  ·rw [if_pos e]
   refine ζD.mpr ⟨h.nd i j,(Xs ok dg rn kn (h.nd c l)).filter _,fun a ha b hb q=>?_⟩
   subst q
   obtain ⟨_,_,h3,h4⟩:=(h.m i j a).mp ha
   have g:=lm.mp (ζp.mp hb).1
   rcases h4 with h4 | h4 | h4 <;> omega
  ·rw [if_neg e]
   exact h.nd i j
 ·unfold PX
  by_cases e:j=l + 1
  ·rw [if_pos e,ζs,h.m,ζp,lm,decide_eq_true_iff]
   subst e
   constructor
   ·rintro (⟨a,b,d,f⟩ | ⟨⟨a,b,d⟩,f⟩)
    ·refine ⟨a,b,d,f.imp id fun z=>z.imp id fun w=>⟨w.1,by omega⟩⟩
    ·exact ⟨a,f,b,.inr (.inr ⟨d,by omega⟩)⟩
   ·rintro ⟨a,b,d,f⟩
    rcases f with f | f | f
    ·omega
    ·exact .inl ⟨a,b,d,.inr (.inl f)⟩
    ·exact .inr ⟨⟨a,d,f.1⟩,b⟩
  ·rw [if_neg e,h.m]
   constructor
   ·rintro ⟨a,b,d,f⟩
    exact ⟨a,b,d,f.imp id fun z=>z.imp id fun w=>⟨w.1,by omega⟩⟩
   ·rintro ⟨a,b,d,f⟩
    refine ⟨a,b,d,f.imp id fun z=>z.imp id fun w=>⟨w.1,by omega⟩⟩
theorem PI.start (cs:List (List Nat)) (kn:List Nat) (x:Nat):PI cs kn x 0 1 fun i j=>if i=0∧j=1 then [[x]] else []:=by
 refine ⟨fun i j=>?_,fun i j r=>?_⟩
 ·show (if i=0∧j=1 then [[x]] else []).Nodup
  split <;> simp
 ·show r∈(if i=0∧j=1 then [[x]] else [])↔_
  have v0:vN cs [x]=0:=rfl
  constructor
  ·intro h
   split at h
   ·rename_i e
    rw [ζf.mp h]
    exact ⟨.one ..,by rw [v0,e.1],e.2.symm,.inl e.2⟩
   ·cases h
  ·rintro ⟨a,b,d,f⟩
   have j1:j=1:=by
    have:=a.pos
    rcases f with f | f | f
    ·exact f
    ·omega
    ·omega
   subst j1
   have e:=a.only d
   subst e
   rw [if_pos ⟨by rw [← b]; rfl,rfl⟩]
   exact ζf.mpr rfl
theorem PI.wrap {n:Nat} {cs:List (List Nat)} (ok:ShOk n cs) {kn:List Nat} {x:Nat} (hx:x < n) {c:Nat} {P:Nat→Nat→List (List Nat)} (h:PI cs kn x c (n + 1) P):PI cs kn x (c + 1) 1 P:=by
 refine ⟨h.nd,fun i j r=>?_⟩
 rw [h.m]
 constructor
 ·rintro ⟨a,b,d,f⟩
  refine ⟨a,b,d,f.imp id fun z=>.inl ?_⟩
  rcases z with z | z <;> omega
 ·rintro ⟨a,b,d,f⟩
  have:=a.len ok hx
  refine ⟨a,b,d,?_⟩
  rcases f with f | f | f
  ·exact .inl f
  ·rcases ξI (ξW f) with q | q
   ·exact .inr (.inl q)
   ·exact .inr (.inr ⟨q,by omega⟩)
  ·have:=a.pos
   exact .inl (by omega)
def kLt (cs:List (List Nat)) (q r:List Nat):Bool:=VT (vN cs q:Nat) (q.length:Nat) (zl q) (vN cs r:Nat) (r.length:Nat) (zl r)
theorem YE:∀ {a b:List Nat},zl a=zl b→a=b
 | [],[],_=>rfl
 | [],_ :: _,h=>by cases h
 | _ :: _,[],h=>by cases h
 | x :: a,y :: b,h=>by
  unfold zl at h
  rw [ζN,ζN] at h
  injection h with h1 h2
  rw [YE h2,Int.ofNat.inj h1]
structure IsL (cs:List (List Nat)) (kn:List Nat) (x y:Nat) (r:List Nat):Prop where
 rd:Rd cs kn x r
 en:r.getLast?=some y
 ls:∀ q,Rd cs kn x q→q.getLast?=some y→kLt cs q r=false
theorem zbe {cs:List (List Nat)} {q r:List Nat} (h1:kLt cs q r=false) (h2:kLt cs r q=false):q=r:=by
 refine Classical.byContradiction fun ne=>?_
 unfold kLt VT at h1 h2
 by_cases e1:(vN cs q:Int)=(vN cs r:Int)
 ·rw [if_pos e1] at h1
  rw [if_pos e1.symm] at h2
  by_cases e2:(q.length:Int)=(r.length:Int)
  ·rw [if_pos e2,if_neg fun z=>ne (YE z)] at h1
   rw [if_pos e2.symm,if_neg fun z=>ne (YE z).symm] at h2
   rcases Xd (a:=zl q) (b:=zl r) fun z=>ne (YE z) with z | z
   ·rw [h1] at z; cases z
   ·rw [h2] at z; cases z
  ·rw [if_neg e2] at h1
   rw [if_neg fun z=>e2 z.symm] at h2
   have h1:=of_decide_eq_false h1
   have h2:=of_decide_eq_false h2
   omega
 ·rw [if_neg e1] at h1
  rw [if_neg fun z=>e1 z.symm] at h2
  have h1:=of_decide_eq_false h1
  have h2:=of_decide_eq_false h2
  omega
theorem IsL.one {cs:List (List Nat)} {kn:List Nat} {x y:Nat} {q r:List Nat} (h:IsL cs kn x y q) (k:IsL cs kn x y r):q=r:=zbe (k.ls q h.rd h.en) (h.ls r k.rd k.en)
open Classical in
noncomputable def ordF (cs:List (List Nat)) (kn:List Nat) (x y:Nat):Option (List Nat):=if h:∃ r,IsL cs kn x y r then some h.choose else none
theorem UL {cs:List (List Nat)} {kn:List Nat} {x y:Nat} {r:List Nat} (h:IsL cs kn x y r):ordF cs kn x y=some r:=by
 have ex:∃ r,IsL cs kn x y r:=⟨r,h⟩
 unfold ordF
 rw [dif_pos ex,ex.choose_spec.one h]
theorem Yd {cs:List (List Nat)} {kn:List Nat} {x y:Nat} (h:∀ r,Rd cs kn x r→r.getLast?≠some y):ordF cs kn x y=none:=by
 unfold ordF
 exact dif_neg fun ⟨r,hr⟩=>h r hr.rd hr.en
theorem zaZ {cs:List (List Nat)} {kn:List Nat} {x y:Nat} {r:List Nat} (h:ordF cs kn x y=some r):IsL cs kn x y r:=by
 unfold ordF at h
 split at h
 ·rename_i ex
  injection h with h
  rw [← h]
  exact ex.choose_spec
 ·cases h
abbrev rdD:Option (List Nat)→PyData
 | some r=>nl r
 | none=>.none
theorem zdL {cs:List (List Nat)} (dg:Dg cs) {kn:List Nat} {x y:Nat} (hx:x∉kn) (h:brB cs kn x y=true):∀ r,Rd cs kn x r→r.getLast?≠some y:=fun r hr hy=>by
 obtain ⟨rk,dg⟩:=dg
 have:=(Dsp.TX (pa:=paC cs) (Z:=InL kn) (x:=x) (y:=y) (rk:=rk) (fun a b p=>dg b a p) hx).mpr ⟨r.reverse,hr.ok,T4 hr.nd,by rw [List.head?_reverse]; exact hy,by rw [List.getLast?_reverse]; exact hr.hd⟩
 rw [zcc this] at h
 cases h
theorem QQ {cs:List (List Nat)} {kn:List Nat} {x y c l:Nat} {P:Nat→Nat→List (List Nat)} (h:PI cs kn x c l P) (l1:1≤l) (na:∀ r,Rd cs kn x r→r.getLast?=some y→¬ lexL (vN cs r) r.length c l) {ar:List (List Nat)} (ha:∀ r,r∈ar↔r∈P c l∧r.getLast?=some y) (h0:ar≠[]):∃ r,ordF cs kn x y=some r∧zl r=minL (ar.map zl):=by
 have hm:=Wt (nss:=ar.map zl) (by simpa using h0)
 obtain ⟨r,hr,e⟩:=ζr.mp hm
 refine ⟨r,UL ?_,e⟩
 obtain ⟨h1,h2⟩:=(ha r).mp hr
 obtain ⟨g1,g2,g3⟩:=(h.full l1).mp h1
 refine ⟨g1,h2,fun q hq hy=>?_⟩
 have nl:=na q hq hy
 unfold kLt VT
 by_cases e1:(vN cs q:Int)=(vN cs r:Int)
 ·rw [if_pos e1]
  by_cases e2:(q.length:Int)=(r.length:Int)
  ·rw [if_pos e2]
   split
   ·rfl
   ·rw [e]
    exact Zb (ζr.mpr ⟨q,(ha q).mpr ⟨(h.full l1).mpr ⟨hq,by omega,by omega⟩,hy⟩,rfl⟩)
  ·rw [if_neg e2]
   exact decide_eq_false fun z=>nl (.inr ⟨by omega,by omega⟩)
 ·rw [if_neg e1]
  exact decide_eq_false fun z=>nl (.inl (by omega))
theorem zav (T:LTab) (i j k l:Int) (ds:List PyData):(T.put i j (true,ds)).at k l=if k=i∧l=j then ds else T.at k l:=by
 by_cases q:k=i∧l=j
 ·rw [if_pos q,q.1,q.2]
  unfold LTab.at
  rw [LTab.put_eq]
 ·rw [if_neg q]
  unfold LTab.at
  rw [LTab.put_ne q]
theorem zdj (T:LTab) (i j k l:Int):(T.frz i j).at k l=T.at k l:=by
 by_cases q:k=i∧l=j
 ·unfold LTab.at LTab.frz
  rw [if_pos q,q.1,q.2]
  cases T i j <;> rfl
 ·unfold LTab.at
  rw [LTab.frz_ne q]
structure TP (T:LTab) (P:Nat→Nat→List (List Nat)) (c l:Nat):Prop where
 a:∀ i j:Nat,T.at (i:Int) (j:Int)=(P i j).map nl
 z:∀ (i j:Nat) (ds:List PyData),T (i:Int) (j:Int)=some (false,ds)→lexL i j c l
theorem TP.get {T:LTab} {P:Nat→Nat→List (List Nat)} {c l:Nat} (h:TP T P c l):TP (T.frz (c:Int) (l:Int)) P c (l + 1):=by
 refine ⟨fun i j=>by rw [zdj]; exact h.a i j,fun i j ds e=>?_⟩
 by_cases q:(i:Int)=c∧(j:Int)=l
 ·exact .inr ⟨by omega,by omega⟩
 ·rw [LTab.frz_ne q] at e
  rcases h.z i j ds e with z | z
  ·exact .inl z
  ·exact .inr ⟨z.1,by omega⟩
theorem TP.put {cs:List (List Nat)} {T:LTab} {P:Nat→Nat→List (List Nat)} {c l:Nat} {L:List (List Nat)} (h:TP T (PX cs P l L) c (l + 1)) (r:List Nat):TP (T.put (vN cs r:Int) ((l + 1:Nat):Int) (true,T.at (vN cs r:Int) ((l + 1:Nat):Int) ++ [nl r])) (PX cs P l (L ++ [r])) c (l + 1):=by
 refine ⟨fun i j=>?_,fun i j ds e=>?_⟩
 ·rw [zav]
  by_cases q:(i:Int)=(vN cs r:Int)∧(j:Int)=((l + 1:Nat):Int)
  ·rw [if_pos q,h.a]
   obtain rfl:i=vN cs r:=by omega
   obtain rfl:j=l + 1:=by omega
   unfold PX
   rw [if_pos rfl,if_pos rfl,ξl,ξ1 (by exact decide_eq_true rfl),ξt,← ζX,ζn (l₂:=[r])]
   rfl
  ·rw [if_neg q,h.a]
   unfold PX
   by_cases e:j=l + 1
   ·rw [if_pos e,if_pos e,ξl,ξ2 (fun z=>q ⟨by have:=of_decide_eq_true z; omega,by omega⟩),ξt,ζJ]
   ·rw [if_neg e,if_neg e]
 ·by_cases q:(i:Int)=(vN cs r:Int)∧(j:Int)=((l + 1:Nat):Int)
  ·rw [q.1,q.2,LTab.put_eq] at e
   cases e
  ·rw [LTab.put_ne q] at e
   exact h.z i j ds e
theorem TP.wrap {T:LTab} {P:Nat→Nat→List (List Nat)} {c l:Nat} (h:TP T P c l):TP T P (c + 1) 1:=⟨h.a,fun i j ds e=>by
 rcases h.z i j ds e with z | z
 ·exact .inl (by omega)
 ·exact .inl (by omega)⟩
theorem zdo (cs:List (List Nat)) (P:Nat→Nat→List (List Nat)) (l:Nat):PX cs P l []=P:=by
 funext i j
 unfold PX
 split
 ·rw [ξt,ζJ]
 ·rfl
def NaI (cs:List (List Nat)) (kn:List Nat) (x y c l:Nat):Prop:=∀ r,Rd cs kn x r→r.getLast?=some y→¬ lexL (vN cs r) r.length c l
def endB (y:Nat) (r:List Nat):Bool:=decide (r.getLast?=some y)
theorem VS {x y:List Nat} (h:nl x=nl y):x=y:=by rw [← YF x,h,YF]
theorem Qy (ar:List (List Nat)):ar.map nl=(ar.map zl).map fun ns=>PyData.list (ns.map .int):=by
 rw [ζR]
 exact ξG fun r _=>yv r
def wf (ds:List PyData) (d:PyData):Prop:=∃ (n:Nat) (cs:List (List Nat)) (x y:Nat) (kn:List Nat),ds=[nls cs,.int x,.int y,nl kn]∧ShOk n cs∧Dg cs∧xB cs∧n≤12∧tot cs≤15∧x < n∧x∉kn∧(∀ z∈kn,z < n)∧kn.length≤1000∧d=rdD (ordF cs kn x y)
theorem ZU (ds:List PyData) (d:PyData) (h:wf ds d):ds.length=4:=by obtain ⟨a,b,c,e,f,rfl,_⟩:=h; rfl
theorem YL:zI ["causes", "x", "y", "known", "piles", "count", "length", "pile", "arrived", "longer"] ["causes", "x", "y", "known"] (zo (top 22)):=⟨rfl,rfl,rfl,by decide +kernel,rfl,by decide +kernel,by decide +kernel⟩
set_option maxHeartbeats 4000000 in
theorem Y4 (F:Fun K "open_road" "open_road" (top 22) f fd) (B:Bs mg) (Z:Cs K mg τa τb) (c_barred:zF P w K mg base CX0 "barred" ["causes", "x", "y", "known"] 7 (spD K true vX)) (c_all_longer:zF P w K mg base CX0 "all_longer" ["causes", "roads", "known"] 8 (spD K true y0)) (c_vees:zF P w K mg base CX0 "vees" ["causes", "road"] 2 (spD K true uu)):FnOk P w K mg base CX0 9 f fd ["causes", "x", "y", "known"] (spD K true wf):=by
 have sc:=YL
 refine F.ok sc (fun vs H Q E h=>zX ZU h) (fun cdv A outer s H vs Q E hr h=>?_)
 obtain ⟨Fh,ds,d,le,dp,p,q⟩:=h
 refine ⟨_,(ze (yo (yq (zN c_barred (hr.mono (by decide)) rfl zM (zb (pv 0) (zb (pv 1) (zb (pv 2) (zb (pv 3) zd)))))) (zf (zD t8)) zL)
   (ze (zu (i:=4) sc.nd rfl (Or.inl rfl) (Qo (w9 hr) (uR (zb zg (zb zg zd))) (yb (zb (yb (zb (pv 1) zd)) zd))))
   (ze (yD PassesOwn.never rfl (xj rfl B.range (zb (zA (zp (K:=K) rfl) rfl B.len (by decide +kernel) (zb (pv 0) zd)) zd)) (zH (i:=5) sc.nd rfl (Or.inl rfl)) (zf (yD PassesOwn.never rfl (wu rfl B.range (zb zg (zb (zw yu (zA (zp (K:=K) rfl) rfl B.len (by decide +kernel) (zb (pv 0) zd)) zg) zd))) (zH (i:=6) sc.nd rfl (Or.inl rfl)) (ze (zu (i:=7) sc.nd rfl (Or.inl rfl) (Qp (w9 hr) (pv 4) (uR (zb (pv 5) (zb (pv 6) zd))) (yb zd) ⟨rfl,rfl,rfl,rfl⟩))
   (ze (xh (i:=8) rfl sc.nd rfl rfl (N:=["road", "y"]) (js:=[none,some 2]) (by walk_at"comp_ok") (zJ (K:=K) rfl (pv 7)) (fun _ _ _ _=>(zH (i:=0) (show List.Nodup (["road", "y"]:List PySem.Str) by decide +kernel) rfl (Or.inl rfl))) (fun _ _ _ _=>(xq (zB Yf (zz (zh (K:=K) rfl) (pv 0) (uz wC zg) (fun _ _=>rfl)) (pv 1) (zU _)))) (fun _ _ _ _=>(pv 0)))
   (ze (yo (zB Za (zA (zp (K:=K) rfl) rfl B.len (by decide +kernel) (zb (pv 8) zd)) zg (zU _)) (zf (zD (zA (Zv (K:=K) rfl rfl (w9 hr)) rfl B.min (by decide +kernel) (zb (pv 8) zd)))) zL)
   (zf (yD PassesOwn.never rfl (zJ (K:=K) rfl (zN c_all_longer (hr.mono (by decide)) rfl zM (zb (pv 0) (zb (pv 7) (zb (pv 3) zd))))) (zH (i:=9) sc.nd rfl (Or.inl rfl)) (zf (yp (y6 (K:=K) rfl ζu ζP ζO yy (zcx (w9 hr) (pv 4) (uR (zb (zA (zp (K:=K) rfl) rfl B.len (by decide +kernel) (zb (zN c_vees (hr.mono (by decide)) rfl zM (zb (pv 0) (zb (pv 9) zd))) zd)) (zb (zw yu (pv 6) zg) zd))) (yb zd) ⟨rfl,rfl,rfl,rfl⟩) (zb (pv 9) zd))))))))))))
   (zf (zD t8))))),?_⟩
 have hN:(["causes", "x", "y", "known", "piles", "count", "length", "pile", "arrived", "longer"]:List Str).length=10:=rfl
 obtain ⟨n,cs,x,y,kn,rfl,ok,dg,rn,n12,t15,hx,xk,hk,kl,rfl⟩:=p
 have big:10000000 < sizeLine:=by rw [sizeLine_eq]; decide
 have cl:=ok.l
 have el:PyData.int (((cs.map nl).length:Nat):Int)=.int (n:Int):=by rw [ζb,cl]
 walk_at"run"
 refine vQ (b:=brB cs kn x y) (et_B (zv (by walk_at"ev") ⟨n,cs,x,y,kn,rfl,ok,n12,hx,rfl⟩)) (fun h=>?_) (fun h=>?_)
 ·refine exrs true (by walk_at"ev") ?_ (.inl ⟨rfl,rfl⟩)
  show _=rdD (ordF cs kn x y)
  rw [Yd (zdL dg xk h)]
 refine exn ?_
 refine zbo Z.nt (k:=0) (l:=1) (ds:=[nl [x]]) (v6 (ds:=[.int 0,.int 1]) (by walk_at"ev") (by show 2≤_; omega)) (EvO.eq (zQ (ds:=[.list [.int (x:Int)]]) (zk (EvO.toE (zQ (ds:=[.int (x:Int)]) (zk (by walk_at"ev") zG) (by show 1≤sizeLine; omega))) zG) (by show 1≤sizeLine; omega)) rfl) (by walk_at"sc") ?_
 refine wx (ds:=(List.range n).map fun i:Nat=>.int (i:Int)) true (fun c Γ=>∃ (T:LTab) (P:Nat→Nat→List (List Nat)) (m:Nat) (u1 u2 u3 u4 u5:Option DV),PI cs kn x c 1 P∧TP T P c 1∧NaI cs kn x y c 1∧m≤1 + c * 12 * 32768∧Γ=[some (.fz false (nls cs)),some (.fz false (.int x)),some (.fz false (.int y)),some (.fz false (nl kn)),some (pT K T m),u1,u2,u3,u4,u5]) (vK (n:=(n:Int)) (zk (EvE.eq (yg (ds:=cs.map nl) (by walk_at"ev")) el) zG) (by omega) (by omega)) ⟨_,fun i j=>if i=0∧j=1 then [[x]] else [],1,none,none,none,none,none,.start cs kn x,⟨fun i j=>?_,fun i j ds e=>?_⟩,fun r hr _ hl=>?_,by omega,rfl⟩ ?_ ?_
 ·have e:=zav (fun _ _=>none) 0 1 (i:Int) (j:Int) [nl [x]]
  rw [e]
  by_cases q:i=0∧j=1
  ·rw [if_pos q,if_pos ⟨by omega,by omega⟩]
   rfl
  ·rw [if_neg q,if_neg fun z=>q ⟨by omega,by omega⟩]
   rfl
 ·exfalso
  by_cases q:(i:Int)=0∧(j:Int)=1
  ·rw [q.1,q.2,LTab.put_eq] at e
   cases e
  ·rw [LTab.put_ne q] at e
   cases e
 ·have:=hr.pos
  rcases hl with z | z <;> omega
 ·rintro c d Γ' hd ⟨T,P,m,u1,u2,u3,u4,u5,pi,tp,na,hm,rfl⟩
  obtain ⟨hc,rfl⟩:=vF hd
  refine ⟨_,egn (by walk_at"sc") ?_⟩
  refine uV (ds:=(List.range ((n:Int) + 1 - 1).toNat).map fun i:Nat=>.int (1 + (i:Int))) true (fun i Γ=>∃ (T:LTab) (P:Nat→Nat→List (List Nat)) (m:Nat) (u2 u3 u4 u5:Option DV),PI cs kn x c (1 + i) P∧TP T P c (1 + i)∧NaI cs kn x y c (1 + i)∧m≤1 + (c * 12 + i) * 32768∧Γ=[some (.fz false (nls cs)),some (.fz false (.int x)),some (.fz false (.int y)),some (.fz false (nl kn)),some (pT K T m),some (.fz true (.int c)),u2,u3,u4,u5]) (uH (m:=1) (n:=(n:Int) + 1) (zk (by walk_at"ev") (zk (vk (EvE.eq (yg (ds:=cs.map nl) (by walk_at"ev")) el) (by walk_at"ev")) zG)) (by omega)) ⟨T,P,m,u2,u3,u4,u5,pi,tp,na,by omega,rfl⟩ ?_ ?_
  ·clear pi tp na hm T P m
   rintro i d Γ' hd ⟨T,P,m,u2,u3,u4,u5,pi,tp,na,hm,rfl⟩
   obtain ⟨hi,rfl⟩:=YW hd
   refine ⟨_,egn (by walk_at"sc") ?_⟩
   obtain ⟨l,hl⟩:∃ l:Nat,1 + i=l:=⟨_,rfl⟩
   rw [show (1:Int) + (i:Int)=(l:Int) by omega]
   rw [hl] at pi tp na
   have l1:1≤l:=by omega
   refine zbp Z.nt (c:=(c:Int)) (l:=(l:Int)) (by walk_at"gc") (v6 (ds:=[.int (c:Int),.int (l:Int)]) (by walk_at"ev") (by show 2≤_; omega)) (by walk_at"sc") (by walk_at"sc") ?_
   rw [tp.a]
   have fl:∀ r∈P c l,Rd cs kn x r∧vN cs r=c∧r.length=l:=fun r hr=>(pi.full l1).mp hr
   have pl:=many ok hx t15 (pi.nd c l) fun r hr=>⟨(fl r hr).1,(fl r hr).2.2⟩
   have hae:∀ r,r∈(P c l).filter (endB y)↔r∈P c l∧r.getLast?=some y:=fun r=>by
    rw [ζp]
    exact ⟨fun z=>⟨z.1,of_decide_eq_true z.2⟩,fun z=>⟨z.1,decide_eq_true z.2⟩⟩
   refine exo true (ds:=((P c l).filter (endB y)).map nl) (yB (κ:=true) (is:=[0]) (xs:=P c l) true nl nl (endB y) (fun a _ b _ h=>by cases VS h; exact ⟨rfl,rfl⟩) (zT (by walk_at"ev")) (by walk_at"cc") rfl (by decide) (by omega) ?_) (by walk_at"sc") ?_
   ·intro r hr
    obtain ⟨r0,w,er⟩:=yw (fl r hr).1.ne
    have aw:atI (r.map fun k:Nat=>PyData.int (k:Int)) (-1)=some (.int (w:Int)):=by rw [er,ζn]; exact vx _ _
    have ew:endB y r=decide ((w:Int)=(y:Int)):=by
     unfold endB
     rw [er,List.getLast?_append]
     exact decide_eq_decide.mpr ⟨fun z=>by cases z; rfl,fun z=>by show some w=some y; rw [show w=y by omega]⟩
    exact egn (by walk_at"sc") ⟨EvT.eq (zC (v7 (zr (κ:=false) (EvE.toL (by walk_at"ev")) (vj (i:=1) (by walk_at"ev")) aw) (by walk_at"ev"))) ew.symm,fun _=>by walk_at"ev"⟩
   generalize har:(P c l).filter (endB y)=ar at hae
   have arl:ar.length≤32768:=by rw [← har]; exact ζU (ζF _ _) pl
   refine vQ (b:=decide ((0:Int) < (ar.length:Int))) (zC (Zn (EvE.eq (yg (ds:=ar.map nl) (by walk_at"ev")) (by rw [ζb])) (by walk_at"ev"))) (fun h=>?_) (fun h=>?_)
   ·have h0:ar≠[]:=fun z=>by rw [z] at h; exact absurd h (by decide)
    obtain ⟨r,e1,e2⟩:=QQ pi l1 na hae h0
    refine exrs true (Uh (nss:=ar.map zl) (VD (by walk_at"ev") (Qy ar)) (by simpa using h0)) ?_ (.inl ⟨rfl,rfl⟩)
    show _=rdD (ordF cs kn x y)
    rw [e1,← e2]
    exact (yv r).symm
   ·have h0:ar=[]:=by
     have:=of_decide_eq_false h
     exact ζ6.mp (by omega)
    refine exn ?_
    have na':NaI cs kn x y c (l + 1):=fun r hr hy z=>by
     have z2:vN cs r=c∧r.length=l:=by
      have:=na r hr hy
      rcases z with z | z
      ·exact absurd (.inl z) this
      ·refine ⟨z.1,?_⟩
       have:¬ r.length < l:=fun q=>this (.inr ⟨z.1,q⟩)
       omega
     have:r∈ar:=(hae r).mpr ⟨(pi.full l1).mpr ⟨hr,z2⟩,hy⟩
     rw [h0] at this
     cases this
    have nx:=pi.next ok dg rn hx hk l1
    have Lm:∀ q∈(P c l).flatMap (lgR n cs kn),Rd cs kn x q∧q.length=l + 1∧c≤vN cs q:=fun q hq=>by
     obtain ⟨r,hr,h2⟩:=ξp.mp hq
     obtain ⟨g1,g2⟩:=(Xa ok hx hk (fl r hr).1).mp h2
     have g3:=zbM (cs:=cs) g1.ne
     have g4:=ξO (xs:=q)
     have g5:=g1.pos
     rw [g2] at g3 g4
     have:=(fl r hr).2
     exact ⟨g1,by omega,by omega⟩
    have Ll:=many ok hx t15 (Xs ok dg rn kn (pi.nd c l)) fun q hq=>⟨(Lm q hq).1,(Lm q hq).2.1⟩
    have po:y0 [nls cs,nls (P c l),nl kn] (nls ((P c l).flatMap (lgR n cs kn))):=⟨n,cs,kn,P c l,rfl,ok,n12,kl,fun r hr=>⟨(fl r hr).1.lt ok hx,(fl r hr).1.pos,by have:=(fl r hr).1.len ok hx; omega⟩,by omega,rfl⟩
    have pil:∀ i,(P i (l + 1)).length≤32768:=fun i=>many ok hx t15 (pi.nd i (l + 1)) fun r hr=>by
     have:=(pi.m i (l + 1) r).mp hr
     exact ⟨this.1,this.2.2.1⟩
    generalize (P c l).flatMap (lgR n cs kn)=L at nx Lm Ll po
    refine uV (ds:=L.map nl) true (fun t Γ=>∃ (T:LTab) (m:Nat) (u5:Option DV),TP T (PX cs P l (L.take t)) c (l + 1)∧m≤1 + (c * 12 + i) * 32768 + t∧Γ=[some (.fz false (nls cs)),some (.fz false (.int x)),some (.fz false (.int y)),some (.fz false (nl kn)),some (pT K T m),some (.fz true (.int c)),some (.fz true (.int (l:Int))),some (.fz true (nls (P c l))),some (.ow true (ar.map nl)),u5]) (zT (zv (by walk_at"ev") po)) ⟨_,m,u5,by rw [List.take_zero,zdo]; exact tp.get,by omega,rfl⟩ ?_ ?_
    ·rintro t d Γ3 hd ⟨T,m,u5,tp,hm,rfl⟩
     obtain ⟨r,hr,rfl⟩:=xr hd
     have tl:=(ζc.mp hr).1
     obtain ⟨q1,q2,q3⟩:=Lm r (ζj hr)
     have rl:=q1.len ok hx
     refine ⟨_,egn (by walk_at"sc") ?_⟩
     have za:(T.at (vN cs r:Int) ((l + 1:Nat):Int)).length < sizeLine:=by
      rw [tp.a,ζb]
      unfold PX
      rw [if_pos rfl,ζd]
      have:=ζF (fun q=>decide (vN cs q=vN cs r)) (L.take t)
      rw [ζS] at this
      have:=pil (vN cs r)
      omega
     refine zc0 Z.nt (c:=(vN cs r:Int)) (l:=((l + 1:Nat):Int)) (d:=nl r) (by walk_at"gc") (v6 (ds:=[.int (vN cs r:Int),.int ((l + 1:Nat):Int)]) (zk (EvE.eq (yg (ds:=(vsF cs r).map fun k:Nat=>.int (k:Int)) (EvE.toL (zv (d:=nl (vsF cs r)) (by walk_at"ev") ⟨n,cs,r,rfl,ok,q1.lt ok hx,by omega,rfl⟩))) (by rw [ζb,VP])) (zk (EvE.eq (vk (i:=(l:Int)) (j:=1) (by walk_at"ev") (by walk_at"ev")) (congrArg PyData.int (show (l:Int) + 1=((l + 1:Nat):Int) by omega))) zG)) (by show 2≤_; omega)) (fun ds e=>?_) (by walk_at"sc") (by walk_at"ev") (by omega) za (by walk_at"sc") ?_
     ·rcases tp.z _ _ ds e with z | z <;> omega
     ·refine ⟨_,m + 1,_,?_,by omega,rfl⟩
      rw [take_succ hr]
      exact tp.put r
    ·rintro Γ3 ⟨T,m,u5,tp,hm,rfl⟩
     rw [show (L.map nl).length=L.length from ζb ..,ξh] at tp
     rw [show (L.map nl).length=L.length from ζb ..] at hm
     rw [show 1 + (i + 1)=l + 1 by omega]
     exact ⟨T,_,m,_,_,_,_,nx,tp,na',by omega,rfl⟩
  ·rintro Γ3 ⟨T,P,m,u2,u3,u4,u5,pi,tp,na,hm,rfl⟩
   rw [vV,show 1 + ((n:Int) + 1 - 1).toNat=n + 1 by omega] at pi tp na
   rw [vV] at hm
   refine ⟨T,P,m,_,_,_,_,_,pi.wrap ok hx,tp.wrap,fun r hr hy z=>?_,by omega,rfl⟩
   have:=hr.len ok hx
   have:=hr.pos
   refine na r hr hy ?_
   rcases z with z | z
   ·rcases ξI (ξW z) with q | q
    ·exact .inl q
    ·exact .inr ⟨q,by omega⟩
   ·omega
 ·rintro Γ3 ⟨T,P,m,u1,u2,u3,u4,u5,pi,tp,na,hm,rfl⟩
  rw [xN] at na
  refine yc true (by walk_at"ev") ?_ (.inl ⟨rfl,rfl⟩)
  show _=rdD (ordF cs kn x y)
  rw [Yd fun r hr hy=>na r hr hy (.inl (by have:=zbL cs r; have:=hr.len ok hx; have:=hr.pos; omega))]
def rmS (cs:List (List Nat)) (wi f r:List Nat):List Nat:=wi.filter fun k=>!decide (k∈f) && (effF cs k).any fun e=>decide (e∈r)
def rmF (cs:List (List Nat)) (sm wi:List Nat):Nat→List Nat×List Nat
 | 0=>(wi.filter fun k=>decide (k∈sm),[])
 | s + 1=>(rmS cs wi ((rmF cs sm wi s).2 ++ (rmF cs sm wi s).1) (rmF cs sm wi s).1,(rmF cs sm wi s).2 ++ (rmF cs sm wi s).1)
def rim (cs:List (List Nat)) (sm wi:List Nat) (s:Nat):List Nat:=(rmF cs sm wi s).1
def fnd (cs:List (List Nat)) (sm wi:List Nat) (s:Nat):List Nat:=(rmF cs sm wi s).2
theorem ww (cs:List (List Nat)) (sm wi:List Nat) (s:Nat):fnd cs sm wi (s + 1)=fnd cs sm wi s ++ rim cs sm wi s:=rfl
theorem TY (cs:List (List Nat)) (sm wi:List Nat) (s:Nat):rim cs sm wi (s + 1)=rmS cs wi (fnd cs sm wi (s + 1)) (rim cs sm wi s):=rfl
theorem wL {cs:List (List Nat)} {sm wi:List Nat} {s k:Nat}:k∈rim cs sm wi (s + 1)↔k∈wi∧k∉fnd cs sm wi (s + 1)∧∃ e∈effF cs k,e∈rim cs sm wi s:=by
 rw [TY]
 unfold rmS
 rw [ζp,ξF,ξq]
 simp
theorem YU {cs:List (List Nat)} {sm wi:List Nat}:∀ {s k:Nat},k∈rim cs sm wi s→k∈wi
 | 0,_,h=>(ζp.mp h).1
 | _ + 1,_,h=>(wL.mp h).1
theorem xJ {cs:List (List Nat)} {sm wi:List Nat} {k:Nat}:∀ {s:Nat},k∈fnd cs sm wi s↔∃ t,t < s∧k∈rim cs sm wi t
 | 0=>⟨fun z=>(by cases z),fun ⟨t,z,_⟩=>absurd z (ζV t)⟩
 | s + 1=>by
  rw [ww,ζs,xJ]
  constructor
  ·rintro (⟨t,h,z⟩ | z)
   ·exact ⟨t,by omega,z⟩
   ·exact ⟨s,by omega,z⟩
  ·rintro ⟨t,h,z⟩
   by_cases e:t=s
   ·exact .inr (e ▸ z)
   ·exact .inl ⟨t,by omega,z⟩
theorem YT {cs:List (List Nat)} {sm wi:List Nat}:∀ {s k:Nat},k∈rim cs sm wi s→k∉fnd cs sm wi s
 | 0,_,_=>fun z=>(by cases z)
 | _ + 1,_,h=>(wL.mp h).2.1
theorem vE {cs:List (List Nat)} {sm wi:List Nat} {s t k:Nat} (h1:k∈rim cs sm wi s) (h2:k∈rim cs sm wi t):s=t:=by
 rcases Nat.lt_trichotomy s t with c | c | c
 ·exact absurd (xJ.mpr ⟨s,c,h1⟩) (YT h2)
 ·exact c
 ·exact absurd (xJ.mpr ⟨t,c,h2⟩) (YT h1)
theorem TZ {cs:List (List Nat)} {sm wi:List Nat} (nd:wi.Nodup):∀ s,(rim cs sm wi s).Nodup
 | 0=>nd.sublist ξQ
 | _ + 1=>nd.sublist ξQ
theorem QZ {cs:List (List Nat)} {sm wi:List Nat} (nd:wi.Nodup):∀ s,(fnd cs sm wi s).Nodup
 | 0=>ζ1
 | s + 1=>by
  rw [ww,ζD]
  exact ⟨QZ nd s,TZ nd s,fun a ha b hb e=>YT hb (e ▸ ha)⟩
theorem Vm:∀ (l sm:List Nat),l.Nodup→(∀ x∈l,x∈sm)→l.length≤sm.length
 | [],_,_,_=>ζE _
 | x :: l,sm,nd,h=>by
  obtain ⟨n1,n2⟩:=ζC.mp nd
  have hx:=h x ζg
  have ih:=Vm l (sm.erase x) n2 fun y hy=>(List.mem_erase_of_ne (fun e=>n1 (by rw [← e]; exact hy))).mpr (h y (ζl _ hy))
  rw [ξX hx] at ih
  have:=ξg hx
  show l.length + 1≤_
  omega
theorem Xr {cs:List (List Nat)} {sm wi:List Nat} (nd:wi.Nodup) (s:Nat):(fnd cs sm wi s).length≤wi.length:=Vm _ _ (QZ nd s) fun x hx=>by
 obtain ⟨t,_,z⟩:=xJ.mp hx
 exact YU z
theorem YV {cs:List (List Nat)} {sm wi:List Nat} {s:Nat} (h:rim cs sm wi s=[]):∀ t,rim cs sm wi (s + t)=[]
 | 0=>h
 | t + 1=>by
  have ih:=YV h t
  refine List.eq_nil_iff_forall_not_mem.mpr fun k hk=>?_
  obtain ⟨_,_,e,_,he⟩:=wL.mp hk
  have he:e∈rim cs sm wi (s + t):=he
  rw [ih] at he
  cases he
theorem X6 {cs:List (List Nat)} {sm wi:List Nat} {k s:Nat} (h:k∈rim cs sm wi s):∀ t,t≤s→t≤(fnd cs sm wi t).length
 | 0,_=>ζE _
 | t + 1,ht=>by
  have ih:=X6 h t (by omega)
  have:rim cs sm wi t≠[]:=fun z=>by
   have:=YV z (s - t)
   rw [show t + (s - t)=s by omega] at this
   rw [this] at h
   cases h
  have:=ξP.mpr this
  rw [ww,ζd]
  omega
theorem T0 {cs:List (List Nat)} {sm wi:List Nat} (nd:wi.Nodup) {k s:Nat} (h:k∈rim cs sm wi s):s < wi.length:=by
 have h1:=X6 h s (ζi _)
 have h2:=Xr (cs:=cs) (sm:=sm) nd (s + 1)
 rw [ww,ζd] at h2
 have:=ξg h
 omega
structure DG (cs:List (List Nat)) (sm wi:List Nat) (m:DTab):Prop where
 i:∀ {k t:Nat},k∈rim cs sm wi t→dGet m (k:Int)=some (.int (t:Nat))
 o:∀ {k:Nat},(∀ t,k∉rim cs sm wi t)→dGet m (k:Int)=none
structure DS (cs:List (List Nat)) (sm wi:List Nat) (s:Nat) (m:DTab):Prop where
 i:∀ {k t:Nat},t < s→k∈rim cs sm wi t→dGet m (k:Int)=some (.int (t:Nat))
 o:∀ {k:Nat},k∉fnd cs sm wi s→dGet m (k:Int)=none
 l:m.length≤(fnd cs sm wi s).length
theorem DS.has {cs:List (List Nat)} {sm wi:List Nat} {s:Nat} {m:DTab} (h:DS cs sm wi s m) (k:Nat):(dGet m (k:Int)).isSome=decide (k∈fnd cs sm wi s):=by
 by_cases c:k∈fnd cs sm wi s
 ·obtain ⟨t,ht,z⟩:=xJ.mp c
  rw [h.i ht z,decide_eq_true c]
  rfl
 ·rw [h.o c,decide_eq_false c]
  rfl
theorem DS.end {cs:List (List Nat)} {sm wi:List Nat} {s:Nat} {m:DTab} (h:DS cs sm wi s m) (e:rim cs sm wi s=[]):DG cs sm wi m:=by
 refine ⟨fun {k t} z=>?_,fun {k} z=>h.o fun y=>?_⟩
 ·by_cases c:t < s
  ·exact h.i c z
  ·have:=YV e (t - s)
   rw [show s + (t - s)=t by omega] at this
   rw [this] at z
   cases z
 ·obtain ⟨t,_,w⟩:=xJ.mp y
  exact z t w
def xV (ds:List PyData) (G:DTab→Prop):Prop:=∃ (cs:List (List Nat)) (sm wi:List Nat),ds=[nls cs,nl sm,nl wi]∧cs.length≤12∧wi.Nodup∧wi.length≤12∧G=DG cs sm wi
theorem Ze (ds:List PyData) (G:DTab→Prop) (h:xV ds G):ds.length=3:=by obtain ⟨a,b,c,rfl,_⟩:=h; rfl
theorem ZL:zI ["causes", "some", "within", "found", "rim", "steps", "k"] ["causes", "some", "within"] (zo (top 5)):=⟨rfl,rfl,rfl,by decide +kernel,rfl,by decide +kernel,by decide +kernel⟩
theorem ZR (F:Fun K "steps_down" "steps_down" (top 5) f fd) (B:Bs mg) (Z:Cs K mg τa τb) (c_meet:zF P w K mg base CX0 "meet" ["some", "others"] 1 (spD K true uw)) (c_effects:zF P w K mg base CX0 "effects" ["causes", "k"] 1 (spD K true yI)):FnOk P w K mg base CX0 2 f fd ["causes", "some", "within"] (spDW K xV):=by
 have sc:=ZL
 refine F.ok sc (fun vs H Q E h=>TL Ze h) (fun cdv A outer s H vs Q E hr h=>?_)
 obtain ⟨Fh,ds,G,le,dp,p,q⟩:=h
 refine ⟨_,(ze (zu (i:=3) sc.nd rfl (Or.inr rfl) Qn)
   (ze (zu (i:=4) sc.nd rfl (Or.inr rfl) (yM rfl (N:=["k", "some"]) (js:=[none,some 1]) (by walk_at"comp_ok") (zJ (K:=K) rfl (pv 2)) (fun _ _ _ _=>(zH (i:=0) (show List.Nodup (["k", "some"]:List PySem.Str) by decide +kernel) rfl (Or.inl rfl))) (fun _ _ _ _=>(xq (zB (yd (K:=K) rfl) (pv 0) (pv 1) (rfl)))) (fun _ _ _ _=>(pv 0))))
   (ze (zu (i:=5) sc.nd rfl (Or.inl rfl) zg)
   (ze (xT PassesOwn.never (zB Za (zA (zp (K:=K) rfl) rfl B.len (by decide +kernel) (zb (pv 4) zd)) zg (zU _)) (ze (yD PassesOwn.never rfl (zJ (K:=K) rfl (pv 4)) (zH (i:=6) sc.nd rfl (Or.inl rfl)) (zf (zaT (w9 hr) (pv 3) (pv 6) (pv 5) rfl)))
   (ze (zu (i:=4) sc.nd rfl (Or.inr rfl) (yM rfl (N:=["k", "found", "rim", "causes"]) (js:=[none,some 3,some 4,some 0]) (by walk_at"comp_ok") (zJ (K:=K) rfl (pv 2)) (fun _ _ _ _=>(zH (i:=0) (show List.Nodup (["k", "found", "rim", "causes"]:List PySem.Str) by decide +kernel) rfl (Or.inl rfl))) (fun _ _ _ _=>(xq (PW.pt (wV (Qc (Yc (w9 hr) (pv 0) (pv 1))) (x5 (yq (zN c_meet (hr.mono (by decide)) rfl zM (zb (zN c_effects (hr.mono (by decide)) rfl zM (zb (pv 3) (zb (pv 0) zd))) (zb (pv 2) zd))))))))) (fun _ _ _ _=>(pv 0))))
   (zf (zu (i:=5) sc.nd rfl (Or.inl rfl) (zw yu (pv 5) zg))))))
   (zf (zD (pv 3))))))),?_⟩
 have hN:(["causes", "some", "within", "found", "rim", "steps", "k"]:List Str).length=7:=rfl
 obtain ⟨cs,sm,wi,rfl,cl,nd,wl,rfl⟩:=p
 have big:=zK
 have el:∀ k,(effF cs k).length≤12:=fun k=>by
  have:=ζF (fun o=>decide (k∈cs.getD o [])) (List.range cs.length)
  rw [ζy] at this
  unfold effF
  omega
 have rl:∀ s,(rim cs sm wi s).length≤12:=fun s=>ζU (Vm _ wi (TZ nd s) fun x hx=>YU hx) wl
 refine zdv (G:=XI K (DG cs sm wi)) le dp q hN (by walk_at"st") ?_
 refine tK (·=[some (.fz false (nls cs)),some (.fz false (nl sm)),some (.fz false (nl wi)),some (.od (.dK [])),none,none,none]) ?_ ?_
 ·exact zbk (u:=XS) (by walk_at"sc") (yx rfl)
 rintro Γ1 rfl
 refine tK (·=[some (.fz false (nls cs)),some (.fz false (nl sm)),some (.fz false (nl wi)),some (.od (.dK [])),some (.fz true (nl (rim cs sm wi 0))),none,none]) (exs1 true (d:=nl (rim cs sm wi 0)) (EvO.toE (yB (κ:=true) (is:=[0]) (xs:=wi) false (fun k:Nat=>.int (k:Int)) (fun k:Nat=>.int (k:Int)) (fun k=>decide (k∈sm)) (fun x _ y _ h=>by cases vY h; exact ⟨rfl,rfl⟩) (zT (by walk_at"ev")) (by walk_at"cc") rfl (by decide) (by omega) ?_)) (by walk_at"sc") rfl) ?_
 ·intro k hk
  exact egn (by walk_at"sc") ⟨EvT.eq (zC (yr (neg:=false) (i:=(k:Int)) (ns:=zl sm) (by walk_at"ev") (EvE.toL (EvE.eq (κ:=false) (by walk_at"ev") (yv _))))) yi,fun _=>by walk_at"ev"⟩
 rintro Γ1 rfl
 refine tK (·=[some (.fz false (nls cs)),some (.fz false (nl sm)),some (.fz false (nl wi)),some (.od (.dK [])),some (.fz true (nl (rim cs sm wi 0))),some (.fz true (.int 0)),none]) (exs1 true (by walk_at"ev") (by walk_at"sc") rfl) ?_
 rintro Γ1 rfl
 refine tK (fun Γ=>∃ m x y z,DG cs sm wi m∧Γ=[some (.fz false (nls cs)),some (.fz false (nl sm)),some (.fz false (nl wi)),some (.od (.dK m)),x,y,z]) (xY (fun q Γ=>∃ (s:Nat) (m:DTab) (x:Option DV),DS cs sm wi s m∧q=wi.length - (fnd cs sm wi s).length∧Γ=[some (.fz false (nls cs)),some (.fz false (nl sm)),some (.fz false (nl wi)),some (.od (.dK m)),some (.fz true (nl (rim cs sm wi s))),some (.fz true (.int (s:Nat))),x]) _ ⟨0,[],none,⟨fun z=>absurd z (ζV _),fun _=>zan _,ζi _⟩,rfl,rfl⟩ ?_) ?_
 ·rintro q Γ' ⟨s,m,x,dsm,rfl,rfl⟩
  have fl:=Xr (cs:=cs) (sm:=sm) nd s
  have fl1:=Xr (cs:=cs) (sm:=sm) nd (s + 1)
  have fe:(fnd cs sm wi (s + 1)).length=(fnd cs sm wi s).length + (rim cs sm wi s).length:=by rw [ww,ζd]
  have rls:=rl s
  have ml:=dsm.l
  refine ⟨decide (0 < ((rim cs sm wi s).length:Int)),EvT.eq (zC (Zn (i:=((rim cs sm wi s).length:Int)) (j:=0) (EvE.eq (yg (ds:=(rim cs sm wi s).map fun k:Nat=>.int (k:Int)) (by walk_at"ev")) (by rw [ζb])) (by walk_at"ev"))) rfl,fun h=>?_,fun h=>?_⟩
  ·have h':0 < ((rim cs sm wi s).length:Int):=by simpa using h
   refine wx (ds:=(rim cs sm wi s).map fun k:Nat=>.int (k:Int)) true (fun i Γ=>∃ (m':DTab) (x:Option DV),(∀ k:Nat,dGet m' (k:Int)=if k∈(rim cs sm wi s).take i then some (.int (s:Nat)) else dGet m (k:Int))∧m'.length≤m.length + i∧Γ=[some (.fz false (nls cs)),some (.fz false (nl sm)),some (.fz false (nl wi)),some (.od (.dK m')),some (.fz true (nl (rim cs sm wi s))),some (.fz true (.int (s:Nat))),x]) (zT (by walk_at"ev")) ⟨m,_,fun k=>rfl,ζi _,rfl⟩ ?_ ?_
   ·rintro i d Γ' hd ⟨m',x,hm,hl,rfl⟩
    obtain ⟨k,hk,rfl⟩:=xr hd
    have il:i < (rim cs sm wi s).length:=(ζc.mp hk).1
    have pl:=zal m' (k:Int) (.int (s:Nat))
    refine ⟨_,egn (by walk_at"sc") ?_⟩
    refine zbj (d:=.int (s:Nat)) (w:=.int (s:Nat)) (k:=(k:Int)) (by walk_at"gc") (by walk_at"ev") (by walk_at"ev") rfl (by omega) (by walk_at"sc") ⟨_,_,fun j=>?_,by omega,rfl⟩
    rw [zam,take_succ hk]
    by_cases c:j=k
    ·subst c
     rw [if_pos rfl,if_pos (ζk _ (ζf.mpr rfl))]
    ·rw [if_neg (by omega),hm j]
     have:j∈(rim cs sm wi s).take i ++ [k]↔j∈(rim cs sm wi s).take i:=by rw [ζs,ζf]; exact ⟨fun z=>z.elim id fun y=>absurd y c,.inl⟩
     by_cases d:j∈(rim cs sm wi s).take i
     ·rw [if_pos d,if_pos (this.mpr d)]
     ·rw [if_neg d,if_neg (fun z=>d (this.mp z))]
   rintro Γ' ⟨m',x,hm,hl,rfl⟩
   rw [ζb] at hl
   rw [ζb,ξh] at hm
   have ds':DS cs sm wi (s + 1) m':=⟨fun {k t} ht z=>by
    rw [hm k]
    by_cases c:t=s
    ·subst c
     rw [if_pos z]
    ·rw [if_neg fun y=>c (vE z y),dsm.i (by omega) z],fun {k} z=>by
    rw [ww] at z
    rw [hm k,if_neg fun y=>z (ζk _ y),dsm.o fun y=>z (ζz _ y)],by rw [fe]; omega⟩
   refine exs true (d:=nl (rim cs sm wi (s + 1))) (EvO.toE (yB (κ:=true) (is:=[0]) (xs:=wi) false (fun k:Nat=>.int (k:Int)) (fun k:Nat=>.int (k:Int)) (fun k=>!decide (k∈fnd cs sm wi (s + 1)) && (effF cs k).any fun e=>decide (e∈rim cs sm wi s)) (fun x _ y _ h=>by cases vY h; exact ⟨rfl,rfl⟩) (zT (by walk_at"ev")) (by walk_at"cc") rfl (by decide) (by omega) ?_)) (by walk_at"sc") ?_
   ·intro k hk
    have elk:=el k
    exact egn (by walk_at"sc") ⟨wO (EvT.eq (et_B (Tb (k:=(k:Int)) (by walk_at"gc") (by walk_at"ev"))) (by rw [ds'.has k])) fun _=>et_B (zv (zk (zv (by walk_at"ev") ⟨cs,k,rfl,by omega,rfl⟩) (zk (by walk_at"ev") zG)) ⟨effF cs k,rim cs sm wi s,rfl,by omega,rfl⟩),fun _=>by walk_at"ev"⟩
   refine exs1 true (d:=.int ((s + 1:Nat):Int)) (EvE.eq (by walk_at"ev") (congrArg PyData.int (by omega))) (by walk_at"sc") ⟨_,?_,s + 1,m',_,ds',rfl,rfl⟩
   omega
  ·have h':¬ 0 < ((rim cs sm wi s).length:Int):=by simpa using h
   exact ⟨m,_,_,_,dsm.end (List.length_eq_zero_iff.mp (by omega)),rfl⟩
 rintro Γ1 ⟨m,x,y,z,dg,rfl⟩
 exact U6 (by walk_at"gc") dg
def nrF (cs:List (List Nat)) (sm wi:List Nat) (t k:Nat):Nat:=((effF cs k).filter fun e=>decide (e∈rim cs sm wi t)).getD 0 0
theorem V7 {cs:List (List Nat)} {sm wi:List Nat} {t k:Nat} (h:k∈rim cs sm wi (t + 1)):((effF cs k).filter fun e=>decide (e∈rim cs sm wi t))[0]?=some (nrF cs sm wi t k)∧nrF cs sm wi t k∈rim cs sm wi t:=by
 obtain ⟨_,_,e,h1,h2⟩:=wL.mp h
 have hm:e∈(effF cs k).filter fun e=>decide (e∈rim cs sm wi t):=ζp.mpr ⟨h1,decide_eq_true h2⟩
 have g:=getD_some (d:=0) (ξg hm)
 exact ⟨g,of_decide_eq_true (ζp.mp (ζj g)).2⟩
def vW (xs:List DV) (d:PyData):Prop:=∃ (cs:List (List Nat)) (sm wi:List Nat) (m:DTab) (t k:Nat),xs=[.fz false (nls cs),.xn (dkO m),.fz false (.int k)]∧cs.length≤12∧DG cs sm wi m∧k∈rim cs sm wi (t + 1)∧d=.int (nrF cs sm wi t k:Nat)
theorem Vu (xs:List DV) (d:PyData) (h:vW xs d):xs.length=3:=by obtain ⟨a,b,c,e,f,g,rfl,_⟩:=h; rfl
theorem UF:zI ["causes", "steps", "k"] ["causes", "steps", "k"] (zo (top 6)):=⟨rfl,rfl,rfl,by decide +kernel,rfl,by decide +kernel,by decide +kernel⟩
theorem UO (F:Fun K "nearer" "nearer" (top 6) f fd) (B:Bs mg) (Z:Cs K mg τa τb) (c_effects:zF P w K mg base CX0 "effects" ["causes", "k"] 1 (spD K true yI)):FnOk P w K mg base CX0 2 f fd ["causes", "steps", "k"] (spV K true vW):=by
 have sc:=UF
 refine F.ok sc (fun vs H Q E h=>zaH Vu h) (fun cdv A outer s H vs Q E hr h=>?_)
 obtain ⟨Fh,xs,d,le,dp,p,q⟩:=h
 refine ⟨_,(zf (zD (zz (zh (K:=K) rfl) (yM rfl (N:=["other", "steps", "k"]) (js:=[none,some 1,some 2]) (by walk_at"comp_ok") (zJ (K:=K) rfl (zN c_effects (hr.mono (by decide)) rfl zM (zb (pv 0) (zb (pv 2) zd)))) (fun _ _ _ _=>(zH (i:=0) (show List.Nodup (["other", "steps", "k"]:List PySem.Str) by decide +kernel) rfl (Or.inl rfl))) (fun _ _ _ _=>(xq (zB (V6 (K:=K) rfl hr.units) (Qq (w9 hr) (pv 1) (pv 0) ⟨rfl,rfl,rfl,rfl⟩) (zw yT (V4 (w9 hr) (pv 1) (pv 2) (fun _ _=>rfl)) zg) (zU _)))) (fun _ _ _ _=>(pv 0))) zg (fun _ _=>rfl)))),?_⟩
 have hN:(["causes", "steps", "k"]:List Str).length=3:=rfl
 obtain ⟨cs,sm,wi,m,t,k,rfl,cl,dg,hk,rfl⟩:=p
 have big:=zK
 have el:(effF cs k).length≤12:=by
  have:=ζF (fun o=>decide (k∈cs.getD o [])) (List.range cs.length)
  rw [ζy] at this
  unfold effF
  omega
 have nr:=(V7 hk).1
 have a0:atI (((effF cs k).filter fun e=>decide (e∈rim cs sm wi t)).map fun k:Nat=>PyData.int (k:Int)) (0:Int)=some (.int (nrF cs sm wi t k:Nat)):=yF (i:=0) nr
 walk_at"runv"
 refine yc true (zr (κ:=true) (EvO.toL (yB (κ:=true) (is:=[0]) (xs:=effF cs k) false (fun k:Nat=>.int (k:Int)) (fun k:Nat=>.int (k:Int)) (fun e=>decide (e∈rim cs sm wi t)) (fun x _ y _ h=>by cases vY h; exact ⟨rfl,rfl⟩) (zT (zv (by walk_at"ev") ⟨cs,k,rfl,by omega,rfl⟩)) (by walk_at"cc") rfl (by decide) (by omega) ?_)) (by walk_at"ev") a0) rfl (.inl ⟨rfl,rfl⟩)
 intro e he
 have st:EvE K .fresh false (tOp (rI0 fun i j=>.int (i - j)) (TJ (tVar 1) (tVar 2)) (tC (.int 1))) [some (.fz false (.int e)),some (.xn (dkO m)),some (.fz false (.int k))] (.int (t:Nat)):=EvE.eq (wN (WL (d:=.int ((t + 1:Nat):Int)) (by walk_at"gc") (by walk_at"ev") (dg.i hk) rfl) (by walk_at"ev")) (congrArg PyData.int (by omega))
 refine egn (by walk_at"sc") ⟨?_,fun _=>by walk_at"ev"⟩
 by_cases c:∃ s,e∈rim cs sm wi s
 ·obtain ⟨s,hs⟩:=c
  refine EvT.eq (zC (Xz (neg:=false) (d:=.int (s:Nat)) (f:=.int (t:Nat)) (EvE.toD (κ:=false) (Yw (by walk_at"gc") (by walk_at"ev") (.inr ⟨_,dg.i hs,rfl⟩))) (EvE.toD (κ:=false) st) rfl rfl)) ?_
  show ((s:Int) == (t:Int))=_
  by_cases z:s=t
  ·subst z
   rw [decide_eq_true hs]
   simp
  ·rw [decide_eq_false fun y=>z (vE hs y)]
   exact beq_eq_false_iff_ne.mpr (by omega)
 ·have c:∀ s,e∉rim cs sm wi s:=fun s z=>c ⟨s,z⟩
  refine EvT.eq (zC (Xz (neg:=false) (d:=.none) (f:=.int (t:Nat)) (EvE.toD (κ:=false) (Yw (by walk_at"gc") (by walk_at"ev") (.inl ⟨dg.o c,rfl⟩))) (EvE.toD (κ:=false) st) rfl rfl)) ?_
  rw [decide_eq_false (c t)]
  rfl
def wyF (cs:List (List Nat)) (sm wi:List Nat):Nat→Nat→List Nat
 | 0,k=>[k]
 | t + 1,k=>k :: wyF cs sm wi t (nrF cs sm wi t k)
theorem vS (cs:List (List Nat)) (sm wi:List Nat):∀ t k,(wyF cs sm wi t k).length=t + 1
 | 0,_=>rfl
 | t + 1,_=>congrArg (· + 1) (vS cs sm wi t _)
def WdD (cs:List (List Nat)) (sm:List Nat) (k:Nat) (d:PyData):Prop:=(∃ t,k∈rim cs sm (List.range cs.length) t∧d=nl (wyF cs sm (List.range cs.length) t k))∨((∀ t,k∉rim cs sm (List.range cs.length) t)∧d=.none)
def wG (ds:List PyData) (d:PyData):Prop:=∃ (cs:List (List Nat)) (k:Nat) (sm:List Nat),ds=[nls cs,.int k,nl sm]∧cs.length≤12∧WdD cs sm k d
theorem Xg (ds:List PyData) (d:PyData) (h:wG ds d):ds.length=3:=by obtain ⟨a,b,c,rfl,_⟩:=h; rfl
theorem XW:zI ["causes", "k", "some", "steps", "way"] ["causes", "k", "some"] (zo (top 7)):=⟨rfl,rfl,rfl,by decide +kernel,rfl,by decide +kernel,by decide +kernel⟩
theorem Wh (F:Fun K "way_down" "way_down" (top 7) f fd) (B:Bs mg) (Z:Cs K mg τa τb) (c_steps_down:zF P w K mg base CX0 "steps_down" ["causes", "some", "within"] 2 (spDW K xV)) (c_nearer:zF P w K mg base CX0 "nearer" ["causes", "steps", "k"] 2 (spV K true vW)):FnOk P w K mg base CX0 3 f fd ["causes", "k", "some"] (spD K true wG):=by
 have sc:=XW
 refine F.ok sc (fun vs H Q E h=>zX Xg h) (fun cdv A outer s H vs Q E hr h=>?_)
 obtain ⟨Fh,ds,d,le,dp,p,q⟩:=h
 refine ⟨_,(ze (zu (i:=3) sc.nd rfl (Or.inl rfl) (zN c_steps_down (hr.mono (by decide)) rfl zM (zb (pv 0) (zb (pv 2) (zb (zW (XE rfl) rfl B.list (by decide +kernel) (zb (zW Tg rfl B.range (by decide +kernel) (zb (zA (zp (K:=K) rfl) rfl B.len (by decide +kernel) (zb (pv 0) zd)) zd)) zd)) zd)))))
   (ze (yo (Qc (Yc (w9 hr) (pv 1) (pv 3))) (zf (zD t8)) zL)
   (ze (zu (i:=4) sc.nd rfl (Or.inl rfl) (yb (zb (pv 1) zd)))
   (ze (xT PassesOwn.never (zB Za (V4 (w9 hr) (pv 3) (zz (zh (K:=K) rfl) (pv 4) (uz wC zg) (fun _ _=>rfl)) (fun _ _=>rfl)) zg (zU _)) (zf (yp (y6 (K:=K) rfl ζu ζP ζO yy (pv 4) (zb (zN c_nearer (hr.mono (by decide)) rfl zM (zb (pv 0) (zb (pv 3) (zb (zz (zh (K:=K) rfl) (pv 4) (uz wC zg) (fun _ _=>rfl)) zd)))) zd)))))
   (zf (zD (pv 4))))))),?_⟩
 have hN:(["causes", "k", "some", "steps", "way"]:List Str).length=5:=rfl
 obtain ⟨cs,k,sm,rfl,cl,wd⟩:=p
 have big:=zK
 have el:PyData.int (((cs.map nl).length:Nat):Int)=.int (cs.length:Int):=by rw [ζb]
 have nd:(List.range cs.length).Nodup:=List.nodup_range
 walk_at"run"
 refine U7 (zk (by walk_at"ev") (zk (by walk_at"ev") (zk (EvO.toE (WK (EvE.eq (yg (ds:=cs.map nl) (by walk_at"ev")) el) (by omega))) zG))) ⟨cs,sm,List.range cs.length,rfl,cl,nd,by rw [ζy]; exact cl,rfl⟩ (fun m=>by walk_at"sc") ?_
 intro m dg
 rcases wd with ⟨t,ht,rfl⟩ | ⟨ho,rfl⟩
 ·have tl:=T0 nd ht
  rw [ζy] at tl
  generalize List.range cs.length=wi at dg ht
  refine uG (b:=!(dGet m (k:Int)).isSome) (et_B (Zo (by walk_at"gc") (by walk_at"ev"))) (by rw [dg.i ht]; rfl) ?_
  refine exo true (ds:=[k].map fun k:Nat=>.int (k:Int)) (zQ (ds:=[.int (k:Int)]) (zk (by walk_at"ev") zG) (by show 1≤sizeLine; omega)) (by walk_at"sc") ?_
  refine yJ (·=[some (.fz false (nls cs)),some (.fz false (.int k)),some (.fz false (nl sm)),some (.xn (dkO m)),some (.ow true ((wyF cs sm wi t k).map fun k:Nat=>.int (k:Int)))]) (xY (fun q Γ=>∃ (pr:List Nat) (j:Nat),j∈rim cs sm wi q∧pr ++ wyF cs sm wi q j=wyF cs sm wi t k∧Γ=[some (.fz false (nls cs)),some (.fz false (.int k)),some (.fz false (nl sm)),some (.xn (dkO m)),some (.ow true ((pr ++ [j]).map fun k:Nat=>.int (k:Int)))]) t ⟨[],k,ht,rfl,rfl⟩ ?_) ?_
  ·rintro q Γ' ⟨pr,j,hj,he,rfl⟩
   have pl:pr.length + (q + 1)=t + 1:=by
    have:=congrArg List.length he
    rw [ζd,vS,vS] at this
    exact this
   have al:atI ((pr ++ [j]).map fun k:Nat=>PyData.int (k:Int)) (-1)=some (.int (j:Int)):=by
    rw [ζn]
    exact vx _ _
   refine ⟨decide ((0:Int) < (q:Int)),zC (Zn (WL (d:=.int (q:Nat)) (by walk_at"gc") (zr (κ:=false) (by walk_at"ev") (by walk_at"ev") al) (dg.i hj) rfl) (by walk_at"ev")),fun h=>?_,fun h=>?_⟩
   ·obtain ⟨p,rfl⟩:∃ p,q=p + 1:=⟨q - 1,by have:=of_decide_eq_true h; omega⟩
    refine exa1 (d:=.int (nrF cs sm wi p j:Nat)) (by walk_at"gc") (zaa (WI (by walk_at"ev") (zbq (by walk_at"gc") (WI (zr (κ:=false) (by walk_at"ev") (by walk_at"ev") al) zbr))) ⟨cs,sm,wi,m,p,j,rfl,cl,dg,hj,rfl⟩) (by walk_at"sc") (by rw [ζb,ζd]; show _ + 1 < _; omega) ⟨p,ξ3 p,pr ++ [j],nrF cs sm wi p j,(V7 hj).2,?_,by rw [ζn (l₁:=pr ++ [j])]; rfl⟩
    rw [ζX]
    exact he
   ·obtain rfl:q=0:=by have:=of_decide_eq_false h; omega
    show _=_
    rw [show pr ++ [j]=wyF cs sm wi t k from he]
  rintro Γ' rfl
  exact exro (by walk_at"gc") rfl (.inl ⟨rfl,rfl⟩)
 ·refine vQ (b:=!(dGet m (k:Int)).isSome) (et_B (Zo (by walk_at"gc") (by walk_at"ev"))) (fun _=>?_) (fun h=>?_)
  ·exact exrs true (by walk_at"ev") rfl (.inl ⟨rfl,rfl⟩)
  ·rw [dg.o ho] at h
   cases h
abbrev wiC (cs:List (List Nat)):List Nat:=List.range cs.length
open Classical in
noncomputable def wdF (cs:List (List Nat)) (sm:List Nat) (k:Nat):Option (List Nat):=if h:∃ t,k∈rim cs sm (wiC cs) t then some (wyF cs sm (wiC cs) h.choose k) else none
theorem To {cs:List (List Nat)} {sm:List Nat} {k t:Nat} (h:k∈rim cs sm (wiC cs) t):wdF cs sm k=some (wyF cs sm (wiC cs) t k):=by
 have ex:∃ t,k∈rim cs sm (wiC cs) t:=⟨t,h⟩
 unfold wdF
 rw [dif_pos ex,vE ex.choose_spec h]
theorem Tp {cs:List (List Nat)} {sm:List Nat} {k:Nat} (h:∀ t,k∉rim cs sm (wiC cs) t):wdF cs sm k=none:=dif_neg fun ⟨t,z⟩=>h t z
theorem zdq (cs:List (List Nat)) (sm:List Nat) (k:Nat):WdD cs sm k (rdD (wdF cs sm k)):=by
 by_cases h:∃ t,k∈rim cs sm (wiC cs) t
 ·obtain ⟨t,h⟩:=h
  rw [To h]
  exact .inl ⟨t,h,rfl⟩
 ·have h:∀ t,k∉rim cs sm (wiC cs) t:=fun t z=>h ⟨t,z⟩
  rw [Tp h]
  exact .inr ⟨h,rfl⟩
def Ch (cs:List (List Nat)):List Nat→Prop
 | a :: l=>(∀ b,l.head?=some b→a∈cs.getD b [])∧Ch cs l
 | []=>True
theorem tN {cs:List (List Nat)} {e v:Nat}:∀ {r0:List Nat},Ch cs (r0 ++ [v] ++ [e])↔Ch cs (r0 ++ [v])∧v∈cs.getD e []
 | []=>⟨fun h=>⟨⟨fun b z=>(by cases z),trivial⟩,h.1 e rfl⟩,fun h=>⟨fun b z=>(by cases z; exact h.2),fun b z=>(by cases z),trivial⟩⟩
 | a :: r0=>by
  have ih:=tN (cs:=cs) (e:=e) (v:=v) (r0:=r0)
  have hd:(r0 ++ [v] ++ [e]).head?=(r0 ++ [v]).head?:=by cases r0 <;> rfl
  show (∀ b,(r0 ++ [v] ++ [e]).head?=some b→a∈cs.getD b [])∧Ch cs (r0 ++ [v] ++ [e])↔((∀ b,(r0 ++ [v]).head?=some b→a∈cs.getD b [])∧Ch cs (r0 ++ [v]))∧v∈cs.getD e []
  rw [ih,hd]
  exact ⟨fun h=>⟨⟨h.1,h.2.1⟩,h.2.2⟩,fun h=>⟨h.1.1,h.1.2,h.2⟩⟩
def lvF (cs:List (List Nat)) (k:Nat):Nat→List (List Nat)
 | 0=>[[k]]
 | t + 1=>(lvF cs k t).flatMap fun r=>(effF cs (r.getLastD 0)).map fun e=>r ++ [e]
theorem xX {n:Nat} {cs:List (List Nat)} (ok:ShOk n cs) {k:Nat}:∀ {t:Nat} {r:List Nat},r∈lvF cs k t↔Ch cs r∧r.head?=some k∧r.length=t + 1
 | 0,r=>by
  show r∈[[k]]↔_
  rw [ζf]
  constructor
  ·rintro rfl
   exact ⟨⟨fun b z=>(by cases z),trivial⟩,rfl,rfl⟩
  ·rintro ⟨_,h,l⟩
   match r,l,h with
   | [a],_,e=>cases e; rfl
 | t + 1,r=>by
  show r∈(lvF cs k t).flatMap (fun r=>(effF cs (r.getLastD 0)).map fun e=>r ++ [e])↔_
  rw [ξp]
  constructor
  ·rintro ⟨q,hq,hr⟩
   obtain ⟨e,he,rfl⟩:=ζr.mp hr
   obtain ⟨c,h,l⟩:=(xX ok).mp hq
   obtain ⟨r0,v,rfl⟩:=yw (r:=q) (fun z=>by rw [z] at l; cases l)
   rw [xP] at he
   refine ⟨tN.mpr ⟨c,((y8 ok).mp he).2⟩,?_,by rw [ζd,l]; rfl⟩
   rw [← h]
   cases r0 <;> rfl
  ·rintro ⟨c,h,l⟩
   obtain ⟨q,e,rfl⟩:=yw (r:=r) (fun z=>by rw [z] at l; cases l)
   have l:q.length + 1=t + 1 + 1:=by rw [ζd] at l; exact l
   obtain ⟨r0,v,rfl⟩:=yw (r:=q) (fun z=>by rw [z] at l; cases l)
   obtain ⟨c1,c2⟩:=tN.mp c
   refine ⟨r0 ++ [v],(xX ok).mpr ⟨c1,?_,by omega⟩,ζr.mpr ⟨e,by rw [xP]; exact (y8 ok).mpr ⟨(xl ok c2).2,c2⟩,rfl⟩⟩
   rw [← h]
   cases r0 <;> rfl
theorem zcb {cs:List (List Nat)} {rk:Nat→Nat} (dg:∀ e c,c∈cs.getD e []→rk c < rk e):∀ {r:List Nat},Ch cs r→r.Pairwise fun a b=>rk a < rk b
 | [],_=>.nil
 | a :: l,h=>by
  have ih:=zcb dg h.2
  refine ζ3.mpr ⟨fun b hb=>?_,ih⟩
  cases l with
  | nil=>cases hb
  | cons c l =>
   have:=dg _ _ (h.1 c rfl)
   rcases ζo.mp hb with hb | hb
   ·rw [hb]; exact this
   ·have:=(ζ3.mp ih).1 b hb
    omega
theorem zdb {cs:List (List Nat)}:∀ {r:List Nat} {k:Nat},Ch cs r→r.Nodup→r.head?=some k→Pth cs k r.reverse:=by
 have key:∀ (m:Nat) (r:List Nat) (k:Nat),r.length=m + 1→Ch cs r→r.Nodup→r.head?=some k→Pth cs k r.reverse:=by
  intro m
  induction m with
  | zero =>
   intro r k l _ _ h
   match r,l,h with
   | [a],_,e=>cases e; exact .one
  | succ m ih =>
   intro r k l c nd h
   obtain ⟨q,e,rfl⟩:=yw (r:=r) (fun z=>by rw [z] at l; cases l)
   have l:q.length=m + 1:=by rw [ζd] at l; exact Nat.succ.inj l
   obtain ⟨r0,v,rfl⟩:=yw (r:=q) (fun z=>by rw [z] at l; cases l)
   obtain ⟨c1,c2⟩:=tN.mp c
   obtain ⟨n1,n2,n3⟩:=ζD.mp nd
   have hq:(r0 ++ [v]).head?=some k:=by rw [← h]; cases r0 <;> rfl
   have p:=ih (r0 ++ [v]) k l c1 n1 hq
   refine (Vc p).mpr ?_
   unfold onB
   rw [xP,decide_eq_false fun z=>n3 e z e (ζf.mpr rfl) rfl,decide_eq_true c2]
   simp
 intro r k c nd h
 cases r with
 | nil=>cases h
 | cons a l=>exact key l.length (a :: l) k rfl c nd h
theorem zb0 {cs:List (List Nat)} {k:Nat}:∀ t,(lvF cs k t).Nodup
 | 0=>by show [[k]].Nodup; simp
 | t + 1=>by
  have ih:=zb0 (cs:=cs) (k:=k) t
  show ((lvF cs k t).flatMap fun r=>(effF cs (r.getLastD 0)).map fun e=>r ++ [e]).Nodup
  generalize lvF cs k t=L at ih
  induction L with
  | nil=>exact ζ1
  | cons r L jh =>
   obtain ⟨h1,h2⟩:=ζC.mp ih
   rw [ξw]
   refine List.nodup_append.mpr ⟨QB (fun x y e=>by simpa using e) (List.nodup_range.filter _),jh h2,fun a ha b hb e=>?_⟩
   subst e
   obtain ⟨x,_,rfl⟩:=ζr.mp ha
   obtain ⟨r',hr',hm⟩:=ξp.mp hb
   obtain ⟨y,_,ey⟩:=ζr.mp hm
   have:r'=r:=by
    have:=congrArg List.dropLast ey
    rw [ζ7,ζ7] at this
    exact this
   exact h1 (this ▸ hr')
theorem zcK {n:Nat} {cs:List (List Nat)} (ok:ShOk n cs) (dg:Dg cs) (t15:tot cs≤15) {k:Nat} (hk:k < n) (t:Nat):(lvF cs k t).length≤32768∧∀ r∈lvF cs k t,(∀ z∈r,z < n)∧r.length≤n:=by
 obtain ⟨rk,dg⟩:=dg
 have pt:∀ r∈lvF cs k t,Pth cs k r.reverse∧r.Nodup:=fun r hr=>by
  obtain ⟨c,h,l⟩:=(xX ok).mp hr
  have nd:r.Nodup:=(zcb dg c).imp fun hl e=>by rw [e] at hl; omega
  exact ⟨zdb c nd h,nd⟩
 refine ⟨?_,fun r hr=>?_⟩
 ·have h1:=tS (lvF cs k t) (levF n cs k t) (zb0 t) fun r hr=>Xf ok hk t r (pt r hr).1 ((xX ok).mp hr).2.2
  have h2:=VA cs (levF n cs k t)
  have h3:=Xe n cs k t
  have h4:2 ^ tot cs≤2 ^ 15:=ξy (by decide) t15
  omega
 ·have lt:∀ z∈r,z < n:=fun z hz=>(pt r hr).1.lt ok hk z (ξc.mpr hz)
  exact ⟨lt,wj n r (pt r hr).2 lt⟩
theorem Y9 {n:Nat} {cs:List (List Nat)} (ok:ShOk n cs) {kn:List Nat}:∀ (s v:Nat) (r:List Nat),v < n→Ch cs r→r.head?=some v→r.length=s + 1→(∀ z,r.getLast?=some z→z∈kn)→∃ t,t≤s∧v∈rim cs kn (wiC cs) t
 | 0,v,r,hv,_,h,l,e=>by
  refine ⟨0,ζi _,ζp.mpr ⟨ζK.mpr (by rw [ok.l]; exact hv),decide_eq_true ?_⟩⟩
  match r,l,h with
  | [a],_,h=>cases h; exact e _ rfl
 | s + 1,v,r,hv,c,h,l,e=>by
  match r,l,h,c,e with
  | a :: b :: r,l,h,c,e =>
   cases h
   have pb:=c.1 b rfl
   obtain ⟨t,ht,hm⟩:=Y9 ok s b (b :: r) (xl ok pb).2 c.2 rfl (by simpa using l) fun z hz=>e z (by rw [List.getLast?_cons_cons]; exact hz)
   by_cases f:v∈fnd cs kn (wiC cs) (t + 1)
   ·obtain ⟨t',h1,h2⟩:=xJ.mp f
    exact ⟨t',by omega,h2⟩
   ·exact ⟨t + 1,by omega,wL.mpr ⟨ζK.mpr (by rw [ok.l]; exact hv),f,b,(y8 ok).mpr ⟨(xl ok pb).2,pb⟩,hm⟩⟩
theorem v9 (cs:List (List Nat)) (sm wi:List Nat) (t k:Nat):(wyF cs sm wi t k).head?=some k:=by cases t <;> rfl
theorem XM {n:Nat} {cs:List (List Nat)} (ok:ShOk n cs) {kn:List Nat}:∀ {t k:Nat},k∈rim cs kn (wiC cs) t→Ch cs (wyF cs kn (wiC cs) t k)∧(∀ z,(wyF cs kn (wiC cs) t k).getLast?=some z→z∈kn)∧Dsp.Wy (paC cs) (InL kn) k (wyF cs kn (wiC cs) t k).tail
 | 0,k,h=>by
  have kn':=of_decide_eq_true (ζp.mp h).2
  exact ⟨⟨fun b z=>(by cases z),trivial⟩,fun z e=>(by cases e; exact kn'),kn'⟩
 | t + 1,k,h=>by
  obtain ⟨n1,n2⟩:=V7 h
  have ef:nrF cs kn (wiC cs) t k∈effF cs k:=(ζp.mp (ζj n1)).1
  obtain ⟨i1,i2,i3⟩:=XM ok n2
  have hh:=v9 cs kn (wiC cs) t (nrF cs kn (wiC cs) t k)
  have pk:=((y8 ok).mp ef).2
  have nk:¬ k∈kn:=fun z=>by
   have:k∈rim cs kn (wiC cs) 0:=ζp.mpr ⟨YU h,decide_eq_true z⟩
   have:=vE this h
   omega
  obtain ⟨w,e⟩:∃ w,wyF cs kn (wiC cs) t (nrF cs kn (wiC cs) t k)=nrF cs kn (wiC cs) t k :: w:=by
   cases q:wyF cs kn (wiC cs) t (nrF cs kn (wiC cs) t k) with
   | nil=>rw [q] at hh; cases hh
   | cons a w=>rw [q] at hh; cases hh; exact ⟨w,rfl⟩
  show Ch cs (k :: wyF cs kn (wiC cs) t (nrF cs kn (wiC cs) t k))∧(∀ z,(k :: wyF cs kn (wiC cs) t (nrF cs kn (wiC cs) t k)).getLast?=some z→z∈kn)∧Dsp.Wy (paC cs) (InL kn) k (wyF cs kn (wiC cs) t (nrF cs kn (wiC cs) t k))
  refine ⟨⟨fun b z=>by rw [hh] at z; cases z; exact pk,i1⟩,fun z hz=>i2 z ?_,?_⟩
  ·rw [e] at hz ⊢
   rw [List.getLast?_cons_cons] at hz
   exact hz
  ·rw [e] at i3 ⊢
   exact ⟨nk,pk,i3⟩
theorem zc7 (cs:List (List Nat)) (k:Nat):(effF cs k).Pairwise (· < ·):=(ξN (n:=cs.length)).filter _
theorem Q2 {p:Nat→Bool} {l:List Nat} (h:l.Pairwise (· < ·)) {e f:Nat} (hf:(l.filter p)[0]?=some f) (he:e∈l) (hp:p e=true):f≤e:=by
 have hm:e∈l.filter p:=ζp.mpr ⟨he,hp⟩
 have pw:=h.filter p
 cases q:l.filter p with
 | nil=>rw [q] at hm; cases hm
 | cons a r =>
  rw [q] at hf hm pw
  cases hf
  rcases ζo.mp hm with z | z
  ·omega
  ·exact ξV ((ζ3.mp pw).1 e z)
theorem QN (a:Nat) (r s:List Nat):zP (zl (a :: r)) (zl (a :: s))=zP (zl r) (zl s):=by
 show zP ((a:Int) :: zl r) ((a:Int) :: zl s)=_
 rw [L2.zP,if_pos rfl]
theorem XL {n:Nat} {cs:List (List Nat)} (ok:ShOk n cs) {kn:List Nat}:∀ {t k:Nat} {r:List Nat},k∈rim cs kn (wiC cs) t→Ch cs r→r.head?=some k→r.length=t + 1→(∀ z,r.getLast?=some z→z∈kn)→zP (zl r) (zl (wyF cs kn (wiC cs) t k))=false
 | 0,k,r,_,_,h,l,_=>by
  match r,l,h with
  | [a],_,h=>cases h; exact tI _
 | t + 1,k,r,hm,c,h,l,e=>by
  match r,l,h,c,e with
  | a :: b :: r,l,h,c,e =>
   cases h
   have pb:=c.1 b rfl
   have be:b∈effF cs k:=(y8 ok).mpr ⟨(xl ok pb).2,pb⟩
   have e':∀ z,(b :: r).getLast?=some z→z∈kn:=fun z hz=>e z (by rw [List.getLast?_cons_cons]; exact hz)
   obtain ⟨s,hs,sm⟩:=Y9 ok t b (b :: r) (xl ok pb).2 c.2 rfl (by simpa using l) e'
   have st:s=t:=by
    have:¬ s < t:=fun z=>by
     by_cases f:k∈fnd cs kn (wiC cs) (s + 1)
     ·obtain ⟨t',h1,h2⟩:=xJ.mp f
      have:=vE h2 hm
      omega
     ·have:=vE (wL.mpr ⟨YU hm,f,b,be,sm⟩) hm
      omega
    omega
   subst st
   obtain ⟨n1,n2⟩:=V7 hm
   have le:=Q2 (zc7 cs k) n1 be (decide_eq_true sm)
   show zP (zl (k :: b :: r)) (zl (k :: wyF cs kn (wiC cs) s (nrF cs kn (wiC cs) s k)))=false
   rw [QN]
   by_cases q:b=nrF cs kn (wiC cs) s k
   ·rw [← q]
    exact XL ok sm c.2 rfl (by simpa using l) e'
   ·have hh:=v9 cs kn (wiC cs) s (nrF cs kn (wiC cs) s k)
    cases w:wyF cs kn (wiC cs) s (nrF cs kn (wiC cs) s k) with
    | nil=>rfl
    | cons f w' =>
     rw [w] at hh
     cases hh
     show zP ((b:Int) :: zl r) (((nrF cs kn (wiC cs) s k:Nat):Int) :: zl w')=false
     rw [L2.zP,if_neg (by omega)]
     exact decide_eq_false (by omega)
theorem zby {n:Nat} {cs:List (List Nat)} (ok:ShOk n cs) {kn:List Nat} {k t:Nat} (hk:k < n) {ends:List (List Nat)} (he:∀ r,r∈ends↔r∈lvF cs k t∧∀ z,r.getLast?=some z→z∈kn) (h0:ends≠[]) (no:∀ s,s < t→∀ r∈lvF cs k s,¬ ∀ z,r.getLast?=some z→z∈kn):∃ r,wdF cs kn k=some r∧zl r=minL (ends.map zl):=by
 obtain ⟨r,hr⟩:=List.exists_mem_of_ne_nil _ h0
 obtain ⟨r1,r2⟩:=(he r).mp hr
 obtain ⟨c,h,l⟩:=(xX ok).mp r1
 obtain ⟨s,hs,sm⟩:=Y9 ok t k r hk c h l r2
 have st:s=t:=by
  have:¬ s < t:=fun z=>by
   obtain ⟨i1,i2,_⟩:=XM ok sm
   exact no s z _ ((xX ok).mpr ⟨i1,v9 ..,vS ..⟩) i2
  omega
 subst st
 refine ⟨_,To sm,?_⟩
 obtain ⟨i1,i2,_⟩:=XM ok sm
 have wm:wyF cs kn (wiC cs) s k∈ends:=(he _).mpr ⟨(xX ok).mpr ⟨i1,v9 ..,vS ..⟩,i2⟩
 have a1:=Zb (ζr.mpr ⟨_,wm,rfl⟩:zl (wyF cs kn (wiC cs) s k)∈ends.map zl)
 obtain ⟨m,hm,em⟩:=List.mem_map.mp (Wt (nss:=ends.map zl) (by simpa using h0))
 obtain ⟨m1,m2⟩:=(he m).mp hm
 obtain ⟨mc,mh,ml⟩:=(xX ok).mp m1
 have a2:=XL ok sm mc mh ml m2
 rw [em] at a2
 refine Classical.byContradiction fun ne=>?_
 rcases Xd ne with z | z
 ·rw [a1] at z; cases z
 ·rw [a2] at z; cases z
theorem zbx {n:Nat} {cs:List (List Nat)} (ok:ShOk n cs) {kn:List Nat} {k t:Nat} (no:∀ s,s < t→∀ r∈lvF cs k s,¬ ∀ z,r.getLast?=some z→z∈kn) (emp:lvF cs k t=[]):wdF cs kn k=none:=Tp fun s hs=>by
 obtain ⟨i1,i2,_⟩:=XM ok hs
 have wm:wyF cs kn (wiC cs) s k∈lvF cs k s:=(xX ok).mpr ⟨i1,v9 ..,vS ..⟩
 by_cases c:s < t
 ·exact no s c _ wm i2
 ·have all:∀ j,lvF cs k (t + j)=[]:=fun j=>by
   induction j with
   | zero=>exact emp
   | succ j ih =>
    show (lvF cs k (t + j)).flatMap _=[]
    rw [ih]
    rfl
  have:=all (s - t)
  rw [show t + (s - t)=s by omega] at this
  rw [this] at wm
  cases wm
def xO (ds:List PyData) (d:PyData):Prop:=∃ (n:Nat) (cs:List (List Nat)) (r kn:List Nat),ds=[nls cs,nl r,nl kn]∧ShOk n cs∧n≤12∧(∀ x∈r,x < n)∧r.length≤1000∧d=.list ((vsF cs r).map fun v=>rdD (wdF cs kn v))
theorem UY (ds:List PyData) (d:PyData) (h:xO ds d):ds.length=3:=by obtain ⟨a,b,c,e,rfl,_⟩:=h; rfl
theorem TQ:zI ["causes", "road", "known"] ["causes", "road", "known"] (zo (top 21)):=⟨rfl,rfl,rfl,by decide +kernel,rfl,by decide +kernel,by decide +kernel⟩
theorem Qv (F:Fun K "downs" "downs" (top 21) f fd) (B:Bs mg) (Z:Cs K mg τa τb) (c_vees:zF P w K mg base CX0 "vees" ["causes", "road"] 2 (spD K true uu)) (c_way_down:zF P w K mg base CX0 "way_down" ["causes", "k", "some"] 3 (spD K true wG)):FnOk P w K mg base CX0 4 f fd ["causes", "road", "known"] (spD K true xO):=by
 have sc:=TQ
 refine F.ok sc (fun vs H Q E h=>zX UY h) (fun cdv A outer s H vs Q E hr h=>?_)
 obtain ⟨Fh,ds,d,le,dp,p,q⟩:=h
 refine ⟨_,(zf (zD (yM rfl (N:=["k", "causes", "known"]) (js:=[none,some 0,some 2]) (by walk_at"comp_ok") (zJ (K:=K) rfl (zN c_vees (hr.mono (by decide)) rfl zM (zb (pv 0) (zb (pv 1) zd)))) (fun _ _ _ _=>(zH (i:=0) (show List.Nodup (["k", "causes", "known"]:List PySem.Str) by decide +kernel) rfl (Or.inl rfl))) (fun _ _ _ _=>xH) (fun _ _ _ _=>(zN c_way_down (hr.mono (by decide)) rfl zM (zb (pv 1) (zb (pv 0) (zb (pv 2) zd)))))))),?_⟩
 have hN:(["causes", "road", "known"]:List Str).length=3:=rfl
 obtain ⟨n,cs,r,kn,rfl,ok,n12,hr,rl,rfl⟩:=p
 have big:=zK
 have cl:=ok.l
 have vl:=zbL cs r
 walk_at"run"
 refine yc true (EvO.toE (xz (κ:=true) (is:=[0]) (xs:=vsF cs r) true (fun k:Nat=>.int (k:Int)) (fun v=>rdD (wdF cs kn v)) (fun x _ y _ h=>by cases vY h; rfl) (zT (zv (by walk_at"ev") ⟨n,cs,r,rfl,ok,hr,rl,rfl⟩)) (by walk_at"cc") rfl (by decide) (by rw [VP]; omega) ?_)) rfl (.inl ⟨rfl,rfl⟩)
 intro v hv
 exact egn (by walk_at"sc") (zv (by walk_at"ev") ⟨cs,v,kn,rfl,by omega,zdq cs kn v⟩)
def yV (ds:List PyData) (d:PyData):Prop:=∃ (n:Nat) (cs:List (List Nat)) (r:List Nat) (k:Nat),ds=[nls cs,nl r,.int k]∧ShOk n cs∧(∀ x∈r,x < n)∧1≤k∧k + 1 < r.length∧d=.bool (veeB cs r k)
theorem Wv (ds:List PyData) (d:PyData) (h:yV ds d):ds.length=3:=by obtain ⟨a,b,c,e,rfl,_⟩:=h; rfl
theorem W4:zI ["_law_causes", "_law_road", "_law_at", "_law_own"] ["_law_causes", "_law_road", "_law_at"] (zo (top 31)):=⟨rfl,rfl,rfl,by decide +kernel,rfl,by decide +kernel,by decide +kernel⟩
theorem Vf (F:Fun K "_law_vee" "_law_vee" (top 31) f fd) (B:Bs mg) (Z:Cs K mg τa τb)  : FnOk P w K mg base CX0 1 f fd ["_law_causes", "_law_road", "_law_at"] (spD K true yV):=by
 have sc:=W4
 refine F.ok sc (fun vs H Q E h=>zX Wv h) (fun cdv A outer s H vs Q E hr h=>?_)
 obtain ⟨Fh,ds,d,le,dp,p,q⟩:=h
 refine ⟨_,(ze (zu (i:=3) sc.nd rfl (Or.inl rfl) (zz (zh (K:=K) rfl) (pv 0) (zz (zh (K:=K) rfl) (pv 1) (pv 2) (fun _ _=>rfl)) (fun _ _=>rfl)))
   (zf (zD (Y1 (yR (yd (K:=K) rfl) (zz (zh (K:=K) rfl) (pv 1) (zw yT (pv 2) zg) (fun _ _=>rfl)) (pv 3) (rfl)) (Y0 (yR (yd (K:=K) rfl) (zz (zh (K:=K) rfl) (pv 1) (zw yu (pv 2) zg) (fun _ _=>rfl)) (pv 3) (rfl))))))),?_⟩
 have hN:(["_law_causes", "_law_road", "_law_at", "_law_own"]:List Str).length=4:=rfl
 obtain ⟨n,cs,r,k,rfl,ok,hr,k1,kl,rfl⟩:=p
 have kn:=Zx hr (show k < r.length by omega)
 have a0:=yC (r:=r) (show k < r.length by omega)
 have am:=yC (r:=r) (show k - 1 < r.length by omega)
 have ap:=yC (r:=r) kl
 rw [show ((k - 1:Nat):Int)=(k:Int) - 1 by omega] at am
 rw [show ((k + 1:Nat):Int)=(k:Int) + 1 by omega] at ap
 have ac:atI (cs.map nl) (r.getD k 0:Nat)=some (nl (cs.getD (r.getD k 0) [])):=yF (ok.at kn).1
 walk_at"run"
 refine exs false (d:=nl (cs.getD (r.getD k 0) [])) (zr (κ:=false) (by walk_at"ev") (zr (κ:=false) (by walk_at"ev") (by walk_at"ev") a0) ac) (by walk_at"sc") ?_
 exact yc true (Zq (EvE.eq (yr (neg:=false) (i:=(r.getD (k - 1) 0:Nat)) (ns:=zl (cs.getD (r.getD k 0) [])) (zr (κ:=false) (by walk_at"ev") (by walk_at"ev") am) (EvE.toL (EvE.eq (κ:=false) (by walk_at"ev") (yv _)))) (congrArg PyData.bool yi)) fun _=>EvE.eq (yr (neg:=false) (i:=(r.getD (k + 1) 0:Nat)) (ns:=zl (cs.getD (r.getD k 0) [])) (zr (κ:=false) (by walk_at"ev") (by walk_at"ev") ap) (EvE.toL (EvE.eq (κ:=false) (by walk_at"ev") (yv _)))) (congrArg PyData.bool yi)) rfl (.inl ⟨rfl,rfl⟩)
theorem QG {P:Nat→Prop} {l:List Nat} {v i:Nat} (h:∀ z∈l,P z) (hi:P i):∀ z∈l.take v ++ i :: l.drop v,P z:=fun z hz=>by
 rcases ζs.mp hz with hz | hz
 ·exact h z (List.mem_of_mem_take hz)
 ·rcases ζo.mp hz with rfl | hz
  ·exact hi
  ·exact h z (List.mem_of_mem_drop hz)
def yN (r:List Nat):Nat:=r.getD (r.length - 1) 0
theorem Zy {r:List Nat} (h:1≤r.length):atI (r.map fun k:Nat=>PyData.int (k:Int)) (-1)=some (.int (yN r:Nat)):=by
 obtain ⟨t,s,rfl⟩:=yw (r:=r) (fun e=>by rw [e] at h; cases h)
 have:yN (t ++ [s])=s:=by
  unfold yN
  rw [ζd,ζe]
  show ((t ++ [s])[t.length + 1 - 1]?).getD 0=s
  rw [Nat.add_sub_cancel,ξT (ζi _),Nat.sub_self]
  rfl
 rw [this,ζn]
 exact vx _ _
def wg (ds:List PyData) (G:PyData→Prop):Prop:=∃ (n:Nat) (cs:List (List Nat)) (r:List Nat) (ps:List Int),ds=[il ps,nls cs,nl r]∧ShOk n cs∧n≤12∧(∀ x∈r,x < n)∧2≤r.length∧r.length≤20∧ps.length=63∧G=fun d=>∃ kn:List Nat,(∀ x∈kn,x < n∧x≠r.getD 0 0∧x≠yN r)∧kn.length≤12∧d=nl kn
theorem ZW (ds:List PyData) (G:PyData→Prop) (h:wg ds G):ds.length=3:=by obtain ⟨a,b,c,e,rfl,_⟩:=h; rfl
theorem YN:zI ["_law_pool_here", "_law_causes", "_law_line_here", "_law_out", "_law_known_here", "_law_thin", "_law_k"] ["_law_pool_here", "_law_causes", "_law_line_here"] (zo (top 32)):=⟨rfl,rfl,rfl,by decide +kernel,rfl,by decide +kernel,by decide +kernel⟩
theorem Y6 (F:Fun K "_law_known" "_law_known" (top 32) f fd) (B:Bs mg) (Z:Cs K mg τa τb) (c_law_vee:zF P w K mg base CX0 "_law_vee" ["_law_causes", "_law_road", "_law_at"] 1 (spD K true yV)):FnOk P w K mg base CX0 2 f fd ["_law_pool_here", "_law_causes", "_law_line_here"] (spW K true wg):=by
 have sc:=YN
 refine F.ok sc (fun vs H Q E h=>uh ZW h) (fun cdv A outer s H vs Q E hr h=>?_)
 obtain ⟨Fh,ds,G,le,dp,p,q⟩:=h
 refine ⟨_,(ze (zu (i:=3) sc.nd rfl (Or.inl rfl) (yb (zb (zz (zh (K:=K) rfl) (pv 2) zg (fun _ _=>rfl)) (zb (zz (zh (K:=K) rfl) (pv 2) (uz wC zg) (fun _ _=>rfl)) zd))))
   (ze (zu (i:=3) sc.nd rfl (Or.inl rfl) (zw (xw (K:=K) rfl) (pv 3) (yM rfl (N:=["_law_at", "_law_line_here", "_law_causes"]) (js:=[none,some 2,some 1]) (by walk_at"comp_ok") (wu rfl B.range (zb zg (zb (zw yT (zA (zp (K:=K) rfl) rfl B.len (by decide +kernel) (zb (pv 2) zd)) zg) zd))) (fun _ _ _ _=>(zH (i:=0) (show List.Nodup (["_law_at", "_law_line_here", "_law_causes"]:List PySem.Str) by decide +kernel) rfl (Or.inl rfl))) (fun _ _ _ _=>(xq (xS (yq (zN c_law_vee (hr.mono (by decide)) rfl zM (zb (pv 2) (zb (pv 1) (zb (pv 0) zd)))))))) (fun _ _ _ _=>(zz (zh (K:=K) rfl) (pv 1) (pv 0) (fun _ _=>rfl))))))
   (ze (zu (i:=4) sc.nd rfl (Or.inl rfl) (yb zd))
   (ze (zu (i:=5) sc.nd rfl (Or.inl rfl) (zw yu zg (zw yA (zw tH (zz (zh (K:=K) rfl) (pv 0) zg (fun _ _=>rfl)) zg) zg)))
   (ze (yD PassesOwn.never rfl (xj rfl B.range (zb (zA (zp (K:=K) rfl) rfl B.len (by decide +kernel) (zb (pv 1) zd)) zd)) (zH (i:=6) sc.nd rfl (Or.inl rfl)) (zf (yo (PW.pt (wV (zB (zZ (K:=K) rfl) (pv 6) (pv 3) (rfl)) (x5 (zB Yf (zw yA (zw yA (zw xI (zw yA (zz (zh (K:=K) rfl) (pv 0) (zw yu zg (pv 6)) (fun _ _=>rfl)) zg) zg) zg) (pv 5)) zg (zU _))))) (zf (yp (y6 (K:=K) rfl ζu PySem.F.slot_list_insert PySem.F.type_list_insert Yj (pv 4) (zb (zw yA (zw tH (zz (zh (K:=K) rfl) (pv 0) (zw yu zg (pv 6)) (fun _ _=>rfl)) zg) (zw yu (zA (zp (K:=K) rfl) rfl B.len (by decide +kernel) (zb (pv 4) zd)) zg)) (zb (pv 6) zd))))) zL)))
   (zf (zD (pv 4)))))))),?_⟩
 have hN:(["_law_pool_here", "_law_causes", "_law_line_here", "_law_out", "_law_known_here", "_law_thin", "_law_k"]:List Str).length=7:=rfl
 obtain ⟨n,cs,r,ps,rfl,ok,n12,hr,r2,rl,hp,rfl⟩:=p
 have big:=zK
 have cl:=ok.l
 have el:PyData.int (((cs.map nl).length:Nat):Int)=.int (n:Int):=by rw [ζb,cl]
 refine wU le dp q hN (by walk_at"st") ?_
 obtain ⟨u59,a59⟩:=wA (ns:=ps) (i:=59) (by omega) (by omega)
 have af:atI (r.map fun k:Nat=>PyData.int (k:Int)) (0:Int)=some (.int (r.getD 0 0:Nat)):=yC (r:=r) (show 0 < r.length by omega)
 have al:=Zy (r:=r) (by omega)
 refine exs true (d:=nl [r.getD 0 0,yN r]) (EvE.eq (EvO.toE (zQ (ds:=[.int (r.getD 0 0:Nat),.int (yN r:Nat)]) (zk (EvE.imm (κ:=false) (zr (κ:=false) (by walk_at"ev") (by walk_at"ev") af) rfl) (zk (EvE.imm (κ:=false) (zr (κ:=false) (by walk_at"ev") (vj (i:=1) (by walk_at"ev")) al) rfl) zG)) (by show 2≤sizeLine; omega))) rfl) (by walk_at"sc") ?_
 have fl:=ζF (fun i=>!veeB cs r (1 + i)) (List.range (r.length - 2))
 rw [ζy] at fl
 refine exs true (d:=nl ([r.getD 0 0,yN r] ++ ((List.range (r.length - 2)).filter fun i=>!veeB cs r (1 + i)).map fun i=>r.getD (1 + i) 0)) (EvO.toE (EvO.eq (xK (xs:=[r.getD 0 0,yN r].map fun k:Nat=>.int (k:Int)) (ys:=((List.range (r.length - 2)).filter fun i=>!veeB cs r (1 + i)).map fun i=>.int (r.getD (1 + i) 0:Nat)) (by walk_at"ev") (EvO.toL (yB (κ:=true) (κ':=true) (is:=[0]) (xs:=List.range (r.length - 2)) (fun i:Nat=>.int (1 + (i:Int))) (fun i=>.int (r.getD (1 + i) 0:Nat)) (fun i=>!veeB cs r (1 + i)) (fun x _ y _ h=>by have:=PyData.int.inj h; rw [show x=y by omega]; exact ⟨rfl,rfl⟩) (by
   rw [show r.length - 2=((r.length:Int) - 1 - 1).toNat by omega]
   exact uH (m:=1) (n:=(r.length:Int) - 1) (zk (by walk_at"ev") (zk (wN (EvE.eq (yg (ds:=r.map fun k:Nat=>.int (k:Int)) (by walk_at"ev")) (by rw [ζb])) (by walk_at"ev")) zG)) (by omega)) (by walk_at"cc") rfl (by decide) (by rw [ζy]; omega) ?_)) (by rw [ζb,ζb]; show 2 + _≤_; omega)) (by rw [ζn,ζR]; rfl))) (by walk_at"sc") ?_
 ·intro i hi
  have hi:=ζK.mp hi
  rw [show (1:Int) + (i:Int)=((1 + i:Nat):Int) by omega]
  exact egn (by walk_at"sc") ⟨xA (et_B (zv (by walk_at"ev") ⟨n,cs,r,1 + i,rfl,ok,hr,by omega,by omega,rfl⟩)),fun _=>EvE.imm (κ:=false) (zr (κ:=false) (by walk_at"ev") (by walk_at"ev") (yC (r:=r) (show 1 + i < r.length by omega))) rfl⟩
 have o1:r.getD 0 0∈[r.getD 0 0,yN r] ++ ((List.range (r.length - 2)).filter fun i=>!veeB cs r (1 + i)).map fun i=>r.getD (1 + i) 0:=ζz _ ζg
 have o2:yN r∈[r.getD 0 0,yN r] ++ ((List.range (r.length - 2)).filter fun i=>!veeB cs r (1 + i)).map fun i=>r.getD (1 + i) 0:=ζz _ (ζl _ ζg)
 generalize [r.getD 0 0,yN r] ++ ((List.range (r.length - 2)).filter fun i=>!veeB cs r (1 + i)).map (fun i=>r.getD (1 + i) 0)=ou at o1 o2
 refine exo true (zQ (ds:=[]) zG (by decide)) (by walk_at"sc") ?_
 generalize hth:1 + u59 / 5 % 3=th
 have t0:=ξf (u59 / 5) (show (3:Int)≠0 by decide)
 have th2:1≤th:=by omega
 refine exs true (d:=.int th) (EvE.eq (vk (by walk_at"ev") (yE (tL (zr (κ:=false) (by walk_at"ev") (by walk_at"ev") a59) (by walk_at"ev") ⟨by decide,by decide⟩) (by walk_at"ev") (by decide))) (congrArg PyData.int hth)) (by walk_at"sc") ?_
 refine wx (ds:=(List.range n).map fun i:Nat=>.int (i:Int)) true (fun i Γ=>∃ (kn:List Nat) (x:Option DV),(∀ x∈kn,x < n∧x∉ou)∧kn.length≤i∧Γ=[some (.fz false (il ps)),some (.fz false (nls cs)),some (.fz false (nl r)),some (.fz true (nl ou)),some (.ow true (kn.map fun k:Nat=>.int (k:Int))),some (.fz true (.int th)),x]) (vK (n:=(n:Int)) (zk (EvE.eq (yg (by walk_at"ev")) el) zG) (by omega) (by omega)) ⟨[],none,(fun _ z=>nomatch z),ζE _,rfl⟩ ?_ ?_
 ·rintro i d Γ' hd ⟨kn,x,hk,kl,rfl⟩
  obtain ⟨hi,rfl⟩:=vF hd
  refine ⟨_,egn (by walk_at"sc") ?_⟩
  obtain ⟨u,au⟩:=wA (ns:=ps) (i:=44 + (i:Int)) (by omega) (by omega)
  have m1:IntMulOk (u % 1000003) 40503:=xg (by decide) (by decide)
  refine wz (b:=!decide (i∈ou) && decide (u % 1000003 * 40503 % 65537 % th=0)) (wO (EvT.eq (zC (yr (neg:=true) (i:=(i:Int)) (ns:=zl ou) (by walk_at"ev") (EvE.toL (EvE.eq (κ:=false) (by walk_at"ev") (yv _))))) (by show (!decide _)=_; rw [yi])) fun _=>zC (v7 (yE (j:=th) (yE (Xx (yE (zr (κ:=false) (by walk_at"ev") (by walk_at"ev") au) (by walk_at"ev") (by decide)) (by walk_at"ev") m1) (by walk_at"ev") (by decide)) (by walk_at"ev") (by omega)) (by walk_at"ev"))) (fun h=>?_) (fun h=>yx ⟨kn,_,hk,by omega,rfl⟩)
  have h':i∉ou:=by
   have h1:=(ζH.mp h).1
   simpa using h1
  obtain ⟨v,ev,lv⟩:=Qi (u / 7) (n:=kn.length + 1) (by omega)
  refine exin (m:=(v:Int)) (d:=.int i) (by walk_at"gc") (EvE.eq (yE (j:=((kn.length + 1:Nat):Int)) (tL (zr (κ:=false) (by walk_at"ev") (by walk_at"ev") au) (by walk_at"ev") ⟨by decide,by decide⟩) (EvE.eq (vk (EvE.eq (yg (ds:=kn.map fun k:Nat=>.int (k:Int)) (by walk_at"ev")) (by rw [ζb])) (by walk_at"ev")) (congrArg PyData.int (show (kn.length:Int) + 1=((kn.length + 1:Nat):Int) by omega))) (by omega)) (congrArg PyData.int ev)) (by walk_at"ev") (by omega) (by rw [ζb]; omega) (by rw [ζb]; omega) (by walk_at"sc") ?_
  refine ⟨kn.take v ++ i :: kn.drop v,some (.fz true (.int i)),QG hk ⟨hi,h'⟩,by rw [ζd,ζ2,ζS,ξd]; omega,?_⟩
  rw [Int.toNat_natCast,ζn,ζN,List.map_take,List.map_drop]
 ·rintro Γ' ⟨kn,x,hk,kl,rfl⟩
  rw [xN] at kl
  exact exro (by walk_at"gc") ⟨kn,fun z hz=>⟨(hk z hz).1,fun e=>(hk z hz).2 (e ▸ o1),fun e=>(hk z hz).2 (e ▸ o2)⟩,by omega,rfl⟩ (.inl ⟨rfl,rfl⟩)
def xD (ds:List PyData) (d:PyData):Prop:=∃ rs:List (List Nat),ds=[nls rs]∧d=.bool true
theorem Xi (ds:List PyData) (d:PyData) (h:xD ds d):ds.length=1:=by obtain ⟨a,rfl,_⟩:=h; rfl
theorem XY:zI ["_law_found", "_law_row", "_law_one"] ["_law_found"] (zo (top 33)):=⟨rfl,rfl,rfl,by decide +kernel,rfl,by decide +kernel,by decide +kernel⟩
theorem Wj (F:Fun K "_law_rows" "_law_rows" (top 33) f fd) (B:Bs mg) (Z:Cs K mg τa τb)  : FnOk P w K mg base CX0 1 f fd ["_law_found"] (spD K true xD):=by
 have sc:=XY
 refine F.ok sc (fun vs H Q E h=>zX Xi h) (fun cdv A outer s H vs Q E hr h=>?_)
 obtain ⟨Fh,ds,d,le,dp,p,q⟩:=h
 refine ⟨_,(ze (yo (xS (yq (zA (wR (K:=K) rfl) rfl B.isinstance (by decide +kernel) (zb (pv 0) (zb (tG (v:=.ty "list") rfl B.list (by decide +kernel) rfl) zd))))) (zf (zD xu)) zL)
   (ze (yD PassesOwn.never rfl (zJ (K:=K) rfl (pv 0)) (zH (i:=1) sc.nd rfl (Or.inl rfl)) (ze (yo (xS (yq (zA (wR (K:=K) rfl) rfl B.isinstance (by decide +kernel) (zb (pv 1) (zb (tG (v:=.ty "list") rfl B.list (by decide +kernel) rfl) zd))))) (zf (zD xu)) zL)
   (zf (yD PassesOwn.never rfl (zJ (K:=K) rfl (pv 1)) (zH (i:=2) sc.nd rfl (Or.inl rfl)) (zf (yo (PW.pt (ut (xS (yq (zA (wR (K:=K) rfl) rfl B.isinstance (by decide +kernel) (zb (pv 2) (zb (tG (v:=.ty "int") rfl B.int (by decide +kernel) rfl) zd))))) (tX (yq (zA (wR (K:=K) rfl) rfl B.isinstance (by decide +kernel) (zb (pv 2) (zb (tG (v:=.ty "bool") rfl B.bool (by decide +kernel) rfl) zd))))))) (zf (zD xu)) zL))))))
   (zf (zD xu)))),?_⟩
 have hN:(["_law_found", "_law_row", "_law_one"]:List Str).length=3:=rfl
 obtain ⟨rs,rfl,rfl⟩:=p
 have big:=zK
 walk_at"run"
 refine uG (b:=!true) (xA (et_B (by walk_at"ev"))) rfl ?_
 refine wx (ds:=rs.map nl) false (fun i Γ=>∃ u v,Γ=[some (.fz false (nls rs)),u,v]) (zT (by walk_at"ev")) ⟨none,none,rfl⟩ ?_ ?_
 ·rintro i d Γ' hd ⟨u,v,rfl⟩
  obtain ⟨r,hr,rfl⟩:=xr hd
  refine ⟨_,egn (by walk_at"sc") ?_⟩
  refine uG (b:=!true) (xA (et_B (by walk_at"ev"))) rfl ?_
  refine uV (ds:=r.map fun k:Nat=>.int (k:Int)) false (fun i Γ=>∃ v,Γ=[some (.fz false (nls rs)),some (.fz false (nl r)),v]) (zT (by walk_at"ev")) ⟨v,rfl⟩ ?_ ?_
  ·rintro i d Γ' hd ⟨u,rfl⟩
   obtain ⟨k,hk,rfl⟩:=xr hd
   refine ⟨_,egn (by walk_at"sc") ?_⟩
   exact wz (b:=!true || false) (vR (xA (et_B (by walk_at"ev"))) fun _=>et_B (by walk_at"ev")) (fun h=>nomatch h) fun _=>yx ⟨_,rfl⟩
  ·rintro Γ' ⟨v,rfl⟩
   exact ⟨_,_,rfl⟩
 ·rintro Γ' ⟨u,v,rfl⟩
  exact yc true (by walk_at"ev") rfl (.inl ⟨rfl,rfl⟩)
def letB (cs:List (List Nat)) (kn hi:List Nat) (t v u:Nat):Bool:=bif decide (t∈cs.getD v []) && decide (u∈cs.getD v []) then decide (v∈hi) else !decide (v∈kn)
theorem zcs {cs:List (List Nat)} {kn:List Nat} {v:Nat}:Rch (cauF cs) kn v↔Dsp.Hi (paC cs) (InL kn) v:=by
 constructor
 ·intro r
  induction r with
  | base z=>exact ⟨_,z,.refl _⟩
  | step _ z ih=>exact Dsp.Hi.up ih z
 ·rintro ⟨z,hz,a⟩
  induction a with
  | refl _=>exact .base hz
  | step p _ ih=>exact (ih hz).step p
theorem Ua {cs:List (List Nat)} {kn hi:List Nat} (hh:∀ k,k∈hi↔Rch (cauF cs) kn k) {t v u:Nat}:letB cs kn hi t v u=true↔Dsp.Cd (paC cs) (InL kn) t v u:=by
 unfold letB
 by_cases c:t∈cs.getD v []∧u∈cs.getD v []
 ·rw [decide_eq_true c.1,decide_eq_true c.2]
  show decide (v∈hi)=true↔_
  rw [decide_eq_true_iff,hh,zcs]
  exact ⟨fun z=>⟨fun _=>z,fun w=>absurd c w⟩,fun z=>z.1 c⟩
 ·have e:(decide (t∈cs.getD v []) && decide (u∈cs.getD v []))=false:=ξY.mpr fun z=>by
   obtain ⟨z1,z2⟩:=ζH.mp z
   exact c ⟨of_decide_eq_true z1,of_decide_eq_true z2⟩
  rw [e]
  show (!decide (v∈kn))=true↔_
  have e2:(!decide (v∈kn))=true↔v∉kn:=by simp
  rw [e2]
  exact ⟨fun z=>⟨fun w=>absurd w c,fun _=>z⟩,fun z=>z.2 c⟩
structure StP (cs:List (List Nat)) (kn hi r:List Nat) (j:Nat):Prop where
 n:r.getD (j + 1) 0∉r.take (j + 1)
 a:Dsp.Adj (paC cs) (r.getD (j + 1) 0) (r.getD j 0)
 c:j + 2 < r.length→letB cs kn hi (r.getD j 0) (r.getD (j + 1) 0) (r.getD (j + 2) 0)=true
theorem zba {r:List Nat} (h:∀ j,j + 1 < r.length→r.getD (j + 1) 0∉r.take (j + 1)):r.Nodup:=by
 refine List.pairwise_iff_getElem.mpr fun i j hi hj ij e=>?_
 obtain ⟨k,rfl⟩:∃ k,j=k + 1:=⟨j - 1,by omega⟩
 refine h k hj ?_
 rw [ζe,ζm hj,Option.getD_some,← e]
 exact List.mem_take_iff_getElem.mpr ⟨i,by omega,rfl⟩
theorem zaD {r:List Nat} (h:r.Nodup) {j:Nat} (hj:j < r.length):r.getD j 0∉r.take j:=fun z=>by
 obtain ⟨i,hi,e⟩:=List.mem_take_iff_getElem.mp z
 rw [ζe,ζm hj,Option.getD_some] at e
 have:=(ξE h).mp e
 omega
open Classical in
noncomputable def opnB (cs:List (List Nat)) (kn r:List Nat):Bool:=decide (Dsp.Ok (paC cs) (InL kn) r.reverse∧r.Nodup)
open Classical in
theorem zdA {cs:List (List Nat)} {kn r:List Nat} (h:opnB cs kn r=true):Dsp.Ok (paC cs) (InL kn) r.reverse∧r.Nodup:=of_decide_eq_true h
open Classical in
theorem Qr {cs:List (List Nat)} {kn r:List Nat} (h:Dsp.Ok (paC cs) (InL kn) r.reverse∧r.Nodup):opnB cs kn r=true:=decide_eq_true h
open Classical in
theorem zdB {cs:List (List Nat)} {kn r:List Nat} (h:¬ (Dsp.Ok (paC cs) (InL kn) r.reverse∧r.Nodup)):opnB cs kn r=false:=decide_eq_false h
theorem V5 {cs:List (List Nat)} {kn hi r:List Nat} (hh:∀ k,k∈hi↔Rch (cauF cs) kn k):(Dsp.Ok (paC cs) (InL kn) r.reverse∧r.Nodup)↔∀ j,j + 1 < r.length→StP cs kn hi r j:=by
 have e:Dsp.Ok (paC cs) (InL kn) r.reverse↔Dsp.Ok (paC cs) (InL kn) r:=⟨fun z=>by have:=z.rev; rwa [ξz] at this,fun z=>z.rev⟩
 rw [e,Qu]
 constructor
 ·rintro ⟨⟨h1,h2⟩,h3⟩ j hj
  exact ⟨zaD h3 hj,h1 j hj,fun h=>(Ua hh).mpr (h2 j h).sy⟩
 ·intro h
  exact ⟨⟨fun j hj=>(h j hj).a,fun j hj=>((Ua hh).mp ((h j (by omega)).c hj)).sy⟩,zba fun j hj=>(h j hj).n⟩
def xF (ds:List PyData) (d:PyData):Prop:=∃ (n:Nat) (cs:List (List Nat)) (r kn:List Nat),ds=[nls cs,nl r,nl kn]∧ShOk n cs∧n≤12∧(∀ z∈r,z < n)∧1≤r.length∧r.length≤1000∧(∀ z∈kn,z < n)∧kn.length≤60∧d=.bool (opnB cs kn r)
theorem Xk (ds:List PyData) (d:PyData) (h:xF ds d):ds.length=3:=by obtain ⟨a,b,c,e,rfl,_⟩:=h; rfl
theorem X0:zI ["_law_causes", "_law_road", "_law_known_here", "_law_high", "_law_at"] ["_law_causes", "_law_road", "_law_known_here"] (zo (top 34)):=⟨rfl,rfl,rfl,by decide +kernel,rfl,by decide +kernel,by decide +kernel⟩
theorem Wl (F:Fun K "_law_open" "_law_open" (top 34) f fd) (B:Bs mg) (Z:Cs K mg τa τb) (c_law_above:zF P w K mg base CX0 "_law_above" ["_law_causes", "_law_some"] 1 (spW K true yO)) (c_law_vee:zF P w K mg base CX0 "_law_vee" ["_law_causes", "_law_road", "_law_at"] 1 (spD K true yV)):FnOk P w K mg base CX0 2 f fd ["_law_causes", "_law_road", "_law_known_here"] (spD K true xF):=by
 have sc:=X0
 refine F.ok sc (fun vs H Q E h=>zX Xk h) (fun cdv A outer s H vs Q E hr h=>?_)
 obtain ⟨Fh,ds,d,le,dp,p,q⟩:=h
 refine ⟨_,(ze (zu (i:=3) sc.nd rfl (Or.inl rfl) (zN c_law_above (hr.mono (by decide)) rfl zM (zb (pv 0) (zb (pv 2) zd))))
   (ze (yD PassesOwn.never rfl (wu rfl B.range (zb zg (zb (zA (zp (K:=K) rfl) rfl B.len (by decide +kernel) (zb (pv 1) zd)) zd))) (zH (i:=4) sc.nd rfl (Or.inl rfl)) (ze (yo (PW.pt (ut (zB (yd (K:=K) rfl) (zz (zh (K:=K) rfl) (pv 1) (pv 4) (fun _ _=>rfl)) (wZ (wT (K:=K) rfl) (pv 1) uy (ux (pv 4))) (rfl)) (tX (PW.pt (wV (zB (zZ (K:=K) rfl) (zz (zh (K:=K) rfl) (pv 1) (pv 4) (fun _ _=>rfl)) (zz (zh (K:=K) rfl) (pv 0) (zz (zh (K:=K) rfl) (pv 1) (zw yT (pv 4) zg) (fun _ _=>rfl)) (fun _ _=>rfl)) (rfl)) (x5 (zB (zZ (K:=K) rfl) (zz (zh (K:=K) rfl) (pv 1) (zw yT (pv 4) zg) (fun _ _=>rfl)) (zz (zh (K:=K) rfl) (pv 0) (zz (zh (K:=K) rfl) (pv 1) (pv 4) (fun _ _=>rfl)) (fun _ _=>rfl)) (rfl)))))))) (zf (zD xu)) zL)
   (zf (yo (zB Ye (pv 4) (zw yT (zA (zp (K:=K) rfl) rfl B.len (by decide +kernel) (zb (pv 1) zd)) zg) (zU _)) (ze (yo (PW.pt (wV (yq (zN c_law_vee (hr.mono (by decide)) rfl zM (zb (pv 0) (zb (pv 1) (zb (pv 4) zd))))) (x5 (zB (zZ (K:=K) rfl) (zz (zh (K:=K) rfl) (pv 1) (pv 4) (fun _ _=>rfl)) (pv 3) (rfl))))) (zf (zD xu)) zL)
   (zf (yo (PW.pt (wV (xS (yq (zN c_law_vee (hr.mono (by decide)) rfl zM (zb (pv 0) (zb (pv 1) (zb (pv 4) zd)))))) (x5 (zB (yd (K:=K) rfl) (zz (zh (K:=K) rfl) (pv 1) (pv 4) (fun _ _=>rfl)) (pv 2) (rfl))))) (zf (zD xu)) zL))) zL))))
   (zf (zD xu)))),?_⟩
 have hN:(["_law_causes", "_law_road", "_law_known_here", "_law_high", "_law_at"]:List Str).length=5:=rfl
 obtain ⟨n,cs,r,kn,rfl,ok,n12,hr,r1,rl,hk,kl,rfl⟩:=p
 have big:=zK
 have er:PyData.int (((r.map fun k:Nat=>PyData.int (k:Int)).length:Nat):Int)=.int (r.length:Int):=by rw [ζb]
 walk_at"run"
 refine exg true (xZ (by walk_at"ev") ⟨n,cs,kn,rfl,ok,n12,hk,kl,rfl⟩) (fun d=>by walk_at"sc") ?_
 rintro d ⟨hi,hh,rfl⟩
 have no:∀ {j:Nat},j + 1 < r.length→¬ StP cs kn hi r j→PyData.bool false=.bool (opnB cs kn r):=fun {j} hj h=>congrArg PyData.bool (zdB fun z=>h ((V5 hh).mp z j hj)).symm
 refine wx (ds:=(List.range ((r.length:Int) - 1).toNat).map fun i:Nat=>.int (1 + (i:Int))) true (fun i Γ=>∃ u,(∀ j,j < i→StP cs kn hi r j)∧Γ=[some (.fz false (nls cs)),some (.fz false (nl r)),some (.fz false (nl kn)),some (.fz true (nl hi)),u]) (uH (m:=1) (n:=(r.length:Int)) (zk (by walk_at"ev") (zk (EvE.eq (yg (ds:=r.map fun k:Nat=>.int (k:Int)) (EvE.toL (by walk_at"ev"))) er) zG)) (by omega)) ⟨none,fun j hj=>absurd hj (ζV _),rfl⟩ ?_ ?_
 ·rintro i d Γ' hd ⟨u,al,rfl⟩
  obtain ⟨hi',rfl⟩:=YW hd
  have il:i + 1 < r.length:=by omega
  refine ⟨_,egn (by walk_at"sc") ?_⟩
  obtain ⟨j,hj⟩:∃ j,i + 1=j:=⟨_,rfl⟩
  rw [show (1:Int) + (i:Int)=(j:Int) by omega]
  have aj:=yC (r:=r) (show j < r.length by omega)
  have ai:atI (r.map fun k:Nat=>PyData.int (k:Int)) ((j:Int) - 1)=some (.int (r.getD i 0:Nat)):=by rw [show (j:Int) - 1=(i:Int) by omega]; exact yC (by omega)
  have jn:=Zx hr (show j < r.length by omega)
  have in':=Zx hr (show i < r.length by omega)
  have cj:atI (cs.map nl) (r.getD j 0:Nat)=some (nl (cs.getD (r.getD j 0) [])):=yF (ok.at jn).1
  have ci:atI (cs.map nl) (r.getD i 0:Nat)=some (nl (cs.getD (r.getD i 0) [])):=yF (ok.at in').1
  refine vQ (b:=decide (r.getD j 0∈r.take j) || (!decide (r.getD j 0∈cs.getD (r.getD i 0) []) && !decide (r.getD i 0∈cs.getD (r.getD j 0) []))) (vR (EvT.eq (zC (yr (neg:=false) (i:=(r.getD j 0:Nat)) (ns:=zl (r.take j)) (zr (κ:=false) (EvE.toL (by walk_at"ev")) (by walk_at"ev") aj) (EvO.toL (EvO.eq (xQ (κ:=false) (ds:=r.map fun k:Nat=>.int (k:Int)) (hi:=some (j:Int)) (EvE.toL (by walk_at"ev")) vJ (vI (by walk_at"ev"))) (by rw [XB]; exact PyData.list.inj (yv _)))))) yi) fun _=>wO (EvT.eq (zC (yr (neg:=true) (i:=(r.getD j 0:Nat)) (ns:=zl (cs.getD (r.getD i 0) [])) (zr (κ:=false) (EvE.toL (by walk_at"ev")) (by walk_at"ev") aj) (EvE.toL (EvE.eq (κ:=false) (zr (κ:=false) (by walk_at"ev") (zr (κ:=false) (EvE.toL (by walk_at"ev")) (by walk_at"ev") ai) ci) (yv _))))) (by show (!decide _)=_; rw [yi])) fun _=>EvT.eq (zC (yr (neg:=true) (i:=(r.getD i 0:Nat)) (ns:=zl (cs.getD (r.getD j 0) [])) (zr (κ:=false) (EvE.toL (by walk_at"ev")) (by walk_at"ev") ai) (EvE.toL (EvE.eq (κ:=false) (zr (κ:=false) (by walk_at"ev") (zr (κ:=false) (EvE.toL (by walk_at"ev")) (by walk_at"ev") aj) cj) (yv _))))) (by show (!decide _)=_; rw [yi])) (fun h=>?_) (fun h=>?_)
  ·refine exrs true (by walk_at"ev") (no il fun st=>?_) (.inl ⟨rfl,rfl⟩)
   have s1:=st.n
   have s2:=st.a
   rw [hj] at s1 s2
   rw [decide_eq_false s1,Bool.false_or] at h
   rcases s2 with s2 | s2
   ·rw [decide_eq_true (show r.getD j 0∈cs.getD (r.getD i 0) [] from s2)] at h
    cases h
   ·rw [decide_eq_true (show r.getD i 0∈cs.getD (r.getD j 0) [] from s2),Bool.not_true,Bool.and_false] at h
    cases h
  ·refine exn ?_
   have s1:r.getD (i + 1) 0∉r.take (i + 1):=by
    rw [hj]
    intro z
    rw [decide_eq_true z] at h
    cases h
   have s2:Dsp.Adj (paC cs) (r.getD (i + 1) 0) (r.getD i 0):=by
    rw [hj]
    by_cases z1:r.getD j 0∈cs.getD (r.getD i 0) []
    ·exact .inl z1
    ·by_cases z2:r.getD i 0∈cs.getD (r.getD j 0) []
     ·exact .inr z2
     ·rw [decide_eq_false z1,decide_eq_false z2] at h
      simp at h
   have grow:StP cs kn hi r i→∀ k,k < i + 1→StP cs kn hi r k:=fun st k hk=>by
    rcases ξI (ξW hk) with z | z
    ·exact al k z
    ·rw [z]; exact st
   refine wz (b:=decide ((j:Int) < (r.length:Int) - 1)) (zC (Zm (by walk_at"ev") (wN (EvE.eq (yg (ds:=r.map fun k:Nat=>.int (k:Int)) (EvE.toL (by walk_at"ev"))) er) (by walk_at"ev")))) (fun g=>?_) (fun g=>yx ⟨_,grow ⟨s1,s2,fun z=>by have:=of_decide_eq_false g; omega⟩,rfl⟩)
   have g:=of_decide_eq_true g
   have lv:letB cs kn hi (r.getD i 0) (r.getD (i + 1) 0) (r.getD (i + 2) 0)=bif veeB cs r j then decide (r.getD j 0∈hi) else !decide (r.getD j 0∈kn):=by rw [← hj]; rfl
   have vc:∀ {Γ1:PD.Ctx},GetC Γ1 0 (.fz false (nls cs))→GetC Γ1 1 (.fz false (nl r))→GetC Γ1 4 (.fz true (.int j))→EvE K .fresh false (u0 (spD K true yV) [] E0 (ye (tVar 0) (ye (tVar 1) (ye (tVar 4) tNil)))) Γ1 (.bool (veeB cs r j)):=fun h0 h1 h4=>zv (zk (vi h0.eq) (zk (vi h1.eq) (zk (EvE.weak (vi h4.eq) fun z=>nomatch z) zG))) ⟨n,cs,r,j,rfl,ok,hr,by omega,by omega,rfl⟩
   refine vQ (b:=veeB cs r j && !decide (r.getD j 0∈hi)) (wO (et_B (vc (by walk_at"gc") (by walk_at"gc") (by walk_at"gc"))) fun _=>EvT.eq (zC (yr (neg:=true) (i:=(r.getD j 0:Nat)) (ns:=zl hi) (zr (κ:=false) (EvE.toL (by walk_at"ev")) (by walk_at"ev") aj) (EvE.toL (EvE.eq (κ:=false) (by walk_at"ev") (yv _))))) (by show (!decide _)=_; rw [yi])) (fun w=>?_) (fun w=>?_)
   ·refine exrs true (by walk_at"ev") (no il fun st=>?_) (.inl ⟨rfl,rfl⟩)
    have s3:=st.c (by omega)
    rw [lv] at s3
    obtain ⟨w1,w2⟩:=ζH.mp w
    rw [w1] at s3
    have s3:decide (r.getD j 0∈hi)=true:=s3
    rw [s3] at w2
    cases w2
   ·refine exn ?_
    refine wz (b:=!veeB cs r j && decide (r.getD j 0∈kn)) (wO (xA (et_B (vc (by walk_at"gc") (by walk_at"gc") (by walk_at"gc")))) fun _=>EvT.eq (zC (yr (neg:=false) (i:=(r.getD j 0:Nat)) (ns:=zl kn) (zr (κ:=false) (EvE.toL (by walk_at"ev")) (by walk_at"ev") aj) (EvE.toL (EvE.eq (κ:=false) (by walk_at"ev") (yv _))))) yi) (fun v=>?_) (fun v=>?_)
    ·refine yc true (by walk_at"ev") (no il fun st=>?_) (.inl ⟨rfl,rfl⟩)
     have s3:=st.c (by omega)
     rw [lv] at s3
     obtain ⟨v1,v2⟩:=ζH.mp v
     have v1:veeB cs r j=false:=by simpa using v1
     rw [v1] at s3
     have s3:(!decide (r.getD j 0∈kn))=true:=s3
     rw [v2] at s3
     cases s3
    ·refine yx ⟨_,grow ⟨s1,s2,fun _=>?_⟩,rfl⟩
     rw [lv]
     cases q:veeB cs r j with
     | true =>
      rw [q] at w
      have w:(!decide (r.getD j 0∈hi))=false:=w
      show decide (r.getD j 0∈hi)=true
      simpa using w
     | false =>
      rw [q] at v
      have v:decide (r.getD j 0∈kn)=false:=v
      show (!decide (r.getD j 0∈kn))=true
      rw [v]
      rfl
 ·rintro Γ' ⟨u,al,rfl⟩
  rw [vV] at al
  refine yc true (by walk_at"ev") (congrArg PyData.bool (Qr ((V5 hh).mpr fun j hj=>al j (by omega))).symm) (.inl ⟨rfl,rfl⟩)
def ZH (kn:List Nat) (r:List Nat):Bool:=decide (r.getLastD 0∈kn)
theorem zb9 {kn r:List Nat} (h:r≠[]):ZH kn r=true↔∀ z,r.getLast?=some z→z∈kn:=by
 obtain ⟨r0,v,rfl⟩:=yw h
 unfold ZH
 rw [xP,decide_eq_true_iff,List.getLast?_append]
 exact ⟨fun h z e=>by cases e; exact h,fun h=>h v rfl⟩
def wI (ds:List PyData) (d:PyData):Prop:=∃ (n:Nat) (cs:List (List Nat)) (k:Nat) (kn:List Nat),ds=[nls cs,.int k,nl kn]∧ShOk n cs∧Dg cs∧n≤12∧tot cs≤15∧k < n∧d=rdD (wdF cs kn k)
theorem Xm (ds:List PyData) (d:PyData) (h:wI ds d):ds.length=3:=by obtain ⟨a,b,c,e,rfl,_⟩:=h; rfl
theorem X2:zI ["_law_causes", "_law_k", "_law_known_here", "_law_rows_here", "_law_ends", "_law_more", "_law_row"] ["_law_causes", "_law_k", "_law_known_here"] (zo (top 35)):=⟨rfl,rfl,rfl,by decide +kernel,rfl,by decide +kernel,by decide +kernel⟩
theorem Wn (F:Fun K "_law_down" "_law_down" (top 35) f fd) (B:Bs mg) (Z:Cs K mg τa τb)  : FnOk P w K mg base CX0 1 f fd ["_law_causes", "_law_k", "_law_known_here"] (spD K true wI):=by
 have sc:=X2
 refine F.ok sc (fun vs H Q E h=>zX Xm h) (fun cdv A outer s H vs Q E hr h=>?_)
 obtain ⟨Fh,ds,d,le,dp,p,q⟩:=h
 refine ⟨_,(ze (zu (i:=3) sc.nd rfl (Or.inl rfl) (yb (zb (yb (zb (pv 1) zd)) zd)))
   (zf (xT PassesOwn.never (yq xu) (ze (xh (i:=4) rfl sc.nd rfl rfl (N:=["_law_row", "_law_known_here"]) (js:=[none,some 2]) (by walk_at"comp_ok") (zJ (K:=K) rfl (pv 3)) (fun _ _ _ _=>(zH (i:=0) (show List.Nodup (["_law_row", "_law_known_here"]:List PySem.Str) by decide +kernel) rfl (Or.inl rfl))) (fun _ _ _ _=>(xq (zB (yd (K:=K) rfl) (zz (zh (K:=K) rfl) (pv 0) (uz wC zg) (fun _ _=>rfl)) (pv 1) (rfl)))) (fun _ _ _ _=>(pv 0)))
   (ze (yo (zB (za0 (K:=K) rfl hr.units) (pv 4) (yb zd) (zU _)) (zf (zD (zA (Zv (K:=K) rfl rfl (w9 hr)) rfl B.min (by decide +kernel) (zb (pv 4) zd)))) zL)
   (ze (zu (i:=5) sc.nd rfl (Or.inl rfl) (yb zd))
   (ze (yD PassesOwn.never rfl (zJ (K:=K) rfl (pv 3)) (zH (i:=6) sc.nd rfl (Or.inr rfl)) (zf (zu (i:=5) sc.nd rfl (Or.inl rfl) (zw (xw (K:=K) rfl) (pv 5) (yM rfl (N:=["_law_one", "_law_row", "_law_causes"]) (js:=[none,some 6,some 0]) (by walk_at"comp_ok") (xj rfl B.range (zb (zA (zp (K:=K) rfl) rfl B.len (by decide +kernel) (zb (pv 0) zd)) zd)) (fun _ _ _ _=>(zH (i:=0) (show List.Nodup (["_law_one", "_law_row", "_law_causes"]:List PySem.Str) by decide +kernel) rfl (Or.inl rfl))) (fun _ _ _ _=>(xq (zB (yd (K:=K) rfl) (zz (zh (K:=K) rfl) (pv 1) (uz wC zg) (fun _ _=>rfl)) (zz (zh (K:=K) rfl) (pv 2) (pv 0) (fun _ _=>rfl)) (rfl)))) (fun _ _ _ _=>(zw (xw (K:=K) rfl) (pv 1) (yb (zb (pv 0) zd)))))))))
   (ze (zu (i:=3) sc.nd rfl (Or.inl rfl) (pv 5))
   (zf (yo (zB (V6 (K:=K) rfl hr.units) (pv 3) (yb zd) (zU _)) (zf (zD t8)) zL)))))))))),?_⟩
 have hN:(["_law_causes", "_law_k", "_law_known_here", "_law_rows_here", "_law_ends", "_law_more", "_law_row"]:List Str).length=7:=rfl
 obtain ⟨n,cs,k,kn,rfl,ok,dg,n12,t15,hk,rfl⟩:=p
 have big:=zK
 have cl:=ok.l
 have el:PyData.int (((cs.map nl).length:Nat):Int)=.int (n:Int):=by rw [ζb,cl]
 have ll:=zcK ok dg t15 hk
 have ne:∀ {t r},r∈lvF cs k t→r≠[]:=fun {t r} h e=>by
  have:=((xX ok).mp h).2.2
  rw [e] at this
  cases this
 have top:∀ t,n≤t→lvF cs k t=[]:=fun t ht=>by
  cases q:lvF cs k t with
  | nil=>rfl
  | cons r L =>
   have hm:r∈lvF cs k t:=by rw [q]; exact ζg
   have h1:=((ll t).2 r hm).2
   have h2:=((xX ok).mp hm).2.2
   omega
 walk_at"run"
 refine exs true (d:=nls (lvF cs k 0)) (EvO.toE (EvO.eq (zQ (ds:=[.list [.int (k:Int)]]) (zk (EvO.toE (zQ (ds:=[.int (k:Int)]) (zk (by walk_at"ev") zG) (by show 1≤sizeLine; omega))) zG) (by show 1≤sizeLine; omega)) rfl)) (by walk_at"sc") ?_
 refine xY (fun m Γ=>∃ (t:Nat) (u v w:Option DV),m=n + 1 - t∧t≤n∧(∀ s,s < t→∀ r∈lvF cs k s,¬ ∀ z,r.getLast?=some z→z∈kn)∧Γ=[some (.fz false (nls cs)),some (.fz false (.int k)),some (.fz false (nl kn)),some (.fz true (nls (lvF cs k t))),u,v,w]) _ ⟨0,none,none,none,rfl,ζE _,fun s hs=>absurd hs (ζV _),rfl⟩ ?_
 rintro m Γ' ⟨t,u,v,w,rfl,tn,no,rfl⟩
 refine ⟨true,et_B (by walk_at"ev"),fun _=>?_,fun h=>by cases h⟩
 obtain ⟨l1,l2⟩:=ll t
 have hae:∀ r,r∈(lvF cs k t).filter (ZH kn)↔r∈lvF cs k t∧∀ z,r.getLast?=some z→z∈kn:=fun r=>by
  rw [ζp]
  exact ⟨fun z=>⟨z.1,(zb9 (ne z.1)).mp z.2⟩,fun z=>⟨z.1,(zb9 (ne z.1)).mpr z.2⟩⟩
 have lastE:∀ {r:List Nat},r∈lvF cs k t→∃ x:Nat,atI (r.map fun k:Nat=>PyData.int (k:Int)) (-1)=some (.int (x:Int))∧r.getLastD 0=x:=fun {r} h=>by
  obtain ⟨r0,x,er⟩:=yw (ne h)
  exact ⟨x,by rw [er,ζn]; exact vx _ _,by rw [er,xP]⟩
 refine exo true (ds:=((lvF cs k t).filter (ZH kn)).map nl) (yB (κ:=true) (is:=[0]) (xs:=lvF cs k t) true nl nl (ZH kn) (fun a _ b _ h=>by cases VS h; exact ⟨rfl,rfl⟩) (zT (by walk_at"ev")) (by walk_at"cc") rfl (by decide) (by omega) ?_) (by walk_at"sc") ?_
 ·intro r hr
  obtain ⟨x,ax,ex⟩:=lastE hr
  exact egn (by walk_at"sc") ⟨EvT.eq (zC (yr (neg:=false) (i:=(x:Int)) (ns:=zl kn) (zr (κ:=false) (EvE.toL (by walk_at"ev")) (vj (i:=1) (by walk_at"ev")) ax) (EvE.toL (EvE.eq (κ:=false) (by walk_at"ev") (yv _))))) (by unfold ZH; rw [ex]; exact yi),fun _=>by walk_at"ev"⟩
 generalize har:(lvF cs k t).filter (ZH kn)=ar at hae
 refine vQ (b:=!decide (ar.length=0)) (EvT.eq (zC (Xz (neg:=true) (d:=nls ar) (f:=.list []) (EvL.toD (κ:=true) (by walk_at"ev")) (EvE.toD (κ:=true) (EvO.toE (zQ (ds:=[]) zG (by decide)))) (wD _) rfl)) (by show (!PyData.eqv _ _)=_; rw [WN])) (fun h=>?_) (fun h=>?_)
 ·have h0:ar≠[]:=fun z=>by rw [z] at h; exact absurd h (by decide)
  obtain ⟨r,e1,e2⟩:=zby ok hk hae h0 no
  refine exrs true (Uh (nss:=ar.map zl) (VD (by walk_at"ev") (Qy ar)) (by simpa using h0)) ?_ (.inl ⟨rfl,rfl⟩)
  show _=rdD (wdF cs kn k)
  rw [e1,← e2]
  exact (yv r).symm
 have h0:ar=[]:=List.length_eq_zero_iff.mp (by simpa using h)
 refine exn ?_
 have no':∀ s,s < t + 1→∀ r∈lvF cs k s,¬ ∀ z,r.getLast?=some z→z∈kn:=fun s hs r hr hz=>by
  rcases ξI (ξW hs) with q | q
  ·exact no s q r hr hz
  ·subst q
   have:r∈ar:=(hae r).mpr ⟨hr,hz⟩
   rw [h0] at this
   cases this
 refine exo true (ds:=([]:List (List Nat)).map nl) (zQ (ds:=[]) zG (by decide)) (by walk_at"sc") ?_
 have nx:lvF cs k (t + 1)=(lvF cs k t).flatMap fun r=>(effF cs (r.getLastD 0)).map fun e=>r ++ [e]:=rfl
 have bl:=(ll (t + 1)).1
 refine wx (ds:=(lvF cs k t).map nl) true (fun i Γ=>∃ w,Γ=[some (.fz false (nls cs)),some (.fz false (.int k)),some (.fz false (nl kn)),some (.fz true (nls (lvF cs k t))),some (.ow true (ar.map nl)),some (.ow true ((((lvF cs k t).take i).flatMap fun r=>(effF cs (r.getLastD 0)).map fun e=>r ++ [e]).map nl)),w]) (zT (by walk_at"ev")) ⟨w,rfl⟩ ?_ ?_
 ·rintro i d Γ' hd ⟨w,rfl⟩
  obtain ⟨r,hr,rfl⟩:=xr hd
  refine ⟨_,egn (by walk_at"sc") ?_⟩
  have rm:=ζj hr
  obtain ⟨x,ax,ex⟩:=lastE rm
  have r12:=(l2 r rm).2
  obtain ⟨tl,et⟩:=Ud (fun r=>(effF cs (r.getLastD 0)).map fun e=>r ++ [e]) hr
  rw [nx,et,ζd,ζd,ζb] at bl
  have tk:((lvF cs k t).take (i + 1)).flatMap (fun r=>(effF cs (r.getLastD 0)).map fun e=>r ++ [e])=((lvF cs k t).take i).flatMap (fun r=>(effF cs (r.getLastD 0)).map fun e=>r ++ [e]) ++ (effF cs x).map fun e=>r ++ [e]:=by
   rw [take_succ hr,List.flatMap_append,ξw,List.flatMap_nil,ζJ,ex]
  rw [tk]
  generalize ((lvF cs k t).take i).flatMap (fun r=>(effF cs (r.getLastD 0)).map fun e=>r ++ [e])=fo at bl
  rw [ex] at bl
  refine exo1 true (ds:=(fo ++ (effF cs x).map fun e=>r ++ [e]).map nl) (EvO.eq (xK (xs:=fo.map nl) (ys:=(effF cs x).map fun e=>nl (r ++ [e])) (by walk_at"ev") (EvO.toL (EvO.eq (Yu (κ:=true) (is:=[0]) (n:=n) (fun e=>nl (r ++ [e])) (fun e=>decide (x∈cs.getD e [])) (zk (EvE.eq (yg (ds:=cs.map nl) (by walk_at"ev")) el) zG) (by omega) (by walk_at"cc") rfl (by decide) ?_) (by unfold effF; rw [cl]))) (by rw [List.length_map,List.length_map]; omega)) (by rw [List.map_append,List.map_map]; rfl)) (by walk_at"sc") ⟨_,rfl⟩
  intro e he
  have ce:atI (cs.map nl) (e:Int)=some (nl (cs.getD e [])):=yF (ok.at he).1
  exact egn (by walk_at"sc") ⟨EvT.eq (zC (yr (neg:=false) (i:=(x:Int)) (ns:=zl (cs.getD e [])) (zr (κ:=false) (EvE.toL (by walk_at"ev")) (vj (i:=1) (by walk_at"ev")) ax) (EvE.toL (EvE.eq (κ:=false) (zr (κ:=false) (by walk_at"ev") (by walk_at"ev") ce) (yv _))))) yi,fun _=>EvO.toE (EvO.eq (xK (xs:=r.map fun k:Nat=>.int (k:Int)) (ys:=[.int (e:Int)]) (EvL.imm (κ:=false) (EvE.toL (by walk_at"ev")) (yU _)) (EvO.toL (zQ (ds:=[.int (e:Int)]) (zk (by walk_at"ev") zG) (by show 1≤sizeLine; omega))) (by rw [ζb]; show _ + 1≤_; omega)) (by rw [ζn]; rfl))⟩
 rintro Γ' ⟨w,rfl⟩
 rw [show ((lvF cs k t).map nl).length=(lvF cs k t).length from ζb ..,ξh,← nx]
 refine exfz 5 (by walk_at"gc") (by walk_at"sc") ?_
 refine exs true (d:=nls (lvF cs k (t + 1))) (by walk_at"ev") (by walk_at"sc") ?_
 refine wz (b:=decide ((lvF cs k (t + 1)).length=0)) (EvT.eq (zC (Xz (neg:=false) (d:=nls (lvF cs k (t + 1))) (f:=.list []) (EvE.toD (κ:=true) (by walk_at"ev")) (EvE.toD (κ:=true) (EvO.toE (zQ (ds:=[]) zG (by decide)))) (wD _) rfl)) (WN _ _)) (fun g=>?_) (fun g=>?_)
 ·refine yc true (by walk_at"ev") ?_ (.inl ⟨rfl,rfl⟩)
  show _=rdD (wdF cs kn k)
  rw [zbx ok no' (ζ6.mp (of_decide_eq_true g))]
 ·have tn':t + 1 < n:=Classical.byContradiction fun z=>by
   rw [top (t + 1) (by omega)] at g
   cases g
  exact yx ⟨n + 1 - (t + 1),by omega,t + 1,_,_,_,rfl,by omega,no',rfl⟩
theorem zcg {n:Nat} {cs:List (List Nat)} {r:List Nat} (hr:∀ z∈r,z < n):∀ v∈vsF cs r,v < n:=fun v hv=>by
 obtain ⟨i,hi,rfl⟩:=ζr.mp hv
 have:=ζK.mp (ζp.mp hi).1
 exact Zx hr (by omega)
def vsT (cs:List (List Nat)) (r:List Nat) (i:Nat):List Nat:=((List.range i).filter fun i=>veeB cs r (1 + i)).map fun i=>r.getD (1 + i) 0
theorem Tq (cs:List (List Nat)) (r:List Nat) (k:Nat):vsT cs r (k + 1)=if veeB cs r (1 + k)=true then vsT cs r k ++ [r.getD (1 + k) 0] else vsT cs r k:=by
 unfold vsT
 rw [ξ8,ξl]
 split
 ·rename_i h
  rw [ξ1 (p:=fun i=>veeB cs r (1 + i)) h,ζn]
  rfl
 ·rename_i h
  rw [ξ2 (p:=fun i=>veeB cs r (1 + i)) h,ξt,ζJ]
def yW (ds:List PyData) (d:PyData):Prop:=∃ (n:Nat) (cs:List (List Nat)) (r kn:List Nat),ds=[nls cs,nl r,nl kn]∧ShOk n cs∧Dg cs∧n≤12∧tot cs≤15∧(∀ z∈r,z < n)∧r.length≤1000∧d=.list ((vsF cs r).map fun v=>rdD (wdF cs kn v))
theorem Ww (ds:List PyData) (d:PyData) (h:yW ds d):ds.length=3:=by obtain ⟨a,b,c,e,rfl,_⟩:=h; rfl
theorem W5:zI ["_law_causes", "_law_road", "_law_known_here", "_law_due_here", "_law_at"] ["_law_causes", "_law_road", "_law_known_here"] (zo (top 36)):=⟨rfl,rfl,rfl,by decide +kernel,rfl,by decide +kernel,by decide +kernel⟩
theorem Vg (F:Fun K "_law_due" "_law_due" (top 36) f fd) (B:Bs mg) (Z:Cs K mg τa τb) (c_law_vee:zF P w K mg base CX0 "_law_vee" ["_law_causes", "_law_road", "_law_at"] 1 (spD K true yV)) (c_law_down:zF P w K mg base CX0 "_law_down" ["_law_causes", "_law_k", "_law_known_here"] 1 (spD K true wI)):FnOk P w K mg base CX0 2 f fd ["_law_causes", "_law_road", "_law_known_here"] (spD K true yW):=by
 have sc:=W5
 refine F.ok sc (fun vs H Q E h=>zX Ww h) (fun cdv A outer s H vs Q E hr h=>?_)
 obtain ⟨Fh,ds,d,le,dp,p,q⟩:=h
 refine ⟨_,(ze (zu (i:=3) sc.nd rfl (Or.inl rfl) (yb zd))
   (ze (yD PassesOwn.never rfl (wu rfl B.range (zb zg (zb (zw yT (zA (zp (K:=K) rfl) rfl B.len (by decide +kernel) (zb (pv 1) zd)) zg) zd))) (zH (i:=4) sc.nd rfl (Or.inl rfl)) (zf (yo (yq (zN c_law_vee (hr.mono (by decide)) rfl zM (zb (pv 0) (zb (pv 1) (zb (pv 4) zd))))) (zf (yp (y6 (K:=K) rfl ζu ζP ζO yy (pv 3) (zb (zN c_law_down (hr.mono (by decide)) rfl zM (zb (pv 0) (zb (zz (zh (K:=K) rfl) (pv 1) (pv 4) (fun _ _=>rfl)) (zb (pv 2) zd)))) zd)))) zL)))
   (zf (zD (pv 3))))),?_⟩
 have hN:(["_law_causes", "_law_road", "_law_known_here", "_law_due_here", "_law_at"]:List Str).length=5:=rfl
 obtain ⟨n,cs,r,kn,rfl,ok,dg,n12,t15,hr,rl,rfl⟩:=p
 have big:=zK
 have er:PyData.int (((r.map fun k:Nat=>PyData.int (k:Int)).length:Nat):Int)=.int (r.length:Int):=by rw [ζb]
 walk_at"run"
 refine exo true (ds:=(vsT cs r 0).map fun v=>rdD (wdF cs kn v)) (zQ (ds:=[]) zG (by decide)) (by walk_at"sc") ?_
 refine wx (ds:=(List.range ((r.length:Int) - 1 - 1).toNat).map fun i:Nat=>.int (1 + (i:Int))) true (fun i Γ=>∃ u,Γ=[some (.fz false (nls cs)),some (.fz false (nl r)),some (.fz false (nl kn)),some (.ow true ((vsT cs r i).map fun v=>rdD (wdF cs kn v))),u]) (uH (m:=1) (n:=(r.length:Int) - 1) (zk (by walk_at"ev") (zk (wN (EvE.eq (yg (ds:=r.map fun k:Nat=>.int (k:Int)) (EvE.toL (by walk_at"ev"))) er) (by walk_at"ev")) zG)) (by omega)) ⟨none,rfl⟩ ?_ ?_
 ·rintro i d Γ' hd ⟨u,rfl⟩
  obtain ⟨hi',rfl⟩:=YW hd
  refine ⟨_,egn (by walk_at"sc") ?_⟩
  rw [show (1:Int) + (i:Int)=((1 + i:Nat):Int) by omega]
  have a1:=yC (r:=r) (show 1 + i < r.length by omega)
  have vn:=Zx hr (show 1 + i < r.length by omega)
  have vl:(vsT cs r i).length≤i:=by
   unfold vsT
   rw [ζb]
   have:=ζF (fun i=>veeB cs r (1 + i)) (List.range i)
   rwa [ζy] at this
  rw [Tq]
  refine wz (b:=veeB cs r (1 + i)) (et_B (zv (by walk_at"ev") ⟨n,cs,r,1 + i,rfl,ok,hr,by omega,by omega,rfl⟩)) (fun h=>?_) (fun h=>?_)
  ·rw [if_pos h]
   exact exa1 (d:=rdD (wdF cs kn (r.getD (1 + i) 0))) (by walk_at"gc") (zv (zk (by walk_at"ev") (zk (zr (κ:=false) (EvE.toL (by walk_at"ev")) (by walk_at"ev") a1) (zk (by walk_at"ev") zG))) ⟨n,cs,r.getD (1 + i) 0,kn,rfl,ok,dg,n12,t15,vn,rfl⟩) (by walk_at"sc") (by rw [ζb]; omega) ⟨_,by rw [ζn]; rfl⟩
  ·rw [if_neg (by rw [h]; exact fun z=>nomatch z)]
   exact yx ⟨_,rfl⟩
 ·rintro Γ' ⟨u,rfl⟩
  rw [vV,show ((r.length:Int) - 1 - 1).toNat=r.length - 2 by omega]
  exact exro (ds:=(vsT cs r (r.length - 2)).map fun v=>rdD (wdF cs kn v)) (by walk_at"gc") rfl (.inl ⟨rfl,rfl⟩)
def tlS (ws:List (List Nat)):List Nat:=(ws.map List.tail).flatten
theorem zck {ws:List (List Nat)} {i:Nat} {w:List Nat} (h:ws[i]?=some w):tlS (ws.take (i + 1))=tlS (ws.take i) ++ w.tail∧∃ t,tlS ws=tlS (ws.take i) ++ (w.tail ++ t):=by
 unfold tlS
 constructor
 ·rw [take_succ h,ζn,List.flatten_append]
  simp
 ·obtain ⟨hi,rfl⟩:=ζc.mp h
  refine ⟨((ws.drop (i + 1)).map List.tail).flatten,?_⟩
  have e:ws=ws.take i ++ (ws[i] :: ws.drop (i + 1)):=by rw [← ζ4 hi,ξk]
  conv=>lhs; rw [e]
  rw [ζn,List.flatten_append,ζN,List.flatten_cons]
def xo (ds:List PyData) (d:PyData):Prop:=∃ (r:List Nat) (ws:List (List Nat)),ds=[nl r,nls ws]∧(r ++ tlS ws).Nodup∧(r ++ tlS ws).length≤1000∧d=.bool true
theorem ZX (ds:List PyData) (d:PyData) (h:xo ds d):ds.length=2:=by obtain ⟨a,b,rfl,_⟩:=h; rfl
theorem YO:zI ["_law_road", "_law_rows_here", "_law_met", "_law_row", "_law_one"] ["_law_road", "_law_rows_here"] (zo (top 37)):=⟨rfl,rfl,rfl,by decide +kernel,rfl,by decide +kernel,by decide +kernel⟩
theorem Y7 (F:Fun K "_law_apart" "_law_apart" (top 37) f fd) (B:Bs mg) (Z:Cs K mg τa τb)  : FnOk P w K mg base CX0 1 f fd ["_law_road", "_law_rows_here"] (spD K true xo):=by
 have sc:=YO
 refine F.ok sc (fun vs H Q E h=>zX ZX h) (fun cdv A outer s H vs Q E hr h=>?_)
 obtain ⟨Fh,ds,d,le,dp,p,q⟩:=h
 refine ⟨_,(ze (zu (i:=2) sc.nd rfl (Or.inl rfl) (zW (zS (K:=K) rfl) rfl B.list (by decide +kernel) (zb (pv 0) zd)))
   (ze (yD PassesOwn.never rfl (zJ (K:=K) rfl (pv 1)) (zH (i:=3) sc.nd rfl (Or.inl rfl)) (zf (yD PassesOwn.never rfl (zJ (K:=K) rfl (wZ (wT (K:=K) rfl) (pv 3) (ux zg) uy)) (zH (i:=4) sc.nd rfl (Or.inl rfl)) (ze (yo (zB (yd (K:=K) rfl) (pv 4) (pv 2) (rfl)) (zf (zD xu)) zL)
   (zf (yp (y6 (K:=K) rfl ζu ζP ζO yy (pv 2) (zb (pv 4) zd))))))))
   (zf (zD xu)))),?_⟩
 have hN:(["_law_road", "_law_rows_here", "_law_met", "_law_row", "_law_one"]:List Str).length=5:=rfl
 obtain ⟨r,ws,rfl,nd,bl,rfl⟩:=p
 have big:=zK
 walk_at"run"
 refine exo true (ds:=(r ++ tlS (ws.take 0)).map fun k:Nat=>.int (k:Int)) (EvO.eq (yz (EvL.imm (κ:=false) (EvE.toL (by walk_at"ev")) (yU r))) (by show _=(r ++ []).map _; rw [ζJ])) (by walk_at"sc") ?_
 refine wx (ds:=ws.map nl) false (fun i Γ=>∃ u v,Γ=[some (.fz false (nl r)),some (.fz false (nls ws)),some (.ow true ((r ++ tlS (ws.take i)).map fun k:Nat=>.int (k:Int))),u,v]) (zT (by walk_at"ev")) ⟨none,none,rfl⟩ ?_ ?_
 ·rintro i d Γ' hd ⟨u,v,rfl⟩
  obtain ⟨w,hw,rfl⟩:=xr hd
  refine ⟨_,egn (by walk_at"sc") ?_⟩
  obtain ⟨t1,t,t2⟩:=zck hw
  have dr:w.drop 1=w.tail:=List.drop_one
  rw [t2] at nd bl
  rw [t1]
  generalize tlS (ws.take i)=fo at nd bl
  generalize w.tail=wt at nd bl dr
  refine uV (ds:=wt.map fun k:Nat=>.int (k:Int)) true (fun j Γ=>∃ v,Γ=[some (.fz false (nl r)),some (.fz false (nls ws)),some (.ow true ((r ++ (fo ++ wt.take j)).map fun k:Nat=>.int (k:Int))),some (.fz false (nl w)),v]) (zT (EvO.toE (EvO.eq (xQ (κ:=true) (ds:=w.map fun k:Nat=>.int (k:Int)) (lo:=some ((1:Nat):Int)) (EvL.imm (κ:=false) (EvE.toL (by walk_at"ev")) (yU w)) (vI (show EvE K .fresh false _ _ (.int 1) by walk_at"ev")) vJ) (by rw [cutH,dr])))) ⟨v,by rw [List.take_zero,ζJ]⟩ ?_ ?_
  ·rintro j d Γ3 hd ⟨v,rfl⟩
   obtain ⟨k,hk,rfl⟩:=xr hd
   refine ⟨_,egn (by walk_at"sc") ?_⟩
   have jl:=(ζc.mp hk).1
   have nk:k∉r ++ (fo ++ wt.take j):=fun z=>by
    have e:r ++ (fo ++ (wt ++ t))=(r ++ (fo ++ wt.take j)) ++ (k :: wt.drop (j + 1) ++ t):=by
     obtain ⟨hj,rfl⟩:=ζc.mp hk
     have h:=ξk j wt
     rw [ζ4 hj] at h
     conv=>lhs; rw [← h]
     simp only [List.append_assoc,List.cons_append]
    rw [e] at nd
    exact (ζD.mp nd).2.2 k z k ζg rfl
   have ml:(r ++ (fo ++ wt.take j)).length≤1000:=by
    rw [ζd,ζd] at bl ⊢
    rw [ζd] at bl
    rw [ζS]
    omega
   generalize hme:r ++ (fo ++ wt.take j)=me at nk ml
   refine uG (b:=decide (k∈me)) (XA 2 (by walk_at"gc") (by walk_at"sc") (EvT.eq (zC (yr (neg:=false) (i:=(k:Int)) (ns:=zl me) (by walk_at"ev") (EvE.toL (EvE.eq (κ:=false) (by walk_at"ev") (yv me))))) yi)) (decide_eq_false nk) ?_
   refine exa1 (d:=.int k) (by walk_at"gc") (by walk_at"ev") (by walk_at"sc") (by rw [ζb]; omega) ⟨some (.fz true (.int k)),?_⟩
   rw [take_succ hk,show r ++ (fo ++ (wt.take j ++ [k]))=me ++ [k] by rw [← hme]; simp only [List.append_assoc],List.map_append (l₂:=[k])]
   rfl
  ·rintro Γ3 ⟨v,rfl⟩
   rw [show (wt.map fun k:Nat=>PyData.int (k:Int)).length=wt.length from ζb ..,ξh]
   exact ⟨_,_,rfl⟩
 ·rintro Γ' ⟨u,v,rfl⟩
  exact yc true (by walk_at"ev") rfl (.inl ⟨rfl,rfl⟩)
theorem Tr {cs:List (List Nat)} {r:List Nat} {v:Nat} (hv:v∈vsF cs r):∃ A B,Dsp.wB (paC cs) r v A B:=by
 obtain ⟨i,hi,rfl⟩:=ζr.mp hv
 obtain ⟨h1,h2⟩:=ζp.mp hi
 have h1:=ζK.mp h1
 obtain ⟨v1,v2⟩:=ζH.mp h2
 have il:1 + i < r.length:=by omega
 have ge:∀ {k},(hk:k < r.length)→r.getD k 0=r[k]:=fun {k} hk=>by rw [ζe,ζm hk]; rfl
 refine ⟨r.take (1 + i),r.drop (1 + i + 1),?_,⟨r.getD i 0,?_,?_⟩,⟨r.getD (1 + i + 1) 0,?_,?_⟩⟩
 ·rw [ge il,← ζ4 il,ξk]
 ·rw [List.getLast?_eq_getElem?,ζS,show min (1 + i) r.length - 1=i by omega,ζT (by omega)]
  exact getD_some (by omega)
 ·have:=of_decide_eq_true v1
  rwa [show 1 + i - 1=i by omega] at this
 ·rw [List.head?_drop]
  exact getD_some (by omega)
 ·exact of_decide_eq_true v2
theorem zdt {cs:List (List Nat)} {r:List Nat} (nd:r.Nodup):(vsF cs r).Nodup:=by
 unfold vsF vsI
 refine ξv.mpr ((List.pairwise_lt_range.filter _).imp_of_mem fun {a b} ha hb h e=>?_)
 have h1:=ζK.mp (ζp.mp ha).1
 have h2:=ζK.mp (ζp.mp hb).1
 rw [ζe,ζe,ζm (by omega),ζm (by omega)] at e
 have:=(ξE nd).mp (show r[1 + a]=r[1 + b] from e)
 omega
theorem VQ {n:Nat} {cs:List (List Nat)} (ok:ShOk n cs) {kn r:List Nat} (hr:∀ z∈r,z < n) (ho:Dsp.Ok (paC cs) (InL kn) r.reverse) {v:Nat} (hv:v∈vsF cs r):∃ w,wdF cs kn v=some w∧Dsp.Wy (paC cs) (InL kn) v w.tail∧w.length≤12 + n:=by
 obtain ⟨A,B,ve⟩:=Tr hv
 obtain ⟨a,a1,a2⟩:=ve.l
 obtain ⟨b,b1,b2⟩:=ve.r
 have hi:Dsp.Hi (paC cs) (InL kn) v:=by
  have o:Dsp.Ok (paC cs) (InL kn) r:=by have:=ho.rev; rwa [ξz] at this
  rw [ve.eq] at o
  exact (((Dsp.xW _ _ _).mp o).2.2 a b a1 b1).1 ⟨b2,a2⟩
 have near:∃ t,v∈rim cs kn (wiC cs) t:=by
  obtain ⟨z,hz,an⟩:=hi
  have vn:=zcg hr v hv
  clear hv ve a1 a2 b1 b2
  induction an with
  | refl u =>
   exact ⟨0,ζp.mpr ⟨ζK.mpr (by rw [ok.l]; exact vn),decide_eq_true hz⟩⟩
  | @step u w x p _ ih =>
   obtain ⟨t,ht⟩:=ih hz (xl ok p).2
   by_cases f:u∈fnd cs kn (wiC cs) (t + 1)
   ·obtain ⟨t',_,h2⟩:=xJ.mp f
    exact ⟨t',h2⟩
   ·exact ⟨t + 1,wL.mpr ⟨ζK.mpr (by rw [ok.l]; exact vn),f,w,(y8 ok).mpr ⟨(xl ok p).2,p⟩,ht⟩⟩
 obtain ⟨t,ht⟩:=near
 refine ⟨_,To ht,(XM ok ht).2.2,?_⟩
 have:=T0 List.nodup_range ht
 rw [ζy,ok.l] at this
 rw [vS]
 omega
noncomputable def wysF (cs:List (List Nat)) (kn:List Nat) (v:Nat):List Nat:=(wdF cs kn v).getD []
theorem Um {n:Nat} {cs:List (List Nat)} (ok:ShOk n cs) {kn r:List Nat} (hr:∀ z∈r,z < n) (ho:Dsp.Ok (paC cs) (InL kn) r.reverse):PyData.list ((vsF cs r).map fun v=>rdD (wdF cs kn v))=nls ((vsF cs r).map (wysF cs kn)):=by
 rw [nls,ζR]
 refine congrArg PyData.list (ξG fun v hv=>?_)
 obtain ⟨w,e,_⟩:=VQ ok hr ho hv
 show rdD (wdF cs kn v)=nl (wysF cs kn v)
 unfold wysF
 rw [e]
 rfl
def xC (ds:List PyData) (d:PyData):Prop:=∃ (n:Nat) (cs:List (List Nat)) (r kn:List Nat),ds=[nls cs,nl r,nl kn]∧ShOk n cs∧Dg cs∧n≤12∧tot cs≤15∧(∀ z∈r,z < n)∧r.length≤1000∧Dsp.Ok (paC cs) (InL kn) r.reverse∧kn.length≤1000∧d=.bool true
theorem Xh (ds:List PyData) (d:PyData) (h:xC ds d):ds.length=3:=by obtain ⟨a,b,c,e,rfl,_⟩:=h; rfl
theorem XX:zI ["_law_causes", "_law_road", "_law_known_here", "_law_shape", "_law_handed", "_law_asked", "_law_found"] ["_law_causes", "_law_road", "_law_known_here"] (zo (top 38)):=⟨rfl,rfl,rfl,by decide +kernel,rfl,by decide +kernel,by decide +kernel⟩
theorem Wi (F:Fun K "_law_told" "_law_told" (top 38) f fd) (B:Bs mg) (Z:Cs K mg τa τb) (c_downs:zF P w K mg base CX0 "downs" ["causes", "road", "known"] 4 (spD K true xO)) (c_law_rows:zF P w K mg base CX0 "_law_rows" ["_law_found"] 1 (spD K true xD)) (c_law_due:zF P w K mg base CX0 "_law_due" ["_law_causes", "_law_road", "_law_known_here"] 2 (spD K true yW)):FnOk P w K mg base CX0 5 f fd ["_law_causes", "_law_road", "_law_known_here"] (spD K true xC):=by
 have sc:=XX
 refine F.ok sc (fun vs H Q E h=>zX Xh h) (fun cdv A outer s H vs Q E hr h=>?_)
 obtain ⟨Fh,ds,d,le,dp,p,q⟩:=h
 refine ⟨_,(ze (xh (i:=3) rfl sc.nd rfl rfl (N:=["_law_own"]) (js:=[none]) (by walk_at"comp_ok") (zJ (K:=K) rfl (pv 0)) (fun _ _ _ _=>(zH (i:=0) (show List.Nodup (["_law_own"]:List PySem.Str) by decide +kernel) rfl (Or.inl rfl))) (fun _ _ _ _=>xH) (fun _ _ _ _=>(zW (zS (K:=K) rfl) rfl B.list (by decide +kernel) (zb (pv 0) zd))))
   (ze (zu (i:=4) sc.nd rfl (Or.inl rfl) (zW (zS (K:=K) rfl) rfl B.list (by decide +kernel) (zb (pv 1) zd)))
   (ze (zu (i:=5) sc.nd rfl (Or.inl rfl) (zW (zS (K:=K) rfl) rfl B.list (by decide +kernel) (zb (pv 2) zd)))
   (ze (zu (i:=6) sc.nd rfl (Or.inl rfl) (zN c_downs (hr.mono (by decide)) rfl zM (zb (pv 3) (zb (pv 4) (zb (pv 5) zd)))))
   (ze (yo (PW.pt (ut (xS (yq (zN c_law_rows (hr.mono (by decide)) rfl zM (zb (pv 6) zd)))) (ut (zB (Y3 (K:=K) rfl hr.units) (pv 3) (pv 0) (zU _)) (ut (zB (Y3 (K:=K) rfl hr.units) (pv 4) (pv 1) (zU _)) (tX (zB (Y3 (K:=K) rfl hr.units) (pv 5) (pv 2) (zU _))))))) (zf (zD xu)) zL)
   (ze (yp (uB (K:=K) rfl ζu PySem.F.slot_list_clear PySem.F.type_list_clear Wq (pv 4)))
   (ze (yp (uB (K:=K) rfl ζu PySem.F.slot_list_clear PySem.F.type_list_clear Wq (pv 5)))
   (zf (zD (yR (za1 (K:=K) rfl hr.units) (pv 6) (zN c_law_due (hr.mono (by decide)) rfl zM (zb (pv 0) (zb (pv 1) (zb (pv 2) zd)))) (zU _))))))))))),?_⟩
 have hN:(["_law_causes", "_law_road", "_law_known_here", "_law_shape", "_law_handed", "_law_asked", "_law_found"]:List Str).length=7:=rfl
 obtain ⟨n,cs,r,kn,rfl,ok,dg,n12,t15,hr,rl,ho,kl,rfl⟩:=p
 have big:=zK
 have cl:=ok.l
 have dd:=Um ok hr ho
 have pw:xO [nls cs,nl r,nl kn] (nls ((vsF cs r).map (wysF cs kn))):=⟨n,cs,r,kn,rfl,ok,n12,hr,rl,dd.symm⟩
 have pu:yW [nls cs,nl r,nl kn] (nls ((vsF cs r).map (wysF cs kn))):=⟨n,cs,r,kn,rfl,ok,dg,n12,t15,hr,rl,dd.symm⟩
 generalize (vsF cs r).map (wysF cs kn)=ws at pw pu
 walk_at"run"
 refine exs true (d:=nls cs) (EvO.toE (xz (κ:=true) (κ':=false) (is:=[0]) (xs:=cs) nl nl (fun x _ y _ h=>h) (zT (by walk_at"ev")) (by walk_at"cc") rfl (by decide) (by omega) ?_)) (by walk_at"sc") ?_
 ·intro r hr
  exact egn (by walk_at"sc") (EvO.toE (yz (EvL.imm (κ:=false) (by walk_at"ev") (yU r))))
 refine exo true (ds:=r.map fun k:Nat=>.int (k:Int)) (yz (EvL.imm (κ:=false) (EvE.toL (by walk_at"ev")) (yU r))) (by walk_at"sc") ?_
 refine exo true (ds:=kn.map fun k:Nat=>.int (k:Int)) (yz (EvL.imm (κ:=false) (EvE.toL (by walk_at"ev")) (yU kn))) (by walk_at"sc") ?_
 refine exs true (d:=nls ws) (EvC.toE (Uk 4 (by walk_at"gc") (by walk_at"sc") (Uk 5 (by walk_at"gc") (by walk_at"sc") (zbw (by walk_at"ev") pw)))) (by walk_at"sc") ?_
 refine uG (b:=!true || (false || (false || false))) (XA 4 (by walk_at"gc") (by walk_at"sc") (XA 5 (by walk_at"gc") (by walk_at"sc") (vR (xA (et_B (zv (by walk_at"ev") ⟨ws,rfl,rfl⟩))) fun _=>vR (zC (Xv (d:=nls cs) (EvE.toD (κ:=true) (by walk_at"ev")) (EvE.toD (κ:=false) (by walk_at"ev")) (wD cs))) fun _=>vR (zC (Xv (d:=nl r) (EvE.toD (κ:=true) (by walk_at"ev")) (EvE.toD (κ:=false) (by walk_at"ev")) (Ya r))) fun _=>zC (Xv (d:=nl kn) (EvE.toD (κ:=true) (by walk_at"ev")) (EvE.toD (κ:=false) (by walk_at"ev")) (Ya kn))))) rfl ?_
 refine zb6 (by walk_at"gc") (by walk_at"sc") ?_
 refine zb6 (by walk_at"gc") (by walk_at"sc") ?_
 exact yc true (zbu (d:=nls ws) (EvE.toD (κ:=true) (by walk_at"ev")) (EvE.toD (κ:=true) (zv (by walk_at"ev") pu)) (wD ws)) rfl (.inl ⟨rfl,rfl⟩)
theorem zbV {cs:List (List Nat)} {kn:List Nat} {x y:Nat} {l:List Nat}:Dsp.Rt (paC cs) (InL kn) x y l↔Rd cs kn x l∧l.getLast?=some y:=by
 constructor
 ·rintro ⟨a,b,c,d⟩
  exact ⟨⟨a.rev,b,c⟩,d⟩
 ·rintro ⟨⟨a,b,c⟩,d⟩
  exact ⟨by have:=a.rev; rwa [ξz] at this,b,c,d⟩
def vq (cs:List (List Nat)) (a v b:Nat):Bool:=decide (a∈cs.getD v []) && decide (b∈cs.getD v [])
theorem zch (cs:List (List Nat)) (a v b:Nat):vq cs a v b=true↔paC cs a v∧paC cs b v:=by
 unfold vq
 rw [ξF,decide_eq_true_iff,decide_eq_true_iff]
theorem Ts (cs:List (List Nat)):∀ r:List Nat,vN cs r=Dsp.vc (vq cs) r
 | []=>rfl
 | [a]=>rfl
 | [a,v]=>rfl
 | a :: v :: b :: l=>by
  have ih:=Ts cs (v :: b :: l)
  show vN cs (a :: v :: b :: l)=(if vq cs a v b=true then 1 else 0) + Dsp.vc (vq cs) (v :: b :: l)
  rw [← ih]
  unfold vN vsI
  have e1:(a :: v :: b :: l).length - 2=(v :: b :: l).length - 2 + 1:=by simp
  rw [e1,List.range_succ_eq_map,ζ8,List.filter_map,]
  have e2:((fun i=>veeB cs (a :: v :: b :: l) (1 + i))∘Nat.succ)=fun i=>veeB cs (v :: b :: l) (1 + i):=funext fun i=>by
   show veeB cs (a :: v :: b :: l) (1 + (i + 1))=veeB cs (v :: b :: l) (1 + i)
   unfold veeB
   rw [show 1 + (i + 1) - 1=i + 1 by omega,show 1 + (i + 1) + 1=(1 + i + 1) + 1 by omega,show 1 + (i + 1)=(1 + i) + 1 by omega,show 1 + i - 1=i by omega]
   rfl
  have e3:veeB cs (a :: v :: b :: l) (1 + 0)=vq cs a v b:=rfl
  rw [e2,e3]
  split
  ·rw [ζ2,ζb]
   omega
  ·rw [ζb]
   omega
theorem WC {n:Nat} {cs:List (List Nat)} (ok:ShOk n cs) (dg:Dg cs) {kn:List Nat} {x y:Nat} (hx:x < n) {r:List Nat} (h:IsL cs kn x y r):(r ++ tlS ((vsF cs r).map (wysF cs kn))).Nodup∧∀ z∈r ++ tlS ((vsF cs r).map (wysF cs kn)),z < n:=by
 obtain ⟨rk,dg⟩:=dg
 have lt:=h.rd.lt ok hx
 have min:∀ l,Dsp.Rt (paC cs) (InL kn) x y l→Dsp.vc (vq cs) r≤Dsp.vc (vq cs) l:=fun l hl=>by
  obtain ⟨a,b⟩:=zbV.mp hl
  have:=h.ls l a b
  rw [← Ts,← Ts]
  unfold kLt VT at this
  by_cases e:(vN cs l:Int)=(vN cs r:Int)
  ·omega
  ·rw [if_neg e] at this
   have:=of_decide_eq_false this
   omega
 have way:∀ v∈vsF cs r,(∃ A B,Dsp.wB (paC cs) r v A B)∧Dsp.Wy (paC cs) (InL kn) v (wysF cs kn v).tail:=fun v hv=>by
  obtain ⟨w,e,wy,_⟩:=VQ ok lt h.rd.ok hv
  refine ⟨Tr hv,?_⟩
  unfold wysF
  rw [e]
  exact wy
 have e:tlS ((vsF cs r).map (wysF cs kn))=((vsF cs r).map fun v=>(wysF cs kn v).tail).flatten:=by
  unfold tlS
  rw [ζR]
  rfl
 rw [e]
 refine ⟨Dsp.Tm (rk:=rk) (fun a b p=>dg b a p) (zch cs) (zbV.mpr ⟨h.rd,h.en⟩) min (fun v=>(wysF cs kn v).tail) (zdt h.rd.nd) way,fun z hz=>?_⟩
 rcases ζs.mp hz with hz | hz
 ·exact lt z hz
 ·obtain ⟨T,hT,hm⟩:=List.mem_flatten.mp hz
  obtain ⟨v,hv,rfl⟩:=ζr.mp hT
  have wy:=(way v hv).2
  generalize (wysF cs kn v).tail=T at wy hm
  clear hv hT
  induction T generalizing v with
  | nil=>cases hm
  | cons d T ih =>
   rcases ζo.mp hm with rfl | hm
   ·exact (xl ok wy.2.1).2
   ·exact ih d wy.2.2 hm
theorem Vx {n:Nat} {ord:List Nat} (ok:OrdN n ord) {m:Nat} (h1:1≤m) (hm:m≤n):yN (ord.take m)=ord.getD (m - 1) 0∧(ord.take m).length=m∧(ord.take m).getD 0 0=ord.getD 0 0:=by
 have l:(ord.take m).length=m:=by rw [ζS,ok.l]; omega
 refine ⟨?_,l,?_⟩
 ·unfold yN
  rw [l,ζe,ζT (by omega),← ζe]
 ·rw [ζe,ζT (by omega),← ζe]
theorem zcN {r:List Nat} {y:Nat} (h:r.getLast?=some y):yN r=y:=by
 unfold yN
 rw [List.getLast?_eq_getElem?] at h
 rw [ζe,h]
 rfl
theorem zcW {r:List Nat} {x:Nat} (h:r.head?=some x):r.getD 0 0=x:=by
 cases r with
 | nil=>cases h
 | cons a r=>cases h; rfl
theorem zco:zI ["_law_script", "_law_pool_here", "_law_many", "_law_causes", "_law_line_here", "_law_known_here", "_law_road", "_law_ends"] ["_law_script"] (zo (top 39)):=⟨rfl,rfl,rfl,by decide +kernel,rfl,by decide +kernel,by decide +kernel⟩
theorem zcH (F:Fun K "law" "law" (top 39) f fd) (B:Bs mg) (Z:Cs K mg τa τb) (c_law_pool:zF P w K mg base CX0 "_law_pool" ["_law_script", "_law_many"] 1 (spW K true xE)) (c_law_line:zF P w K mg base CX0 "_law_line" ["_law_pool_here", "_law_many"] 2 (spW K true wH)) (c_law_order:zF P w K mg base CX0 "_law_order" ["_law_pool_here", "_law_many"] 1 (spW K true xm)) (c_law_known:zF P w K mg base CX0 "_law_known" ["_law_pool_here", "_law_causes", "_law_line_here"] 2 (spW K true wg)) (c_law_open:zF P w K mg base CX0 "_law_open" ["_law_causes", "_law_road", "_law_known_here"] 2 (spD K true xF)) (c_law_told:zF P w K mg base CX0 "_law_told" ["_law_causes", "_law_road", "_law_known_here"] 5 (spD K true xC)) (c_open_road:zF P w K mg base CX0 "open_road" ["causes", "x", "y", "known"] 9 (spD K true wf)) (c_law_rows:zF P w K mg base CX0 "_law_rows" ["_law_found"] 1 (spD K true xD)) (c_law_apart:zF P w K mg base CX0 "_law_apart" ["_law_road", "_law_rows_here"] 1 (spD K true xo)) (c_law_due:zF P w K mg base CX0 "_law_due" ["_law_causes", "_law_road", "_law_known_here"] 2 (spD K true yW)) (c_downs:zF P w K mg base CX0 "downs" ["causes", "road", "known"] 4 (spD K true xO)):FnOk P w K mg base CX0 10 f fd ["_law_script"] (VZ K):=by
 have sc:=zco
 refine F.ok sc (fun vs H Q E h=>?_) (fun cdv A outer s H vs Q E hr h=>?_)
 ·obtain ⟨a,ns,rfl,_⟩:=h
  rfl
 obtain ⟨a,ns,rfl,hS,h63,k⟩:=h
 have le:Same H H:=Same.refl H
 have dp:zE K H [V.ref a] [PyData.list (ns.map .int)]:=.cons (.lst hS (v8 ns)) .nil
 have q:∀ v H' F',Gr H H H' F'→Rp K false .fresh H F' v (.bool true)→Q v H':=fun v H' F' _ z=>by cases z; exact k H'
 refine ⟨_,(ze (zu (i:=1) sc.nd rfl (Or.inl rfl) (zN c_law_pool (hr.mono (by decide)) rfl zM (zb (pv 0) (zb zg zd))))
   (ze (zu (i:=2) sc.nd rfl (Or.inl rfl) (zw yu zg (zw yA (zz (zh (K:=K) rfl) (pv 1) zg (fun _ _=>rfl)) zg)))
   (ze (zu (i:=3) sc.nd rfl (Or.inl rfl) (zN c_law_line (hr.mono (by decide)) rfl zM (zb (pv 1) (zb (pv 2) zd))))
   (ze (zu (i:=4) sc.nd rfl (Or.inl rfl) (wZ (wT (K:=K) rfl) (zN c_law_order (hr.mono (by decide)) rfl zM (zb (pv 1) (zb (pv 2) zd))) uy (ux (zA (Yz rfl) rfl B.max (by decide +kernel) (zb zg (zb (zw yT (pv 2) (zw yA (zz (zh (K:=K) rfl) (pv 1) zg (fun _ _=>rfl)) zg)) zd))))))
   (ze (zu (i:=5) sc.nd rfl (Or.inl rfl) (zN c_law_known (hr.mono (by decide)) rfl zM (zb (pv 1) (zb (pv 3) (zb (pv 4) zd)))))
   (ze (yD PassesOwn.never rfl (zJ (K:=K) rfl (yb (zb (pv 4) (zb (Wf (K:=K) rfl rfl rfl B.list rfl B.reversed (zb (pv 4) zd)) zd)))) (zH (i:=6) sc.nd rfl (Or.inl rfl)) (zf (yo (PW.pt (wV (yq (zN c_law_open (hr.mono (by decide)) rfl zM (zb (pv 3) (zb (pv 6) (zb (pv 5) zd))))) (x5 (xS (yq (zN c_law_told (hr.mono (by decide)) rfl zM (zb (pv 3) (zb (pv 6) (zb (pv 5) zd))))))))) (zf (zD xu)) zL)))
   (ze (zu (i:=7) sc.nd rfl (Or.inl rfl) (yb (zb (zz (zh (K:=K) rfl) (pv 4) zg (fun _ _=>rfl)) (zb (zz (zh (K:=K) rfl) (pv 4) (uz wC zg) (fun _ _=>rfl)) zd))))
   (ze (yo (zB Yf (zw yA (zz (zh (K:=K) rfl) (pv 1) zg (fun _ _=>rfl)) zg) zg (zU _)) (zf (yp (uB (K:=K) rfl ζu PySem.F.slot_list_reverse PySem.F.type_list_reverse Vn (pv 7)))) zL)
   (ze (zu (i:=6) sc.nd rfl (Or.inl rfl) (zN c_open_road (hr.mono (by decide)) rfl zM (zb (yM rfl (N:=["_law_own"]) (js:=[none]) (by walk_at"comp_ok") (zJ (K:=K) rfl (pv 3)) (fun _ _ _ _=>(zH (i:=0) (show List.Nodup (["_law_own"]:List PySem.Str) by decide +kernel) rfl (Or.inl rfl))) (fun _ _ _ _=>xH) (fun _ _ _ _=>(zW (zS (K:=K) rfl) rfl B.list (by decide +kernel) (zb (pv 0) zd)))) (zb (zz (zh (K:=K) rfl) (pv 7) zg (fun _ _=>rfl)) (zb (zz (zh (K:=K) rfl) (pv 7) zg (fun _ _=>rfl)) (zb (zW (zS (K:=K) rfl) rfl B.list (by decide +kernel) (zb (pv 5) zd)) zd))))))
   (ze (yo (zB zcB (pv 6) t8 (zU _)) (zf (zD xu)) zL)
   (ze (yo (PW.pt (ut (xS (yq (zN c_law_rows (hr.mono (by decide)) rfl zM (zb (yb (zb (pv 6) zd)) zd)))) (ut (zB Ye (zA (zp (K:=K) rfl) rfl B.len (by decide +kernel) (zb (pv 6) zd)) zg (zU _)) (ut (zB Qs (zz (zh (K:=K) rfl) (pv 6) zg (fun _ _=>rfl)) (zz (zh (K:=K) rfl) (pv 7) zg (fun _ _=>rfl)) (zU _)) (tX (zB Qs (zz (zh (K:=K) rfl) (pv 6) (uz wC zg) (fun _ _=>rfl)) (zz (zh (K:=K) rfl) (pv 7) zg (fun _ _=>rfl)) (zU _))))))) (zf (zD xu)) zL)
   (ze (yo (PW.pt (ut (xS (yq (zN c_law_open (hr.mono (by decide)) rfl zM (zb (pv 3) (zb (pv 6) (zb (pv 5) zd)))))) (tX (xS (yq (zN c_law_told (hr.mono (by decide)) rfl zM (zb (pv 3) (zb (pv 6) (zb (pv 5) zd))))))))) (zf (zD xu)) zL)
   (ze (yo (xS (yq (zN c_law_apart (hr.mono (by decide)) rfl zM (zb (pv 6) (zb (zN c_law_due (hr.mono (by decide)) rfl zM (zb (pv 3) (zb (pv 6) (zb (pv 5) zd)))) zd))))) (zf (zD xu)) zL)
   (ze (yp (zN c_downs (hr.mono (by decide)) rfl zM (zb (yM rfl (N:=["_law_own"]) (js:=[none]) (by walk_at"comp_ok") (zJ (K:=K) rfl (pv 3)) (fun _ _ _ _=>(zH (i:=0) (show List.Nodup (["_law_own"]:List PySem.Str) by decide +kernel) rfl (Or.inl rfl))) (fun _ _ _ _=>xH) (fun _ _ _ _=>(zW (zS (K:=K) rfl) rfl B.list (by decide +kernel) (zb (pv 0) zd)))) (zb (wZ (wT (K:=K) rfl) (pv 6) uy (ux zg)) (zb (yb zd) zd)))))
   (zf (zD (zN c_law_told (hr.mono (by decide)) rfl zM (zb (pv 3) (zb (pv 6) (zb (pv 5) zd)))))))))))))))))))),?_⟩
 have hN:(["_law_script", "_law_pool_here", "_law_many", "_law_causes", "_law_line_here", "_law_known_here", "_law_road", "_law_ends"]:List Str).length=8:=rfl
 have big:=zK
 walk_at"run"
 refine exg true (xZ (by walk_at"ev") (show xE [il ns,.int 63] _ from ⟨ns,rfl,h63,rfl⟩)) (fun d=>by walk_at"sc") ?_
 rintro d ⟨ps,hp,rfl⟩
 obtain ⟨u1,a1⟩:=wA (ns:=ps) (i:=1) (by omega) (by omega)
 obtain ⟨u2,a2⟩:=wA (ns:=ps) (i:=2) (by omega) (by omega)
 obtain ⟨u62,a62⟩:=wA (ns:=ps) (i:=62) (by omega) (by omega)
 have h0:=ξf u1 (show (6:Int)≠0 by decide)
 have h1:=ξm u1 (show (0:Int) < 6 by decide)
 obtain ⟨n,hn3⟩:∃ m:Nat,3 + u1 % 6=(m:Int):=⟨(3 + u1 % 6).toNat,by omega⟩
 refine exs true (d:=.int n) (EvE.eq (vk (by walk_at"ev") (yE (zr (κ:=false) (by walk_at"ev") (by walk_at"ev") a1) (by walk_at"ev") (by decide))) (congrArg PyData.int hn3)) (by walk_at"sc") ?_
 refine exg true (xZ (by walk_at"ev") ⟨ps,n,rfl,hp,by omega,by omega,rfl⟩) (fun d=>by walk_at"sc") ?_
 rintro d ⟨cs,ok,dg,nd,tt,rfl⟩
 have e0:=ξf u2 (show (5:Int)≠0 by decide)
 obtain ⟨m,hm,mn,m2⟩:∃ m:Nat,max 2 ((n:Int) - u2 % 5)=(m:Int)∧m≤n∧2≤m:=⟨(max 2 ((n:Int) - u2 % 5)).toNat,by omega,by omega,by omega⟩
 refine exg true (U9 (hi:=some (m:Int)) (xZ (by walk_at"ev") ⟨ps,n,rfl,hp,by omega,rfl⟩) (fun d ⟨ord,_,e⟩=>⟨_,e⟩) vJ (vI (EvE.eq (Ui (by walk_at"ev") (wN (by walk_at"ev") (yE (zr (κ:=false) (by walk_at"ev") (by walk_at"ev") a2) (by walk_at"ev") (by decide)))) (congrArg PyData.int hm)))) (fun d=>by walk_at"sc") ?_
 rintro d ⟨xs,⟨ord,ook,e⟩,rfl⟩
 cases PyData.list.inj e
 rw [XB]
 obtain ⟨t1,t2,t3⟩:=Vx ook (show 1≤m by omega) mn
 have tlt:∀ z∈ord.take m,z < n:=fun z hz=>ook.e z (List.mem_of_mem_take hz)
 have tne:(ord.take m).getD 0 0≠yN (ord.take m):=by rw [t3,t1]; exact ook.ne (by omega) (by omega) (by omega)
 generalize ord.take m=li at t1 t2 t3 tlt tne
 have lf:atI (li.map fun k:Nat=>PyData.int (k:Int)) (0:Int)=some (.int (li.getD 0 0:Nat)):=yC (r:=li) (show 0 < li.length by omega)
 have la:=Zy (r:=li) (by omega)
 have m0:li.getD 0 0 < n:=tlt _ (ζj (getD_some (d:=0) (show 0 < li.length by omega)))
 have m1:yN li < n:=tlt _ (ζj (getD_some (d:=0) (show li.length - 1 < li.length by omega)))
 refine exg true (xZ (by walk_at"ev") ⟨n,cs,li,ps,rfl,ok,by omega,tlt,by omega,by omega,hp,rfl⟩) (fun d=>by walk_at"sc") ?_
 rintro d ⟨kn,hk,kl,rfl⟩
 have po:∀ {r:List Nat},(∀ z∈r,z < n)→1≤r.length→r.length≤1000→xF [nls cs,nl r,nl kn] (.bool (opnB cs kn r)):=fun {r} h1 h2 h3=>⟨n,cs,r,kn,rfl,ok,by omega,h1,h2,h3,fun z hz=>(hk z hz).1,by omega,rfl⟩
 have pt:∀ {r:List Nat},(∀ z∈r,z < n)→r.length≤1000→opnB cs kn r=true→xC [nls cs,nl r,nl kn] (.bool true):=fun {r} h1 h2 h3=>⟨n,cs,r,kn,rfl,ok,dg,by omega,tt,h1,h2,(zdA h3).1,by omega,rfl⟩
 have rlt:∀ z∈li.reverse,z < n:=fun z hz=>tlt z (ξc.mp hz)
 have two:∀ r∈[li,li.reverse],(∀ z∈r,z < n)∧r.length=m:=fun r hr=>by
  rcases ζo.mp hr with hr | hr
  ·rw [hr]; exact ⟨tlt,t2⟩
  ·rw [ζf.mp hr]; exact ⟨rlt,by rw [List.length_reverse]; exact t2⟩
 refine wx (ds:=[li,li.reverse].map nl) true (fun i Γ=>∃ u,Γ=[some (.fz false (il ns)),some (.fz true (il ps)),some (.fz true (.int n)),some (.fz true (nls cs)),some (.fz true (nl li)),some (.fz true (nl kn)),u,none]) (zT (EvO.toE (EvO.eq (zQ (ds:=[nl li,nl li.reverse]) (zk (by walk_at"ev") (zk (EvO.toE (EvO.eq (vh (by walk_at"ev")) (by rw [List.map_reverse]))) zG)) (by show 2≤sizeLine; omega)) rfl))) ⟨none,rfl⟩ ?_ ?_
 ·rintro i d Γ' hd ⟨u,rfl⟩
  obtain ⟨r,hr,rfl⟩:=xr hd
  obtain ⟨r1,r2⟩:=two r (ζj hr)
  refine ⟨_,egn (by walk_at"sc") ?_⟩
  refine wz (b:=opnB cs kn r && !true) (wO (et_B (zv (by walk_at"ev") (po r1 (by omega) (by omega)))) fun h=>xA (et_B (zv (by walk_at"ev") (pt r1 (by omega) h)))) (fun h=>?_) (fun _=>yx ⟨_,rfl⟩)
  rw [Bool.not_true,Bool.and_false] at h
  cases h
 rintro Γ' ⟨u,rfl⟩
 refine exo true (ds:=[li.getD 0 0,yN li].map fun k:Nat=>.int (k:Int)) (EvO.eq (zQ (ds:=[.int (li.getD 0 0:Nat),.int (yN li:Nat)]) (zk (EvE.imm (κ:=false) (zr (κ:=false) (by walk_at"ev") (by walk_at"ev") lf) rfl) (zk (EvE.imm (κ:=false) (zr (κ:=false) (by walk_at"ev") (vj (i:=1) (by walk_at"ev")) la) rfl) zG)) (by show 2≤sizeLine; omega)) rfl) (by walk_at"sc") ?_
 refine exif (b:=decide (u62 % 5=3)) (fun Γ=>∃ x y:Nat,x < n∧y < n∧x≠y∧x∉kn∧Γ=[some (.fz false (il ns)),some (.fz true (il ps)),some (.fz true (.int n)),some (.fz true (nls cs)),some (.fz true (nl li)),some (.fz true (nl kn)),u,some (.ow true ([x,y].map fun k:Nat=>.int (k:Int)))]) (zC (v7 (yE (zr (κ:=false) (by walk_at"ev") (by walk_at"ev") a62) (by walk_at"ev") (by decide)) (by walk_at"ev"))) (fun _=>?_) (fun _=>yx ⟨li.getD 0 0,yN li,m0,m1,tne,fun z=>(hk _ z).2.1 rfl,rfl⟩) ?_
 ·refine zcZ (by walk_at"gc") (by walk_at"sc") ?_
  exact ⟨yN li,li.getD 0 0,m1,m0,fun z=>tne z.symm,fun z=>(hk _ z).2.2 rfl,rfl⟩
 rintro Γ' ⟨x,y,hx,hy,xy,xk,rfl⟩
 refine exfz 7 (by walk_at"gc") (by walk_at"sc") ?_
 have cl:=ok.l
 have kle:kn.length≤1000:=by omega
 refine exs true (d:=rdD (ordF cs kn x y)) (zv (zk (EvO.toE (xz (κ:=false) (κ':=false) (is:=[0]) (xs:=cs) nl nl (fun x _ y _ h=>h) (zT (by walk_at"ev")) (by walk_at"cc") rfl (by decide) (by omega) ?_)) (zk (zr (κ:=false) (i:=0) (ds:=[x,y].map fun k:Nat=>.int (k:Int)) (by walk_at"ev") (by walk_at"ev") rfl) (zk (zr (κ:=false) (i:=1) (ds:=[x,y].map fun k:Nat=>.int (k:Int)) (by walk_at"ev") (by walk_at"ev") rfl) (zk (EvO.toE (yz (by walk_at"ev"))) zG)))) ⟨n,cs,x,y,kn,rfl,ok,dg,nd,by omega,tt,hx,xk,fun z hz=>(hk z hz).1,kle,rfl⟩) (by walk_at"sc") ?_
 ·intro r hr
  exact egn (by walk_at"sc") (EvO.toE (yz (EvL.imm (κ:=false) (by walk_at"ev") (yU r))))
 cases ho:ordF cs kn x y with
 | none =>
  refine vQ (b:=isNone (rdD none)) (zC (VF (EvE.toD (κ:=true) (by walk_at"ev")))) (fun _=>?_) (fun h=>by cases h)
  exact exrs true (by walk_at"ev") rfl (.inr rfl)
 | some r =>
  have il:=zaZ ho
  have rlt:=il.rd.lt ok hx
  have rl:=il.rd.len ok hx
  have r1:=il.rd.pos
  have r2:2≤r.length:=Classical.byContradiction fun z=>by
   have e:=il.rd.only (show r.length=1 by omega)
   have:=il.en
   rw [e] at this
   exact xy (ζI this)
  have on:=Qr ⟨il.rd.ok,il.rd.nd⟩
  obtain ⟨ap,alt⟩:=WC ok dg hx il
  have dd:=Um ok rlt il.rd.ok
  have pu:yW [nls cs,nl r,nl kn] (nls ((vsF cs r).map (wysF cs kn))):=⟨n,cs,r,kn,rfl,ok,dg,by omega,tt,rlt,by omega,dd.symm⟩
  have pa:xo [nl r,nls ((vsF cs r).map (wysF cs kn))] (.bool true):=⟨r,_,rfl,ap,ζU (wj n _ ap alt) (by omega),rfl⟩
  generalize (vsF cs r).map (wysF cs kn)=ws at pu pa
  have af:atI (r.map fun k:Nat=>PyData.int (k:Int)) (0:Int)=some (.int (r.getD 0 0:Nat)):=yC (r:=r) (show 0 < r.length by omega)
  rw [zcW il.rd.hd] at af
  have al:=Zy (r:=r) (by omega)
  rw [zcN il.en] at al
  have er:PyData.int (((r.map fun k:Nat=>PyData.int (k:Int)).length:Nat):Int)=.int (r.length:Int):=by rw [ζb]
  refine uG (b:=isNone (nl r)) (zC (VF (EvE.toD (κ:=true) (by walk_at"ev")))) rfl ?_
  refine uG (b:=!true || (decide ((r.length:Int) < 2) || (!decide ((x:Int)=(x:Int)) || !decide ((y:Int)=(y:Int))))) (vR (xA (et_B (zv (ds:=[nls [r]]) (zk (EvE.eq (EvO.toE (zQ (ds:=[nl r]) (zk (by walk_at"ev") zG) (by show 1≤sizeLine; omega))) rfl) zG) ⟨[r],rfl,rfl⟩))) fun _=>vR (zC (Zm (EvE.eq (yg (ds:=r.map fun k:Nat=>.int (k:Int)) (EvE.toL (by walk_at"ev"))) er) (by walk_at"ev"))) fun _=>vR (zC (Xw (zr (κ:=false) (EvE.toL (by walk_at"ev")) (by walk_at"ev") af) (zr (κ:=false) (i:=0) (ds:=[x,y].map fun k:Nat=>.int (k:Int)) (by walk_at"ev") (by walk_at"ev") rfl))) fun _=>zC (Xw (zr (κ:=false) (EvE.toL (by walk_at"ev")) (vj (i:=1) (by walk_at"ev")) al) (zr (κ:=false) (i:=1) (ds:=[x,y].map fun k:Nat=>.int (k:Int)) (by walk_at"ev") (by walk_at"ev") rfl))) (by rw [decide_eq_false (by omega)]; simp) ?_
  refine uG (b:=!opnB cs kn r || !true) (vR (xA (et_B (zv (by walk_at"ev") (po rlt (by omega) (by omega))))) fun _=>xA (et_B (zv (by walk_at"ev") (pt rlt (by omega) on)))) (by rw [on]; rfl) ?_
  refine uG (b:=!true) (xA (et_B (zv (zk (by walk_at"ev") (zk (zv (by walk_at"ev") pu) zG)) pa))) rfl ?_
  have sl:∀ z∈r.take 2,z < n:=fun z hz=>rlt z (List.mem_of_mem_take hz)
  have pw:xO [nls cs,nl (r.take 2),nl []] (.list ((vsF cs (r.take 2)).map fun v=>rdD (wdF cs [] v))):=⟨n,cs,r.take 2,[],rfl,ok,by omega,sl,by rw [ζS]; omega,rfl⟩
  refine Q4 (zv (zk (EvO.toE (xz (κ:=false) (κ':=false) (is:=[0]) (xs:=cs) nl nl (fun x _ y _ h=>h) (zT (by walk_at"ev")) (by walk_at"cc") rfl (by decide) (by omega) ?_)) (zk (EvO.toE (EvO.eq (xQ (ds:=r.map fun k:Nat=>.int (k:Int)) (hi:=some ((2:Nat):Int)) (EvE.toL (by walk_at"ev")) vJ (vI (show EvE K .fresh false _ _ (.int 2) by walk_at"ev"))) (XB _ r 2))) (zk (EvO.toE (zQ (ds:=[]) zG (by decide))) zG))) pw) ?_
  ·intro r hr
   exact egn (by walk_at"sc") (EvO.toE (yz (EvL.imm (κ:=false) (by walk_at"ev") (yU r))))
  exact yc true (zv (by walk_at"ev") (pt rlt (by omega) on)) rfl (.inr rfl)
end
theorem zdm {l:PySem.W.OpenLaw} {w:World} {K:ζa} {h:Heap} {mg:Str→Option Value} {fa:Addr} (X:K.In h) (G:h.Ns mainGlobals mg) (hfa:mg "law" = some (.ref fa))
  (d1:∃ f fd,At K "meet" (top 1) f fd) (d2:∃ f fd,At K "effects" (top 2) f fd) (d4:∃ f fd,At K "gathered" (top 4) f fd) (d3:∃ f fd,AtL K "beneath" (top 3) f fd) (d5:∃ f fd,At K "steps_down" (top 5) f fd) (d6:∃ f fd,At K "nearer" (top 6) f fd) (d7:∃ f fd,At K "way_down" (top 7) f fd) (d11:∃ f fd,At K "steps_from" (top 11) f fd) (d12:∃ f fd,AtL K "reach" (top 12) f fd) (d13:∃ f fd,At K "reached_things" (top 13) f fd) (d14:∃ f fd,At K "barred" (top 14) f fd) (d16:∃ f fd,At K "neighbours" (top 16) f fd) (d17:∃ f fd,At K "is_vee" (top 17) f fd) (d18:∃ f fd,At K "inner_places" (top 18) f fd) (d19:∃ f fd,At K "vees" (top 19) f fd) (d20:∃ f fd,At K "bars_at" (top 20) f fd) (d21:∃ f fd,At K "downs" (top 21) f fd) (d24:∃ f fd,At K "goes_on" (top 24) f fd) (d23:∃ f fd,At K "all_longer" (top 23) f fd) (d22:∃ f fd,At K "open_road" (top 22) f fd) (d26:∃ f fd,At K "_law_pool" (top 26) f fd) (d27:∃ f fd,At K "_law_order" (top 27) f fd) (d29:∃ f fd,At K "_law_above" (top 29) f fd) (d30:∃ f fd,At K "_law_line" (top 30) f fd) (d31:∃ f fd,At K "_law_vee" (top 31) f fd) (d32:∃ f fd,At K "_law_known" (top 32) f fd) (d33:∃ f fd,At K "_law_rows" (top 33) f fd) (d34:∃ f fd,At K "_law_open" (top 34) f fd) (d35:∃ f fd,At K "_law_down" (top 35) f fd) (d36:∃ f fd,At K "_law_due" (top 36) f fd) (d37:∃ f fd,At K "_law_apart" (top 37) f fd) (d38:∃ f fd,At K "_law_told" (top 38) f fd)
  {f0:Addr} {oc:Value} {od an:Option Addr} {osl:Array (Option Value)} {kV doc pm cdv ct:Value} (a0:PySem.W.nsIn K mainGlobals "law" = some (some (.ref f0)))
  (l0:K.lookup f0=some ⟨oc,od,.func (PySem.W.fnOf "law" "law" (x8 (top 39)) (xt (top 39)) (zo (top 39)) .none kV doc pm an cdv ct),osl⟩) (c0:PySem.W.codeIn K cdv "law" = true) (k0:PySem.W.keepIn K (.ref f0)=true)
  (z1:PySem.W.nsIn K mainGlobals "len" = some none) (z2:PySem.W.nsIn K mainGlobals "set" = some none) (z3:PySem.W.nsIn K mainGlobals "range" = some none) (z4:PySem.W.nsIn K mainGlobals "list" = some none) (z5:PySem.W.nsIn K mainGlobals "sorted" = some none) (z6:PySem.W.nsIn K mainGlobals "min" = some none) (z7:PySem.W.nsIn K mainGlobals "max" = some none) (z8:PySem.W.nsIn K mainGlobals "isinstance" = some none) (z9:PySem.W.nsIn K mainGlobals "int" = some none) (z10:PySem.W.nsIn K mainGlobals "bool" = some none) (z11:PySem.W.nsIn K mainGlobals "reversed" = some none)
  {τa τb:Tok} (y_AGAINST:PySem.W.nsIn K mainGlobals "AGAINST" = some (some (.int 0 τa))) (y_ALONG:PySem.W.nsIn K mainGlobals "ALONG" = some (some (.int 1 τb))) (nt:tj K=true) :
  ∃ fd:FuncData,(∀ (s:Shared) (v:Value),BindsTo s fd ⟨[v],[]⟩ [("_law_script", v)])∧∀ base:Heap,K.In base→base.Ns mainGlobals mg→FnOk l.prog w K mg base CX0 10 fa fd ["_law_script"] (VZ K):=by
 have e:=hfa.symm.trans (PySem.W.mg_of X G a0)
 cases e
 have nn:∀ {x:Str},PySem.W.nsIn K mainGlobals x=some none→mg x=none:=fun z=>PySem.W.mg_none_of X G z
 have B:Bs mg:=⟨nn z1,nn z2,nn z3,nn z4,nn z5,nn z6,nn z7,nn z8,nn z9,nn z10,nn z11⟩
 refine ⟨PySem.W.fnOf "law" "law" (x8 (top 39)) (xt (top 39)) (zo (top 39)) .none kV doc pm an cdv ct,fun s v=>.of_eq rfl,fun base _ _=>?_⟩
 have mm:∀ {x:Str} {f:Addr},PySem.W.nsIn K mainGlobals x=some (some (.ref f))→mg x=some (.ref f):=fun z=>PySem.W.mg_of X G z
 have Z:Cs K mg τa τb:=⟨PySem.W.mg_of X G y_AGAINST,PySem.W.mg_of X G y_ALONG,nt⟩
 obtain ⟨f1,g1,a1,F1⟩:=d1
 have b1:=F1.binds (ps:=["some", "others"]) fun _ _ _ _ _ _ us hl=>match us,hl with | [_,_],_=>rfl
 have C_meet:=zR (P:=l.prog) (w:=w) (base:=base) F1 (mm a1) b1 (za5 F1 B Z)
 obtain ⟨f2,g2,a2,F2⟩:=d2
 have b2:=F2.binds (ps:=["causes", "k"]) fun _ _ _ _ _ _ us hl=>match us,hl with | [_,_],_=>rfl
 have C_effects:=zR (P:=l.prog) (w:=w) (base:=base) F2 (mm a2) b2 (Vi F2 B Z)
 obtain ⟨f4,g4,a4,F4⟩:=d4
 have b4:=F4.binds (ps:=["some", "nexts"]) fun _ _ _ _ _ _ us hl=>match us,hl with | [_,_],_=>rfl
 have C_gathered:=zR (P:=l.prog) (w:=w) (base:=base) F4 (mm a4) b4 (Wo F4 B Z)
 obtain ⟨f3,g3,a3,F3,L3⟩:=d3
 have b3:=F3.binds (ps:=["causes", "some"]) fun _ _ _ _ _ _ us hl=>match us,hl with | [_,_],_=>rfl
 have C_beneath:=zR (P:=l.prog) (w:=w) (base:=base) F3 (mm a3) b3 (Vj F3 L3 B Z C_gathered C_effects)
 obtain ⟨f5,g5,a5,F5⟩:=d5
 have b5:=F5.binds (ps:=["causes", "some", "within"]) fun _ _ _ _ _ _ us hl=>match us,hl with | [_,_,_],_=>rfl
 have C_steps_down:=zR (P:=l.prog) (w:=w) (base:=base) F5 (mm a5) b5 (ZR F5 B Z C_meet C_effects)
 obtain ⟨f6,g6,a6,F6⟩:=d6
 have b6:=F6.binds (ps:=["causes", "steps", "k"]) fun _ _ _ _ _ _ us hl=>match us,hl with | [_,_,_],_=>rfl
 have C_nearer:=zR (P:=l.prog) (w:=w) (base:=base) F6 (mm a6) b6 (UO F6 B Z C_effects)
 obtain ⟨f7,g7,a7,F7⟩:=d7
 have b7:=F7.binds (ps:=["causes", "k", "some"]) fun _ _ _ _ _ _ us hl=>match us,hl with | [_,_,_],_=>rfl
 have C_way_down:=zR (P:=l.prog) (w:=w) (base:=base) F7 (mm a7) b7 (Wh F7 B Z C_steps_down C_nearer)
 obtain ⟨f11,g11,a11,F11⟩:=d11
 have b11:=F11.binds (ps:=["causes", "known", "pair"]) fun _ _ _ _ _ _ us hl=>match us,hl with | [_,_,_],_=>rfl
 have C_steps_from:=zR (P:=l.prog) (w:=w) (base:=base) F11 (mm a11) b11 (ZQ F11 B Z C_effects)
 obtain ⟨f12,g12,a12,F12,L12⟩:=d12
 have b12:=F12.binds (ps:=["causes", "x", "known"]) fun _ _ _ _ _ _ us hl=>match us,hl with | [_,_,_],_=>rfl
 have C_reach:=zR (P:=l.prog) (w:=w) (base:=base) F12 (mm a12) b12 (Qt F12 L12 B Z C_gathered C_steps_from)
 obtain ⟨f13,g13,a13,F13⟩:=d13
 have b13:=F13.binds (ps:=["causes", "x", "known"]) fun _ _ _ _ _ _ us hl=>match us,hl with | [_,_,_],_=>rfl
 have C_reached_things:=zR (P:=l.prog) (w:=w) (base:=base) F13 (mm a13) b13 (uD F13 B Z C_reach)
 obtain ⟨f14,g14,a14,F14⟩:=d14
 have b14:=F14.binds (ps:=["causes", "x", "y", "known"]) fun _ _ _ _ _ _ us hl=>match us,hl with | [_,_,_,_],_=>rfl
 have C_barred:=zR (P:=l.prog) (w:=w) (base:=base) F14 (mm a14) b14 (UQ F14 B Z C_reached_things)
 obtain ⟨f16,g16,a16,F16⟩:=d16
 have b16:=F16.binds (ps:=["causes", "k"]) fun _ _ _ _ _ _ us hl=>match us,hl with | [_,_],_=>rfl
 have C_neighbours:=zR (P:=l.prog) (w:=w) (base:=base) F16 (mm a16) b16 (ZS F16 B Z C_effects)
 obtain ⟨f17,g17,a17,F17⟩:=d17
 have b17:=F17.binds (ps:=["causes", "road", "place"]) fun _ _ _ _ _ _ us hl=>match us,hl with | [_,_,_],_=>rfl
 have C_is_vee:=zR (P:=l.prog) (w:=w) (base:=base) F17 (mm a17) b17 (UP F17 B Z)
 obtain ⟨f18,g18,a18,F18⟩:=d18
 have b18:=F18.binds (ps:=["road"]) fun _ _ _ _ _ _ us hl=>match us,hl with | [_],_=>rfl
 have C_inner_places:=zR (P:=l.prog) (w:=w) (base:=base) F18 (mm a18) b18 (tE F18 B Z)
 obtain ⟨f19,g19,a19,F19⟩:=d19
 have b19:=F19.binds (ps:=["causes", "road"]) fun _ _ _ _ _ _ us hl=>match us,hl with | [_,_],_=>rfl
 have C_vees:=zR (P:=l.prog) (w:=w) (base:=base) F19 (mm a19) b19 (za4 F19 B Z C_inner_places C_is_vee)
 obtain ⟨f20,g20,a20,F20⟩:=d20
 have b20:=F20.binds (ps:=["causes", "road", "place", "known"]) fun _ _ _ _ _ _ us hl=>match us,hl with | [_,_,_,_],_=>rfl
 have C_bars_at:=zR (P:=l.prog) (w:=w) (base:=base) F20 (mm a20) b20 (Vk F20 B Z C_is_vee C_meet C_beneath)
 obtain ⟨f21,g21,a21,F21⟩:=d21
 have b21:=F21.binds (ps:=["causes", "road", "known"]) fun _ _ _ _ _ _ us hl=>match us,hl with | [_,_,_],_=>rfl
 have C_downs:=zR (P:=l.prog) (w:=w) (base:=base) F21 (mm a21) b21 (Qv F21 B Z C_vees C_way_down)
 obtain ⟨f24,g24,a24,F24⟩:=d24
 have b24:=F24.binds (ps:=["causes", "road", "known"]) fun _ _ _ _ _ _ us hl=>match us,hl with | [_,_,_],_=>rfl
 have C_goes_on:=zR (P:=l.prog) (w:=w) (base:=base) F24 (mm a24) b24 (Vh F24 B Z C_bars_at)
 obtain ⟨f23,g23,a23,F23⟩:=d23
 have b23:=F23.binds (ps:=["causes", "roads", "known"]) fun _ _ _ _ _ _ us hl=>match us,hl with | [_,_,_],_=>rfl
 have C_all_longer:=zR (P:=l.prog) (w:=w) (base:=base) F23 (mm a23) b23 (ZT F23 B Z C_neighbours C_goes_on)
 obtain ⟨f22,g22,a22,F22⟩:=d22
 have b22:=F22.binds (ps:=["causes", "x", "y", "known"]) fun _ _ _ _ _ _ us hl=>match us,hl with | [_,_,_,_],_=>rfl
 have C_open_road:=zR (P:=l.prog) (w:=w) (base:=base) F22 (mm a22) b22 (Y4 F22 B Z C_barred C_all_longer C_vees)
 obtain ⟨f26,g26,a26,F26⟩:=d26
 have b26:=F26.binds (ps:=["_law_script", "_law_many"]) fun _ _ _ _ _ _ us hl=>match us,hl with | [_,_],_=>rfl
 have C__law_pool:=zR (P:=l.prog) (w:=w) (base:=base) F26 (mm a26) b26 (Wk F26 B Z)
 obtain ⟨f27,g27,a27,F27⟩:=d27
 have b27:=F27.binds (ps:=["_law_pool_here", "_law_many"]) fun _ _ _ _ _ _ us hl=>match us,hl with | [_,_],_=>rfl
 have C__law_order:=zR (P:=l.prog) (w:=w) (base:=base) F27 (mm a27) b27 (Y5 F27 B Z)
 obtain ⟨f29,g29,a29,F29⟩:=d29
 have b29:=F29.binds (ps:=["_law_causes", "_law_some"]) fun _ _ _ _ _ _ us hl=>match us,hl with | [_,_],_=>rfl
 have C__law_above:=zR (P:=l.prog) (w:=w) (base:=base) F29 (mm a29) b29 (Y8 F29 B Z)
 obtain ⟨f30,g30,a30,F30⟩:=d30
 have b30:=F30.binds (ps:=["_law_pool_here", "_law_many"]) fun _ _ _ _ _ _ us hl=>match us,hl with | [_,_],_=>rfl
 have C__law_line:=zR (P:=l.prog) (w:=w) (base:=base) F30 (mm a30) b30 (Wm F30 B Z C__law_order C__law_above)
 obtain ⟨f31,g31,a31,F31⟩:=d31
 have b31:=F31.binds (ps:=["_law_causes", "_law_road", "_law_at"]) fun _ _ _ _ _ _ us hl=>match us,hl with | [_,_,_],_=>rfl
 have C__law_vee:=zR (P:=l.prog) (w:=w) (base:=base) F31 (mm a31) b31 (Vf F31 B Z)
 obtain ⟨f32,g32,a32,F32⟩:=d32
 have b32:=F32.binds (ps:=["_law_pool_here", "_law_causes", "_law_line_here"]) fun _ _ _ _ _ _ us hl=>match us,hl with | [_,_,_],_=>rfl
 have C__law_known:=zR (P:=l.prog) (w:=w) (base:=base) F32 (mm a32) b32 (Y6 F32 B Z C__law_vee)
 obtain ⟨f33,g33,a33,F33⟩:=d33
 have b33:=F33.binds (ps:=["_law_found"]) fun _ _ _ _ _ _ us hl=>match us,hl with | [_],_=>rfl
 have C__law_rows:=zR (P:=l.prog) (w:=w) (base:=base) F33 (mm a33) b33 (Wj F33 B Z)
 obtain ⟨f34,g34,a34,F34⟩:=d34
 have b34:=F34.binds (ps:=["_law_causes", "_law_road", "_law_known_here"]) fun _ _ _ _ _ _ us hl=>match us,hl with | [_,_,_],_=>rfl
 have C__law_open:=zR (P:=l.prog) (w:=w) (base:=base) F34 (mm a34) b34 (Wl F34 B Z C__law_above C__law_vee)
 obtain ⟨f35,g35,a35,F35⟩:=d35
 have b35:=F35.binds (ps:=["_law_causes", "_law_k", "_law_known_here"]) fun _ _ _ _ _ _ us hl=>match us,hl with | [_,_,_],_=>rfl
 have C__law_down:=zR (P:=l.prog) (w:=w) (base:=base) F35 (mm a35) b35 (Wn F35 B Z)
 obtain ⟨f36,g36,a36,F36⟩:=d36
 have b36:=F36.binds (ps:=["_law_causes", "_law_road", "_law_known_here"]) fun _ _ _ _ _ _ us hl=>match us,hl with | [_,_,_],_=>rfl
 have C__law_due:=zR (P:=l.prog) (w:=w) (base:=base) F36 (mm a36) b36 (Vg F36 B Z C__law_vee C__law_down)
 obtain ⟨f37,g37,a37,F37⟩:=d37
 have b37:=F37.binds (ps:=["_law_road", "_law_rows_here"]) fun _ _ _ _ _ _ us hl=>match us,hl with | [_,_],_=>rfl
 have C__law_apart:=zR (P:=l.prog) (w:=w) (base:=base) F37 (mm a37) b37 (Y7 F37 B Z)
 obtain ⟨f38,g38,a38,F38⟩:=d38
 have b38:=F38.binds (ps:=["_law_causes", "_law_road", "_law_known_here"]) fun _ _ _ _ _ _ us hl=>match us,hl with | [_,_,_],_=>rfl
 have C__law_told:=zR (P:=l.prog) (w:=w) (base:=base) F38 (mm a38) b38 (Wi F38 B Z C_downs C__law_rows C__law_due)
 exact zcH (VB l0 c0 k0) B Z C__law_pool C__law_line C__law_order C__law_known C__law_open C__law_told C_open_road C__law_rows C__law_apart C__law_due C_downs
theorem walk {l:PySem.W.OpenLaw} {q:Program} {loose:List Str} {XP:(Str→Option Value)→Heap→Prop} {YP:World→Heap→Prop} {d:DefRec} {K:Params→ζa} (hn:l.most=some 63) (hdf:d.params.defaults=[])
  (hY:∀ (w:World) (h:Heap),YP w h→(K w.params).In h) (hT:∀ (w:World) (h:Heap),YP w h→(∀ p∈yn (K w.params),h.get? p.1=some (PySem.W.tabObj #[]))∧YG (K w.params)=true)
  (F:∀ (w:World) (mg:Str→Option Value) (fa:Addr) (h:Heap),(K w.params).In h→h.Ns mainGlobals mg→mg d.name=some (.ref fa) →
   ∃ fd:FuncData,(∀ (s:Shared) (u:Value),BindsTo s fd ⟨[u],[]⟩ [("_law_script", u)])∧∀ base:Heap,(K w.params).In base→base.Ns mainGlobals mg→FnOk l.prog w (K w.params) mg base CX0 10 fa fd ["_law_script"] (VZ (K w.params))) :
  PySem.W.WalkO q loose XP YP l.row.toRowW d [] (fun f vs=>PySem.call f vs) :=
 L2.zaz (n:=63) (k:=10) (x := "_law_script") (CX:=fun _=>CX0) (sp:=fun w=>VZ (K w.params)) hn (by decide) hdf ⟨rfl,by decide,by decide⟩ hY hT F (fun _ _ a ns hl hS=>⟨a,ns,rfl,hS,hl,fun _=>rfl⟩) fun _ _ _ _ _ z=>z
end K38
def PySem.W.Fast.tw3617864613409473051 : PySem.Program := PySem.Challenge.pw_causebook_k38_downs_apart
theorem PySem.W.Fast.te3617864613409473051 : PySem.Challenge.pw_causebook_k38_downs_apart = PySem.W.Fast.tw3617864613409473051 := rfl
def PySem.W.Fast.tw9166839977926673171 : Nat := 0
def PySem.W.Fast.tw10286366757314699672 : Nat := 0
def PySem.W.Fast.tw12809030760941623406 : Nat := 0
def PySem.W.Fast.tw159619121421544876 : Nat := 0
def PySem.W.Fast.tw13681606127801935183 : Nat := 0
def PySem.W.Fast.tw3341710114502653652 : Nat := 0
open PySem PySem.W PyProof.Rows
set_option maxRecDepth 100000 in
set_option maxHeartbeats 0 in
theorem PySem.Challenge.cw_causebook_k38_downs_apart_holds : PySem.Challenge.rw_causebook_k38_downs_apart.Holds := by
 w_on; o_law; k_head; (case hw=>w_witness2)
 k_fill
 refine K38.walk (l:=PySem.Challenge.rw_causebook_k38_downs_apart) rfl rfl (fun w h Y=>PySem.W.km_in_of Y) (fun w h Y=>⟨zaF (PySem.W.km_tabs_of Y) (by kernel_rfl),by kernel_rfl⟩) ?F
 case F =>
  intro w mg fa h KX G hmg
  refine' K38.zdm KX G hmg ?d1 ?d2 ?d4 ?d3 ?d5 ?d6 ?d7 ?d11 ?d12 ?d13 ?d14 ?d16 ?d17 ?d18 ?d19 ?d20 ?d21 ?d24 ?d23 ?d22 ?d26 ?d27 ?d29 ?d30 ?d31 ?d32 ?d33 ?d34 ?d35 ?d36 ?d37 ?d38 ?a0 ?l0 ?c0 ?k0 ?z1 ?z2 ?z3 ?z4 ?z5 ?z6 ?z7 ?z8 ?z9 ?z10 ?z11 ?y_AGAINST ?y_ALONG ?nt
  (case d1=>(refine' Cm.zY ?a ?l ?c ?k; (case a=>k_is); (case l=>k_is); (case c=>k_is); (case k=>k_is)))
  (case d2=>(refine' Cm.zY ?a ?l ?c ?k; (case a=>k_is); (case l=>k_is); (case c=>k_is); (case k=>k_is)))
  (case d4=>(refine' Cm.zY ?a ?l ?c ?k; (case a=>k_is); (case l=>k_is); (case c=>k_is); (case k=>k_is)))
  (case d3=>(refine' Cm.VW ?a ?l ?c ?k ?m; (case a=>k_is); (case l=>k_is); (case c=>k_is); (case k=>k_is); (case m=>kernel_rfl)))
  (case d5=>(refine' Cm.zY ?a ?l ?c ?k; (case a=>k_is); (case l=>k_is); (case c=>k_is); (case k=>k_is)))
  (case d6=>(refine' Cm.zY ?a ?l ?c ?k; (case a=>k_is); (case l=>k_is); (case c=>k_is); (case k=>k_is)))
  (case d7=>(refine' Cm.zY ?a ?l ?c ?k; (case a=>k_is); (case l=>k_is); (case c=>k_is); (case k=>k_is)))
  (case d11=>(refine' Cm.zY ?a ?l ?c ?k; (case a=>k_is); (case l=>k_is); (case c=>k_is); (case k=>k_is)))
  (case d12=>(refine' Cm.VW ?a ?l ?c ?k ?m; (case a=>k_is); (case l=>k_is); (case c=>k_is); (case k=>k_is); (case m=>kernel_rfl)))
  (case d13=>(refine' Cm.zY ?a ?l ?c ?k; (case a=>k_is); (case l=>k_is); (case c=>k_is); (case k=>k_is)))
  (case d14=>(refine' Cm.zY ?a ?l ?c ?k; (case a=>k_is); (case l=>k_is); (case c=>k_is); (case k=>k_is)))
  (case d16=>(refine' Cm.zY ?a ?l ?c ?k; (case a=>k_is); (case l=>k_is); (case c=>k_is); (case k=>k_is)))
  (case d17=>(refine' Cm.zY ?a ?l ?c ?k; (case a=>k_is); (case l=>k_is); (case c=>k_is); (case k=>k_is)))
  (case d18=>(refine' Cm.zY ?a ?l ?c ?k; (case a=>k_is); (case l=>k_is); (case c=>k_is); (case k=>k_is)))
  (case d19=>(refine' Cm.zY ?a ?l ?c ?k; (case a=>k_is); (case l=>k_is); (case c=>k_is); (case k=>k_is)))
  (case d20=>(refine' Cm.zY ?a ?l ?c ?k; (case a=>k_is); (case l=>k_is); (case c=>k_is); (case k=>k_is)))
  (case d21=>(refine' Cm.zY ?a ?l ?c ?k; (case a=>k_is); (case l=>k_is); (case c=>k_is); (case k=>k_is)))
  (case d24=>(refine' Cm.zY ?a ?l ?c ?k; (case a=>k_is); (case l=>k_is); (case c=>k_is); (case k=>k_is)))
  (case d23=>(refine' Cm.zY ?a ?l ?c ?k; (case a=>k_is); (case l=>k_is); (case c=>k_is); (case k=>k_is)))
  (case d22=>(refine' Cm.zY ?a ?l ?c ?k; (case a=>k_is); (case l=>k_is); (case c=>k_is); (case k=>k_is)))
  (case d26=>(refine' Cm.zY ?a ?l ?c ?k; (case a=>k_is); (case l=>k_is); (case c=>k_is); (case k=>k_is)))
  (case d27=>(refine' Cm.zY ?a ?l ?c ?k; (case a=>k_is); (case l=>k_is); (case c=>k_is); (case k=>k_is)))
  (case d29=>(refine' Cm.zY ?a ?l ?c ?k; (case a=>k_is); (case l=>k_is); (case c=>k_is); (case k=>k_is)))
  (case d30=>(refine' Cm.zY ?a ?l ?c ?k; (case a=>k_is); (case l=>k_is); (case c=>k_is); (case k=>k_is)))
  (case d31=>(refine' Cm.zY ?a ?l ?c ?k; (case a=>k_is); (case l=>k_is); (case c=>k_is); (case k=>k_is)))
  (case d32=>(refine' Cm.zY ?a ?l ?c ?k; (case a=>k_is); (case l=>k_is); (case c=>k_is); (case k=>k_is)))
  (case d33=>(refine' Cm.zY ?a ?l ?c ?k; (case a=>k_is); (case l=>k_is); (case c=>k_is); (case k=>k_is)))
  (case d34=>(refine' Cm.zY ?a ?l ?c ?k; (case a=>k_is); (case l=>k_is); (case c=>k_is); (case k=>k_is)))
  (case d35=>(refine' Cm.zY ?a ?l ?c ?k; (case a=>k_is); (case l=>k_is); (case c=>k_is); (case k=>k_is)))
  (case d36=>(refine' Cm.zY ?a ?l ?c ?k; (case a=>k_is); (case l=>k_is); (case c=>k_is); (case k=>k_is)))
  (case d37=>(refine' Cm.zY ?a ?l ?c ?k; (case a=>k_is); (case l=>k_is); (case c=>k_is); (case k=>k_is)))
  (case d38=>(refine' Cm.zY ?a ?l ?c ?k; (case a=>k_is); (case l=>k_is); (case c=>k_is); (case k=>k_is)))
  (case a0=>k_is); (case l0=>k_is); (case c0=>k_is); (case k0=>k_is)
  (case z1=>k_is); (case z2=>k_is); (case z3=>k_is); (case z4=>k_is); (case z5=>k_is); (case z6=>k_is); (case z7=>k_is); (case z8=>k_is); (case z9=>k_is); (case z10=>k_is); (case z11=>k_is); (case y_AGAINST=>k_is); (case y_ALONG=>k_is); (case nt=>kernel_rfl)
#print axioms PySem.Challenge.cw_causebook_k38_downs_apart_holds
