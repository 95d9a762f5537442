import PyProof.Rows.All
import Wide.All
import OpenK.AllK
import Wide.FinOn
import Lean
import PyProof.EqAt
import PyProof.EqKinds
import PyProof.TupleCall
import PySem.Challenge.RW_causebook_k77_chains_of_any_sheet
set_option Elab.async false
set_option linter.all false
set_option maxRecDepth 100000
set_option genSizeOf false
local macro_rules | `(tactic| omega) => `(tactic| first | lia | omega (config := {}))
abbrev ζa:=@List.length_map
abbrev ζb:=@List.getD_eq_getElem?_getD
abbrev ζc:=PySem.W.Frag
abbrev ζd:=@List.getElem?_eq_getElem
abbrev ζe:=@PySem.Heap.get?_push_of_some
abbrev ζf:=@List.mem_of_getElem?
abbrev ζg:=@List.length_append
abbrev ζh:=@List.getElem?_eq_some_iff
abbrev ζi:=@List.mem_cons_self
abbrev ζj:=@Nat.le_refl
abbrev ζk:=@List.mem_singleton
abbrev ζl:=@List.mem_filter
abbrev ζm:=@PySem.Heap.lt_size
abbrev ζn:=@List.mem_map
abbrev ζo:=@List.getElem?_map
abbrev ζp:=@List.mem_cons_of_mem
abbrev ζq:=@PySem.F.plainAttrs_list
abbrev ζr:=@Option.some.inj
abbrev ζs:=@List.map_congr_left
abbrev ζt:=@PySem.Heap.get?_push_size
abbrev ζu:=@List.getElem?_set_self
abbrev ζv:=@List.length_range
abbrev ζw:=@List.mem_append
abbrev ζx:=@List.map_map
abbrev ζy:=@List.map_append
abbrev ζz:=@List.getElem?_set_ne
abbrev ζA:=@Nat.lt_of_lt_of_le
abbrev ζB:=@List.take_of_length_le
abbrev ζC:=@List.mem_cons
abbrev ζD:=@PySem.F.type_list_append
abbrev ζE:=@PySem.F.slot_list_append
abbrev ζF:=@Bool.false_ne_true
abbrev ζG:=@List.mem_range
abbrev ζH:=@List.map_cons
abbrev ζI:=@Int.toNat_natCast
abbrev ζJ:=@List.length_take
abbrev ζK:=@List.filter_sublist
abbrev ζL:=@Nat.ne_of_lt
abbrev ζM:=@Array.length_toList
abbrev ζN:=@List.mem_append_right
abbrev ζO:=@List.size_toArray
abbrev ζP:=@List.length_filter_le
abbrev ζQ:=@List.append_nil
abbrev ζR:=@Int.emod_lt_of_pos
abbrev ζS:=@List.mem_append_left
abbrev ζT:=@List.length_replicate
abbrev ζU:=@List.eq_nil_of_length_eq_zero
abbrev ζV:=@List.idxOf_lt_length_iff
abbrev ζW:=@List.filter_append
abbrev ζX:=@List.take_zero
abbrev ζY:=@Int.emod_nonneg
abbrev ζZ:=@Nat.le_trans
abbrev ζ0:=@List.take_append_drop
abbrev ζ1:=@Nat.mul_le_mul_left
abbrev ζ2:=@List.forall_mem_cons
abbrev ζ3:=@List.take_length
abbrev ζ4:=@List.nodup_append
abbrev ζ5:=@List.nodup_cons
abbrev ζ6:=@List.dropLast_concat_getLast
abbrev ζ7:=@List.mem_of_mem_take
abbrev ζ8:=@List.length_drop
abbrev ζ9:=@List.length_cons
abbrev ξa:=@List.getElem_mem
abbrev ξb:=@Int.mul_comm
abbrev ξc:=@List.perm_ext_iff_of_nodup
abbrev ξd:=@List.replicate_succ
abbrev ξe:=@List.length_eq_zero_iff
abbrev ξf:=@Int.toNat_of_nonneg
abbrev ξg:=@Int.natAbs_mul
abbrev ξh:=@Array.getElem?_eq_getElem
abbrev ξi:=@Option.map_eq_some_iff
abbrev ξj:=@Array.getElem?_toList
abbrev ξk:=@Int.gcd_dvd_right
abbrev ξl:=@List.getElem?_append_right
abbrev ξm:=@PySem.Heap.get?_update_self
abbrev ξn:=@Nat.zero_le
abbrev ξo:=@Nat.pow_le_pow_right
abbrev ξp:=@List.drop_eq_getElem_cons
abbrev ξq:=@Nat.lt_irrefl
abbrev ξr:=@List.getElem?_eq_none
abbrev ξs:=@Nat.lt_of_le_of_lt
abbrev ξt:=@List.sum_cons
abbrev ξu:=@List.length_zip
abbrev ξv:=@Nat.ne_of_gt
abbrev ξw:=@List.length_zipWith
abbrev ξx:=@List.length_reverse
abbrev ξy:=@List.getElem?_append_left
abbrev ξz:=@Int.mul_assoc
abbrev ξA:=@Int.natCast_mul
abbrev ξB:=@Int.natCast_add
abbrev ξC:=@Nat.le_add_right
abbrev ξD:=@List.any_eq_true
abbrev ξE:=@Int.mul_le_mul_of_nonneg_left
abbrev ξF:=@List.mem_iff_getElem
abbrev ξG:=@List.foldl_append
abbrev ξH:=@List.filter_congr
abbrev ξI:=@Int.mul_pos
abbrev ξJ:=@List.all_eq_true
abbrev ξK:=@List.pairwise_cons
abbrev ξL:=@List.getElem_idxOf
abbrev ξM:=@List.any_cons
abbrev ξN:=@List.getElem?_zip_eq_some
abbrev ξO:=@Option.isSome_iff_exists
abbrev ξP:=@List.flatten_cons
abbrev ξQ:=@PySem.Heap.size_push
abbrev ξR:=@Int.mul_le_mul_of_nonneg_right
abbrev ξS:=@Bool.and_eq_true
abbrev ξT:=@List.pairwise_lt_range
abbrev ξU:=@List.mem_filterMap
abbrev ξV:=@List.mem_iff_getElem?
abbrev ξW:=@Nat.mul_assoc
abbrev ξX:=@List.take_sublist
abbrev ξY:=@List.append_assoc
abbrev ξZ:=@List.nodup_nil
abbrev ξ0:=@Nat.zero_lt_succ
abbrev ξ1:=@Nat.succ_lt_succ
abbrev ξ2:=@List.perm_middle
abbrev ξ3:=@List.lookup_cons
abbrev ξ4:=@Int.gcd_dvd_left
abbrev ξ5:=@List.getElem?_range
abbrev ξ6:=@Nat.sub_self
abbrev ξ7:=@Nat.pow_succ
abbrev ξ8:=@Nat.min_eq_left
abbrev ξ9:=@List.length_set
abbrev υN (l:List PySem.Str):Prop:=l.Nodup
abbrev AA:=@PySem.wpAny_bind
abbrev AB:=@PySem.wpAny_pure
abbrev AC:=@PySem.PassesOwn.never
abbrev AD:=PySem.PyData
abbrev AE:=List Int
abbrev AF:=List Nat
abbrev AG:=List AD
abbrev AH:=List AE
abbrev AI:=List AF
abbrev AJ:=List PySem.Str
abbrev AK:=List PySem.Value
abbrev AL:=List (PySem.Addr×PySem.Obj)
abbrev AM:=List (Int×Int)
abbrev AN:=PySem.Value→PySem.Shared→Prop
abbrev AO:=PySem.Str→Option PySem.Value
local macro_rules | `(∅) => `(by walk_at "ev")
local macro_rules | `(⋯) => `(by omega)
local macro_rules | `(#[0]) => `(by walk_at "sc")
local macro_rules | `(#[1]) => `(by walk_at "gc")
local macro_rules | `(#[2]) => `(by decide)
namespace L2
open PySem PySem.Spec PyProof.Rows
abbrev Key:=Sum Int Str
def YC:Key→Value→Bool
 | .inl k,v=>Value.isInt k v
 | .inr x,v=>Value.isStrOf x v
def keyH(w:World):Key→Int
 | .inl k=>hashInt k
 | .inr x=>hashStr w x
theorem yF:∀{k:Key} {v:Value},YC k v=true→(∃i t,k=Sum.inl i∧v=Value.int i t)∨(∃x t,k=Sum.inr x∧v=Value.str x t)
 | .inl i,v,h=>by
  obtain⟨t,e⟩:=Value.isInt_shape (k:=i) (v:=v) h;exact .inl ⟨i,t,rfl,e⟩
 | .inr x,v,h=>by
  obtain⟨t,e⟩:=Value.isStrOf_shape (x:=x) (v:=v) h;exact .inr ⟨x,t,rfl,e⟩
theorem T9(i:Int)(t:Tok):YC (.inl i) (.int i t)=true:=by simp[YC,Value.isInt]
theorem T8(x:Str)(t:Tok):YC (.inr x) (.str x t)=true:=by simp[YC,Value.isStrOf]
theorem zeC(a b:Int):decide ((Sum.inl a:Key)=Sum.inl b)=(a == b):=by
 by_cases e:a=b
 ·subst e; simp
 ·have h:¬(Sum.inl a:Key)=Sum.inl b:=λq=>e (Sum.inl.inj q);rw[decide_eq_false h];exact(beq_eq_false_iff_ne.mpr e).symm
theorem zez(a b:Str):decide ((Sum.inr a:Key)=Sum.inr b)=decide (a=b):=by
 by_cases e:a=b
 ·subst e; simp
 ·have h:¬(Sum.inr a:Key)=Sum.inr b:=λq=>e (Sum.inr.inj q);rw[decide_eq_false h,decide_eq_false e]
theorem zeB(a:Int)(b:Str):decide ((Sum.inl a:Key)=Sum.inr b)=false:=decide_eq_false (λq=>nomatch q)
theorem zeA(a:Str)(b:Int):decide ((Sum.inr a:Key)=Sum.inl b)=false:=decide_eq_false (λq=>nomatch q)
def yO(prog:Program)(w:World):PySem.KeyKind prog w Key where
 is:=YC
 hash:=keyH w
 inj:=λv a b ha hb=>by
  rcases yF ha with⟨i,t,rfl,rfl⟩ | ⟨x,t,rfl,rfl⟩
  ·rcases yF hb with⟨j,u,rfl,e⟩ | ⟨y,u,rfl,e⟩
   ·injection e with e1 _; rw[e1]
   ·exact nomatch e
  ·rcases yF hb with⟨j,u,rfl,e⟩ | ⟨y,u,rfl,e⟩
   ·exact nomatch e
   ·injection e with e1 _; rw[e1]
 byValue:=λk v h=>by
  rcases yF h with⟨i,t,rfl,rfl⟩ | ⟨x,t,rfl,rfl⟩ <;> rfl
 pyHash:=λhv h=>by
  rcases yF hv with⟨i,t,rfl,rfl⟩ | ⟨x,t,rfl,rfl⟩
  ·exact wpAny_pyHash_int h
  ·exact wpAny_pyHash_str h
 eqBool:=λhu hv h=>by
  rcases yF hu with⟨i,t,rfl,rfl⟩ | ⟨x,t,rfl,rfl⟩
  ·rcases yF hv with⟨j,u,rfl,rfl⟩ | ⟨y,u,rfl,rfl⟩
   ·rw[zeC]at h; exact wpAny_eqBool_int h
   ·rw[zeB]at h; exact SeqAt.EqAt.int_str i t y u _ _ _ _ h
  ·rcases yF hv with⟨j,u,rfl,rfl⟩ | ⟨y,u,rfl,rfl⟩
   ·rw[zeA]at h; exact SeqAt.EqAt.str_int x t j u _ _ _ _ h
   ·rw[zez]at h; exact wpAny_eqBool_str h
 «strs»:=λk x t v h=>by
  rcases yF h with⟨i,u,rfl,e⟩ | ⟨y,u,rfl,e⟩
  ·exact nomatch e
  ·injection e with e1 _;subst e1;cases v <;> rfl
theorem W2(prog:Program)(w:World)(i:Int)(t:Tok):(yO prog w).is (.inl i) (.int i t)=true:=T9 i t
theorem W0(prog:Program)(w:World)(x:Str)(t:Tok):(yO prog w).is (.inr x) (.str x t)=true:=T8 x t
inductive V where
 | non | bl (b:Bool) | int (i:Int) | str (x:Str) | byt (b:Array UInt8) | flt (b:UInt64) | ref (a:Addr) | ty (n:String)
 deriving DecidableEq
def RelV:V→Value→Prop
 | .non,u=>u=Value.none
 | .bl b,u=>u=Value.bool b
 | .int i,u=>∃t,u=Value.int i t
 | .str x,u=>∃t,u=Value.str x t
 | .byt b,u=>∃t,u=Value.bytes b t
 | .flt b,u=>∃t,u=Value.float b t
 | .ref a,u=>u=Value.ref a
 | .ty n,u=>u=Value.type n
abbrev Vals:List V→AK→Prop:=Paired RelV
theorem Vals.length(r:Vals xs us):xs.length=us.length:=Paired.length r
theorem Vals.get:∀{xs:List V} {us:AK} {i:Nat} {x:V},Vals xs us→xs[i]?=some x→∃u,us[i]?=some u∧RelV x u
 | _,_,_,_,.nil,e=>by simp at e
 | _,_,0,_,.cons r _,e=>by simp at e; subst e; exact⟨_,rfl,r⟩
 | _,_,i + 1,x,.cons _ t,e=>by
  obtain⟨u,h1,h2⟩:=Vals.get (i:=i) (x:=x) t (by simpa using e);exact⟨u,by simpa using h1,h2⟩
theorem Vals.set(r:RelV x u):∀{xs:List V} {us:AK} (i:Nat),Vals xs us→Vals (xs.set i x) (us.set i u)
 | _,_,_,.nil=>.nil
 | _,_,0,.cons _ t=>.cons r t
 | _,_,i + 1,.cons q t=>.cons q (Vals.set r i t)
theorem Vals.append:∀{xs ys:List V} {us ws:AK},Vals xs us→Vals ys ws→Vals (xs ++ ys) (us ++ ws)
 | _,_,_,_,.nil,s=>s
 | _,_,_,_,.cons r t,s=>.cons r (Vals.append t s)
theorem Vals.take:∀{xs:List V} {us:AK} (n:Nat),Vals xs us→Vals (xs.take n) (us.take n)
 | _,_,0,_=>.nil
 | _,_,_ + 1,.nil=>.nil
 | _,_,n + 1,.cons r t=>.cons r (Vals.take n t)
theorem Vals.drop:∀{xs:List V} {us:AK} (n:Nat),Vals xs us→Vals (xs.drop n) (us.drop n)
 | _,_,0,r=>r
 | _,_,_ + 1,.nil=>.nil
 | _,_,n + 1,.cons _ t=>Vals.drop n t
def RelO:Option V→Option Value→Prop
 | some v,some u=>RelV v u
 | none,none=>True
 | _,_=>False
def KV{κ:Type}:List (κ×V)→List (κ×Value)→Prop:=Paired λ(p:κ×V) (q:κ×Value)=>p.1=q.1∧RelV p.2 q.2
def kV:Key→V
 | .inl i=>.int i
 | .inr x=>.str x
inductive HO where
 | lst (xs:List V)
 | tup (xs:List V)
 | dK (kvs:List (Key×V)) | dT (kvs:List (List Key×V))
 | set (S:Int→Bool) (n:Nat)
 | ins (C dx:Addr) (fs:List (Str×V))
 | own (x:Addr)
 | xd (fs:List (Str×V))
 | met (f x:Addr)
 | rng (lo hi:Int)
 | frz (o:Obj) (u:HO)
 | tbl (ps:Array Value)
 | ext (φ:Heap→Prop)
abbrev Hp:=Addr→Option HO
def upd(H:Hp)(a:Addr)(o:HO):Hp:=λb=>if b=a then some o else H b
theorem zp:upd H a o a=some o:=by unfold upd; rw[if_pos rfl]
theorem zC(h:b≠a):upd H a o b=H b:=by unfold upd; rw[if_neg h]
theorem zdB{H:Hp}{a b:Addr}{o u:HO}(h:H a=some o)(h':H b=some u)(d:o≠u):a≠b:=by
 intro e; subst e; rw[h]at h'; exact d (ζr h')
theorem zN{H:Hp}{a b:Addr}{o:HO}(h:H a=some o)(h':H b=none):a≠b:=by
 intro e; subst e; rw[h]at h'; cases h'
def Za(H:Hp)(b:Addr)(ys:List V):Prop:=H b=some (.tup ys)∨∃o:Obj,(∀v,o.data≠.cell v)∧H b=some (.frz o (.tup ys))
def tagQ(ps:Array Value):Str:=match(ps[0]?:Option Value)with | some (.str q _)=>q | _ => ""
section
variable (P:Program)(w:World)
def yA(H:Hp)(h:Heap)(a:Addr):HO→Prop
 | .lst xs=>xs.length≤sizeLine∧∃(its:AK) (n:Nat),Vals xs its∧h.get? a=some { cls:=.type "list", data:=.seq its.toArray n }
 | .tup xs=>xs.length≤sizeLine∧∃its:AK,Vals xs its∧IsTup h a its.toArray
 | .dK kvs=>kvs.length≤sizeLine∧(a == sysModules)=false∧∃vs,KV kvs vs∧h.DictOf (yO P w) a vs
 | .dT kvs=>kvs.length≤sizeLine∧(a == sysModules)=false∧∃xs:List (List Key×Addr×Value),
   Paired (λ(p:List Key×V) (q:List Key×Addr×Value)=>p.1=q.1∧Za H q.2.1 (p.1.map kV)∧RelV p.2 q.2.2) kvs xs∧
   ∃o es ep,h.get? a=some o∧o.ExactDict∧o.data=.dict es ep∧es.toList=xs.map (entryOfKey (tupleKind (yO P w)))∧(xs.map (·.1)).Nodup
 | .set S n=>h.SetOf (intKind P w) a S n
 | .ins C dx fs=>H dx=some (.own a)∧fs.length≤1000∧dx≠a∧h.get? a=some (PySem.W.instObj C dx)∧
   ∃mA,h.Ns1 dx mA∧(∀f,RelO (fs.lookup f) (mA f))∧PySem.Within mA (fs.map (·.1))
 | .own _=>∃o,h.get? a=some o
 | .xd fs=>∃mA,h.Ns1 a mA∧∀f,RelO (fs.lookup f) (mA f)
 | .rng lo hi=>∃t u v,h.get? a=some { cls:=.type "range", data:=.fields #[.int lo t,.int hi u,.int 1 v] }
 | .frz o u=>h.get? a=some o∧yA H h a u
 | .tbl ps=>∃vs:Array Value,h.get? a=some (PySem.W.tabObj vs)∧TriplesOk vs.toList∧∀p v,codeAmong p vs.toList=some v→∃b o fs t,v=.ref b∧H b=some (.frz o (.ext λ_=>True))∧o.data=.fields fs∧fs[1]?=some (.str (tagQ ps) t)
 | .met f x=>h.get? a=some (PySem.W.methodObj (.ref f) (.ref x))
 | .ext φ=>φ h∧(∃o,h.get? a=some o)∧∀h1 h2:Heap,φ h1→(∀o,h1.get? a=some o→h2.get? a=some o)→φ h2
def HOk(H:Hp)(h:Heap):Prop:=∀a o,H a=some o→yA P w H h a o
end
section
variable {P:Program}{w:World}{H H':Hp}{h h':Heap}{a:Addr}{o:HO}
theorem yA.lt(x:yA P w H h a o):a < h.objs.size:=by
 cases o with
 | lst xs=>obtain⟨_,_,_,_,e⟩:=x; exact ζm e
 | tup xs=>obtain⟨_,_,_,p⟩:=x; exact p.lt
 | dK kvs=>obtain⟨_,_,_,_,o,_,_,e,_⟩:=x; exact ζm e
 | dT kvs=>obtain⟨_,_,_,_,o,_,_,e,_⟩:=x; exact ζm e
 | set S n=>obtain⟨o,_,_,_,e,_⟩:=x; exact ζm e
 | ins C dx fs=>obtain⟨_,_,_,e,_⟩:=x; exact ζm e
 | own y=>obtain⟨_,e⟩:=x; exact ζm e
 | xd fs=>obtain⟨_,⟨_,_,_,e,_⟩,_⟩:=x; exact ζm e
 | rng lo hi=>obtain⟨_,_,_,e⟩:=x; exact ζm e
 | frz ob u=>obtain⟨e,_⟩:=x; exact ζm e
 | tbl ps=>obtain⟨_,e,_⟩:=x; exact ζm e
 | met f y=>exact ζm (show h.get? a=some _ from x)
 | ext φ=>obtain⟨_,⟨_,e⟩,_⟩:=x; exact ζm e
theorem Paired.mapP:∀{l₁:List α} {l₂:List β},Paired F l₁ l₂→(∀a b,F a b→G a b)→Paired G l₁ l₂
 | _,_,.nil,_=>.nil
 | _,_,.cons r t,f=>.cons (f _ _ r) (Paired.mapP t f)
theorem yA.stay(x:yA P w H h a o)(k:∀b u,(b=a∨H b=some (.own a))→h.get? b=some u→h'.get? b=some u)
  (ho:∀b,H b=some (.own a)→H' b=some (.own a)) (ht:∀b xs,H b=some (.tup xs)→H' b=some (.tup xs))
  (hc:∀b o u,H b=some (.frz o u)→(∀v,o.data≠.cell v)→H' b=some (.frz o u):=by first | exact λ_ _ _ q _=>q | (intro b o u z _; rw[zC (zN z (by assumption))]; exact z) | (intro b o u z _; rw[zC (λe=>by subst e; simp_all [Mut])]; exact z)):yA P w H' h' a o:=by
 induction o with
 | lst xs=>obtain⟨z,its,n,r,e⟩:=x; exact⟨z,its,n,r,k _ _ (.inl rfl) e⟩
 | tup xs=>obtain⟨z,its,r,ob,e,c⟩:=x; exact⟨z,its,r,ob,k _ _ (.inl rfl) e,c⟩
 | dK kvs=>obtain⟨z,y,vs,r,ob,es,ep,e,c⟩:=x; exact⟨z,y,vs,r,ob,es,ep,k _ _ (.inl rfl) e,c⟩
 | dT kvs =>
  obtain⟨z,y,xs,r,ob,es,ep,e,c⟩:=x;exact⟨z,y,xs,Paired.mapP r λp q z=>⟨z.1,z.2.1.imp (ht _ _) λ⟨o,n,y⟩=>⟨o,n,hc _ _ _ y n⟩,z.2.2⟩,ob,es,ep,k _ _ (.inl rfl) e,c⟩
 | set S n=>obtain⟨ob,es,ep,t,e,c⟩:=x; exact⟨ob,es,ep,t,k _ _ (.inl rfl) e,c⟩
 | ins C dx fs =>
  obtain⟨d,z,ne,e,mA,⟨od,es,ep,e2,c⟩,r⟩:=x;exact⟨ho _ d,z,ne,k _ _ (.inl rfl) e,mA,⟨od,es,ep,k _ _ (.inr d) e2,c⟩,r⟩
 | own y=>obtain⟨ob,e⟩:=x; exact⟨ob,k _ _ (.inl rfl) e⟩
 | xd fs=>obtain⟨mA,⟨od,es,ep,e,c⟩,r⟩:=x; exact⟨mA,⟨od,es,ep,k _ _ (.inl rfl) e,c⟩,r⟩
 | rng lo hi=>obtain⟨t,u,v,e⟩:=x; exact⟨t,u,v,k _ _ (.inl rfl) e⟩
 | frz ob u ih=>obtain⟨e,q⟩:=x; exact⟨k _ _ (.inl rfl) e,ih q⟩
 | tbl ps=>obtain⟨vs,e,t,z⟩:=x; exact⟨vs,k _ _ (.inl rfl) e,t,λp v y=>let⟨b,o,fs,t,e1,e2,e3⟩:=z p v y; ⟨b,o,fs,t,e1,hc _ _ _ e2 (λv y=>by rw[e3.1]at y; cases y),e3⟩⟩
 | met f y =>
  have e:h.get? a=some (PySem.W.methodObj (.ref f) (.ref y)):=x;show h'.get? a=some (PySem.W.methodObj (.ref f) (.ref y));exact k a _ (.inl rfl) e
 | ext φ=>obtain⟨p,⟨o,e⟩,st⟩:=x; exact⟨st _ _ p λo q=>k _ _ (.inl rfl) q,⟨o,k _ _ (.inl rfl) e⟩,st⟩
theorem HOk.lt(x:HOk P w H h)(e:H a=some o):a < h.objs.size:=(x a o e).lt
theorem HOk.fresh(x:HOk P w H h)(e:h.objs.size≤a):H a=none:=by
 cases q:H a with
 | none=>rfl
 | some u=>exact absurd (ζA (x.lt q) e) (ξq _)
theorem HOk.kept(x:HOk P w H h)(k:∀b u,h.get? b=some u→h'.get? b=some u):HOk P w H h':=λa o e =>
 (x a o e).stay (λb u _ q=>k b u q) (λ_ q=>q) λ_ _ q=>q
theorem HOk.laid(x:HOk P w H h)(k:∀b u,h.get? b=some u→h'.get? b=some u)(hp:h.objs.size≤a)(new:yA P w (upd H a o) h' a o):HOk P w (upd H a o) h':=λb u e=>by
 have hn:=x.fresh hp;by_cases hb:b=a
 ·subst hb; rw[zp]at e; cases e; exact new
 ·rw[zC hb]at e;exact(x b u e).stay (λc v _ q=>k c v q) (λc q=>by rw[zC (zN q hn)]; exact q) λc xs q=>by rw[zC (zN q hn)]; exact q
end
def Rd(H:Hp)(a:Addr)(u:HO):Prop:=H a=some u∨∃o,H a=some (.frz o u)
theorem Rd.of(h:H a=some u):Rd H a u:=.inl h
theorem Rd.ok(r:Rd H a u)(x:HOk P w H h):yA P w H h a u:=by
 rcases r with r | ⟨o,r⟩
 ·exact x a u r
 ·obtain⟨_,q⟩:=x a _ r;exact q
def Mut:Option HO→Prop
 | some (.lst _)=>True
 | some (.dK _)=>True
 | some (.dT _)=>True
 | some (.set _ _)=>True
 | some (.ins _ _ _)=>True
 | some (.ext _)=>True
 | _=>False
section
variable {P:Program}{w:World}{H:Hp}{h h':Heap}{x e:Addr}{o':HO}
theorem HOk.write(ok:HOk P w H h)(mu:Mut (H x))(he:e=x∨H e=some (.own x))(k:∀b u,b≠e→h.get? b=some u→h'.get? b=some u)(heo:∃u,h'.get? e=some u)
  (new:yA P w (upd H x o') h' x o'):HOk P w (upd H x o') h':=λb u q=>by
 have nown:∀c y,H c=some (.own y)→c≠x:=λc y r z=>by subst z; rw[r]at mu; exact mu
 have ntup:∀c xs,H c=some (.tup xs)→c≠x:=λc xs r z=>by subst z; rw[r]at mu; exact mu
 by_cases hb:b=x
 ·subst hb; rw[zp]at q; cases q; exact new
 ·rw[zC hb]at q;by_cases hbe:b=e
  ·have q':H b=some (.own x):=by
    rcases he with z | z
    ·exact absurd (hbe.trans z) hb
    ·rw[hbe]; exact z
   rw[q]at q'; cases q';obtain⟨v,hv⟩:=heo;exact⟨v,by rw[hbe]; exact hv⟩
  ·refine(ok b u q).stay (λc v hc r=>k c v ?_ r) (λc r=>by rw[zC (nown c b r)]; exact r) λc xs r=>by rw[zC (ntup c xs r)]; exact r
   rcases hc with rfl | hc
   ·exact hbe
   ·rintro rfl;rcases he with z | z
    ·exact nown c b hc z
    ·rw[hc]at z; cases z; exact hb rfl
end
structure Un(fs ex:List Addr)(H H':Hp)(h h':Heap):Prop where
 keep:∀b o,h.get? b=some o→H b=none→b∉fs→b∉ex→h'.get? b=some o
 slot:∀b o,h.get? b=some o→H b=none→b∈fs→b∉ex→∃sl,h'.get? b=some { o with slots:=sl }
 free:∀b o,h.get? b=some o→H b=none→b∉ex→H' b=none
 there:∀b o,h.get? b=some o→b∉ex→∃o',h'.get? b=some o'
 tups:∀b xs,H b=some (.tup xs)→H' b=some (.tup xs)
 frzs:∀b o u,H b=some (.frz o u)→H' b=some (.frz o u)
 tbls:∀b ps,H b=some (.tbl ps)→∃more,H' b=some (.tbl (ps ++ more))
section
variable {fs fs' ex ex':List Addr}{H H1 H2:Hp}{h h1 h2 h':Heap}{a x e:Addr}{o:HO}
theorem Un.any(u:Un fs ex H H1 h h1)(q:h.get? b=some ob)(n:H b=none)(hx:b∉ex):∃sl,h1.get? b=some { ob with slots:=sl }:=by
 by_cases hb:b∈fs
 ·exact u.slot b ob q n hb hx
 ·exact⟨ob.slots,u.keep b ob q n hb hx⟩
theorem Un.kept(k:∀b u,h.get? b=some u→h'.get? b=some u):Un fs ex H H h h' :=
 ⟨λb ob q _ _ _=>k b ob q,λb ob q _ _ _=>⟨ob.slots,k b ob q⟩,λ_ _ _ n _=>n,λb ob q _=>⟨ob,k b ob q⟩,λ_ _ q=>q,λ_ _ _ q=>q,λ_ ps q=>⟨#[],by rw[q]; simp⟩⟩
theorem Un.refl:Un fs ex H H h h:=Un.kept λ_ _ q=>q
theorem Un.laid(k:∀b u,h.get? b=some u→h'.get? b=some u)(hp:h.objs.size≤a)(hn:H a=none):Un fs ex H (upd H a o) h h' where
 keep:=λb u q _ _ _=>k b u q
 slot:=λb u q _ _ _=>⟨u.slots,k b u q⟩
 free:=λb u q n _=>by rw[zC (ζL (ζA (ζm q) hp))]; exact n
 there:=λb u q _=>⟨u,k b u q⟩
 tups:=λb xs q=>by rw[zC (zN q hn)]; exact q
 frzs:=λb u xs q=>by rw[zC (zN q hn)]; exact q
 tbls:=λb ps q=>⟨#[],by rw[zC (zN q hn),q]; simp⟩
theorem Un.write(mu:Mut (H x))(he:e=x∨H e=some (.own x))(k:∀b u,b≠e→h.get? b=some u→h'.get? b=some u)(heo:∃u,h'.get? e=some u):Un fs ex H (upd H x o) h h':=by
 have hx:∀b,H b=none→b≠x:=λb n z=>by subst z; rw[n]at mu; exact mu
 have hb:∀b,H b=none→b≠e:=λb n z=>by
  subst z;rcases he with r | r
  ·exact hx b n r
  ·rw[n]at r; cases r
 have hm:∀b u,H b=some u→¬Mut (some u)→b≠x:=λb u q nm z=>by subst z; rw[q]at mu; exact nm mu
 refine⟨λb u q n _ _=>k b u (hb b n) q,λb u q n _ _=>⟨u.slots,k b u (hb b n) q⟩,λb u q n _=>by rw[zC (hx b n)]; exact n,λb u q _=>?_,
  λb xs q=>by rw[zC (hm b _ q λz=>z)]; exact q,λb u xs q=>by rw[zC (hm b _ q λz=>z)]; exact q,λb ps q=>⟨#[],by rw[zC (hm b _ q λz=>z),q]; simp⟩⟩
 by_cases hbe:b=e
 ·subst hbe; exact heo
 ·exact⟨u,k b u hbe q⟩
end
def trk(h:Heap)(H:Hp):List Addr:=(List.range h.objs.size).filter λa=>(H a).isSome
def hidT(h:Heap)(H:Hp):Heap:=PySem.W.hideAll h (trk h H)
theorem Qb(h:Heap)(H:Hp):(hidT h H).objs.size=h.objs.size:=PySem.W.hideAll_size _ _
theorem za1(e:h.get? b=some o)(n:H b=none):(hidT h H).get? b=some o :=
 PySem.W.hideAll_get _ e λhm=>by
  have q:(H b).isSome=true:=(ζl.mp hm).2;rw[n]at q; simp at q
theorem zcF(e:(hidT h H).get? b=some o):h.get? b=some o∧H b=none:=by
 have e':h.get? b=some o:=PySem.W.of_hideAll (trk h H) e;refine⟨e',?_⟩
 cases q:H b with
 | none=>rfl
 | some x =>
  have hm:b∈trk h H:=List.mem_filter.mpr ⟨List.mem_range.mpr (Heap.lt_size e'),by simp[q]⟩;have z:(hidT h H).get? b=none:=PySem.W.hideAll_none (trk h H) hm;rw[z]at e; cases e
def zaW:AJ:=["above","beneath","above_in","clumps","reach","least_parting","least_set","why_not"]
def QT(o:Obj):Option (Addr×Str):=match o.cls,o.data with
 | .type "code", .fields vs=>(match(vs[1]?:Option Value),(vs[11]?:Option Value)with
  | some (.str q _),some (.ref P)=>if zaW.contains q then some (P,q ++ ".<locals>.<lambda>")else none
  | _,_=>none)
 | _,_=>none
def yu(K:ζc):List (Addr×Str):=K.filterMap λp=>(K.lookup p.1).bind QT
def Y3(K:ζc):Bool:=(yu K).all λp=>(K.lookup p.1).isNone && (yu K).all λq=>decide (p.1=q.1→p.2=q.2)
def TbOk(K:ζc)(H:Hp):Prop:=∀p∈yu K,∃t more,H p.1=some (.tbl (#[.str p.2 t] ++ more))
theorem TbOk.un{K:ζc}{fs ex:List Addr}{H H':Hp}{h h':Heap}(t:TbOk K H)(u:Un fs ex H H' h h'):TbOk K H':=λp hp=>by
 obtain⟨k,m,e⟩:=t p hp;obtain⟨m',e'⟩:=u.tbls _ _ e;exact⟨k,m ++ m',by rw[e',Array.append_assoc]⟩
structure Mod(K:ζc)(mg:AO)(base:Heap):Prop where
 kin:K.In base
 glob:base.Ns mainGlobals mg
 blt:∃mb,base.Ns builtinsNs mb∧∀x:Str,x ≠ "__name__"→mb x=bootBuiltins x
 nolimit:base.NoLimit
 bm:∃bm ob,mg "__builtins__" = some (.ref bm)∧bm≠builtinsNs∧base.get? bm=some ob∧ob.cls=.type "module"∧ob.dict=some builtinsNs∧ob.data=.plain
structure Cx where
 prog:Program
 w:World
 K:ζc
 mg:Str→Option Value
 base:Heap
 A:Around
 N:AJ
 s₀:Shared
 H₀:Hp
 env:Env
 outer:List Env
 stack:List Env
 ex:List Addr
 fn:Str→Bool
 calm:Bool
 pn:AL
 xe:Value→Shared→Prop
def frs(l:List Env):List Addr:=l.filterMap (·.frame)
abbrev Cx.fs(X:Cx):List Addr:=frs X.outer
def Vis(sc:Scope)(x:Str):Prop:=sc.names.lookup x=some .local∨sc.names.lookup x=some .cell∨sc.names.lookup x=some .free
def Loc(sc:Scope)(x:Str):Prop:=sc.names.lookup x=some .local∨sc.names.lookup x=some .cell
def Look(env:Env)(h:Heap)(m:AO)(x:Str)(u:Value):Prop :=
 (env.kindOf x=some .local∧m x=some u)∨((env.kindOf x=some .cell∨env.kindOf x=some .free)∧∃c,env.cells.lookup x=some c∧h.IsCell c (some u))
structure Cx.Ok(X:Cx):Prop where
 mod:Mod X.K X.mg X.base
 kind:X.env.scope.kind=.function
 glob:X.env.globals=mainGlobals
 blt:X.env.builtins=builtinsNs
 above:X.s₀.heap.objs.size≤X.env.locals
 inj:∀x y c,X.env.cells.lookup x=some c→X.env.cells.lookup y=some c→x=y
 has:∀x,(X.env.kindOf x=some .cell∨X.env.kindOf x=some .free)→∃c,X.env.cells.lookup x=some c
 cab:∀x c,X.fn x=true→X.env.cells.lookup x=some c→X.s₀.heap.objs.size≤c
 hd:X.calm=true→X.A.handled=none
 frames:X.A.frames=some X.stack
 stk:X.stack=X.outer∨(X.stack=X.env :: X.outer∧X.env.frame=some X.env.locals)
 exf:∀b∈X.ex,b≠X.env.locals∧∀x c,X.env.cells.lookup x=some c→c≠b
 bs:∀b o,X.base.get? b=some o→X.s₀.heap.get? b=some o∧X.H₀ b=none
 bsz:X.base.objs.size≤X.s₀.heap.objs.size
 noex:∀b o,X.base.get? b=some o→b∉X.ex
 exfs:∀b∈X.ex,b∉X.fs
 funs:X.s₀.heap.FunFrames X.base X.outer
 frf:∀b∈X.fs,X.H₀ b=none
 tb:TbOk X.K X.H₀
structure Inv(X:Cx)(pins:AL)(σ:List (Option V))(H:Hp)(s:Shared):Prop where
 ok:X.Ok
 os:s.os=X.s₀.os
 bare:AllBare s.gens
 base:Un X.fs X.ex X.H₀ H X.s₀.heap s.heap
 loc:∃m,s.heap.Ns X.env.locals m∧∀(i:Nat) (x:Str) (v:V),X.N[i]?=some x→σ[i]?=some (some v)→Vis X.env.scope x→∃u,RelV v u∧Look X.env s.heap m x u
 cell:∀x c,X.env.cells.lookup x=some c→∃v,s.heap.IsCell c v
 free:H X.env.locals=none
 freeC:∀x c,X.env.cells.lookup x=some c→H c=none∨X.fn x=false∧∃o u,H c=some (.frz o u)
 pin:∀p∈X.pn ++ pins,s.heap.get? p.1=some p.2∧H p.1=none∧p.1≠X.env.locals∧p.1∉X.fs∧∀v,p.2.data≠.cell v
 hok:HOk X.prog X.w H s.heap
 len:σ.length=X.N.length
section
variable {X:Cx}{pins:AL}{σ:List (Option V)}{H H':Hp}{s:Shared}{h':Heap}
theorem Cx.Ok.nofr(ok:X.Ok)(e:X.base.get? b=some o):b∉X.fs:=λhb=>by
 have:=(ok.funs.mem hb).1;rw[e]at this; cases this
theorem Inv.bs(I:Inv X pins σ H s):∀b o,X.base.get? b=some o→s.heap.get? b=some o∧H b=none:=λb o e =>
 ⟨I.base.keep b o (I.ok.bs b o e).1 (I.ok.bs b o e).2 (I.ok.nofr e) (I.ok.noex b o e),I.base.free b o (I.ok.bs b o e).1 (I.ok.bs b o e).2 (I.ok.noex b o e)⟩
theorem Inv.bk(I:Inv X pins σ H s):∀b o,X.base.get? b=some o→s.heap.get? b=some o:=λb o e=>(I.bs b o e).1
theorem Inv.mod(I:Inv X pins σ H s):Mod X.K X.mg X.base:=I.ok.mod
theorem Inv.kIn(I:Inv X pins σ H s):X.K.In s.heap:=I.ok.mod.kin.keeps I.bk
theorem Inv.lt(I:Inv X pins σ H s):X.env.locals < s.heap.objs.size:=let⟨_,hn,_⟩:=I.loc; hn.lt
theorem Inv.sz(I:Inv X pins σ H s):X.s₀.heap.objs.size≤s.heap.objs.size:=ζZ I.ok.above (Nat.le_of_lt I.lt)
theorem Inv.nofs(I:Inv X pins σ H s)(h:s.heap.objs.size≤a):a∉X.fs:=λhb=>by
 obtain⟨_,o,ho,_⟩:=I.ok.funs.mem hb;exact absurd (ζA (ζm ho) (ζZ I.sz h)) (ξq _)
theorem Inv.cne(I:Inv X pins σ H s):∀x c,X.env.cells.lookup x=some c→c≠X.env.locals:=λx c e z=>by
 obtain⟨v,o,ho,hd⟩:=I.cell x c e;obtain⟨m,⟨o',es,ep,ho',hd',_⟩,_⟩:=I.loc;rw[z,ho']at ho; cases ho; rw[hd']at hd; cases hd
theorem Inv.funs(I:Inv X pins σ H s):s.heap.FunFrames X.base X.outer:=by
 have all:∀(l:List Env),(∀b∈frs l,b∈X.fs)→X.s₀.heap.FunFrames X.base l→s.heap.FunFrames X.base l:=by
  intro l;induction l with
  | nil=>intro _ _; trivial
  | cons env r ih =>
   intro hs hl;obtain⟨hk,⟨L,o,hf,hn,ho,hd⟩,hr⟩:=hl;have hL:L∈X.fs:=hs L (by unfold frs; rw[List.filterMap_cons,hf]; exact List.mem_cons_self);obtain⟨sl,e⟩:=I.base.slot L o ho (I.ok.frf L hL) hL λz=>I.ok.exfs L z hL;exact⟨hk,⟨L,_,hf,hn,e,hd⟩,ih (λb hb=>hs b (by unfold frs; rw[List.filterMap_cons,hf]; exact List.mem_cons_of_mem _ hb)) hr⟩
 exact all X.outer (λ_ hb=>hb) I.ok.funs
theorem Inv.stack(I:Inv X pins σ H s):s.heap.FunFrames X.base X.stack:=by
 rcases I.ok.stk with e | ⟨e,hf⟩
 ·rw[e]; exact I.funs
 ·rw[e];obtain⟨m,hn,_⟩:=I.loc;refine .cons (by rw[I.ok.kind]; decide) hf hn ?_ I.funs;exact Heap.get?_none_of_le (ζZ I.ok.bsz I.ok.above)
theorem Inv.stkSub(I:Inv X pins σ H s):∀b∈frs X.stack,b∈X.env.locals :: X.fs:=λb hb=>by
 rcases I.ok.stk with e | ⟨e,hf⟩
 ·rw[e]at hb; exact ζp _ hb
 ·rw[e]at hb;unfold frs at hb;rw[List.filterMap_cons,hf]at hb;exact hb
theorem Inv.stkFree(I:Inv X pins σ H s):∀b∈frs X.stack,H b=none:=λb hb=>by
 rcases ζC.mp (I.stkSub b hb)with e | hb
 ·rw[e]; exact I.free
 ·obtain⟨_,o,ho,_⟩:=I.ok.funs.mem hb;exact I.base.free b o ho (I.ok.frf b hb) λz=>I.ok.exfs b z hb
theorem Inv.step{g':Array GenState}{t':Nat}{d':Drawn}{ch:List Addr}(I:Inv X pins σ H s)
  (hch:∀b∈ch,(b∈X.ex∨X.s₀.heap.objs.size≤b)∧b≠X.env.locals∧(∀x c,X.env.cells.lookup x=some c→c≠b)∧∀p∈X.pn ++ pins,p.1≠b)
  (keep:∀b o,b≠X.env.locals→b∉X.fs→b∉ch→s.heap.get? b=some o→H b=none→h'.get? b=some o)
  (slot:∀b o,b≠X.env.locals→b∈X.fs→b∉ch→s.heap.get? b=some o→H b=none→∃sl,h'.get? b=some { o with slots:=sl }) (free:∀b o,b∉ch→s.heap.get? b=some o→H b=none→H' b=none)
  (there:∀b o,b∉ch→s.heap.get? b=some o→∃o',h'.get? b=some o')
  (tups:∀b xs,H b=some (.tup xs)→H' b=some (.tup xs)) (frzs:∀b o u,H b=some (.frz o u)→H' b=some (.frz o u)) (tbls:∀b ps,H b=some (.tbl ps)→∃more,H' b=some (.tbl (ps ++ more)))
  (ns:∀m,s.heap.Ns X.env.locals m→h'.Ns X.env.locals m) (hok:HOk X.prog X.w H' h') (hg:AllBare g') :
  Inv X pins σ H' { s with heap:=h',gens:=g',drawn:=d',toks:=t' }:=by
 have neL:∀b o,X.s₀.heap.get? b=some o→b≠X.env.locals:=λb o e=>ζL (ζA (ζm e) I.ok.above);have neC:∀b o,X.s₀.heap.get? b=some o→b∉X.ex→b∉ch:=λb o e hx hb=>by
  rcases(hch b hb).1 with z | z
  ·exact hx z
  ·exact absurd (ζA (ζm e) z) (ξq _)
 have cellK:∀x c,X.env.cells.lookup x=some c→∀v,s.heap.IsCell c v→h'.IsCell c v:=λx c e v ⟨o,ho,hd⟩=>by
  have nch:c∉ch:=λz=>(hch c z).2.2.1 x c e rfl;rcases I.freeC x c e with hn | ⟨_,o1,u1,hn⟩
  ·by_cases hc:c∈X.fs
   ·obtain⟨sl,q⟩:=slot c o (I.cne x c e) hc nch ho hn;exact⟨_,q,hd⟩
   ·exact⟨o,keep c o (I.cne x c e) hc nch ho hn,hd⟩
  ·have q1:=(I.hok c _ hn).1;rw[ho]at q1;cases q1;exact⟨o,(hok c _ (frzs c _ _ hn)).1,hd⟩
 refine⟨I.ok,I.os,hg,⟨λb o e n hb hx=>?_,λb o e n hb hx=>?_,λb o e n hx=>?_,λb o e hx=>?_,λb xs e=>tups b xs (I.base.tups b xs e),λb o xs e=>frzs b o xs (I.base.frzs b o xs e),λb ps e=>?_⟩,?_,λx c e=>?_,?_,λx c e=>?_,λp hp=>?_,hok,I.len⟩
 ·exact keep b o (neL b o e) hb (neC b o e hx) (I.base.keep b o e n hb hx) (I.base.free b o e n hx)
 ·obtain⟨sl,e1⟩:=I.base.slot b o e n hb hx;obtain⟨sl',e2⟩:=slot b _ (neL b o e) hb (neC b o e hx) e1 (I.base.free b o e n hx);exact⟨sl',e2⟩
 ·obtain⟨o',e1⟩:=I.base.there b o e hx;exact free b o' (neC b o e hx) e1 (I.base.free b o e n hx)
 ·obtain⟨o',e1⟩:=I.base.there b o e hx;exact there b o' (neC b o e hx) e1
 ·obtain⟨m1,e1⟩:=I.base.tbls b ps e;obtain⟨m2,e2⟩:=tbls b _ e1;exact⟨m1 ++ m2,by rw[e2,Array.append_assoc]⟩
 ·obtain⟨m,hn,hl⟩:=I.loc;refine⟨m,ns m hn,λi x v e1 e2 e3=>?_⟩
  obtain⟨u,r,l⟩:=hl i x v e1 e2 e3;refine⟨u,r,?_⟩
  rcases l with l | ⟨k,c,e,z⟩
  ·exact .inl l
  ·exact .inr ⟨k,c,e,cellK x c e _ z⟩
 ·obtain⟨v,z⟩:=I.cell x c e;exact⟨v,cellK x c e v z⟩
 ·obtain⟨m,⟨o,_,_,ho,_⟩,_⟩:=I.loc;exact free _ o (λz=>(hch _ z).2.1 rfl) ho I.free
 ·obtain⟨v,o,ho,hd⟩:=I.cell x c e;exact(I.freeC x c e).elim (λn=>.inl (free c o (λz=>(hch c z).2.2.1 x c e rfl) ho n)) λ⟨y1,o1,u1,y2⟩=>.inr ⟨y1,o1,u1,frzs c o1 u1 y2⟩
 ·obtain⟨e,n,ne,nf,d⟩:=I.pin p hp;have nch:p.1∉ch:=λz=>(hch p.1 z).2.2.2 p hp rfl;exact⟨keep p.1 p.2 ne nf nch e n,free p.1 p.2 nch e n,ne,nf,d⟩
theorem Inv.un{t':Nat}(I:Inv X pins σ H s)(u:Un X.fs [] H H' s.heap h')(hok:HOk X.prog X.w H' h'):Inv X pins σ H' { s with heap:=h',toks:=t' }:=by
 obtain⟨m,⟨o,es,ep,ho,r⟩,_⟩:=id I.loc;obtain⟨sl,hL⟩:=u.any ho I.free (by simp);exact I.step (g':=s.gens) (d':=s.drawn) (ch:=[]) (λ_ z=>nomatch z) (λb o _ hb _ e n=>u.keep b o e n hb (by simp)) (λb o _ hb _ e n=>u.slot b o e n hb (by simp)) (λb o _ e n=>u.free b o e n (by simp)) (λb o _ e=>u.there b o e (by simp)) u.tups u.frzs u.tbls (λm' hm=>by
  obtain⟨o',es',ep',ho',r'⟩:=hm;rw[ho]at ho'; cases ho';exact⟨_,es',ep',hL,r'⟩) hok I.bare
theorem Inv.call{g':Array GenState}{t':Nat}{d':Drawn}{ch:List Addr}(I:Inv X pins σ H s)(u:Un (frs X.stack) ch H H' s.heap h')(hok:HOk X.prog X.w H' h')(hg:AllBare g')
  (hch:∀b∈ch,(b∈X.ex∨X.s₀.heap.objs.size≤b)∧b≠X.env.locals∧(∀x c,X.env.cells.lookup x=some c→c≠b)∧∀p∈X.pn ++ pins,p.1≠b) :
  Inv X pins σ H' { s with heap:=h',gens:=g',drawn:=d',toks:=t' }:=by
 obtain⟨m,⟨o,es,ep,ho,r⟩,_⟩:=id I.loc;obtain⟨sl,hL⟩:=u.any ho I.free λz=>(hch _ z).2.1 rfl;exact I.step (ch:=ch) hch (λb o hL hb hc e n=>u.keep b o e n (λz=>(ζC.mp (I.stkSub b z)).elim hL hb) hc) (λb o _ _ hc e n=>u.any e n hc) (λb o hc e n=>u.free b o e n hc) (λb o hc e=>u.there b o e hc) u.tups u.frzs u.tbls (λm' hm=>by
  obtain⟨o',es',ep',ho',r'⟩:=hm;rw[ho]at ho'; cases ho';exact⟨_,es',ep',hL,r'⟩) hok hg
theorem Inv.turned{t':Nat}{it:Addr}(I:Inv X pins σ H s)(k:∀b o,b≠it→s.heap.get? b=some o→h'.get? b=some o)(hn:H it=none)(hL:it≠X.env.locals)
  (h1:it∈X.ex∨X.s₀.heap.objs.size≤it) (h2:∀x c,X.env.cells.lookup x=some c→c≠it) (h3:∀p∈X.pn ++ pins,p.1≠it):Inv X pins σ H { s with heap:=h',toks:=t' }:=by
 have nit:∀b u,H b=some u→b≠it:=λb u e z=>by rw[z,hn]at e; cases e
 refine I.step (g':=s.gens) (d':=s.drawn) (ch:=[it]) (λb hb=>?_) (λb o _ _ hc e _=>k b o (λz=>hc (by simp[z])) e) (λb o _ _ hc e _=>⟨o.slots,k b o (λz=>hc (by simp[z])) e⟩) (λ_ _ _ _ n=>n)
  (λb o hc e=>⟨o,k b o (λz=>hc (by simp[z])) e⟩) (λ_ _ e=>e) (λ_ _ _ e=>e) (λb ps e=>⟨#[],by rw[e]; simp⟩) (λm hm=>?_) (λb u e=>?_) I.bare
 ·have e:b=it:=by simpa using hb
  subst e;exact⟨h1,hL,h2,h3⟩
 ·obtain⟨o,es,ep,ho,r⟩:=hm;exact⟨o,es,ep,k _ o (Ne.symm hL) ho,r⟩
 ·refine(I.hok b u e).stay (λc v hc q=>k c v ?_ q) (λ_ q=>q) λ_ _ q=>q;rcases hc with z | z
  ·rw[z]; exact nit b u e
  ·exact nit c _ z
theorem Inv.tok(I:Inv X pins σ H s)(t:Nat):Inv X pins σ H { s with toks:=t }:=I.un (h':=s.heap) (t':=t) Un.refl I.hok
theorem Inv.kept{t':Nat}(I:Inv X pins σ H s)(k:∀b u,s.heap.get? b=some u→h'.get? b=some u):Inv X pins σ H { s with heap:=h',toks:=t' }:=I.un (Un.kept k) (I.hok.kept k)
theorem Inv.laid{t':Nat}(I:Inv X pins σ H s)(k:∀b u,s.heap.get? b=some u→h'.get? b=some u)(hp:s.heap.objs.size≤a)(new:yA X.prog X.w (upd H a o) h' a o):
  Inv X pins σ (upd H a o) { s with heap:=h',toks:=t' }:=I.un (Un.laid k hp (I.hok.fresh hp)) (I.hok.laid k hp new)
theorem Inv.write{t':Nat}(I:Inv X pins σ H s)(mu:Mut (H x))(he:e=x∨H e=some (.own x))(k:∀b u,b≠e→s.heap.get? b=some u→h'.get? b=some u)(heo:∃u,h'.get? e=some u)
  (new:yA X.prog X.w (upd H x o) h' x o):Inv X pins σ (upd H x o) { s with heap:=h',toks:=t' }:=I.un (Un.write mu he k heo) (I.hok.write mu he k heo new)
theorem Inv.weak(I:Inv X pins σ H s)(hl:σ'.length=σ.length)(w:∀(i:Nat) v,σ'[i]?=some (some v)→σ[i]?=some (some v)):Inv X pins σ' H s :=
 ⟨I.ok,I.os,I.bare,I.base,let⟨m,hn,hl'⟩:=I.loc; ⟨m,hn,λi x v e1 e2 e3=>hl' i x v e1 (w i v e2) e3⟩,I.cell,I.free,I.freeC,I.pin,I.hok,hl.trans I.len⟩
theorem Inv.pins_of(I:Inv X pins σ H s)(h:∀p∈pins',s.heap.get? p.1=some p.2∧H p.1=none∧p.1≠X.env.locals∧p.1∉X.fs∧∀v,p.2.data≠.cell v):Inv X pins' σ H s :=
 ⟨I.ok,I.os,I.bare,I.base,I.loc,I.cell,I.free,I.freeC,λp hp=>(ζw.mp hp).elim (λz=>I.pin p (ζS _ z)) (h p),I.hok,I.len⟩
theorem WY{N:AJ}(hN:N.Nodup){i j:Nat}{x:Str}(a:N[i]?=some x)(b:N[j]?=some x):i=j:=by
 obtain⟨h1,e1⟩:=ζh.mp a;obtain⟨h2,e2⟩:=ζh.mp b;exact(List.getElem_inj hN).mp (e1.trans e2.symm)
theorem Yp{M:Model}{A:Around}{E:AN}{i:Nat}{x:Str}{v:V}{u:Value}{Q:Unit→Shared→Prop}(I:Inv X pins σ H s)(hN:X.N.Nodup)(hi:X.N[i]?=some x)(hx:Loc X.env.scope x)(r:RelV v u)
  (h:∀s',Inv X pins (σ.set i (some v)) H s'→(∃a,Heap.SameBut a s.heap s'.heap∧(a=X.env.locals∨X.env.cells.lookup x=some a))→Q () s') (hf:X.fn x=true∨X.env.scope.names.lookup x=some .local:=by first | exact .inl rfl | exact .inr rfl | assumption):wpAny M A (storeName X.env x u) Q E s:=by
 obtain⟨m,hn,hl⟩:=id I.loc;have hcls:(X.env.scope.kind == .class || (X.env.scope.kind == .module && X.env.locals != X.env.globals))=false:=by rw[I.ok.kind]; rfl
 have hiσ:i < σ.length:=by rw[I.len]; exact(ζh.mp hi).1
 have cne:=I.cne;have tracked:∀{a:Addr} {h':Heap},(∃o,s.heap.get? a=some o∧H a=none)→Heap.SameBut a s.heap h'→HOk X.prog X.w H h':=λ{a h'} ha hs b ob e=>by
  obtain⟨_,_,hfree⟩:=ha;refine(I.hok b ob e).stay (λc w' hc q=>(hs.2 c ?_).trans q) (λ_ q=>q) λ_ _ q=>q;rintro rfl;rcases hc with rfl | hc
  ·rw[hfree]at e; cases e
  ·rw[hfree]at hc; cases hc
 rcases hx with hk | hk
 ·refine wpAny_storeName_local hk hn (λh' hn' hs=>?_) hcls;obtain⟨oL,_,_,hoL,_⟩:=id hn;refine h _ ⟨I.ok,I.os,I.bare,⟨λb o e n hb hx=>?_,λb o e n hb hx=>?_,I.base.free,λb o e hx=>?_,I.base.tups,I.base.frzs,I.base.tbls⟩,⟨_,hn',λj y v' e1 e2 e3=>?_⟩,λy c e=>?_,I.free,I.freeC,λp hp=>?_,tracked ⟨oL,hoL,I.free⟩ hs,by simpa using I.len⟩ ⟨_,hs,.inl rfl⟩
  ·exact(hs.2 b (ζL (ζA (ζm e) I.ok.above))).trans (I.base.keep b o e n hb hx)
  ·obtain⟨sl,e1⟩:=I.base.slot b o e n hb hx;exact⟨sl,(hs.2 b (ζL (ζA (ζm e) I.ok.above))).trans e1⟩
  ·obtain⟨o',e1⟩:=I.base.there b o e hx;exact⟨o',(hs.2 b (ζL (ζA (ζm e) I.ok.above))).trans e1⟩
  ·by_cases hj:j=i
   ·subst hj;rw[hi]at e1; cases e1;rw[ζu hiσ]at e2;cases e2;exact⟨u,r,.inl ⟨hk,by simp⟩⟩
   ·rw[ζz (Ne.symm hj)]at e2;obtain⟨u',r',q⟩:=hl j y v' e1 e2 e3;refine⟨u',r',?_⟩
    rcases q with⟨k,e⟩ | ⟨k,c,e,z⟩
    ·refine .inl ⟨k,?_⟩;have:y≠x:=λe=>hj (WY hN e1 (e ▸ hi));simp[this,e]
    ·exact .inr ⟨k,c,e,z.sameBut hs (cne y c e)⟩
  ·obtain⟨w',z⟩:=I.cell y c e;exact⟨w',z.sameBut hs (cne y c e)⟩
  ·obtain⟨e,n,ne,nf,d⟩:=I.pin p hp;exact⟨(hs.2 p.1 ne).trans e,n,ne,nf,d⟩
 ·have hfn:X.fn x=true:=by
   rcases hf with z | z
   ·exact z
   ·rw[z]at hk; cases hk
  obtain⟨c,hc⟩:=I.ok.has x (.inl hk);obtain⟨w',z⟩:=I.cell x c hc;refine wpAny_storeName_cell I.ok.kind hk hc z (λh' hc' hs=>?_);obtain⟨oc,hoc,hocd⟩:=id z;refine h { s with heap:=h' } ⟨I.ok,I.os,I.bare,⟨λb o e n hb hx=>?_,λb o e n hb hx=>?_,I.base.free,λb o e hx=>?_,I.base.tups,I.base.frzs,I.base.tbls⟩,⟨m,hn.sameBut hs (Ne.symm (cne x c hc)),λj y v' e1 e2 e3=>?_⟩,λy c' e=>?_,I.free,I.freeC,λp hp=>?_,tracked ⟨oc,hoc,(I.freeC x c hc).elim (λn=>n) λz=>by rw[hfn]at z; cases z.1⟩ hs,by simpa using I.len⟩ ⟨c,hs,.inr hc⟩
  ·exact(hs.2 b (ζL (ζA (ζm e) (I.ok.cab x c hfn hc)))).trans (I.base.keep b o e n hb hx)
  ·obtain⟨sl,e1⟩:=I.base.slot b o e n hb hx;exact⟨sl,(hs.2 b (ζL (ζA (ζm e) (I.ok.cab x c hfn hc)))).trans e1⟩
  ·obtain⟨o',e1⟩:=I.base.there b o e hx;exact⟨o',(hs.2 b (ζL (ζA (ζm e) (I.ok.cab x c hfn hc)))).trans e1⟩
  ·by_cases hj:j=i
   ·subst hj;rw[hi]at e1; cases e1;rw[ζu hiσ]at e2;cases e2;exact⟨u,r,.inr ⟨.inl hk,c,hc,hc'⟩⟩
   ·rw[ζz (Ne.symm hj)]at e2;obtain⟨u',r',q⟩:=hl j y v' e1 e2 e3;refine⟨u',r',?_⟩
    rcases q with q | ⟨k,c',e,z'⟩
    ·exact .inl q
    ·refine .inr ⟨k,c',e,z'.sameBut hs ?_⟩;rintro rfl;exact hj (WY hN e1 (I.ok.inj _ _ _ e hc ▸ hi))
  ·by_cases hcc:c'=c
   ·subst hcc; exact⟨_,hc'⟩
   ·obtain⟨w2,z2⟩:=I.cell y c' e;exact⟨w2,z2.sameBut hs hcc⟩
  ·obtain⟨e,n,ne,nf,d⟩:=I.pin p hp;refine⟨(hs.2 p.1 ?_).trans e,n,ne,nf,d⟩
   intro q;rw[q,hoc]at e;have q':oc=p.2:=ζr e;exact d w' (by rw[←q']; exact hocd)
theorem Wm(I:Inv X pins σ H s)(hN:X.N.Nodup)(hi:X.N[i]?=some x)(hx:Loc X.env.scope x)(r:RelV v u)
  (h:∀s',Inv X pins (σ.set i (some v)) H s'→Q () s') (hf:X.fn x=true∨X.env.scope.names.lookup x=some .local:=by first | exact .inl rfl | exact .inr rfl | assumption):wpAny M A (storeName X.env x u) Q E s :=
 Yp I hN hi hx r (λs' I' _=>h s' I') hf
theorem Inv.call'(I:Inv X pins σ H s)(ho:s'.os=s.os)(u:Un (frs X.stack) ch H H' s.heap s'.heap)(hok:HOk X.prog X.w H' s'.heap)(hg:AllBare s'.gens)
  (hch:∀b∈ch,(b∈X.ex∨X.s₀.heap.objs.size≤b)∧b≠X.env.locals∧(∀x c,X.env.cells.lookup x=some c→c≠b)∧∀p∈X.pn ++ pins,p.1≠b):Inv X pins σ H' s':=by
 obtain⟨h',g',d',t',o'⟩:=s';have e:o'=s.os:=ho;subst e;exact I.call (g':=g') (t':=t') (d':=d') u hok hg hch
end
abbrev XK:=Value→Option Addr→Hp→Prop
abbrev St:=List (Option V)
abbrev VK:=V→Hp→Prop
abbrev TE:=St→Hp→VK→Prop
abbrev TT:=St→Hp→(Bool→Hp→Prop)→Prop
abbrev TA:=St→Hp→(List V→Hp→Prop)→Prop
structure Ends where
 nx:St→Hp→Prop
 rt:VK
 bk:St→Hp→Prop:=λ_ _=>False
 ct:St→Hp→Prop:=λ_ _=>False
abbrev TS:=Ends→St→Hp→Prop
def EP(X:Cx)(pins:AL)(σ:St)(Q:VK)(u:Value)(s':Shared):Prop:=∃v H',Inv X pins σ H' s'∧RelV v u∧Q v H'
def TP(X:Cx)(pins:AL)(σ:St)(Q:Bool→Hp→Prop)(b:Bool)(s':Shared):Prop:=∃H',Inv X pins σ H' s'∧Q b H'
def AP(X:Cx)(pins:AL)(σ:St)(Q:List V→Hp→Prop)(us:AK)(s':Shared):Prop:=∃vs H',Inv X pins σ H' s'∧Vals vs us∧Q vs H'
def SP(X:Cx)(pins:AL)(D:Ends)(f:Flow)(s':Shared):Prop :=
 match f with
 | .next=>∃σ' H',Inv X pins σ' H' s'∧D.nx σ' H'
 | .brk=>∃σ' H',Inv X pins σ' H' s'∧D.bk σ' H'
 | .cont=>∃σ' H',Inv X pins σ' H' s'∧D.ct σ' H'
 | .ret u=>∃v σ' H',Inv X pins σ' H' s'∧RelV v u∧D.rt v H'
def PE(X:Cx)(e:Expr)(t:TE):Prop :=
 ∀(pins:AL) (s:Shared) (σ:St) (H:Hp) (Q:VK),Inv X pins σ H s→t σ H Q→wpAny (model X.prog X.w) X.A (eval e X.env) (EP X pins σ Q) X.xe s
def PT(X:Cx)(e:Expr)(t:TT):Prop :=
 ∀(pins:AL) (s:Shared) (σ:St) (H:Hp) (Q:Bool→Hp→Prop),Inv X pins σ H s→t σ H Q→wpAny (model X.prog X.w) X.A (isTrue e X.env (eval e X.env)) (TP X pins σ Q) X.xe s
def PW(X:Cx)(e:Expr)(t:TT):Prop :=
 ∀(whole:Sem Value) (pins:AL) (s:Shared) (σ:St) (H:Hp) (Q:Bool→Hp→Prop),Inv X pins σ H s→t σ H Q→wpAny (model X.prog X.w) X.A (isTrue e X.env whole) (TP X pins σ Q) X.xe s
theorem PW.pt(h:PW X e t):PT X e t:=h _
def PA(X:Cx)(es:List Expr)(t:TA):Prop :=
 ∀(pos:Pos) (pins:AL) (s:Shared) (σ:St) (H:Hp) (Q:List V→Hp→Prop),Inv X pins σ H s→t σ H Q→wpAny (model X.prog X.w) X.A (spliced (backTo pos (starEach es X.env))) (AP X pins σ Q) X.xe s
def PS(X:Cx)(st:Stmt)(t:TS):Prop :=
 ∀(pins:AL) (s:Shared) (σ:St) (H:Hp) (D:Ends),Inv X pins σ H s→t D σ H→wpAny (model X.prog X.w) X.A (exec st X.env) (SP X pins D) X.xe s
def PSs(X:Cx)(st:List Stmt)(t:TS):Prop :=
 ∀(pins:AL) (s:Shared) (σ:St) (H:Hp) (D:Ends),Inv X pins σ H s→t D σ H→wpAny (model X.prog X.w) X.A (execs st X.env) (SP X pins D) X.xe s
theorem thn(h:wpAny M A t Q E s)(hQ:∀a s,Q a s→Q' a s):wpAny M A t Q' E s:=wpAny_mono h hQ λ_ _ x=>x
section
variable {X:Cx}
def tVar(i:Nat):TE:=λσ H Q=>∃v,σ[i]?=some (some v)∧Q v H
def tC(v:V):TE:=λ_ H Q=>Q v H
theorem VI(hN:X.N[i]?=some x)(hv:Vis X.env.scope x)(hd:(x == ("__debug__" : Str))=false:=by decide)(hcd:(x == ("__classdict__" : Str))=false:=by decide):PE X (.Name x pos) (tVar i):=by
 intro pins s σ H Q I h;obtain⟨v,e,h⟩:=h;obtain⟨m,hn,hl⟩:=I.loc;obtain⟨u,r,l⟩:=hl i x v hN e hv;have fin:EP X pins σ Q u s:=⟨v,H,I,r,h⟩
 rcases l with⟨hk,hm⟩ | ⟨hk,c,hc,hcell⟩
 ·exact wpAny_Name (wpAny_loadName_local I.ok.kind hk hn hm fin) hd
 ·rcases hk with hk | hk
  ·exact wpAny_Name (wpAny_loadName_cell I.ok.kind hk hc hcell fin) hd
  ·exact wpAny_Name (wpAny_loadName_free I.ok.kind hk hc hcell fin hcd) hd
theorem zg{i j pos}:PE X (.Constant (.int i) j pos) (tC (.int i)):=λ_ _ _ H _ I h=>wpAny_Constant_int ⟨.int i,H,I.tok _,⟨_,rfl⟩,h⟩
theorem uL{b j pos}:PE X (.Constant (.bool b) j pos) (tC (.bl b)):=λ_ _ _ H _ I h=>Constant_bool ⟨.bl b,H,I,rfl,h⟩
theorem tI{j pos}:PE X (.Constant .none j pos) (tC .non):=λ_ _ _ H _ I h=>Constant_none ⟨.non,H,I,rfl,h⟩
def Gl(X:Cx)(x:Str):Prop:=X.env.kindOf x=some .globalImplicit
theorem XO(I:Inv X pins σ H s)(hg:Gl X x)(hm:X.mg x=some u)(h:Q u s)
  (hd:(x == ("__debug__" : Str))=false:=by decide):wpAny (model X.prog X.w) X.A (eval (.Name x pos) X.env) Q E s :=
 Calls.Name_function_global I.ok.kind hg (Calls.loadGlobal_global (by rw[I.ok.glob]; exact I.mod.glob.keeps I.bk) hm h) hd
theorem vC(I:Inv X pins σ H s)(hg:Gl X x)(hm:X.mg x=none)(hv:bootBuiltins x=some u)(h:Q u s)
  (hn:x ≠ "__name__" := by decide) (hd:(x == ("__debug__" : Str))=false:=by decide):wpAny (model X.prog X.w) X.A (eval (.Name x pos) X.env) Q E s:=by
 obtain⟨mb,h1,h2⟩:=I.mod.blt;exact Calls.Name_function_global I.ok.kind hg (Calls.loadGlobal_builtin (by rw[I.ok.glob]; exact I.mod.glob.keeps I.bk) hm (by rw[I.ok.blt]; exact h1.keeps I.bk) ((h2 x hn).trans hv) h) hd
theorem zcr(hg:Gl X x)(hm:X.mg x=some u)(r:RelV v u)(hd:(x == ("__debug__" : Str))=false:=by decide):PE X (.Name x pos) (tC v) :=
 λ_ _ _ H _ I h=>XO I hg hm ⟨v,H,I,r,h⟩ hd
theorem Zh(hg:Gl X x)(hm:X.mg x=none)(hv:bootBuiltins x=some u)(r:RelV v u)(hn:x ≠ "__name__" := by decide)(hd:(x == ("__debug__" : Str))=false:=by decide):PE X (.Name x pos) (tC v) :=
 λ_ _ _ H _ I h=>vC I hg hm hv ⟨v,H,I,r,h⟩ hn hd
variable {a b:Expr}{ta tb:TE}{pos:Pos}
def PC(X:Cx)(op:CmpOp)(a b:Expr)(t:TE):Prop :=
 ∀(pins:AL) (s:Shared) (σ:St) (H:Hp) (Q:VK),Inv X pins σ H s→t σ H Q→
  wpAny (model X.prog X.w) X.A (eval a X.env) (λv s₁=>wpAny (model X.prog X.w) X.A (eval b X.env) (λu s₂=>wpAny (model X.prog X.w) X.A (compareOp op v u) (EP X pins σ Q) X.xe s₂) X.xe s₁) X.xe s
def tB(t:TE):TT:=λσ H Q=>t σ H λx H1=>∃c,x=.bl c∧Q c H1
theorem zap(h:PC X op a b t)(h1:behindInMarks op b=false:=by first | exact nobehind _ #[2] #[2] | rfl):PT X (.Compare a [op] [b] pos) (tB t):=by
 intro pins s σ H Q I hw;refine wpAny_isTrue_Compare1 (thn (h pins s σ H _ I hw) λv s1 h1=>thn h1 λu s2 h2=>thn h2 λc s3 ⟨x,H1,I1,r1,q1⟩=>?_) h1;obtain⟨d,rfl,q⟩:=q1;cases r1;exact wpAny_truthy_bool ⟨H1,I1,q⟩
theorem wq(h:PE X e t)(he:∀whole,isTrue e X.env whole=(do let v←whole; standAt e.pos; holding [v] (truthy v)):=by intro _; rfl):PT X e (tB t):=by
 intro pins s σ H Q I hw;refine isTrue_plain (thn (h pins s σ H _ I hw) λv s1 ⟨x,H1,I1,r1,q1⟩=>?_) (he _);obtain⟨d,rfl,q⟩:=q1;cases r1;exact wpAny_truthy_bool ⟨H1,I1,q⟩
variable {tA tB':TT}{rest:List Expr}
def tAnd(t u:TT):TT:=λσ H Q=>t σ H λc H1=>if c=true then u σ H1 Q else Q false H1
def tOr(t u:TT):TT:=λσ H Q=>t σ H λc H1=>if c=true then Q true H1 else u σ H1 Q
def tNot(t:TT):TT:=λσ H Q=>t σ H λc H1=>Q (!c) H1
theorem wU(ha:PT X a tA):PW X (.BoolOp .And [a] pos) tA:=by
 intro wh pins s σ H Q I h;refine isTrue_and (thn (ha pins s σ H Q I h) λc s1 e=>?_);cases c with
 | true=>exact isTrue_and_nil e
 | false=>exact e
theorem VF(ha:PT X a tA):PW X (.BoolOp .Or [a] pos) tA:=by
 intro wh pins s σ H Q I h;refine isTrue_or (thn (ha pins s σ H Q I h) λc s1 e=>?_);cases c with
 | false=>exact isTrue_or_nil e
 | true=>exact e
theorem vt(ha:PT X a tA)(hb:PW X (.BoolOp .And (b :: rest) pos) tB'):PW X (.BoolOp .And (a :: b :: rest) pos) (tAnd tA tB'):=by
 intro wh pins s σ H Q I h;refine isTrue_and (thn (ha pins s σ H _ I h) λc s1 ⟨H1,I1,q1⟩=>?_);cases c with
 | true=>exact hb wh pins s1 σ H1 Q I1 q1
 | false=>exact⟨H1,I1,q1⟩
theorem UD(ha:PT X a tA)(hb:PW X (.BoolOp .Or (b :: rest) pos) tB'):PW X (.BoolOp .Or (a :: b :: rest) pos) (tOr tA tB'):=by
 intro wh pins s σ H Q I h;refine isTrue_or (thn (ha pins s σ H _ I h) λc s1 ⟨H1,I1,q1⟩=>?_);cases c with
 | true=>exact⟨H1,I1,q1⟩
 | false=>exact hb wh pins s1 σ H1 Q I1 q1
theorem ui(ha:PT X a tA):PT X (.UnaryOp .Not a pos) (tNot tA):=by
 intro pins s σ H Q I h;exact isTrue_not (ha pins s σ H (λc H1=>Q (!c) H1) I h)
def zdt(ta tb:TE):TE:=λσ H Q=>ta σ H λx H1=>∃c,x=.bl c∧if c=true then tb σ H1 Q else Q (.bl false) H1
def tOrV(ta tb:TE):TE:=λσ H Q=>ta σ H λx H1=>∃c,x=.bl c∧if c=true then Q (.bl true) H1 else tb σ H1 Q
def zdr(ta:TE):TE:=λσ H Q=>ta σ H λx H1=>∃c,x=.bl c∧Q (.bl (!c)) H1
theorem VJ{op}(h:PE X a t):PE X (.BoolOp op [a] pos) t:=λpins s σ H Q I hw=>BoolOp_one (h pins s σ H Q I hw)
theorem zaA(ha:PE X a ta)(hb:PE X (.BoolOp .And (b :: rest) pos) tb):PE X (.BoolOp .And (a :: b :: rest) pos) (zdt ta tb):=by
 intro pins s σ H Q I h;refine BoolOp_and (thn (ha pins s σ H _ I h) λv s1 ⟨x,H1,I1,r1,q1⟩=>?_);obtain⟨c,rfl,q1⟩:=q1;cases r1;refine wpAny_truthy_bool ?_;cases c with
 | true=>exact hb pins s1 σ H1 Q I1 q1
 | false=>exact⟨.bl false,H1,I1,rfl,q1⟩
theorem zfl(ha:PE X a ta)(hb:PE X (.BoolOp .Or (b :: rest) pos) tb):PE X (.BoolOp .Or (a :: b :: rest) pos) (tOrV ta tb):=by
 intro pins s σ H Q I h;refine BoolOp_or (thn (ha pins s σ H _ I h) λv s1 ⟨x,H1,I1,r1,q1⟩=>?_);obtain⟨c,rfl,q1⟩:=q1;cases r1;refine wpAny_truthy_bool ?_;cases c with
 | false=>exact hb pins s1 σ H1 Q I1 q1
 | true=>exact⟨.bl true,H1,I1,rfl,q1⟩
theorem zee(ha:PE X a ta):PE X (.UnaryOp .Not a pos) (zdr ta):=by
 intro pins s σ H Q I h;refine UnaryOp_ (thn (ha pins s σ H _ I h) λv s1 ⟨x,H1,I1,r1,q1⟩=>?_);obtain⟨c,rfl,q1⟩:=q1;cases r1;exact not_of (wpAny_truthy_bool ⟨.bl (!c),H1,I1,rfl,q1⟩)
end
def SqL(K:ζc)(H:Hp)(a:Addr)(xs:List V):Prop :=
 Rd H a (.lst xs)∨
  ∃(o:Obj) (its:Array Value) (n:Nat),K.lookup a=some o∧o.cls=.type "list"∧o.dict=none∧o.data=.seq its n∧its.size≤sizeLine∧Vals xs its.toList
def SqT(K:ζc)(H:Hp)(a:Addr)(xs:List V):Prop :=
 Rd H a (.tup xs)∨
  ∃(o:Obj) (its:Array Value) (n:Nat),K.lookup a=some o∧o.cls=.type "tuple"∧o.data=.seq its n∧its.size≤sizeLine∧Vals xs its.toList
def absV:Value→Option V
 | .none=>some .non
 | .bool b=>some (.bl b)
 | .int i _=>some (.int i)
 | .str x _=>some (.str x)
 | .bytes b _=>some (.byt b)
 | .float b _=>some (.flt b)
 | .ref a=>some (.ref a)
 | .type n=>some (.ty n)
 | _=>none
theorem RelV.abs(r:RelV x u):absV u=some x:=by
 cases x with
 | non=>cases r; rfl
 | bl _=>cases r; rfl
 | int _=>obtain⟨t,rfl⟩:=r; rfl
 | str _=>obtain⟨t,rfl⟩:=r; rfl
 | byt _=>obtain⟨t,rfl⟩:=r; rfl
 | flt _=>obtain⟨t,rfl⟩:=r; rfl
 | ref _=>cases r; rfl
 | ty _=>cases r; rfl
theorem RelV.inj(r:RelV x u)(q:RelV y u):x=y:=ζr (r.abs.symm.trans q.abs)
theorem Vals.inj:∀{xs ys:List V} {us:AK},Vals xs us→Vals ys us→xs=ys
 | _,_,_,.nil,.nil=>rfl
 | _,_,_,.cons r t,.cons r' t'=>by rw[r.inj r',Vals.inj t t']
section
variable {X:Cx}{pins:AL}{σ:St}{H:Hp}{s:Shared}{a:Addr}{xs ys:List V}
theorem SqL.of{K:ζc}(h:H a=some (.lst xs)):SqL K H a xs:=.inl (.inl h)
theorem SqT.of{K:ζc}(h:H a=some (.tup xs)):SqT K H a xs:=.inl (.inl h)
theorem Inv.list(I:Inv X pins σ H s)(h:SqL X.K H a xs):∃its:AK,Vals xs its∧PlainL s.heap a its.toArray∧xs.length≤sizeLine:=by
 rcases h with h | ⟨o,its,n,hk,hc,hd,hs,hz,r⟩
 ·obtain⟨z,its,n,r,e⟩:=h.ok I.hok;exact⟨its,r,⟨_,n,e,rfl,rfl,rfl⟩,z⟩
 ·refine⟨its.toList,r,⟨o,n,I.kIn a o hk,hc,hd,by simpa using hs⟩,?_⟩
  have e:=r.length;simp only[Array.length_toList]at e;omega
theorem Inv.tuple(I:Inv X pins σ H s)(h:SqT X.K H a xs):∃its:AK,Vals xs its∧IsTup s.heap a its.toArray∧xs.length≤sizeLine:=by
 rcases h with h | ⟨o,its,n,hk,hc,hs,hz,r⟩
 ·obtain⟨z,its,r,p⟩:=h.ok I.hok;exact⟨its,r,p,z⟩
 ·refine⟨its.toList,r,⟨o,I.kIn a o hk,hc,n,by simpa using hs⟩,?_⟩
  have e:=r.length;simp only[Array.length_toList]at e;omega
theorem Inv.list_inj(I:Inv X pins σ H s)(h:SqL X.K H a xs)(h':SqL X.K H a ys):xs=ys:=by
 obtain⟨its,r,⟨o,n,e,_,_,d⟩,_⟩:=I.list h;obtain⟨its',r',⟨o',n',e',_,_,d'⟩,_⟩:=I.list h';rw[e]at e'; cases e';rw[d]at d';injection d' with d1 _;have:its=its':=by simpa using congrArg Array.toList d1
 subst this;exact r.inj r'
end
abbrev Cx.wish(X:Cx)(E:AN):Cx:={ X with xe:=E }
abbrev Cx.nox(X:Cx):Cx:=X.wish λ_ _=>False
theorem Cx.Ok.wish{X:Cx}(ok:X.Ok)(E:AN):(X.wish E).Ok :=
 ⟨ok.mod,ok.kind,ok.glob,ok.blt,ok.above,ok.inj,ok.has,ok.cab,ok.hd,ok.frames,ok.stk,ok.exf,ok.bs,ok.bsz,ok.noex,ok.exfs,ok.funs,ok.frf,ok.tb⟩
theorem Cx.Ok.unwish{X:Cx}{E:AN}(ok:(X.wish E).Ok):X.Ok :=
 ⟨ok.mod,ok.kind,ok.glob,ok.blt,ok.above,ok.inj,ok.has,ok.cab,ok.hd,ok.frames,ok.stk,ok.exf,ok.bs,ok.bsz,ok.noex,ok.exfs,ok.funs,ok.frf,ok.tb⟩
section
variable {X:Cx}{pins:AL}{σ:St}{H:Hp}{s:Shared}{E:AN}
theorem Inv.wish(I:Inv X pins σ H s)(E:AN):Inv (X.wish E) pins σ H s:=⟨I.ok.wish E,I.os,I.bare,I.base,I.loc,I.cell,I.free,I.freeC,I.pin,I.hok,I.len⟩
theorem Inv.unwish(I:Inv (X.wish E) pins σ H s):Inv X pins σ H s:=⟨I.ok.unwish,I.os,I.bare,I.base,I.loc,I.cell,I.free,I.freeC,I.pin,I.hok,I.len⟩
theorem SP.unwish(h:SP (X.wish E) pins D f s'):SP X pins D f s':=by
 cases f with
 | next=>obtain⟨σ',H',I,q⟩:=h; exact⟨σ',H',I.unwish,q⟩
 | brk=>obtain⟨σ',H',I,q⟩:=h; exact⟨σ',H',I.unwish,q⟩
 | cont=>obtain⟨σ',H',I,q⟩:=h; exact⟨σ',H',I.unwish,q⟩
 | ret u=>obtain⟨v,σ',H',I,r,q⟩:=h; exact⟨v,σ',H',I.unwish,r,q⟩
theorem PSs.nox{st:List Stmt}{t:TS}(h:PSs X.nox st t):PSs X st t:=λpins s σ H D I hw =>
 wpAny_mono (h pins s σ H D (I.wish _) hw) (λ_ _ q=>q.unwish) λ_ _ z=>False.elim z
end
section
variable {X:Cx}{st:Stmt}{rest:List Stmt}{t u:TS}{e:Expr}{te:TE}{pos:Pos}
def Wj:TS:=λD σ H=>D.nx σ H
def tSeq(t u:TS):TS:=λD σ H=>t { D with nx:=u D } σ H
theorem zV:PSs X [] Wj:=λ_ _ σ H _ I h=>wpAny_execs_nil ⟨σ,H,I,h⟩
theorem ze(h1:PS X st t)(h2:PSs X rest u):PSs X (st :: rest) (tSeq t u):=by
 intro pins s σ H D I h;refine wpAny_execs_cons (thn (h1 pins s σ H { D with nx:=u D } I h) λf s1 q=>?_);cases f with
 | next =>
  obtain⟨σ',H',I',q⟩:=q;exact h2 pins s1 σ' H' D I' q
 | ret v=>exact q
 | brk=>exact q
 | cont=>exact q
theorem zi(h1:PS X st t):PSs X [st] t:=by
 intro pins s σ H D I h;refine wpAny_execs_cons (thn (h1 pins s σ H D I h) λf s1 q=>?_);cases f with
 | next=>exact wpAny_execs_nil q
 | ret v=>exact q
 | brk=>exact q
 | cont=>exact q
theorem Inv.quiet(I:Inv X pins σ H s):interactive X.env=false:=by simp[interactive,I.ok.kind]
def x6(te:TE):TS:=λD σ H=>te σ H λ_ H1=>D.nx σ H1
theorem yg(he:PE X e te)(hs:swapsWith e none pos.line X.env=pure false:=by rfl):PS X (.Expr e pos) (x6 te):=by
 intro pins s σ H D I h;exact wpAny_Expr_any (thn (he pins s σ H _ I h) λv s1 ⟨x,H1,I1,r1,q1⟩=>⟨σ,H1,I1,q1⟩) I.quiet hs
def tRet(te:TE):TS:=λD σ H=>te σ H D.rt
theorem zG(he:PE X e te):PS X (.Return (some e) pos) (tRet te):=by
 intro pins s σ H D I h;exact wpAny_Return_some (thn (he pins s σ H _ I h) λv s1 ⟨x,H1,I1,r1,q1⟩=>⟨x,σ,H1,I1,r1,q1⟩)
def tIfS(c:TT)(t u:TS):TS:=λD σ H=>c σ H λb H1=>if b=true then t D σ H1 else u D σ H1
theorem yx(hc:PT X c tc)(ha:PSs X a t)(hb:PSs X b u):PS X (.If c a b pos) (tIfS tc t u):=by
 intro pins s σ H D I h;refine wpAny_If (thn (hc pins s σ H _ I h) λd s1 ⟨H1,I1,q1⟩=>?_);cases d with
 | true=>exact ha pins s1 σ H1 D I1 q1
 | false=>exact hb pins s1 σ H1 D I1 q1
def zdX:TS:=λ_ _ _=>False
theorem ZC:PS X st zdX:=λ_ _ _ _ _ _ h=>h.elim
end
abbrev TG:=V→St→Hp→(St→Hp→Prop)→Prop
abbrev TGs:=List V→St→Hp→(St→Hp→Prop)→Prop
def PG(X:Cx)(target:Expr)(t:TG):Prop :=
 ∀(pins:AL) (s:Shared) (σ:St) (H:Hp) (v:V) (u:Value) (Q:St→Hp→Prop),Inv X pins σ H s→RelV v u→t v σ H Q→
  wpAny (model X.prog X.w) X.A (assign target X.env u) (λ_ s'=>∃σ' H',Inv X pins σ' H' s'∧Q σ' H') X.xe s
def PGs(X:Cx)(ts:List Expr)(t:TGs):Prop :=
 ∀(pins:AL) (s:Shared) (σ:St) (H:Hp) (vs:List V) (us:AK) (Q:St→Hp→Prop),Inv X pins σ H s→Vals vs us→t vs σ H Q→
  wpAny (model X.prog X.w) X.A (assignInOrder ((assignEach ts X.env).map (·.2)) us) (λ_ s'=>∃σ' H',Inv X pins σ' H' s'∧Q σ' H') X.xe s
abbrev TSet:=V→V→V→Hp→(Hp→Prop)→Prop
def PSet(X:Cx)(t:TSet):Prop :=
 ∀(pins:AL) (s:Shared) (σ:St) (H:Hp) (o i v:V) (ov iv u:Value) (Q:Hp→Prop),Inv X pins σ H s→RelV o ov→RelV i iv→RelV v u→t o i v H Q→
  wpAny (model X.prog X.w) X.A (setItem ov iv u) (λ_ s'=>∃H',Inv X pins σ H' s'∧Q H') X.xe s
section
variable {X:Cx}{pos:Pos}
def yG(i:Nat):TG:=λv σ H Q=>Q (σ.set i (some v)) H
theorem zcq(hN:X.N.Nodup)(hi:X.N[i]?=some x)(hx:Loc X.env.scope x)(hf:X.fn x=true∨X.env.scope.names.lookup x=some .local:=by first | exact .inl rfl | exact .inr rfl | assumption):PG X (.Name x pos) (yG i):=by
 intro pins s σ H v u Q I r h;exact wpAny_assign_Name (Wm I hN hi hx r (λs' I'=>⟨_,H,I',h⟩) hf)
def gNil:TGs:=λvs σ H Q=>vs=[]∧Q σ H
def t8(t:TG)(u:TGs):TGs:=λvs σ H Q=>∃v r,vs=v :: r∧t v σ H λσ' H'=>u r σ' H' Q
theorem xP:PGs X [] gNil:=by
 intro pins s σ H vs us Q I r h;obtain⟨e,h⟩:=h;subst e;cases r;exact assignInOrder_nil ⟨σ,H,I,h⟩
theorem yf(h1:PG X e t)(h2:PGs X es u)
  (hs:(assignEach (e :: es) X.env).map (·.2)=assign e X.env :: (assignEach es X.env).map (·.2):=by rfl):PGs X (e :: es) (t8 t u):=by
 intro pins s σ H vs us Q I r h;obtain⟨v,vr,e1,h⟩:=h;subst e1;cases r with
 | cons r rr =>
  rw[hs];refine assignInOrder_cons (thn (h1 pins s σ H _ _ _ I r h) λ_ s1 ⟨σ1,H1,I1,q1⟩=>?_);exact h2 pins s1 σ1 H1 _ _ Q I1 rr q1
def gTup(K:ζc)(n:Nat)(t:TGs):TG:=λv σ H Q=>∃a xs,v=.ref a∧SqT K H a xs∧xs.length=n∧t xs σ H Q
theorem zed(hc:X.calm=true)(h:PGs X es t)
  (hn:(assignEach es X.env).length=n:=by rfl) (hst:(assignEach es X.env).findIdx? (·.1)=none:=by rfl):PG X (.Tuple es k pos) (gTup X.K n t):=by
 intro pins s σ H v u Q I r hw;obtain⟨a,xs,e1,hq,hl,hw⟩:=hw;subst e1;cases r;obtain⟨its,rv,ht,hz⟩:=I.tuple hq;refine assign_Tuple_tuple (I.ok.hd hc) ht (by simp[hn,←hl,rv.length]) hst λh' hx=>?_;have I1:Inv X pins σ H { s with heap:=h' }:=I.kept (t':=s.toks) λb o e=>hx b o (ζL (ζm e)) e;exact h pins _ σ H xs _ Q I1 (by simpa using rv) hw
def gSub(to ti:TE)(t:TSet):TG:=λv σ H Q=>to σ H λo H1=>ti σ H1 λi H2=>t o i v H2 λH3=>Q σ H3
theorem VH(ho:PE X o to)(hi:PE X i ti)(hs:PSet X t)
  (ha:∀v,assign (.Subscript o i pos) X.env v=(do
   let ov←holding [v] (eval o X.env);let iv←holding [v,ov] (eval i X.env)
   standAt pos
   holding [v,ov,iv] (setItem ov iv v)
   release [v,ov,iv] []):=by intro _; rfl):PG X (.Subscript o i pos) (gSub to ti t):=by
 intro pins s σ H v u Q I r h;rw[ha];refine AA (wpAny_holding (thn (ho pins s σ H _ I h) λov s1 ⟨x,H1,I1,r1,q1⟩=>?_));refine AA (wpAny_holding (thn (hi pins s1 σ H1 _ I1 q1) λiv s2 ⟨y,H2,I2,r2,q2⟩=>?_));refine AA (wpAny_standAt (AA (wpAny_holding (thn (hs pins s2 σ H2 x y v ov iv u _ I2 r1 r2 r q2) λ_ s3 ⟨H3,I3,q3⟩=>?_))));exact wpAny_release ⟨σ,H3,I3,q3⟩
def tAsg(te:TE)(g:TG):TS:=λD σ H=>te σ H λx H1=>g x σ H1 D.nx
theorem Xr(he:PE X e te)(hg:PG X tg g)(hs:swapsWithSole [tg] e pos.line X.env=pure false:=by rfl)(hw:swappedStores [tg] e X.env=pure none:=by rfl)
  (h1:(assignEach [tg] X.env).map (·.2)=[assign tg X.env]:=by rfl):PS X (.Assign [tg] e pos) (tAsg te g):=by
 intro pins s σ H D I h;refine wpAny_Assign_stores (thn (he pins s σ H _ I h) λv s1 ⟨x,H1,I1,r1,q1⟩=>?_) hs hw;rw[h1];exact thn (hg pins s1 σ H1 x v _ I1 r1 q1) λ_ s2 q=>q
theorem zd7(hN:X.N.Nodup)(hi:X.N[i]?=some x)(hx:Loc X.env.scope x)(he:PE X e te)(hs:swapsWith e (some (.Name x pos')) pos.line X.env=pure false:=by rfl)(hf:X.fn x=true∨X.env.scope.names.lookup x=some .local:=by first | exact .inl rfl | exact .inr rfl | assumption):
  PS X (.Assign [.Name x pos'] e pos) (tAsg te (yG i)):=by
 intro pins s σ H D I h;refine wpAny_Assign_Name (thn (he pins s σ H _ I h) λv s1 ⟨y,H1,I1,r1,q1⟩=>?_) hs;exact Wm I1 hN hi hx r1 (λs2 I2=>⟨_,H1,I2,q1⟩) hf
def QU(c:TT)(tb:TS):TS:=λD σ H=>∃W:Nat→St→Hp→Prop,(∃m,W m σ H)∧∀m σ H,W m σ H→
 c σ H λb H1=>if b=true then∃N:St→Hp→Prop,(∀σ' H',N σ' H'→∃m',m' < m∧W m' σ' H')∧tb { D with nx:=N,ct:=N,bk:=D.nx } σ H1 else D.nx σ H1
theorem wD(hp:PassesOwn (model X.prog X.w) X.A X.env X.xe)(hc:PT X c tc)(hb:PSs X body tb):PS X (.While c body [] pos) (QU tc tb):=by
 intro pins s σ H D I h;obtain⟨W,⟨m0,w0⟩,turn⟩:=h;refine wpAny_While (codeAny_whileLoop (λn s'=>∃σ' H',Inv X pins σ' H' s'∧W n σ' H') ?_ m0 ⟨σ,H,I,w0⟩);rintro n s1 ⟨σ1,H1,I1,w1⟩;refine wpAny_passesOwn hp (thn (hc pins s1 σ1 H1 _ I1 (turn n σ1 H1 w1)) λb s2 ⟨H2,I2,q2⟩=>?_);cases b with
 | true =>
  obtain⟨N,hN,q2⟩:=q2;rw[if_pos rfl];refine wpAny_passesOwn hp (thn (hb pins s2 σ1 H2 _ I2 q2) λf s3 q3=>?_);cases f with
  | next =>
   obtain⟨σ3,H3,I3,n3⟩:=q3;obtain⟨m',hm,w3⟩:=hN σ3 H3 n3;exact⟨m',hm,σ3,H3,I3,w3⟩
  | cont =>
   obtain⟨σ3,H3,I3,n3⟩:=q3;obtain⟨m',hm,w3⟩:=hN σ3 H3 n3;exact⟨m',hm,σ3,H3,I3,w3⟩
  | brk=>exact q3
  | ret v=>exact q3
 | false =>
  rw[if_neg ζF];exact wpAny_execs_nil ⟨σ1,H2,I2,q2⟩
end
structure It where
 go:Nat→Hp→Prop
 yld:Nat→Hp→V→Hp→Prop
 stop:Nat→Hp→Prop
def FpOk(X:Cx)(pins:AL)(H:Hp)(b:Addr):Prop :=
 H b=none∧b≠X.env.locals∧b∉X.fs∧(b∈X.ex∨X.s₀.heap.objs.size≤b)∧(∀x c,X.env.cells.lookup x=some c→c≠b)∧∀p∈X.pn ++ pins,p.1≠b
theorem Inv.fpOk(I:Inv X pins σ H s)(hb:s.heap.objs.size≤b)(hn:H' b=none):FpOk X pins H' b:=by
 refine⟨hn,ξv (ζA I.lt hb),I.nofs hb,.inr (ζZ I.sz hb),λx c e z=>?_,λp hp z=>?_⟩
 ·obtain⟨v,q⟩:=I.cell x c e;exact absurd (ζA q.lt (by rw[z]; exact hb)) (ξq _)
 ·exact absurd (ζA (ζm (I.pin p hp).1) (by rw[z]; exact hb)) (ξq _)
structure Turn(P:Program)(w:World)(K:ζc)(tg:Expr)(J:It)(fp:List Addr)(it:Addr)(tn:Nat→Heap→Prop):Prop where
 mem:it∈fp
 obj:∀i h,tn i h→∀b∈fp,∃o,h.get? b=some o∧∀v,o.data≠.cell v
 keep:∀i h h',tn i h→(∀b∈fp,∀o,h.get? b=some o→h'.get? b=some o)→tn i h'
 item:∀(X:Cx),X.prog=P→X.w=w→X.K=K→X.calm=true→∀(i:Nat) (pins:AL) (s:Shared) (σ:St) (H:Hp) (E:AN),Inv X pins σ H s→(∀b∈fp,FpOk X pins H b)→tn i s.heap→J.go i H→
  wpAny (model P w) X.A (pyNext (.ref it)) (λr s1=>∃u,r=some u∧
   wpAny (model P w) X.A (letOwnedTupleGo tg (.ref it) u) (λ_ s2=>∃x H',Inv X pins σ H' s2∧RelV x u∧J.yld i H x H'∧tn (i + 1) s2.heap∧∀b∈fp,H' b=none) E s1) E s
 done:∀(X:Cx),X.prog=P→X.w=w→X.K=K→X.calm=true→∀(i:Nat) (pins:AL) (s:Shared) (σ:St) (H:Hp) (E:AN),Inv X pins σ H s→(∀b∈fp,FpOk X pins H b)→tn i s.heap→J.stop i H→
  wpAny (model P w) X.A (pyNext (.ref it)) (λr s1=>r=none∧Inv X pins σ H s1) E s
 self:∀(A:Around) (i:Nat) (s:Shared) (Q:AN) (E:AN),tn i s.heap→Q (.ref it) s→wpAny (model P w) A (pyIter (.ref it)) Q E s
abbrev TI:=St→Hp→(It→Hp→Prop)→Prop
def PIE(X:Cx)(pins:AL)(σ:St)(tg:Expr)(R:It→Hp→Prop)(itv:Value)(s2:Shared):Prop :=
 ∃(it:Addr) (fp:List Addr) (tn:Nat→Heap→Prop) (J:It) (H':Hp),itv=.ref it∧Inv X pins σ H' s2∧Turn X.prog X.w X.K tg J fp it tn∧tn 0 s2.heap∧(∀b∈fp,FpOk X pins H' b)∧R J H'
def PI(X:Cx)(tg iter:Expr)(wi:TI):Prop :=
 ∀(pins:AL) (s:Shared) (σ:St) (H:Hp) (R:It→Hp→Prop),Inv X pins σ H s→wi σ H R→
  wpAny (model X.prog X.w) X.A (eval iter X.env) (λv s1=>wpAny (model X.prog X.w) X.A (pyIter v) (PIE X pins σ tg R) X.xe s1) X.xe s
theorem za3(ho:s.heap.get? it=some o)(hc:o.cls=.type n)(hd:o.data=.fields vs)
  (hn:["enumerate","zip","dict_itemiterator","dict_reverseitemiterator","odict_iterator","itertools.zip_longest","itertools.pairwise"].contains n=false) (hQ:Q () s):wpAny M A (letOwnedTupleGo tg (.ref it) u) Q E s:=by
 unfold letOwnedTupleGo
 cases tg <;> first
  | exact AB hQ
  | (cases u <;> first
    | exact AB hQ
    | (refine AA (wpAny_load ho ?_)
       rw[hc,hd];show wpAny M A (if(["enumerate","zip","dict_itemiterator","dict_reverseitemiterator","odict_iterator","itertools.zip_longest","itertools.pairwise"].contains n && vs[0]? == some (rawInt _))=true then _ else _) Q E s;rw[if_neg (by intro h; rw[hn,Bool.false_and]at h; cases h)];exact AB hQ))
def Itl(K:ζc)(a:Addr):It :=
 ⟨λi H=>∃xs x,SqL K H a xs∧xs[i]?=some x,λi H x H'=>H'=H∧∀xs,SqL K H a xs→xs[i]?=some x,λi H=>∃xs,SqL K H a xs∧xs.length≤i⟩
def Itr(lo:Int)(n:Nat):It:=⟨λi _=>i < n,λi H x H'=>H'=H∧x=.int (lo + i),λi _=>n≤i⟩
theorem Ts{P:Program}{w:World}{K:ζc}{tg:Expr}(a it:Addr):Turn P w K tg (Itl K a) [it] it (λi h=>h.IsListIter it a i) where
 mem:=by simp
 obj:=λi h st b hb=>by
  have e:b=it:=by simpa using hb
  subst e;obtain⟨o,e,c,d⟩:=st;exact⟨o,e,λv z=>by rw[d]at z; cases z⟩
 keep:=λi h h' st k=>st.at λo e=>k it (by simp) o e
 item:=by
  intro X hP hw hK hc i pins s σ H E I hf st hg;subst hP hw hK;obtain⟨xs,x,hq,hx⟩:=hg;obtain⟨its,rv,p,hz⟩:=I.list hq;obtain⟨u,hu,ru⟩:=rv.get hx;obtain⟨f0,f1,f2,f3,f4,f5⟩:=hf it (by simp);refine wpAny_pyNext_list_item st p.isList (x:=u) (by simpa using hu) λh' st' sb=>?_;have I1:Inv X pins σ H { s with heap:=h' }:=I.turned (t':=s.toks) (λb o hb e=>(sb.2 b hb).trans e) f0 f1 f3 f4 f5;obtain⟨o,e,c,d⟩:=id st';exact⟨u,rfl,za3 (s:={ s with heap:=h' }) e c d #[2] ⟨x,H,I1,ru,⟨rfl,λys hy=>by rw[I.list_inj hy hq]; exact hx⟩,st',λb hb=>(hf b hb).1⟩⟩
 done:=by
  intro X hP hw hK hc i pins s σ H E I hf st hg;subst hP hw hK;obtain⟨xs,hq,hx⟩:=hg;obtain⟨its,rv,p,hz⟩:=I.list hq;obtain⟨f0,f1,f2,f3,f4,f5⟩:=hf it (by simp);have hl:=rv.length;exact wpAny_pyNext_list_end (I.ok.hd hc) st p.isList (by simp; omega) λh' eb=>⟨rfl,I.turned (t':=s.toks) (λb o hb e=>eb b o hb e) f0 f1 f3 f4 f5⟩
 self:=λ_ _ _ _ _ st h=>wpAny_pyIter_listiter st h
theorem Vs{P:Program}{w:World}{K:ζc}{tg:Expr}(it:Addr)(lo:Int)(n:Nat):Turn P w K tg (Itr lo n) [it] it (λi h=>IsRangeIter h it (lo + (i:Nat) * 1) ((n:Int) - (i:Nat)) 1) where
 mem:=by simp
 obj:=λi h st b hb=>by
  have e:b=it:=by simpa using hb
  subst e;exact⟨_,st,λv z=>by
   have z':Data.fields _=Data.cell v:=z;cases z'⟩
 keep:=λi h h' st k=>k it (by simp) _ st
 item:=by
  intro X hP hw hK hc i pins s σ H E I hf st hg;subst hP hw hK;obtain⟨f0,f1,f2,f3,f4,f5⟩:=hf it (by simp);have W:=Walks.range (prog:=X.prog) (w:=X.w) (I.ok.hd hc) it lo 1 n;refine W.item i s _ _ hg st λv h' tk hv st' kk=>?_;obtain⟨t,rfl⟩:=hv;have I1:Inv X pins σ H { s with heap:=h',toks:=tk }:=I.turned (λb o hb e=>kk b o (by simpa using hb) e) f0 f1 f3 f4 f5;refine⟨_,rfl,za3 (s:={ s with heap:=h',toks:=tk }) (n := "range_iterator") st' rfl rfl #[2] ⟨.int (lo + i),H,I1,⟨t,?_⟩,⟨rfl,rfl⟩,st',λb hb=>(hf b hb).1⟩⟩
  rw[Int.mul_one]
 done:=by
  intro X hP hw hK hc i pins s σ H E I hf st hg;subst hP hw hK;obtain⟨f0,f1,f2,f3,f4,f5⟩:=hf it (by simp);exact wpAny_pyNext_range_end (I.ok.hd hc) st (by have:n≤i:=hg; omega) λh' eb=>⟨rfl,I.turned (t':=s.toks) (λb o hb e=>eb b o hb e) f0 f1 f3 f4 f5⟩
 self:=λ_ _ _ _ _ st h=>wpAny_pyIter_rangeiter st h
section
variable {X:Cx}{tg:Expr}
def U1(K:ζc)(tl:TE):TI:=λσ H R=>tl σ H λx H1=>∃a,x=.ref a∧(∃xs,SqL K H1 a xs)∧R (Itl K a) H1
theorem zcp{l:Expr}{tl:TE}(hl:PE X l tl):PI X tg l (U1 X.K tl):=by
 intro pins s σ H R I h;refine thn (hl pins s σ H _ I h) λv s1 ⟨x,H1,I1,r1,q1⟩=>?_;obtain⟨a,e,⟨xs,hq⟩,q⟩:=q1;subst e;cases r1;obtain⟨its,rv,p,hz⟩:=I1.list hq;refine wpAny_pyIter_list p.isList ?_;refine⟨s1.heap.objs.size,[s1.heap.objs.size],_,_,H1,rfl,I1.kept (t':=s1.toks) λb o e=>ζe _ e,Ts a _,⟨_,ζt _ rfl,rfl,rfl⟩,λb hb=>?_,q⟩
 have e:b=s1.heap.objs.size:=by simpa using hb
 subst e;exact I1.fpOk (ζj _) (I1.hok.fresh (ζj _))
theorem WD{lo hi:Int}{t u v:Tok}{tk:Nat}(I:Inv X pins σ H s)(h1:-(2 ^ 62)≤lo)(h2:lo < 2 ^ 62)(h3:-(2 ^ 62)≤hi)(h4:hi < 2 ^ 62)
  (q:R (Itr lo (hi - lo).toNat) H):wpAny (model X.prog X.w) X.A (pyIter (.ref s.heap.objs.size)) (PIE X pins σ tg R) E { s with heap:=s.heap.push { cls:=.type "range", data:=.fields #[.int lo t,.int hi u,.int 1 v] },toks:=tk }:=by
 refine wpAny_pyIter_range (IsRange.new ..) (small_one h1 h2 h3 h4) ?_;have I1:Inv X pins σ H { s with heap:=s.heap.push { cls:=.type "range", data:=.fields #[.int lo t,.int hi u,.int 1 v] },toks:=tk }:=I.kept λb o e=>ζe _ e
 refine⟨(s.heap.push { cls:=.type "range", data:=.fields #[.int lo t,.int hi u,.int 1 v] }).objs.size,[(s.heap.push { cls:=.type "range", data:=.fields #[.int lo t,.int hi u,.int 1 v] }).objs.size],_,_,H,rfl,
  I1.kept (t':=tk) λb o e=>ζe _ e,Vs _ lo (hi - lo).toNat,?_,λb hb=>?_,q⟩
 ·have e1:lo + ((0:Nat):Int) * 1=lo:=by simp
  have e2:(((hi - lo).toNat:Nat):Int) - ((0:Nat):Int)=Builtin.Range.rangeSize lo hi 1:=by rw[rangeSize_one]; split <;> omega
  show IsRangeIter _ _ (lo + ((0:Nat):Int) * 1) ((((hi - lo).toNat:Nat):Int) - ((0:Nat):Int)) 1;rw[e1,e2];exact ζt _ rfl
 ·have e:b=(s.heap.push { cls:=.type "range", data:=.fields #[.int lo t,.int hi u,.int 1 v] }).objs.size:=by simpa using hb
  subst e;exact I1.fpOk (ζj _) (I1.hok.fresh (ζj _))
def za0(ta:TA):TI:=λσ H R=>ta σ H λvs H1=>∃j:Int,vs=[.int j]∧-(2 ^ 62)≤j∧j < 2 ^ 62∧R (Itr 0 j.toNat) H1
def zdH(ta:TA):TI:=λσ H R=>ta σ H λvs H1=>∃i j:Int,vs=[.int i,.int j]∧(-(2 ^ 62)≤i∧i < 2 ^ 62∧-(2 ^ 62)≤j∧j < 2 ^ 62)∧R (Itr i (j - i).toNat) H1
theorem yi{a:Expr}{ta:TA}{p pos:Pos}(hg:Gl X "range")(hm:X.mg "range" = none)(ha:PA X [a] ta)(hs:starEach [a] X.env=[(false,eval a X.env)]:=by rfl):PI X tg (.Call (.Name "range" p) [a] [] pos) (za0 ta):=by
 intro pins s σ H R I h;refine Call_ (vC I hg hm boot_range (PyProof.Rows.callWith_type1 (thn (ha pos pins s σ H _ I h) λus s1 ⟨vs,H1,I1,r1,q1⟩=>?_) hs rfl));obtain⟨j,e,q1,q2,q⟩:=q1;subst e;cases r1 with
 | cons r rr =>
  cases rr;obtain⟨t,rfl⟩:=r;exact call_range_1 (WD I1 ⋯ ⋯ q1 q2 (by simpa using q))
theorem TQ(hg:Gl X "range")(hm:X.mg "range" = none)(ha:PA X [a,b] ta)(hs:starEach [a,b] X.env=[(false,eval a X.env),(false,eval b X.env)]:=by rfl)(hs2:starEach [b] X.env=[(false,eval b X.env)]:=by rfl):
  PI X tg (.Call (.Name "range" p) [a,b] [] pos) (zdH ta):=by
 intro pins s σ H R I h;refine Call_ (vC I hg hm boot_range (PyProof.Rows.callWith_type1 (thn (ha pos pins s σ H _ I h) λus s1 ⟨vs,H1,I1,r1,q1⟩=>?_) (by rw[hs,hs2]) (by rw[hs2]; rfl)));obtain⟨i,j,e,⟨q1,q2,q3,q4⟩,q⟩:=q1;subst e;cases r1 with
 | cons r rr =>
  cases rr with
  | cons r' rr =>
   cases rr;obtain⟨t,rfl⟩:=r;obtain⟨t',rfl⟩:=r';exact call_range_2 (WD I1 q1 q2 q3 q4 q)
def tFor(wi:TI)(g:TG)(tb:TS):TS:=λD σ H=>wi σ H λJ H1=>∃W:Nat→Nat→St→Hp→Prop,(∃m,W 0 m σ H1)∧∀i m σ H,W i m σ H→
 (J.stop i H∧D.nx σ H)∨(J.go i H∧∃N:St→Hp→Prop,(∀σ' H',N σ' H'→∃m',m' < m∧W (i + 1) m' σ' H')∧∀x H',J.yld i H x H'→g x σ H' λσ2 H2=>tb { D with nx:=N,ct:=N,bk:=D.nx } σ2 H2)
def ZI(fp:List Addr)(h:Heap):AL:=fp.filterMap λb=>(h.get? b).map λo=>(b,o)
theorem w8(hb:b∈fp)(e:h.get? b=some o):(b,o)∈ZI fp h:=ξU.mpr ⟨b,hb,by rw[e]; rfl⟩
theorem T3(hp:p∈ZI fp h):p.1∈fp∧h.get? p.1=some p.2:=by
 obtain⟨b,hb,e⟩:=ξU.mp hp;cases q:h.get? b with
 | none=>rw[q]at e; cases e
 | some o =>
  rw[q]at e;have e':(b,o)=p:=ζr e;subst e';exact⟨hb,q⟩
theorem Inv.pinned(I:Inv X pins σ H s)(hf:∀b∈fp,FpOk X pins H b)(ho:∀b∈fp,∃o,s.heap.get? b=some o∧∀v,o.data≠.cell v):Inv X (pins ++ ZI fp s.heap) σ H s :=
 I.pins_of λp hp=>(ζw.mp hp).elim (λz=>I.pin p (ζN _ z)) λz=>by
  obtain⟨hb,e⟩:=T3 z;obtain⟨f0,f1,f2,_⟩:=hf p.1 hb;obtain⟨o,e',d⟩:=ho p.1 hb;rw[e]at e'; cases e';exact⟨e,f0,f1,f2,d⟩
theorem Inv.unpinned(I:Inv X (pins ++ pl) σ H s):Inv X pins σ H s:=I.pins_of λp hp=>I.pin p (ζN _ (ζS _ hp))
theorem zZ(hp:PassesOwn (model X.prog X.w) X.A X.env X.xe)(hc:X.calm=true)(hi:PI X tg iter wi)(hg:PG X tg g)(hb:PSs X body tb)
  (hs:∀x,foldedSetIterable iter X.env x=pure x:=by intro _; rfl):PS X (.For tg iter body [] pos) (tFor wi g tb):=by
 intro pins s σ H D I h;refine wpAny_For (thn (hi pins s σ H _ I h) λv s1 h1=>thn h1 λitv s2 h2=>?_) hs;obtain⟨it,fp,tn,J,H2,e,I2,T,st2,f2,W,⟨m0,w0⟩,turn⟩:=h2;subst e;have stat:∀{H':Hp},(∀b∈fp,H' b=none)→∀b∈fp,FpOk X pins H' b:=λhn b hb=>⟨hn b hb,(f2 b hb).2⟩
 refine codeAny_forLoop_any (λn s'=>∃i σ' H',Inv X pins σ' H' s'∧tn i s'.heap∧(∀b∈fp,H' b=none)∧W i n σ' H') ?_ m0 ⟨0,σ,H2,I2,st2,λb hb=>(f2 b hb).1,w0⟩;rintro n s3 ⟨i,σ3,H3,I3,st3,fr3,w3⟩;rcases turn i n σ3 H3 w3 with⟨stop,qn⟩ | ⟨go,N,hN,step⟩
 ·refine wpAny_passesOwn hp (thn (T.done X rfl rfl rfl hc i pins s3 σ3 H3 X.xe I3 (stat fr3) st3 stop) λr s4 ⟨hr,I4⟩=>?_);subst hr;exact wpAny_execs_nil ⟨σ3,H3,I4,qn⟩
 ·refine wpAny_passesOwn hp (thn (T.item X rfl rfl rfl hc i pins s3 σ3 H3 X.xe I3 (stat fr3) st3 go) λr s4 ⟨u,hr,h4⟩=>?_);subst hr;refine wpAny_passesOwn hp (thn h4 λ_ s5 ⟨x,H5,I5,r5,y5,st5,fr5⟩=>?_);have I5':=I5.pinned (stat fr5) (T.obj _ _ st5);refine wpAny_passesOwn hp (thn (hg _ s5 σ3 H5 x u _ I5' r5 (step x H5 y5)) λ_ s6 ⟨σ6,H6,I6,q6⟩=>?_);refine wpAny_passesOwn hp (thn (hb _ s6 σ6 H6 _ I6 q6) λf s7 q7=>?_);have again:∀{σ7:St} {H7:Hp},Inv X (pins ++ ZI fp s5.heap) σ7 H7 s7→N σ7 H7→∃m,m < n∧∃i σ' H',Inv X pins σ' H' s7∧tn i s7.heap∧(∀b∈fp,H' b=none)∧W i m σ' H':=λ{σ7 H7} I7 n7=>by
   obtain⟨m',hm,w7⟩:=hN σ7 H7 n7;refine⟨m',hm,i + 1,σ7,H7,I7.unpinned,T.keep _ _ _ st5 λb hb o e=>(I7.pin (b,o) (ζN _ (ζN _ (w8 hb e)))).1,λb hb=>?_,w7⟩
   obtain⟨o,e,d⟩:=T.obj _ _ st5 b hb;exact(I7.pin (b,o) (ζN _ (ζN _ (w8 hb e)))).2.1
  cases f with
  | next=>obtain⟨σ7,H7,I7,n7⟩:=q7; exact again I7 n7
  | cont=>obtain⟨σ7,H7,I7,n7⟩:=q7; exact again I7 n7
  | brk=>obtain⟨σ7,H7,I7,q7⟩:=q7; exact⟨σ7,H7,I7.unpinned,q7⟩
  | ret v=>obtain⟨x7,σ7,H7,I7,r7,q7⟩:=q7; exact⟨x7,σ7,H7,I7.unpinned,r7,q7⟩
end
abbrev R2:=V→V→Hp→VK→Prop
def OpR(X:Cx)(f:Value→Value→Sem Value)(r:R2):Prop :=
 ∀(pins:AL) (s:Shared) (σ:St) (H:Hp) (x y:V) (v u:Value) (Q:VK),Inv X pins σ H s→RelV x v→RelV y u→r x y H Q→
  wpAny (model X.prog X.w) X.A (f v u) (EP X pins σ Q) X.xe s
def UnR(X:Cx)(f:Value→Sem Value)(r:V→Hp→VK→Prop):Prop :=
 ∀(pins:AL) (s:Shared) (σ:St) (H:Hp) (x:V) (v:Value) (Q:VK),Inv X pins σ H s→RelV x v→r x H Q→
  wpAny (model X.prog X.w) X.A (f v) (EP X pins σ Q) X.xe s
def y8(X:Cx)(f:Value)(r:List V→Hp→VK→Prop):Prop :=
 ∀(pins:AL) (s:Shared) (σ:St) (H:Hp) (xs:List V) (us:AK) (Q:VK),Inv X pins σ H s→Vals xs us→r xs H Q→
  wpAny (model X.prog X.w) X.A (call f us) (EP X pins σ Q) X.xe s
def tOp(r:R2)(ta tb:TE):TE:=λσ H Q=>ta σ H λx H1=>tb σ H1 λy H2=>r x y H2 Q
def tUn(r:V→Hp→VK→Prop)(ta:TE):TE:=λσ H Q=>ta σ H λx H1=>r x H1 Q
def rI(C:Int→Int→Prop)(g:Int→Int→V):R2:=λx y H Q=>∃i j,x=.int i∧y=.int j∧C i j∧Q (g i j) H
def rI0(g:Int→Int→V):R2:=λx y H Q=>∃i j,x=.int i∧y=.int j∧Q (g i j) H
def rU(g:Int→V):V→Hp→VK→Prop:=λx H Q=>∃i,x=.int i∧Q (g i) H
section
variable {X:Cx}{a b c:Expr}{ta tb tc:TE}{pos:Pos}
theorem binT(ha:PE X a ta)(hb:PE X b tb){pins:AL}{s:Shared}{σ:St}{H:Hp}{R:V→V→Hp→Prop}(I:Inv X pins σ H s)
  (h:ta σ H λx H1=>tb σ H1 λy H2=>R x y H2) {Q:AN} {f:Value→Value→Sem Value}
  (hf:∀v u s2 x y H2,Inv X pins σ H2 s2→RelV x v→RelV y u→R x y H2→wpAny (model X.prog X.w) X.A (f v u) Q X.xe s2) :
  wpAny (model X.prog X.w) X.A (eval a X.env) (λv s₁=>wpAny (model X.prog X.w) X.A (eval b X.env) (λu s₂=>wpAny (model X.prog X.w) X.A (f v u) Q X.xe s₂) X.xe s₁) X.xe s:=by
 refine thn (ha pins s σ H _ I h) λv s1 ⟨x,H1,I1,r1,q1⟩=>?_;refine thn (hb pins s1 σ H1 _ I1 q1) λu s2 ⟨y,H2,I2,r2,q2⟩=>?_;exact hf v u s2 x y H2 I2 r1 r2 q2
theorem zq{op:Operator}{r:R2}(ho:OpR X (binaryOp op) r)(ha:PE X a ta)(hb:PE X b tb):PE X (.BinOp a op b pos) (tOp r ta tb):=by
 intro pins s σ H Q I h;exact wpAny_BinOp (binT ha hb I h λv u s2 x y H2 I2 rx ry q=>ho pins s2 σ H2 x y v u Q I2 rx ry q)
theorem zav(ho:UnR X (unaryOp op) r)(ha:PE X a ta):PE X (.UnaryOp op a pos) (tUn r ta):=by
 intro pins s σ H Q I h;exact UnaryOp_ (thn (ha pins s σ H _ I h) λv s1 ⟨x,H1,I1,r1,q1⟩=>ho pins s1 σ H1 x v Q I1 r1 q1)
theorem opI{f:Value→Value→Sem Value}{C:Int→Int→Prop}{g:Int→Int→Int}
  (rule:∀(i j:Int) (t u:Tok) (s:Shared) (Q:AN) (E:AN),C i j→Q (.int (g i j) s.toks) { s with toks:=s.toks + 1 }→wpAny (model X.prog X.w) X.A (f (.int i t) (.int j u)) Q E s) :
  OpR X f (rI C λi j=>.int (g i j)):=by
 intro pins s σ H x y v u Q I rx ry h;obtain⟨i,j,rfl,rfl,hc,q⟩:=h;obtain⟨t,rfl⟩:=rx;obtain⟨t',rfl⟩:=ry;exact rule i j t t' s _ _ hc ⟨.int (g i j),H,I.tok _,⟨_,rfl⟩,q⟩
theorem opI0{f:Value→Value→Sem Value}{g:Int→Int→Int}
  (rule:∀(i j:Int) (t u:Tok) (s:Shared) (Q:AN) (E:AN),Q (.int (g i j) s.toks) { s with toks:=s.toks + 1 }→wpAny (model X.prog X.w) X.A (f (.int i t) (.int j u)) Q E s) :
  OpR X f (rI0 λi j=>.int (g i j)):=by
 intro pins s σ H x y v u Q I rx ry h;obtain⟨i,j,rfl,rfl,q⟩:=h;obtain⟨t,rfl⟩:=rx;obtain⟨t',rfl⟩:=ry;exact rule i j t t' s _ _ ⟨.int (g i j),H,I.tok _,⟨_,rfl⟩,q⟩
theorem opB0{f:Value→Value→Sem Value}{g:Int→Int→Bool}
  (rule:∀(i j:Int) (t u:Tok) (s:Shared) (Q:AN) (E:AN),Q (.bool (g i j)) s→wpAny (model X.prog X.w) X.A (f (.int i t) (.int j u)) Q E s) :
  OpR X f (rI0 λi j=>.bl (g i j)):=by
 intro pins s σ H x y v u Q I rx ry h;obtain⟨i,j,rfl,rfl,q⟩:=h;obtain⟨t,rfl⟩:=rx;obtain⟨t',rfl⟩:=ry;exact rule i j t t' s _ _ ⟨.bl (g i j),H,I,rfl,q⟩
def CDiv(i j:Int):Prop:=0 < j∧j < 1073741824
theorem yq:OpR X (binaryOp .Add) (rI0 λi j=>.int (i + j)):=opI0 λ_ _ _ _ _ _ _ q=>add_int q
theorem w4:OpR X (binaryOp .Sub) (rI0 λi j=>.int (i - j)):=opI0 λ_ _ _ _ _ _ _ q=>sub_int q
theorem xH:OpR X (binaryOp .FloorDiv) (rI CDiv λi j=>.int (i / j)):=opI λi j _ _ _ _ _ hc q=>by
 have h1:(0:Int) < j:=hc.1;have h2:j < 1073741824:=hc.2;exact floordiv_int ⋯ (by rw[Int.fdiv_eq_ediv_of_nonneg i ⋯]; exact q) (.inl (PyProof.noPylong_small ⋯))
theorem yy:OpR X (binaryOp .Mod) (rI (λ_ j=>0 < j) λi j=>.int (i % j)):=opI λi j _ _ _ _ _ hc q=>by
 have h1:(0:Int) < j:=hc;exact mod_int' ⋯ (by rw[Int.fmod_eq_emod_of_nonneg i ⋯]; exact q)
theorem unI{f:Value→Sem Value}{g:Int→Int}
  (rule:∀(i:Int) (t:Tok) (s:Shared) (Q:AN) (E:AN),Q (.int (g i) s.toks) { s with toks:=s.toks + 1 }→wpAny (model X.prog X.w) X.A (f (.int i t)) Q E s) :
  UnR X f (rU λi=>.int (g i)):=by
 intro pins s σ H x v Q I rx h;obtain⟨i,rfl,q⟩:=h;obtain⟨t,rfl⟩:=rx;exact rule i t s _ _ ⟨.int (g i),H,I.tok _,⟨_,rfl⟩,q⟩
theorem Vr:UnR X (unaryOp .USub) (rU λi=>.int (-i)):=unI λ_ _ _ _ _ q=>neg_int q
end
def scal:V→V→Bool
 | .non,.non=>true | .non,.int _=>true | .int _,.non=>true | .non,.bl _=>true | .bl _,.non=>true | .non,.str _=>true | .str _,.non=>true
 | .int _,.int _=>true | .bl _,.bl _=>true | .str _,.str _=>true | .byt _,.byt _=>true
 | .int _,.str _=>true | .str _,.int _=>true | .bl _,.str _=>true | .str _,.bl _=>true
 | _,_=>false
def rEq:R2:=λx y H Q=>scal x y=true∧Q (.bl (decide (x=y))) H
def rNe:R2:=λx y H Q=>scal x y=true∧Q (.bl (!decide (x=y))) H
theorem u7:decide (V.int i=V.int j)=(i == j):=by
 rw[Bool.eq_iff_iff];simp
theorem XX:decide (V.bl i=V.bl j)=(i == j):=by
 rw[Bool.eq_iff_iff];simp
theorem Te:decide (V.str i=V.str j)=(i == j):=by
 rw[Bool.eq_iff_iff];simp
theorem Tf:decide (V.byt i=V.byt j)=(i.toList == j.toList):=by
 rw[Bool.eq_iff_iff];cases i;cases j;simp
section
variable {X:Cx}{a b c:Expr}{ta tb tc:TE}{pos:Pos}
theorem yd(I:Inv X pins σ H s)(q:Q (.bl k) H)(e:k=k'):EP X pins σ Q (.bool k') s:=by
 subst e;exact⟨.bl k,H,I,rfl,q⟩
theorem wg:OpR X (compareOp .Eq) rEq:=by
 intro pins s σ H x y v u Q I rx ry h;obtain⟨hs,q⟩:=h;cases x with
 | non =>
  cases rx;cases y with
  | non=>cases ry; exact PySem.EqNone.eq_none_none (yd I q (by simp))
  | bl j=>cases ry; exact PySem.EqNone.eq_none_bool (yd I q (by simp))
  | int j=>obtain⟨t',rfl⟩:=ry; exact PySem.EqNone.eq_none_int (yd I q (by simp))
  | str j=>obtain⟨t',rfl⟩:=ry; exact PySem.EqNone.eq_none_str (yd I q (by simp))
  | _=>exact absurd (show false=true from hs) ζF
 | bl i =>
  cases rx;cases y with
  | non=>cases ry; exact PySem.EqNone.eq_bool_none (yd I q (by simp))
  | bl j=>cases ry; exact eq_bool (yd I q XX)
  | str j=>obtain⟨t',rfl⟩:=ry; exact PySem.EqMixed.eq_bool_str (yd I q (by simp))
  | _=>exact absurd (show false=true from hs) ζF
 | int i =>
  obtain⟨t,rfl⟩:=rx;cases y with
  | non=>cases ry; exact PySem.EqNone.eq_int_none (yd I q (by simp))
  | int j=>obtain⟨t',rfl⟩:=ry; exact eq_int (yd I q u7)
  | str j=>obtain⟨t',rfl⟩:=ry; exact PySem.EqMixed.eq_int_str (yd I q (by simp))
  | _=>exact absurd (show false=true from hs) ζF
 | str i =>
  obtain⟨t,rfl⟩:=rx;cases y with
  | non=>cases ry; exact PySem.EqNone.eq_str_none (yd I q (by simp))
  | bl j=>cases ry; exact PySem.EqMixed.eq_str_bool (yd I q (by simp))
  | int j=>obtain⟨t',rfl⟩:=ry; exact PySem.EqMixed.eq_str_int (yd I q (by simp))
  | str j=>obtain⟨t',rfl⟩:=ry; exact eq_str (yd I q Te)
  | _=>exact absurd (show false=true from hs) ζF
 | byt i =>
  obtain⟨t,rfl⟩:=rx;cases y with
  | byt j=>obtain⟨t',rfl⟩:=ry; exact PySem.W.eq_bytes (yd I q Tf)
  | _=>exact absurd (show false=true from hs) ζF
 | _=>cases y <;> exact absurd (show false=true from hs) ζF
theorem Yx:OpR X (compareOp .NotEq) rNe:=by
 intro pins s σ H x y v u Q I rx ry h;obtain⟨hs,q⟩:=h;cases x with
 | non =>
  cases rx;cases y with
  | non=>cases ry; exact PySem.EqNone.ne_none_none (yd I q (by simp))
  | bl j=>cases ry; exact PySem.EqNone.ne_none_bool (yd I q (by simp))
  | int j=>obtain⟨t',rfl⟩:=ry; exact PySem.EqNone.ne_none_int (yd I q (by simp))
  | str j=>obtain⟨t',rfl⟩:=ry; exact PySem.EqNone.ne_none_str (yd I q (by simp))
  | _=>exact absurd (show false=true from hs) ζF
 | bl i =>
  cases rx;cases y with
  | non=>cases ry; exact PySem.EqNone.ne_bool_none (yd I q (by simp))
  | bl j=>cases ry; exact ne_bool (yd I q (congrArg not XX))
  | str j=>obtain⟨t',rfl⟩:=ry; exact PySem.EqMixed.ne_bool_str (yd I q (by simp))
  | _=>exact absurd (show false=true from hs) ζF
 | int i =>
  obtain⟨t,rfl⟩:=rx;cases y with
  | non=>cases ry; exact PySem.EqNone.ne_int_none (yd I q (by simp))
  | int j=>obtain⟨t',rfl⟩:=ry; exact ne_int (yd I q (congrArg not u7))
  | str j=>obtain⟨t',rfl⟩:=ry; exact PySem.EqMixed.ne_int_str (yd I q (by simp))
  | _=>exact absurd (show false=true from hs) ζF
 | str i =>
  obtain⟨t,rfl⟩:=rx;cases y with
  | non=>cases ry; exact PySem.EqNone.ne_str_none (yd I q (by simp))
  | bl j=>cases ry; exact PySem.EqMixed.ne_str_bool (yd I q (by simp))
  | int j=>obtain⟨t',rfl⟩:=ry; exact PySem.EqMixed.ne_str_int (yd I q (by simp))
  | str j=>obtain⟨t',rfl⟩:=ry; exact ne_str (yd I q (congrArg not Te))
  | _=>exact absurd (show false=true from hs) ζF
 | byt i =>
  obtain⟨t,rfl⟩:=rx;cases y with
  | byt j=>obtain⟨t',rfl⟩:=ry; exact PySem.W.ne_bytes (yd I q (congrArg not Tf))
  | _=>exact absurd (show false=true from hs) ζF
 | _=>cases y <;> exact absurd (show false=true from hs) ζF
theorem Yy:OpR X (compareOp .Lt) (rI0 λi j=>.bl (decide (i < j))):=opB0 λ_ _ _ _ _ _ _ q=>lt_int q
theorem zfp:OpR X (compareOp .LtE) (rI0 λi j=>.bl (decide (i≤j))):=opB0 λ_ _ _ _ _ _ _ q=>le_int q
theorem tZ:OpR X (compareOp .Gt) (rI0 λi j=>.bl (decide (j < i))):=opB0 λ_ _ _ _ _ _ _ q=>gt_int q
theorem zen:OpR X (compareOp .Is) (λx y H Q=>y=.non∧Q (.bl (decide (x=.non))) H):=by
 intro pins s σ H x y v u Q I rx ry h;obtain⟨rfl,q⟩:=h;cases ry;refine is_none_gen (yd I q ?_)
 cases x <;> first
  | (cases rx; rfl)
  | (obtain⟨t,rfl⟩:=rx; rfl)
theorem zP(b:Expr)(h:op≠.In:=by decide)(h2:op≠.NotIn:=by decide):behindInMarks op b=false:=by
 have e1:(op == CmpOp.In)=false:=by cases op <;> first | rfl | exact absurd rfl h
 have e2:(op == CmpOp.NotIn)=false:=by cases op <;> first | rfl | exact absurd rfl h2
 cases b <;> simp[behindInMarks,e1,e2]
theorem xR(ho:OpR X (compareOp op) r)(ha:PE X a ta)(hb:PE X b tb)(hm:behindInMarks op b=false):PE X (.Compare a [op] [b] pos) (tOp r ta tb):=by
 intro pins s σ H Q I h;exact wpAny_Compare1 (binT ha hb I h λv u s2 x y H2 I2 rx ry q=>ho pins s2 σ H2 x y v u Q I2 rx ry q) hm
def zdp(t:TE):TT:=λσ H Q=>t σ H λx H'=>∃k,x=.bl k∧Q k H'
theorem zu(ho:OpR X (compareOp op) r)(ha:PE X a ta)(hb:PE X b tb)(hm:behindInMarks op b=false):PT X (.Compare a [op] [b] pos) (zdp (tOp r ta tb)):=by
 intro pins s σ H Q I h;refine wpAny_isTrue_Compare1 (thn (ha pins s σ H _ I h) λv s1 ⟨x,H1,I1,r1,q1⟩=>thn (hb pins s1 σ H1 _ I1 q1) λu s2 ⟨y,H2,I2,r2,q2⟩ =>
  thn (ho pins s2 σ H2 x y v u _ I2 r1 r2 q2) λc s3 ⟨z,H3,I3,r3,k,e,q3⟩=>?_) hm
 subst e;cases r3;exact wpAny_truthy_bool ⟨H3,I3,q3⟩
theorem XL:(sizeLine:Nat) < 2 ^ 63:=by rw[sizeLine_eq]; decide
theorem vk(r:Vals [x] us):∃u,us=[u]∧RelV x u:=by
 cases r with
 | cons r1 r2=>cases r2; exact⟨_,rfl,r1⟩
theorem zfc(r:Vals [x,y] us):∃u w',us=[u,w']∧RelV x u∧RelV y w':=by
 cases r with
 | cons r1 r2 =>
  cases r2 with
  | cons r3 r4=>cases r4; exact⟨_,_,rfl,r1,r3⟩
theorem Vk:y8 X (.builtin "abs") (λxs H Q=>∃i,xs=[.int i]∧Q (.int (if i < 0 then -i else i)) H):=by
 intro pins s σ H xs us Q I r h;obtain⟨i,rfl,q⟩:=h;obtain⟨u,rfl,t,rfl⟩:=vk r;exact call_abs_int λu tk=>⟨.int (if i < 0 then -i else i),H,I.tok _,⟨_,rfl⟩,q⟩
theorem Qu(hc:X.calm=true):y8 X (.builtin "min") (λxs H Q=>∃i j,xs=[.int i,.int j]∧Q (.int (if j < i then j else i)) H):=by
 intro pins s σ H xs us Q I r h;obtain⟨i,j,rfl,q⟩:=h;obtain⟨u,w',rfl,⟨t,rfl⟩,⟨t',rfl⟩⟩:=zfc r;refine min_two_ints (I.ok.hd hc) λh' tk k=>⟨_,H,I.kept k,?_,q⟩
 by_cases hj:j < i
 ·rw[if_pos hj,if_pos hj]; exact⟨_,rfl⟩
 ·rw[if_neg hj,if_neg hj]; exact⟨_,rfl⟩
end
section
variable {prog:Program}{w:World}{A:Around}{E:AN}{s:Shared}{K:ζc}{x dx C f:Addr}{mA:AO}{name:Str}{v:Value}
end
theorem RelO.some_of(r:RelO (some v) o):∃u,o=some u∧RelV v u:=by
 cases o with
 | none=>exact(show False from r).elim
 | some u=>exact⟨u,rfl,r⟩
section
variable {P:Program}{w:World}{H H':Hp}{h h':Heap}{a C dx:Addr}{fs fs':List (Str×V)}
end
section
variable {X:Cx}{pins:AL}{σ:St}{H:Hp}{s:Shared}{a C dx:Addr}{fs:List (Str×V)}{f:Str}{v:V}{A:Around}{E:AN}
end
section
variable {X:Cx}{o e value:Expr}{f:Str}{pos pos' tpos:Pos}{ta tv:TE}
end
section
variable {X:Cx}{pins:AL}{σ:St}{H:Hp}{s:Shared}{A:Around}{E:AN}{Q:AN}{c:Value}{b:Bool}
end
structure Room(k:Nat)(A:Around):Prop where
 hd:A.handled=none
 dp:A.depth + 3 * k + 5 < recursionLimit
 un:A.units + 16 * k + 200 < cLine
 gd:A.guards=some []
theorem Room.mono(r:Room k A)(h:j≤k):Room j A:=⟨r.hd,by have:=r.dp; omega,by have:=r.un; omega,r.gd⟩
theorem Room.deeper(r:Room (k + 1) A)(env:Env):Room k (A.deeper env) :=
 ⟨r.hd,by have:=r.dp; show A.depth + 1 + 3 * k + 5 < _; omega,by have:=r.un; show A.units + 3 + 16 * k + 200 < _; omega,r.gd⟩
theorem Room.depth(r:Room k A):A.depth < recursionLimit:=by have:=r.dp; omega
theorem Room.units(r:Room k A):A.units + 64 < cLine:=by have:=r.un; omega
def tNil:TA:=λ_ H Q=>Q [] H
def zX(ta:TE)(tr:TA):TA:=λσ H Q=>ta σ H λx H1=>tr σ H1 λxs H2=>Q (x :: xs) H2
section
variable {X:Cx}{e:Expr}{es:List Expr}{te:TE}{t:TA}{pos:Pos}
theorem zd:PA X [] tNil:=λ_ _ _ _ H Q I h=>Calls.spliced_nil ⟨[],H,I,.nil,h⟩
theorem zb(ha:PE X e te)(hr:PA X es t)(hs:starEach (e :: es) X.env=(false,eval e X.env) :: starEach es X.env:=by rfl):PA X (e :: es) (zX te t):=by
 intro pos pins s σ H Q I h;rw[hs];show wpAny _ _ (spliced ((false,eval e X.env) :: backTo pos (starEach es X.env))) _ _ s;refine Calls.spliced_cons (thn (ha pins s σ H _ I h) λu s1 ⟨x,H1,I1,r1,q1⟩=>?_);exact thn (hr pos pins s1 σ H1 _ I1 q1) λus s2 ⟨xs,H2,I2,r2,q2⟩=>⟨x :: xs,H2,I2,.cons r1 r2,q2⟩
def tTup(t:TA):TE:=λσ H Q=>t σ H λxs H1=>xs.length≤sizeLine∧∀p,H1 p=none→Q (.ref p) (upd H1 p (.tup xs))
def tLst(t:TA):TE:=λσ H Q=>t σ H λxs H1=>xs.length≤sizeLine∧∀p,H1 p=none→Q (.ref p) (upd H1 p (.lst xs))
theorem yN{x1}(h:PA X es t):PE X (.Tuple es x1 pos) (tTup t):=by
 intro pins s σ H Q I hq;refine wpAny_Tuple_spliced (thn (h pos pins s σ H _ I hq) λus s1 ⟨xs,H1,I1,r,z,q⟩=>⟨by rw[←r.length]; exact z,?_⟩);have hf:H1 s1.heap.objs.size=none:=I1.hok.fresh (ζj _);refine⟨.ref s1.heap.objs.size,upd H1 s1.heap.objs.size (.tup xs),I1.laid (t':=s1.toks) (λb u e=>ζe _ e) (ζj _) ?_,rfl,q _ hf⟩
 exact⟨z,us,r,⟨_,ζt _ rfl,rfl,_,rfl⟩⟩
theorem zQ(h:PA X es t):PE X (.List es pos) (tLst t):=by
 intro pins s σ H Q I hq;refine wpAny_List_spliced (thn (h pos pins s σ H _ I hq) λus s1 ⟨xs,H1,I1,r,z,q⟩=>⟨by rw[←r.length]; exact z,?_⟩);have hf:H1 s1.heap.objs.size=none:=I1.hok.fresh (ζj _);refine⟨.ref s1.heap.objs.size,upd H1 s1.heap.objs.size (.lst xs),I1.laid (t':=s1.toks) (λb u e=>ζe _ e) (ζj _) ?_,rfl,q _ hf⟩
 exact⟨z,us,0,r,ζt _ rfl⟩
end
abbrev Sp:=List V→Hp→VK→XK→Prop
abbrev CXT:=List Env→Hp→Shared→XK→Value→Shared→Prop
structure Env0(P:Program)(w:World)(K:ζc)(mg:AO)(base:Heap)(A:Around)(outer:List Env)(s:Shared)(H:Hp):Prop where
 frames:A.frames=some outer
 mod:Mod K mg base
 bs:∀b o,base.get? b=some o→s.heap.get? b=some o∧H b=none
 bsz:base.objs.size≤s.heap.objs.size
 funs:s.heap.FunFrames base outer
 frf:∀b∈frs outer,H b=none
 hok:HOk P w H s.heap
 bare:AllBare s.gens
 tb:TbOk K H
def CE(outer:List Env)(P:Program)(w:World)(H:Hp)(s:Shared)(Q:VK)(u:Value)(s':Shared):Prop :=
 ∃v H',s'.os=s.os∧AllBare s'.gens∧Un (frs outer) [] H H' s.heap s'.heap∧HOk P w H' s'.heap∧RelV v u∧Q v H'
def CR(CX:CXT)(outer:List Env)(P:Program)(w:World)(H:Hp)(s:Shared)(Q:VK)(E:XK)(r:Result)(s':Shared):Prop :=
 match r with
 | .ok (.ret u)=>CE outer P w H s Q u s'
 | .ok _=>False
 | .error e=>CX outer H s E e s'
structure FnOk(P:Program)(w:World)(K:ζc)(mg:AO)(base:Heap)(CX:CXT)(k:Nat)(f:Addr)(fd:FuncData)(ps:AJ)(sp:Sp):Prop where
 len:∀vs H Q E,sp vs H Q E→vs.length=ps.length
 run:∀(A:Around) (outer:List Env) (s:Shared) (H:Hp) (args:Args) (us:AK) (vs:List V) (Q:VK) (E:XK),Room k A→Env0 P w K mg base A outer s H→BindsTo s fd args (ps.zip us)→Vals vs us→sp vs H Q E→
  codeAny (model P w) A (.call (.ref f) args) (CR CX outer P w H s Q E) s
section
variable {X:Cx}{pins:AL}{σ:St}{H:Hp}{s s':Shared}
theorem Inv.env0(I:Inv X pins σ H s):Env0 X.prog X.w X.K X.mg X.base X.A X.stack s H :=
 ⟨I.ok.frames,I.ok.mod,I.bs,ζZ I.ok.bsz I.sz,I.stack,I.stkFree,I.hok,I.bare,I.ok.tb.un I.base⟩
theorem Inv.after(I:Inv X pins σ H s)(h:CE X.stack X.prog X.w H s Q u s'):EP X pins σ Q u s':=by
 obtain⟨v,H',os,bare,un,hok,r,q⟩:=h;obtain⟨hh,g,d,t,os'⟩:=s';obtain rfl:os'=s.os:=os;exact⟨v,H',I.call (h':=hh) (g':=g) (d':=d) (t':=t) (ch:=[]) un hok bare (λb z=>absurd z (by simp)),r,q⟩
end
def vm(sp:Sp)(dvs:List V)(E:XK)(t:TA):TE:=λσ H Q=>t σ H λvs H1=>sp (vs ++ dvs) H1 Q E
def wM(K:ζc)(fd:FuncData)(ps:AJ)(ds:AK):Prop :=
 ∀(s:Shared) (us:AK),K.In s.heap→(us ++ ds).length=ps.length→BindsTo s fd ⟨us,[]⟩ (ps.zip (us ++ ds))
theorem wM.all{K:ζc}{fd:FuncData}{ps:AJ}(h:∀us:AK,us.length=ps.length→bindArgs fd ⟨us,[]⟩=pure (ps.zip us)):wM K fd ps []:=λs us _ hl=>by
 rw[ζQ]at hl ⊢;exact .of_eq (h us hl)
def Z7(CX:CXT)(X:Cx)(E:XK):Prop:=∀(pins:AL) (σ:St) (H:Hp) (s:Shared) (e:Value) (s':Shared),Inv X pins σ H s→CX X.stack H s E e s'→X.xe e s'
section
variable {X:Cx}{CX:CXT}{k:Nat}{f C:Addr}{fd:FuncData}{ps:AJ}{sp:Sp}{dvs:List V}{ds:AK}{E:XK}{x m:Str}{p pos apos:Pos}{e o:Expr}{es:List Expr}{ta:TE}{t:TA}
theorem Vy(F:FnOk X.prog X.w X.K X.mg X.base CX k f fd ps sp)(hr:Room k X.A)(hb:wM X.K fd ps ds)(hd:Vals dvs ds)(hx:Z7 CX X E)
  (I:Inv X pins σ H s) (r:Vals vs us) (h:sp (vs ++ dvs) H Q E):wpAny (model X.prog X.w) X.A (call (.ref f) us) (EP X pins σ Q) X.xe s:=by
 have r2:Vals (vs ++ dvs) (us ++ ds):=r.append hd;have hl:(us ++ ds).length=ps.length:=by rw[←r2.length]; exact F.len _ _ _ _ h
 refine wpAny_call (codeAny_mono (F.run X.A X.stack s H ⟨us,[]⟩ (us ++ ds) (vs ++ dvs) Q E hr I.env0 (hb s us I.kIn hl) r2 h) λr s' hq=>?_);cases r with
 | error e=>exact hx pins σ H s e s' I hq
 | ok fl =>
  cases fl with
  | ret u=>exact I.after hq
  | next=>exact False.elim hq
  | brk=>exact False.elim hq
  | cont=>exact False.elim hq
theorem zct(F:FnOk X.prog X.w X.K X.mg X.base CX k f fd ps sp)(hr:Room k X.A)(hg:Gl X x)(hm:X.mg x=some (.ref f))(hk:PySem.W.keepIn X.K (.ref f)=true)(hb:wM X.K fd ps ds)(hd:Vals dvs ds)(hx:Z7 CX X E)
  (ha:PA X (e :: es) t) (hdb:(x == ("__debug__" : Str))=false:=by decide) (he:starEach (e :: es) X.env=(false,eval e X.env) :: starEach es X.env:=by rfl) (hpl:(backTo pos (starEach es X.env)).any (·.1)=false:=by rfl) :
  PE X (.Call (.Name x p) (e :: es) [] pos) (vm sp dvs E t):=by
 intro pins s σ H Q I h;refine wpAny_Call_Name_kw (XO I hg hm ?_ hdb);refine PySem.W.callWith_K (h₀:=X.base) I.ok.mod.kin hk (thn (ha pos pins s σ H _ I h) λus s1 ⟨vs,H1,I1,r,q⟩=>⟨I1.kIn,?_⟩) he hpl;exact Vy F hr hb hd hx I1 r q
end
section
variable {X:Cx}{CX:CXT}{k:Nat}{f C:Addr}{fd:FuncData}{ps ks:AJ}{sp:Sp}{E:XK}{x m:Str}{p pos apos kpos:Pos}{e o:Expr}{es:List Expr}{kws:List Keyword}{te ta:TE}{t tk:TA}{nm:Option Str}
variable {g:AK→AK→AK}{gV:List V→List V→List V}
end
structure zA(N P:AJ)(sc:Scope):Prop where
 kind:sc.kind=.function:=by rfl
 co:sc.isCoroutine=false:=by rfl
 gen:sc.isGenerator=false:=by rfl
 nd:N.Nodup:=by decide +kernel
 pre:N.take P.length=P:=by rfl
 par:∀x∈P,sc.names.lookup x=some .local∨sc.names.lookup x=some .cell:=by decide +kernel
 nofree:∀y∈sc.names,y.2≠.free:=by decide +kernel
theorem zA.n(_:zA N P sc)(k:Nat)(h:N.length=k:=by rfl):N.length=k:=h
theorem YS{kindOf:Str→Option NameKind}{x:Str}:∀{binds:List (Str×Value)} {m:AO},(∀v,(x,v)∉binds)→bindL kindOf binds m x=m x
 | [],_,_=>rfl
 | (n,v) :: r,m,h=>by
  unfold bindL;rw[YS λw hw=>h w (ζp _ hw)];split
  ·have:x≠n:=by rintro rfl; exact h v ζi
   simp[this]
  ·rfl
theorem YU{kindOf:Str→Option NameKind}{x:Str}:∀{binds:List (Str×Value)} {m:AO},(∀v,(x,v)∉binds)→bindC kindOf binds m x=m x
 | [],_,_=>rfl
 | (n,v) :: r,m,h=>by
  unfold bindC;rw[YU λw hw=>h w (ζp _ hw)];split
  ·rfl
  ·have:x≠n:=by rintro rfl; exact h v ζi
   simp[this]
theorem YT{kindOf:Str→Option NameKind}{x:Str}{v:Value}:∀{P:AJ} {vs:AK} {i:Nat} {m:AO},P.Nodup→P[i]?=some x→vs[i]?=some v→kindOf x=some .local→
  bindL kindOf (P.zip vs) m x=some v
 | [],_,_,_,_,h,_,_=>by simp at h
 | _ :: _,[],_,_,_,_,h,_=>by simp at h
 | p :: P,w :: vs,0,m,nd,h1,h2,hk=>by
  simp at h1 h2; subst h1; subst h2;show bindL kindOf ((p,w) :: P.zip vs) m p=_;unfold bindL;rw[YS λv hv=>(ζ5.mp nd).1 (List.of_mem_zip hv).1,if_pos hk];simp
 | p :: P,w :: vs,i + 1,m,nd,h1,h2,hk=>by
  show bindL kindOf ((p,w) :: P.zip vs) m x=_;unfold bindL;exact YT (i:=i) (List.nodup_cons.mp nd).2 (by simpa using h1) (by simpa using h2) hk
theorem YV{kindOf:Str→Option NameKind}{x:Str}{v:Value}:∀{P:AJ} {vs:AK} {i:Nat} {m:AO},P.Nodup→P[i]?=some x→vs[i]?=some v→kindOf x≠some .local→
  bindC kindOf (P.zip vs) m x=some v
 | [],_,_,_,_,h,_,_=>by simp at h
 | _ :: _,[],_,_,_,_,h,_=>by simp at h
 | p :: P,w :: vs,0,m,nd,h1,h2,hk=>by
  simp at h1 h2; subst h1; subst h2;show bindC kindOf ((p,w) :: P.zip vs) m p=_;unfold bindC;rw[YU λv hv=>(ζ5.mp nd).1 (List.of_mem_zip hv).1,if_neg hk];simp
 | p :: P,w :: vs,i + 1,m,nd,h1,h2,hk=>by
  show bindC kindOf ((p,w) :: P.zip vs) m x=_;unfold bindC;exact YV (i:=i) (List.nodup_cons.mp nd).2 (by simpa using h1) (by simpa using h2) hk
def yI(N:AJ)(vs:List V):St:=vs.map some ++ List.replicate (N.length - vs.length) none
def cxOf(CX:CXT)(P:Program)(w:World)(K:ζc)(mg:AO)(base:Heap)(N:AJ)(qual:Str)(scope:Scope)(f:Addr)(cd:Value)(A:Around)(outer:List Env)(s:Shared)(H:Hp)(E:XK):Cx where
 prog:=P
 w:=w
 K:=K
 mg:=mg
 base:=base
 A:=A.deeper (envOfC qual scope s.heap.objs.size f cd)
 N:=N
 s₀:=s
 H₀:=H
 env:=envOfC qual scope s.heap.objs.size f cd
 outer:=outer
 stack:=envOfC qual scope s.heap.objs.size f cd :: outer
 ex:=[]
 calm:=true
 fn:=λ_=>true
 pn:=[]
 xe:=λe s'=>wpAny (model P w) (A.deeper (envOfC qual scope s.heap.objs.size f cd)) (leaving (envOfC qual scope s.heap.objs.size f cd) e) (λ_ s''=>CX outer H s E e s'') (λe' s''=>CX outer H s E e' s'') s'
theorem Vi{sc:Scope}{n:Nat}{x:Str}(h:sc.names.lookup x=some .cell):∃c,(cellsFrom n sc.names []).lookup x=some c:=by
 have q:=PySem.W.cellsFrom_some sc.names n [] (.inl h);exact ξO.mp q
theorem Qa{CX:CXT}{P:Program}{w:World}{K:ζc}{mg:AO}{base:Heap}{N ps:AJ}{qual:Str}{scope:Scope}{f:Addr}{cd:Value}{A:Around}{outer:List Env}{s s1:Shared}{H:Hp}{E:XK}{us:AK}{vs:List V}
  (S:zA N ps scope) (hd:A.handled=none) (e0:Env0 P w K mg base A outer s H) (hl:vs.length=ps.length) (r:Vals vs us)
  (x:InCallC s s.heap.objs.size (bindL (envOfC qual scope s.heap.objs.size f cd).kindOf (ps.zip us) λ_=>none) (cellsFrom (s.heap.objs.size + 1) scope.names []) (bindC (envOfC qual scope s.heap.objs.size f cd).kindOf (ps.zip us) λ_=>none) s1) :
  Inv (cxOf CX P w K mg base N qual scope f cd A outer s H E) [] (yI N vs) H s1:=by
 have hpl:ps.length≤N.length:=by have:=congrArg List.length S.pre; rw[ζJ]at this; omega
 obtain⟨h1,tk,rfl,hk⟩:=x.done;have noA:∀b:Addr,b∉(cxOf CX P w K mg base N qual scope f cd A outer s H E).ex:=λb z=>absurd (show b∈([]:List Addr)from z) (by simp)
 refine⟨⟨e0.mod,S.kind,rfl,rfl,ζj _,λy z c h1 h2=>?_,λy hy=>?_,λy c _ h=>?_,λ_=>hd,Around.frames_deeper e0.frames,.inr ⟨rfl,rfl⟩,λb z=>absurd z (noA b),e0.bs,e0.bsz,λb _ _=>noA b,λb z=>absurd z (noA b),e0.funs,e0.frf,e0.tb⟩,
  rfl,e0.bare,Un.kept hk,⟨_,x.toInCall.ns,λi y v h1 h2 h3=>?_⟩,λy c h=>⟨_,x.cell y c h⟩,e0.hok.fresh (Nat.le_refl _),λy c h=>?_,λp hp=>absurd (show p∈([]:AL)from hp) (by simp),e0.hok.kept hk,?_⟩
 ·exact name_of_addr x.apart (PySem.mem_of_lookup h1) (PySem.mem_of_lookup h2)
 ·have hy:scope.names.lookup y=some .cell∨scope.names.lookup y=some .free:=hy;rcases hy with hy | hy
  ·exact Vi hy
  ·exact absurd rfl (S.nofree _ (PySem.mem_of_lookup hy))
 ·exact Nat.le_of_lt (x.above y c (PySem.mem_of_lookup h))
 ·have hi:i < vs.length:=by
   unfold yI at h2;by_cases hi:i < vs.length
   ·exact hi
   ·rw[List.getElem?_append_right (by simpa using hi)]at h2;rw[List.getElem?_replicate]at h2;split at h2 <;> cases h2
  have ha:vs[i]?=some v:=by
   unfold yI at h2;rw[List.getElem?_append_left (by simpa using hi),List.getElem?_map]at h2;cases e:vs[i]? with
   | none=>rw[e]at h2; cases h2
   | some a=>rw[e]at h2; cases h2; rfl
  obtain⟨u,hu,rv⟩:=r.get ha;have hp:ps[i]?=some y:=by
   rw[←S.pre,List.getElem?_take_of_lt ⋯]; exact h1
  have ndP:ps.Nodup:=by rw[←S.pre]; exact S.nd.sublist (ξX _ _)
  refine⟨u,rv,?_⟩
  rcases S.par y (ζf hp)with k | k
  ·exact .inl ⟨k,YT ndP hp hu k⟩
  ·obtain⟨c,e⟩:=Vi (n:=s.heap.objs.size + 1) k;refine .inr ⟨.inl k,c,e,?_⟩;have q:=x.cell y c e;rw[YV ndP hp hu (by show scope.names.lookup y≠_; rw[k]; decide)]at q;exact q
 ·exact .inl (e0.hok.fresh (Nat.le_of_lt (x.above y c (PySem.mem_of_lookup h))))
 ·unfold yI;show _=N.length;rw[ζg,ζa,ζT];omega
theorem zdJ{CX:CXT}{P:Program}{w:World}{K:ζc}{mg:AO}{base:Heap}{k:Nat}{f:Addr}{name qual:Str}{params:Arguments}{body:List Stmt}{scope:Scope}{dV kV doc pm cdv ct oc:Value}{an od:Option Addr}
  {osl:Array (Option Value)} {N ps:AJ} {sp:Sp} (lk:K.lookup f=some ⟨oc,od,.func (PySem.W.fnOf name qual params body scope dV kV doc pm an cdv ct),osl⟩) (hcd:PySem.W.codeIn K cdv qual=true) (S:zA N ps scope)
  (len:∀vs H Q E,sp vs H Q E→vs.length=ps.length)
  (hbody:∀(A:Around) (outer:List Env) (s:Shared) (H:Hp) (vs:List V) (Q:VK) (E:XK),Room k (A.deeper (envOfC qual scope s.heap.objs.size f cdv))→sp vs H Q E→
   ∃t,PSs (cxOf CX P w K mg base N qual scope f cdv A outer s H E) body t∧t { nx:=λ_ H'=>Q .non H',rt:=Q } (yI N vs) H) :
  FnOk P w K mg base CX (k + 1) f (PySem.W.fnOf name qual params body scope dV kV doc pm an cdv ct) ps sp:=by
 refine⟨len,λA outer s H args us vs Q E hr e0 hb r hsp=>?_⟩
 have hl:=len _ _ _ _ hsp;have KX:K.In s.heap:=e0.mod.kin.keeps λb o e=>(e0.bs b o e).1;have lim:s.heap.NoLimit:=e0.mod.nolimit.keeps λb o e=>(e0.bs b o e).1;have hkind:∀y∈ps.zip us,scope.names.lookup y.1=some .local∨(scope.names.lookup y.1=some .cell∧((cellsFrom (s.heap.objs.size + 1) scope.names []).lookup y.1).isSome=true):=λ⟨n,v⟩ hy=>by
  rcases S.par n (List.of_mem_zip hy).1 with q | q
  ·exact .inl q
  ·exact .inr ⟨q,PySem.W.cellsFrom_some _ _ _ (.inl q)⟩
 refine codeAny_call_function hr.depth (KX _ _ lk) rfl S.co S.gen rfl (PySem.W.codeRec_of KX hcd) (hb _ _ _ _ ?_);refine wpAny_newFunctionEnv_cells S.kind hkind λenv he s1 x=>?_;subst he;refine⟨lim.keeps x.toInCall.keep,codeAny_func ?_⟩
 obtain⟨t,ht,hq⟩:=hbody A outer s H vs Q E (hr.deeper _) hsp;have I:Inv (cxOf CX P w K mg base N qual scope f cdv A outer s H E) [] (yI N vs) H s1:=Qa S hr.hd e0 hl r x;refine wpAny_mono (ht [] s1 (yI N vs) H _ I hq) (λfl s' hs=>?_) λe s' hs=>hs
 have fin:∀{σ':St} {H':Hp} {v:V} {u:Value},Inv (cxOf CX P w K mg base N qual scope f cdv A outer s H E) [] σ' H' s'→RelV v u→Q v H'→CE outer P w H s Q u s' :=
  λ{σ' H' v u} J rv q=>⟨v,H',J.os,J.bare,J.base,J.hok,rv,q⟩
 cases fl with
 | ret u =>
  obtain⟨v,σ',H',J,rv,q⟩:=hs;exact fin J rv q
 | next =>
  obtain⟨σ',H',J,q⟩:=hs;exact fin (v:=V.non) (u:=Value.none) J rfl q
 | brk =>
  obtain⟨_,_,_,q⟩:=hs;exact False.elim q
 | cont =>
  obtain⟨_,_,_,q⟩:=hs;exact False.elim q
section
variable {X:Cx}{x:Str}{p pos:Pos}{e:Expr}{es:List Expr}{t:TA}{id T:String}{r:List V→Hp→VK→Prop}
def tCB(r:List V→Hp→VK→Prop)(t:TA):TE:=λσ H Q=>t σ H λvs H1=>r vs H1 Q
theorem zaz(hc:y8 X (.builtin id) r)(hg:Gl X x)(hm:X.mg x=none)(hv:bootBuiltins x=some (.builtin id))(ha:PA X (e :: es) t)(hn:x ≠ "__name__" := by decide)(hdb:(x == ("__debug__" : Str))=false:=by decide)
  (he:starEach (e :: es) X.env=(false,eval e X.env) :: starEach es X.env:=by rfl) (hpl:(backTo pos (starEach es X.env)).any (·.1)=false:=by rfl):PE X (.Call (.Name x p) (e :: es) [] pos) (tCB r t):=by
 intro pins s σ H Q I h;refine wpAny_Call_Name_kw (vC I hg hm hv ?_ hn hdb);exact PyProof.Rows.callWith_builtin1 (thn (ha pos pins s σ H _ I h) λus s1 ⟨vs,H1,I1,r1,q1⟩=>hc pins s1 σ H1 vs us Q I1 r1 q1) he hpl
theorem TR(hc:y8 X (.type T) r)(hg:Gl X x)(hm:X.mg x=none)(hv:bootBuiltins x=some (.type T))(ha:PA X (e :: es) t)(hn:x ≠ "__name__" := by decide)(hdb:(x == ("__debug__" : Str))=false:=by decide)
  (he:starEach (e :: es) X.env=(false,eval e X.env) :: starEach es X.env:=by rfl) (hpl:(backTo pos (starEach es X.env)).any (·.1)=false:=by rfl):PE X (.Call (.Name x p) (e :: es) [] pos) (tCB r t):=by
 intro pins s σ H Q I h;refine wpAny_Call_Name_kw (vC I hg hm hv ?_ hn hdb);exact PyProof.Rows.callWith_type1 (thn (ha pos pins s σ H _ I h) λus s1 ⟨vs,H1,I1,r1,q1⟩=>hc pins s1 σ H1 vs us Q I1 r1 q1) he hpl
end
end L2
namespace HT
open PySem PyProof.Rows
section
open PySem.SeqAt
open PySem.AutoSeq1 (wpAny_loadPart')
open PySem.MeetsSeq PySem.MeetsSeq2 PySem.MeetsSeq3
end
section
variable {prog:Program}{w:World}{A:Around}{E:AN}{s:Shared}
def sIx(n d:Nat):Option Int→Nat
 | none=>d
 | some v=>if v < 0 then(v + (n:Int)).toNat else min v.toNat n
theorem Zf(n d k:Nat):sIx n d (some (k:Int))=min k n:=by
 show(if(k:Int) < 0 then((k:Int) + (n:Int)).toNat else min (k:Int).toNat n)=min k n;rw[if_neg ⋯,ζI]
end
end HT
namespace L2
open PySem PySem.Spec PyProof.Rows
abbrev TO:=St→Hp→(Option Int→Hp→Prop)→Prop
def PO(X:Cx)(e:Option Expr)(t:TO):Prop :=
 ∀(pins:AL) (s:Shared) (σ:St) (H:Hp) (Q:Option Int→Hp→Prop),Inv X pins σ H s→t σ H Q→
  wpAny (model X.prog X.w) X.A (evalPart e X.env) (λu s'=>∃o H',Inv X pins σ H' s'∧IsPart u o∧Q o H') X.xe s
def Um:TO:=λ_ H Q=>Q none H
def zdq(t:TE):TO:=λσ H Q=>t σ H λx H1=>∃i,x=.int i∧Q (some i) H1
theorem w9:∀{us:AK},Vals (ns.map V.int) us→IntsAre us ns:=by
 induction ns with
 | nil=>intro us r; rw[List.map_nil]at r; cases r; exact .nil
 | cons n ns ih =>
  intro us r;rw[ζH]at r;cases r with
  | cons r1 r2 =>
   obtain⟨t,e⟩:=r1;subst e;exact .cons n t (ih r2)
section
variable {X:Cx}{e:Expr}{te:TE}{lo hi:Option Expr}{tl th:TO}{pos p2:Pos}
theorem vS:PO X none Um:=by
 intro pins s σ H Q I h;rw[evalPart_none];exact AB ⟨none,H,I,.none,h⟩
theorem vR(h:PE X e te):PO X (some e) (zdq te):=by
 intro pins s σ H Q I hw;rw[evalPart_some];refine thn (h pins s σ H _ I hw) λu s1 ⟨x,H1,I1,r1,q1⟩=>?_;obtain⟨i,rfl,q⟩:=q1;obtain⟨t,rfl⟩:=r1;exact⟨some i,H1,I1,.int i t,q⟩
def SlR(X:Cx)(r:V→Option Int→Option Int→Hp→VK→Prop):Prop :=
 ∀(pins:AL) (s:Shared) (σ:St) (H:Hp) (x:V) (v vl vu:Value) (lo hi:Option Int) (sl:Addr) (Q:VK),Inv X pins σ H s→RelV x v→s.heap.IsSliceOf sl vl vu .none→IsPart vl lo→IsPart vu hi→r x lo hi H Q→
  ∃T id,typeLookup (.type T) "__getitem__" = pure (some (.builtin id))∧s.TypeIs v T∧wpAny (model X.prog X.w) X.A (getItem v (.ref sl)) (EP X pins σ Q) X.xe s
def tSl(r:V→Option Int→Option Int→Hp→VK→Prop)(te:TE)(tl th:TO):TE:=λσ H Q=>te σ H λx H1=>tl σ H1 λl H2=>th σ H2 λu H3=>r x l u H3 Q
theorem wG(hr:SlR X r)(he:PE X e te)(hl:PO X lo tl)(hu:PO X hi th):PE X (.Subscript e (.Slice lo hi none p2) pos) (tSl r te tl th):=by
 intro pins s σ H Q I h;refine Subscript_ (thn (he pins s σ H _ I h) λv s1 ⟨x,H1,I1,r1,q1⟩=>?_);refine wpAny_Slice (thn (hl pins s1 σ H1 _ I1 q1) λvl s2 ⟨l,H2,I2,pl,q2⟩=>thn (hu pins s2 σ H2 _ I2 q2) λvu s3 ⟨u,H3,I3,pu,q3⟩=>?_);rw[evalPart_none];refine AB ?_;have I4:Inv X pins σ H3 { s3 with heap:=s3.heap.push { cls:=.type "slice", data:=.fields #[vl,vu,.none] } }:=I3.kept (t':=s3.toks) λb ob q=>ζe _ q;obtain⟨T,id,hT,ht,hg⟩:=hr pins { s3 with heap:=s3.heap.push { cls:=.type "slice", data:=.fields #[vl,vu,.none] } } σ H3 x v vl vu l u s3.heap.objs.size Q I4 r1 (Heap.IsSliceOf.new ..) pl pu q3;show wpAny (model X.prog X.w) X.A (subscriptTail e (.Slice lo hi none p2) v (.ref s3.heap.objs.size)) (EP X pins σ Q) X.xe { s3 with heap:=s3.heap.push { cls:=.type "slice", data:=.fields #[vl,vu,.none] } };exact tail_any (ops:=[.ref s3.heap.objs.size,v]) ht hT hg (by with_unfolding_all rfl)
def cutV(xs:List V)(lo hi:Option Int):List V:=(xs.drop (HT.sIx xs.length 0 lo)).take (HT.sIx xs.length xs.length hi - HT.sIx xs.length 0 lo)
theorem Vg(xs:List V)(lo hi:Option Int):(cutV xs lo hi).length≤xs.length:=by
 unfold cutV;rw[ζJ,ζ8];omega
end
def ixN(n:Nat)(i:Int):Option Nat:=if 0≤i then(if i < n then some i.toNat else none)else if -(n:Int)≤i then some (i + n).toNat else none
def atI{α:Type}(xs:List α)(i:Int):Option α:=(ixN xs.length i).bind λj=>xs[j]?
theorem UZ{n:Nat}(h:ixN n i=some j):seqIndex? i n=some j∧j < n∧-(n:Int)≤i∧i < n:=by
 unfold ixN at h;by_cases h0:0≤i
 ·rw[if_pos h0]at h;by_cases h1:i < n
  ·rw[if_pos h1]at h;have e:i.toNat=j:=ζr h;exact⟨by rw[seqIndex_of h0 h1,e],⋯,⋯,h1⟩
  ·rw[if_neg h1]at h; cases h
 ·rw[if_neg h0]at h;by_cases h1:-(n:Int)≤i
  ·rw[if_pos h1]at h;have e:(i + n).toNat=j:=ζr h;exact⟨by rw[seqIndex_neg ⋯ h1,e],⋯,h1,⋯⟩
  ·rw[if_neg h1]at h; cases h
theorem Tm(h:atI xs i=some v):∃j,seqIndex? i xs.length=some j∧xs[j]?=some v∧j < xs.length∧-(xs.length:Int)≤i∧i < xs.length:=by
 unfold atI at h;cases e:ixN xs.length i with
 | none=>rw[e]at h; cases h
 | some j =>
  rw[e]at h;obtain⟨h1,h2,h3,h4⟩:=UZ e;exact⟨j,h1,h,h2,h3,h4⟩
theorem tj{j:Nat}(h:xs[j]?=some v):atI xs (j:Int)=some v:=by
 have hj:j < xs.length:=(ζh.mp h).1;have e:ixN xs.length (j:Int)=some j:=by
  unfold ixN;rw[if_pos ⋯,if_pos ⋯]; simp
 unfold atI; rw[e]; exact h
def Tp(b:Expr):Prop:=∀o i,subscripted b false o i=operate [o,i] (getItem o i)
def IxR(X:Cx)(r:R2):Prop :=
 ∀(value slice:Expr) (pins:AL) (s:Shared) (σ:St) (H:Hp) (x y:V) (v u:Value) (Q:VK),Inv X pins σ H s→RelV x v→RelV y u→r x y H Q→
  subscripted slice false v u=operate [v,u] (getItem v u)→wpAny (model X.prog X.w) X.A (subscriptTail value slice v u) (EP X pins σ Q) X.xe s
def MtR(X:Cx)(id:String)(r:V→List V→Hp→VK→Prop):Prop :=
 ∀(pins:AL) (s:Shared) (σ:St) (H:Hp) (x:V) (xs:List V) (v:Value) (us:AK) (Q:VK),Inv X pins σ H s→RelV x v→Vals xs us→r x xs H Q→
  wpAny (model X.prog X.w) X.A (call (.builtin id) (v :: us)) (EP X pins σ Q) X.xe s
section
variable {X:Cx}{a b:Expr}{ta tb:TE}{pos:Pos}
theorem zfm(hr:IxR X r)(ha:PE X a ta)(hb:PE X b tb)(hs:Tp b):PE X (.Subscript a b pos) (tOp r ta tb):=by
 intro pins s σ H Q I h;exact Subscript_ (binT ha hb I h λv u s2 x y H2 I2 rx ry q=>hr a b pins s2 σ H2 x y v u Q I2 rx ry q (hs _ _))
def rIxL(K:ζc):R2:=λx y H Q=>∃p xs i v,x=.ref p∧y=.int i∧SqL K H p xs∧atI xs i=some v∧Q v H
def rIxT(K:ζc):R2:=λx y H Q=>∃p xs i v,x=.ref p∧y=.int i∧SqT K H p xs∧atI xs i=some v∧Q v H
theorem zcM:IxR X (rIxL X.K):=by
 intro value slice pins s σ H x y v u Q I rx ry h hs;obtain⟨p,xs,i,z,rfl,rfl,hq,he,q⟩:=h;cases rx;obtain⟨t,rfl⟩:=ry;obtain⟨its,r,pl,hz⟩:=I.list hq;obtain⟨j,h1,h2,h3,h4,h5⟩:=Tm he;obtain⟨w,ew,rw'⟩:=r.get h2;have hl:=r.length;have hn:=XL;have fin:EP X pins σ Q w s:=⟨z,H,I,rw',q⟩
 by_cases h0:0≤i
 ·have hj:i.toNat=j:=by
   rw[seqIndex_of h0 h5]at h1;exact ζr h1
  exact item_listR pl.isList h0 ⋯ (by rw[hj]; simpa using ew) fin hs
 ·have hj:(i + (its.toArray.size:Int)).toNat=j:=by
   rw[seqIndex_neg ⋯ h4]at h1;rw[ζO,←hl];exact ζr h1
  exact subscriptTail_builtinR (x:=w) pl.isList.typeIs slot_list_getitem.lookup
   (wpAny_getItem_list_neg (Q:=λr s'=>r=w∧EP X pins σ Q r s') pl.isList ⋯ (by rw[List.size_toArray] <;> omega) ⋯ (by rw[hj]; simpa using ew) ⟨rfl,fin⟩) hs
theorem zeD:IxR X (rIxT X.K):=by
 intro value slice pins s σ H x y v u Q I rx ry h hs;obtain⟨p,xs,i,z,rfl,rfl,hq,he,q⟩:=h;cases rx;obtain⟨t,rfl⟩:=ry;obtain⟨its,r,pl,hz⟩:=I.tuple hq;obtain⟨j,h1,h2,h3,h4,h5⟩:=Tm he;obtain⟨w,ew,rw'⟩:=r.get h2;have hl:=r.length;have hn:=XL;have fin:EP X pins σ Q w s:=⟨z,H,I,rw',q⟩
 exact subscriptTail_builtinR (x:=w) pl.typeIs slot_tuple_getitem.lookup
  (getItem_tuple (j:=j) (Q:=λr s'=>r=w∧EP X pins σ Q r s') pl ⋯ ⋯ (by rw[List.size_toArray,←hl]; exact h1) (by simpa using ew) ⟨rfl,fin⟩) hs
theorem VV(its:AK)(n j:Nat)(u:Value):Obj.mapSeq (·.setIfInBounds j u) { cls:=.type "list", data:=.seq its.toArray n }={ cls:=.type "list", data:=.seq (its.set j u).toArray n }:=by
 simp[Obj.mapSeq]
theorem Inv.lst(I:Inv X pins σ H s)(h:H p=some (.lst xs)):
  ∃(its:AK) (n:Nat),Vals xs its∧s.heap.get? p=some { cls:=.type "list", data:=.seq its.toArray n }∧xs.length≤sizeLine:=by
 obtain⟨z,its,n,r,e⟩:=I.hok p _ h;exact⟨its,n,r,e,z⟩
theorem Inv.lstUpd{pins:AL}{σ:St}{H:Hp}{s:Shared}{p:Addr}{xs ys:List V}{its its':AK}{n n':Nat}{f:Obj→Obj}(I:Inv X pins σ H s)(h:H p=some (.lst xs))
  (ho:s.heap.get? p=some { cls:=.type "list", data:=.seq its.toArray n }) (hf:f { cls:=.type "list", data:=.seq its.toArray n }={ cls:=.type "list", data:=.seq its'.toArray n' }) (r:Vals ys its') (hz:ys.length≤sizeLine) (t:Nat) :
  Inv X pins σ (upd H p (.lst ys)) { s with heap:=s.heap.update p f,toks:=t }:=by
 have e:(s.heap.update p f).get? p=some { cls:=.type "list", data:=.seq its'.toArray n' }:=by
  rw[ξm f ho (by rw[hf] <;> rfl),hf]
 refine I.write (x:=p) (e:=p) (by rw[h]; trivial) (.inl rfl) (λb u hb q=>(Heap.get?_update_other _ _ (Ne.symm hb)).trans q) ⟨_,e⟩ ?_;exact⟨hz,its',n',r,e⟩
def Uy:V→V→V→Hp→(Hp→Prop)→Prop:=λo i v H Q=>∃p xs k j,o=.ref p∧i=.int k∧H p=some (.lst xs)∧ixN xs.length k=some j∧Q (upd H p (.lst (xs.set j v)))
theorem Zx:PSet X Uy:=by
 intro pins s σ H o i v ov iv u Q I ro ri rv h;obtain⟨p,xs,k,j,rfl,rfl,hp,hj,q⟩:=h;cases ro;obtain⟨t,rfl⟩:=ri;obtain⟨its,n,r,ho,hz⟩:=I.lst hp;obtain⟨h1,h2,h3,h4⟩:=UZ hj;have hl:=r.length;have hn:=XL
 have I':Inv X pins σ (upd H p (.lst (xs.set j v))) { s with heap:=s.heap.update p (Obj.mapSeq (·.setIfInBounds j u)) } :=
  I.lstUpd hp ho (VV its n j u) (r.set rv j) (by rw[ξ9]; exact hz) s.toks
 by_cases h0:0≤k
 ·have hk:k.toNat=j:=by
   rw[seqIndex_of h0 h4]at h1;exact ζr h1
  exact PySem.W.ki_setAt ho h0 ⋯ (by rw[ζO,←hl]; exact h4) (by rw[hk]; exact⟨_,I',q⟩)
 ·have hk:(k + (its.toArray.size:Int)).toNat=j:=by
   rw[seqIndex_neg ⋯ h3]at h1;rw[ζO,←hl];exact ζr h1
  exact PySem.W.ki_setBack ho ⋯ (by rw[ζO,←hl]; exact h3) ⋯ (by rw[hk]; exact⟨_,I',q⟩)
theorem Y5(lo hi:Option Int)(n:Nat):(sliceBounds lo hi none n).1=((HT.sIx n 0 lo:Nat):Int)∧(sliceBounds lo hi none n).2.1=((HT.sIx n n hi:Nat):Int)∧(sliceBounds lo hi none n).2.2=1:=by
 refine⟨?_,?_,rfl⟩
 ·cases lo with
  | none=>simp[sliceBounds,HT.sIx]
  | some i =>
   simp only[sliceBounds,HT.sIx,Option.getD_none,show(1:Int) > 0 by decide,if_true];by_cases h:i < 0
   ·simp only[h,if_true] <;> omega
   ·simp only[h,if_false] <;> omega
 ·cases hi with
  | none=>simp[sliceBounds,HT.sIx]
  | some i =>
   simp only[sliceBounds,HT.sIx,Option.getD_none,show(1:Int) > 0 by decide,if_true];by_cases h:i < 0
   ·simp only[h,if_true] <;> omega
   ·simp only[h,if_false] <;> omega
theorem Z9(its:AK)(lo hi:Option Int):slicePick its.toArray lo hi none=((its.drop (HT.sIx its.length 0 lo)).take (HT.sIx its.length its.length hi - HT.sIx its.length 0 lo)).toArray:=by
 obtain⟨h1,h2,h3⟩:=Y5 lo hi its.toArray.size;unfold slicePick;rw[h1,h2,h3];simp only[sliceRange_one,pick_run,List.size_toArray] <;> rfl
def rSlL(K:ζc):V→Option Int→Option Int→Hp→VK→Prop:=λx lo hi H Q=>∃a xs,x=.ref a∧SqL K H a xs∧∀p,H p=none→Q (.ref p) (upd H p (.lst (cutV xs lo hi)))
theorem zb2:SlR X (rSlL X.K):=by
 intro pins s σ H x v vl vu lo hi sl Q I rx hs pl pu h;obtain⟨a,xs,rfl,hx,q⟩:=h;cases rx;obtain⟨its,r,ht,hz⟩:=I.list hx;have hlen:=r.length;refine⟨"list", _,slot_list_getitem.lookup,ht.isList.typeIs,?_⟩
 refine wpAny_getItem_list_slice ht.isList hs pl pu .none (by simp) ?_ (by rw[List.size_toArray] <;> omega);rw[Z9,←hlen];refine⟨.ref s.heap.objs.size,_,I.laid (t':=s.toks) (o:=.lst (cutV xs lo hi)) (λb ob q=>ζe _ q) (ζj _) ?_,rfl,q _ (I.hok.fresh (ζj _))⟩
 exact⟨ζZ (Vg xs lo hi) hz,_,0,(r.drop (HT.sIx xs.length 0 lo)).take (HT.sIx xs.length xs.length hi - HT.sIx xs.length 0 lo),ζt _ rfl⟩
def uT:V→Bool
 | .non=>true
 | .bl _=>true
 | .int _=>true
 | .str _=>true
 | _=>false
def eqV:V→V→Bool
 | .non,.non=>true
 | .bl a,.bl b=>a == b
 | .bl a,.int b=>(if a then 1 else 0) == b
 | .int a,.bl b=>a == (if b then 1 else 0)
 | .int a,.int b=>a == b
 | .str a,.str b=>a == b
 | _,_=>false
theorem zeX(ry:RelV y u)(rx:RelV x v)(fy:uT y=true)(fx:uT x=true):SeqAt.EqAt A s u v (eqV y x):=by
 cases y with
 | non =>
  cases ry;cases x with
  | non=>cases rx; exact SeqAt.EqAt.same _
  | bl b=>cases rx; exact SeqAt.EqAt.none_bool b
  | int b=>obtain⟨t,rfl⟩:=rx; exact SeqAt.EqAt.none_int b t
  | str b=>obtain⟨t,rfl⟩:=rx; exact SeqAt.EqAt.none_str b t
  | _=>exact absurd (show false=true from fx) ζF
 | bl a =>
  cases ry;cases x with
  | non=>cases rx; exact SeqAt.EqAt.bool_none a
  | bl b=>cases rx; exact SeqAt.EqAt.bool_bool a b
  | int b=>obtain⟨t,rfl⟩:=rx; exact SeqAt.EqAt.bool_int a b t
  | str b=>obtain⟨t,rfl⟩:=rx; exact SeqAt.EqAt.bool_str a b t
  | _=>exact absurd (show false=true from fx) ζF
 | int a =>
  obtain⟨t',rfl⟩:=ry;cases x with
  | non=>cases rx; exact SeqAt.EqAt.int_none a t'
  | bl b=>cases rx; exact SeqAt.EqAt.int_bool a t' b
  | int b=>obtain⟨t,rfl⟩:=rx; exact SeqAt.EqAt.int_int a t' b t
  | str b=>obtain⟨t,rfl⟩:=rx; exact SeqAt.EqAt.int_str a t' b t
  | _=>exact absurd (show false=true from fx) ζF
 | str a =>
  obtain⟨t',rfl⟩:=ry;cases x with
  | non=>cases rx; exact SeqAt.EqAt.str_none a t'
  | bl b=>cases rx; exact SeqAt.EqAt.str_bool a t' b
  | int b=>obtain⟨t,rfl⟩:=rx; exact SeqAt.EqAt.str_int a t' b t
  | str b=>obtain⟨t,rfl⟩:=rx; exact SeqAt.EqAt.str_str a t' b t
  | _=>exact absurd (show false=true from fx) ζF
 | _=>exact absurd (show false=true from fy) ζF
def eqU(x:V)(u:Value):Bool:=match u with
 | .none=>eqV .non x
 | .bool b=>eqV (.bl b) x
 | .int i _=>eqV (.int i) x
 | .str z _=>eqV (.str z) x
 | _=>false
theorem zbr(r:RelV y u)(f:uT y=true):eqU x u=eqV y x:=by
 cases y with
 | non=>cases r; rfl
 | bl b=>cases r; rfl
 | int i=>obtain⟨t,rfl⟩:=r; rfl
 | str z=>obtain⟨t,rfl⟩:=r; rfl
 | _=>exact absurd (show false=true from f) ζF
theorem tu:∀{xs:List V} {us:AK},Vals xs us→xs.all uT=true→us.any (eqU x)=xs.any λy=>eqV y x
 | _,_,.nil,_=>rfl
 | y :: xs,u :: us,.cons r t,f=>by
  rw[List.all_cons,ξS]at f;rw[ξM,ξM,zbr r f.1,tu t f.2]
theorem vB(rx:RelV x v)(fx:uT x=true):∀{xs:List V} {us:AK},Vals xs us→xs.all uT=true→∀u∈us,SeqAt.EqAt A s u v (eqU x u)
 | _,_,.nil,_=>λu hu=>by cases hu
 | y :: xs,u :: us,.cons r t,f=>λu' hu=>by
  rw[List.all_cons,ξS]at f;rcases ζC.mp hu with rfl | hu
  ·rw[zbr r f.1]; exact zeX r rx f.1 fx
  ·exact vB rx fx t f.2 u' hu
def inV(x:V)(xs:List V):Bool:=xs.any λy=>eqV y x
def rIn(K:ζc)(neg:Bool):R2:=λx y H Q=>∃p xs,y=.ref p∧(SqL K H p xs∨SqT K H p xs)∧uT x=true∧xs.all uT=true∧Q (.bl (if neg then !inV x xs else inV x xs)) H
theorem TV:OpR X (compareOp .In) (rIn X.K false):=by
 intro pins s σ H x y v u Q I rx ry h;obtain⟨p,xs,rfl,hq,fx,fs,q⟩:=h;cases ry;rcases hq with hq | hq
 ·obtain⟨its,r,pl,hz⟩:=I.list hq;refine SeqAt.in_listAt (eqU x) pl.isList (λw hw=>vB rx fx r fs w (by simpa using hw)) ⟨.bl _,H,I,rfl,?_⟩;rw[show its.toArray.any (eqU x)=its.any (eqU x)by simp,tu r fs];exact q
 ·obtain⟨its,r,pl,hz⟩:=I.tuple hq;refine SeqAt.in_tupleAt (eqU x) pl (λw hw=>vB rx fx r fs w (by simpa using hw)) ⟨.bl _,H,I,rfl,?_⟩;rw[show its.toArray.any (eqU x)=its.any (eqU x)by simp,tu r fs];exact q
theorem Xu:OpR X (compareOp .NotIn) (rIn X.K true):=by
 intro pins s σ H x y v u Q I rx ry h;obtain⟨p,xs,rfl,hq,fx,fs,q⟩:=h;cases ry;rcases hq with hq | hq
 ·obtain⟨its,r,pl,hz⟩:=I.list hq;refine SeqAt.notIn_listAt (eqU x) pl.isList (λw hw=>vB rx fx r fs w (by simpa using hw)) ⟨.bl _,H,I,rfl,?_⟩;rw[show its.toArray.any (eqU x)=its.any (eqU x)by simp,tu r fs];exact q
 ·obtain⟨its,r,pl,hz⟩:=I.tuple hq;refine SeqAt.notIn_tupleAt (eqU x) pl (λw hw=>vB rx fx r fs w (by simpa using hw)) ⟨.bl _,H,I,rfl,?_⟩;rw[show its.toArray.any (eqU x)=its.any (eqU x)by simp,tu r fs];exact q
theorem X5:y8 X (.builtin "len") (λxs H Q=>∃p ys,xs=[.ref p]∧(SqL X.K H p ys∨SqT X.K H p ys)∧Q (.int ys.length) H):=by
 intro pins s σ H xs us Q I r h;obtain⟨p,ys,rfl,hq,q⟩:=h;obtain⟨u,rfl,rx⟩:=vk r;cases rx;have hn:=XL;rcases hq with hq | hq
 ·obtain⟨its,r',pl,hz⟩:=I.list hq;have hlen:=r'.length;exact Calls.call_len_list pl.isList (by simp only[List.size_toArray] <;> omega) ⟨.int ys.length,H,I.tok _,⟨s.toks + 1,by rw[List.size_toArray,hlen]⟩,q⟩
 ·obtain⟨its,r',pl,hz⟩:=I.tuple hq;have hlen:=r'.length;exact len_tuple pl (by simp only[List.size_toArray] <;> omega) ⟨.int ys.length,H,I.tok _,⟨s.toks + 1,by rw[List.size_toArray,hlen]⟩,q⟩
theorem X3:y8 X (.type "list") (λxs H Q=>∃p ys,xs=[.ref p]∧(SqL X.K H p ys∨SqT X.K H p ys)∧∀l,H l=none→Q (.ref l) (upd H l (.lst ys))):=by
 intro pins s σ H xs us Q I r h;obtain⟨p,ys,rfl,hq,q⟩:=h;obtain⟨u,rfl,rx⟩:=vk r;cases rx
 have fin:∀(its:AK),Vals ys its→ys.length≤sizeLine→∀(h':Heap) (c':Nat),(∀b o',s.heap.get? b=some o'→h'.get? b=some o')→
   h'.get? s.heap.objs.size=some { cls:=.type "list", dict:=none,data:=.seq its.toArray c',slots:=#[] }→EP X pins σ Q (.ref s.heap.objs.size) { s with heap:=h' }:=λits r' hz h' c' kp e =>
  ⟨.ref s.heap.objs.size,_,I.laid (t':=s.toks) kp (ζj _) (show yA X.prog X.w _ h' _ (.lst ys)from⟨hz,its,c',r',e⟩),rfl,q _ (I.hok.fresh (ζj _))⟩
 rcases hq with hq | hq
 ·obtain⟨its,r',pl,hz⟩:=I.list hq;have hlen:=r'.length;obtain⟨o,ho,hc,n,hd⟩:=pl.isList;exact call_list_seq p (.inl rfl) ho hc hd (λh' c' kp e=>fin its r' hz h' c' kp e) (by simp only[List.size_toArray] <;> omega)
 ·obtain⟨its,r',pl,hz⟩:=I.tuple hq;have hlen:=r'.length;obtain⟨o,ho,hc,n,hd⟩:=pl;exact call_list_seq p (.inr rfl) ho hc hd (λh' c' kp e=>fin its r' hz h' c' kp e) (by simp only[List.size_toArray] <;> omega)
theorem Yj:y8 X (.type "tuple") (λxs H Q=>∃p ys,xs=[.ref p]∧((SqL X.K H p ys∧∀l,H l=none→Q (.ref l) (upd H l (.tup ys)))∨(SqT X.K H p ys∧Q (.ref p) H))):=by
 intro pins s σ H xs us Q I r h;obtain⟨p,ys,rfl,h⟩:=h;obtain⟨u,rfl,rx⟩:=vk r;cases rx;rcases h with⟨hq,q⟩ | ⟨hq,q⟩
 ·obtain⟨its,r',pl,hz⟩:=I.list hq;have hlen:=r'.length;refine call_tuple_list pl.isList (λh' kp=>?_) (by simp only[List.size_toArray] <;> omega);have I1:Inv X pins σ H { s with heap:=h' }:=I.kept (t':=s.toks) kp
  have I2:Inv X pins σ (upd H h'.objs.size (.tup ys)) { s with heap:=h'.push { cls:=.type "tuple", data:=.seq its.toArray } } :=
   I1.laid (t':=s.toks) (λb o e=>ζe _ e) (ζj _) (show yA X.prog X.w _ _ _ (.tup ys)from⟨hz,its,r',IsTup.new _ _⟩)
  exact⟨.ref h'.objs.size,_,I2,rfl,q _ (I1.hok.fresh (ζj _))⟩
 ·obtain⟨its,r',pl,hz⟩:=I.tuple hq;exact call_tuple_same pl ⟨.ref p,H,I,rfl,q⟩
def tyV(K:ζc)(T:String)(x:V)(H:Hp):Prop:=match x with
 | .str _=>T = "str"
 | .int _=>T = "int"
 | .ref p=>(T = "list"∧∃xs,SqL K H p xs)∨(T = "tuple"∧∃o,K.lookup p=some o∧o.cls=.type "tuple"∧o.dict=none)∨
   (T = "dict"∧((∃kvs,H p=some (.dK kvs))∨∃kvs,H p=some (.dT kvs)))∨(T = "set"∧∃S n,H p=some (.set S n))
 | _=>False
theorem QJ(I:Inv X pins σ H s)(r:RelV x v)(ty:tyV X.K T x H):
  s.TypeIs v T∧∀a,v=.ref a→∃ob,s.heap.get? a=some ob∧ob.dict=none:=by
 cases x with
 | str z =>
  obtain⟨t,rfl⟩:=r;cases(show T = "str" from ty);exact⟨typeIs_str s z t,λ_ e=>nomatch e⟩
 | int i =>
  obtain⟨t,rfl⟩:=r;cases(show T = "int" from ty);exact⟨typeIs_int s i t,λ_ e=>nomatch e⟩
 | ref p =>
  cases r;rcases ty with⟨rfl,xs,hq⟩ | ⟨rfl,o,hk,hc,hd⟩ | ⟨rfl,hk⟩ | ⟨rfl,S,n,hk⟩
  ·obtain⟨its,_,pl,_⟩:=I.list hq;refine⟨pl.isList.typeIs,λa e=>?_⟩
   cases e;obtain⟨o,n,e,c,hd,_⟩:=pl;exact⟨o,e,hd⟩
  ·refine⟨⟨o,I.kIn p o hk,hc⟩,λa e=>?_⟩
   cases e;exact⟨o,I.kIn _ o hk,hd⟩
  ·have z:∃o,s.heap.get? p=some o∧o.ExactDict:=by
    rcases hk with⟨kvs,hk⟩ | ⟨kvs,hk⟩
    ·obtain⟨_,_,_,_,o,_,_,e,ex,_⟩:=I.hok p _ hk;exact⟨o,e,ex⟩
    ·obtain⟨_,_,_,_,o,_,_,e,ex,_⟩:=I.hok p _ hk;exact⟨o,e,ex⟩
   obtain⟨o,e,ex⟩:=z;refine⟨⟨o,e,ex.1⟩,λa e2=>?_⟩
   cases e2;exact⟨o,e,ex.2.1⟩
  ·obtain⟨o,_,_,_,e,ex,_⟩:=I.hok p _ hk;refine⟨⟨o,e,ex.1⟩,λa e2=>?_⟩
   cases e2;exact⟨o,e,ex.2.1⟩
 | _=>exact False.elim ty
def tBM0(K:ζc)(T:String)(r:V→List V→Hp→VK→Prop)(to:TE):TE:=λσ H Q=>to σ H λx H1=>tyV K T x H1∧r x [] H1 Q
def tBM(K:ζc)(T:String)(r:V→List V→Hp→VK→Prop)(to:TE)(t:TA):TE:=λσ H Q=>to σ H λx H1=>tyV K T x H1∧t σ H1 λxs H2=>r x xs H2 Q
variable {o e:Expr}{es:List Expr}{to:TE}{t:TA}{name:Str}{apos cpos:Pos}{T id:String}{r:V→List V→Hp→VK→Prop}
theorem zeh(pa:PlainAttrs T)(slot:Slot T name id)(hty:typeOf (.builtin id)=pure (.type "method_descriptor"))(hm:MtR X id r)(ho:PE X o to)
  (hbase:attributeBase o name X.env (eval o X.env)=eval o X.env:=by rfl) (hline:(apos.endLine == cpos.line)=true:=by rfl):PE X (.Call (.Attribute o name apos) [] [] cpos) (tBM0 X.K T r to):=by
 intro pins s σ H Q I h;refine wpAny_Call_method0_late hbase hline (thn (ho pins s σ H _ I h) λv s1 ⟨x,H1,I1,r1,ty,q1⟩=>?_);obtain⟨h1,h2⟩:=QJ I1 r1 ty;exact⟨T,id,pa,slot,hty,h1,h2,Calls.callWith_builtin rfl (PySem.evalArgs_none (hm pins s1 σ H1 x [] v [] Q I1 r1 .nil q1))⟩
theorem zfo(pa:PlainAttrs T)(slot:Slot T name id)(hty:typeOf (.builtin id)=pure (.type "method_descriptor"))(hm:MtR X id r)(ho:PE X o to)(ha:PA X (e :: es) t)
  (hbase:attributeBase o name X.env (eval o X.env)=eval o X.env:=by rfl)
  (hfew:((backTo cpos (starEach (e :: es) X.env)).all (λx=>!x.1) && (backToKw cpos (keywordEach [] X.env)).all (λx=>x.1.isSome)
   && decide ((e :: es).length + ([]:List Keyword).length + (if([]:List Keyword).isEmpty then 0 else 1) < 30))=true:=by rfl)
  (hline:(apos.endLine == cpos.line)=true:=by rfl) (hs:starEach (e :: es) X.env=(false,eval e X.env) :: starEach es X.env:=by rfl) (hplain:(backTo cpos (starEach es X.env)).any (·.1)=false:=by rfl) :
  PE X (.Call (.Attribute o name apos) (e :: es) [] cpos) (tBM X.K T r to t):=by
 intro pins s σ H Q I h;refine wpAny_Call_method_late hbase hfew hline rfl (thn (ho pins s σ H _ I h) λv s1 ⟨x,H1,I1,r1,ty,q1⟩=>?_);obtain⟨h1,h2⟩:=QJ I1 r1 ty;refine⟨T,id,pa,slot,hty,h1,h2,?_⟩
 have hA:=ha cpos pins s1 σ H1 _ I1 q1;rw[hs]at hA ⊢;refine Calls.callWith_builtin (by show(false || (backTo cpos (starEach es X.env)).any (·.1))=false; rw[hplain] <;> rfl) (Calls.evalArgs_plain ?_);exact thn hA λus s2 ⟨vs,H2,I2,r2,q2⟩=>hm pins s2 σ H2 x vs v us Q I2 r1 r2 q2
end
def MtM(X:Cx)(id:String)(r:V→List V→Hp→VK→Prop):Prop :=
 ∀(pins:AL) (s:Shared) (σ:St) (H:Hp) (x:V) (xs:List V) (v:Value) (us:AK) (Q:VK),Inv X pins σ H s→RelV x v→Vals xs us→r x xs H Q→
  wpAny (model X.prog X.w) X.A (call (.builtin id) (v :: us)) (EP X pins σ Q) X.xe s
theorem Vals.one:∀{x:V} {us:AK},Vals [x] us→∃u,us=[u]∧RelV x u
 | _,_,.cons r .nil=>⟨_,rfl,r⟩
theorem Vals.two:∀{x y:V} {us:AK},Vals [x,y] us→∃u v,us=[u,v]∧RelV x u∧RelV y v
 | _,_,_,.cons r (.cons q .nil)=>⟨_,_,rfl,r,q⟩
theorem Vals.zero:∀{us:AK},Vals [] us→us=[]
 | _,.nil=>rfl
theorem Vals.dropLast(h:Vals xs us):Vals xs.dropLast us.dropLast:=by
 induction h with
 | nil=>exact .nil
 | cons r t ih =>
  cases t with
  | nil=>exact .nil
  | cons q t'=>exact .cons r ih
theorem Vals.rep(h:Vals xs us):∀k:Nat,Vals (List.replicate k xs).flatten (List.replicate k us).flatten
 | 0=>.nil
 | k + 1=>by
  rw[ξd,ξd,ξP,ξP];exact Vals.append h (Vals.rep h k)
theorem V5(l:List α):l.eraseIdx (l.length - 1)=l.dropLast:=by
 induction l with
 | nil=>rfl
 | cons a r ih =>
  cases r with
  | nil=>rfl
  | cons b r =>
   have e:(a :: b :: r).length - 1=((b :: r).length - 1) + 1:=by
    have h1:(a :: b :: r).length=r.length + 2:=rfl;have h2:(b :: r).length=r.length + 1:=rfl;omega
   rw[e,List.eraseIdx_cons_succ,ih]
   all_goals rfl
theorem YJ(its:AK):∀(k:Nat) (acc:AK),
  List.foldl (λx1 x2=>x1 ++ x2) acc.toArray (List.replicate k its.toArray)=(acc ++ (List.replicate k its).flatten).toArray
 | 0,acc=>by simp
 | k + 1,acc=>by
  have e:acc.toArray ++ its.toArray=(acc ++ its).toArray:=by simp
  have e2:(acc ++ its) ++ (List.replicate k its).flatten=acc ++ (List.replicate (k + 1) its).flatten:=by
   rw[ξd,ξP,ξY]
  rw[←e2,←YJ its k (acc ++ its),←e,ξd,List.foldl_cons]
section
variable {X:Cx}{pins:AL}{σ:St}{H:Hp}{s:Shared}{l b:Addr}{xs ys zs:List V}
theorem Inv.lset{its its':AK}{n:Nat}{f:Array Value→Array Value}{t':Nat}(I:Inv X pins σ H s)(hH:H l=some (.lst xs))
  (e:s.heap.get? l=some { cls:=.type "list", data:=.seq its.toArray n }) (hf:f its.toArray=its'.toArray) (hv:Vals ys its') (hz:ys.length≤sizeLine) :
  Inv X pins σ (upd H l (.lst ys)) { s with heap:=s.heap.update l (Obj.mapSeq f),toks:=t' }:=by
 have q:=PySem.IsL.update e f;rw[hf]at q;refine I.write (x:=l) (e:=l) (by rw[hH]; exact trivial) (.inl rfl) (λb' u hb hu=>(Heap.get?_update_other s.heap (Obj.mapSeq f) (Ne.symm hb)).trans hu) ⟨_,q⟩ ?_;exact⟨hz,its',_,hv,q⟩
theorem Inv.lnew{t':Nat}(I:Inv X pins σ H s)(hv:Vals ys its)(hz:ys.length≤sizeLine):
  Inv X pins σ (upd H s.heap.objs.size (.lst ys)) { s with heap:=s.heap.push { cls:=.type "list", data:=.seq its.toArray },toks:=t' } :=
 I.laid (λ_ _ q=>ζe _ q) (ζj _) ⟨hz,its,0,hv,ζt _ rfl⟩
theorem Inv.fresh(I:Inv X pins σ H s):H s.heap.objs.size=none:=I.hok.fresh (ζj _)
theorem Inv.lstM(I:Inv X pins σ H s)(hH:H l=some (.lst xs)):xs.length≤sizeLine∧∃(its:AK) (n:Nat),Vals xs its∧xs.length=its.length∧s.heap.get? l=some { cls:=.type "list", data:=.seq its.toArray n }:=by
 obtain⟨z,its,n,r,e⟩:=I.hok l _ hH;exact⟨z,its,n,r,r.length,e⟩
theorem WX(h:n≤sizeLine):Builtin.List.listTooLong n=false:=by
 unfold Builtin.List.listTooLong;exact decide_eq_false ⋯
end
section
variable {X:Cx}
def vP:V→List V→Hp→VK→Prop:=λx vs H Q=>∃l xs y,x=.ref l∧vs=[y]∧H l=some (.lst xs)∧xs.length < sizeLine∧Q .non (upd H l (.lst (xs ++ [y])))
theorem zW:MtM X "list.append" vP:=by
 intro pins s σ H x vs v us Q I rx rv h;obtain⟨l,xs,y,rfl,rfl,hH,hz,q⟩:=h;cases rx;obtain⟨u,rfl,ru⟩:=rv.one;obtain⟨z,its,n,r,hl,e⟩:=I.lstM hH;refine call_meets F.slot_list_append ⟨_,e,rfl⟩ F.entry_list_append (F.args_list_append_2 _ _) (PySem.list_append l its.toArray n u (by rw[ζO]; omega)) ⟨e,?_⟩;refine⟨.non,_,I.lset (its':=its ++ [u]) hH e (by simp) (r.append (.cons ru .nil)) ?_,rfl,q⟩
 rw[ζg,List.length_singleton];omega
def rPop:V→List V→Hp→VK→Prop:=λx vs H Q=>∃l xs y,x=.ref l∧vs=[]∧H l=some (.lst xs)∧xs[xs.length - 1]?=some y∧Q y (upd H l (.lst xs.dropLast))
theorem zaG:MtM X "list.pop" rPop:=by
 intro pins s σ H x vs v us Q I rx rv h;obtain⟨l,xs,y,rfl,rfl,hH,hy,q⟩:=h;cases rx;have hus:=rv.zero;subst hus;obtain⟨z,its,n,r,hl,e⟩:=I.lstM hH;obtain⟨u,hu,ru⟩:=r.get hy;have hy':its.toArray[its.toArray.size - 1]?=some u:=by
  show its.toArray[its.length - 1]?=some u;rw[←ξj,←hl];exact hu
 refine call_meets F.slot_list_pop ⟨_,e,rfl⟩ F.entry_list_pop (F.args_list_pop_1 _) (MeetsSeq.list_pop_last l its.toArray n u hy' (by rw[ζO]; omega)) ⟨e,?_⟩;refine⟨y,_,I.lset (its':=its.dropLast) hH e ?_ r.dropLast ?_,ru,q⟩
 ·show its.toArray.eraseIdxIfInBounds (its.toArray.size - 1)=its.dropLast.toArray;rw[ζO,List.eraseIdxIfInBounds_toArray,V5]
 ·rw[List.length_dropLast];omega
def VC:V→List V→Hp→VK→Prop:=λx vs H Q=>∃l xs,x=.ref l∧vs=[]∧H l=some (.lst xs)∧Q .non (upd H l (.lst []))
theorem zaI:MtM X "list.clear" VC:=by
 intro pins s σ H x vs v us Q I rx rv h;obtain⟨l,xs,rfl,rfl,hH,q⟩:=h;cases rx;have hus:=rv.zero;subst hus;obtain⟨z,its,n,r,hl,e⟩:=I.lstM hH;refine call_meets F.slot_list_clear ⟨_,e,rfl⟩ F.entry_list_clear (F.args_list_clear_1 _) (AutoSeq1.list_clear_list_0 l its.toArray n (by rw[ζO]; omega)) ⟨e,?_⟩;exact⟨.non,_,I.lset (its':=[]) (ys:=[]) hH e rfl .nil (ξn _),rfl,q⟩
def rRep:R2:=λx y H Q=>∃l k xs,x=.ref l∧y=.int k∧H l=some (.lst xs)∧-(2 ^ 63)≤k∧k < 2 ^ 63∧xs.length * k.toNat≤sizeLine∧
 ∀p,H p=none→Q (.ref p) (upd H p (.lst (List.replicate k.toNat xs).flatten))
theorem zcK(xs:List α)(k:Nat):(List.replicate k xs).flatten.length=k * xs.length:=by
 induction k with
 | zero=>simp
 | succ k ih=>rw[ξd,ξP,ζg,ih,Nat.succ_mul,Nat.add_comm]
theorem ZJ:OpR X (binaryOp .Mult) rRep:=by
 intro pins s σ H x y v u Q I rx ry h;obtain⟨l,k,xs,rfl,rfl,hH,h1,h2,hz,q⟩:=h;cases rx;obtain⟨t,rfl⟩:=ry;obtain⟨z,its,n,r,hl,e⟩:=I.lstM hH;have hlen:its.toArray.size * k.toNat≤sizeLine:=by rw[ζO,←hl]; exact hz
 have hcap:¬its.toArray.size * k.toNat > (2 ^ 63 - 1) / 8:=by
  have:(sizeLine:Nat)≤(2 ^ 63 - 1) / 8:=by decide
  omega
 have hfit:¬(!Builtin.List.listFitsIndex k)=true:=by
  rw[fitsIndex_both h1 h2];exact ζF
 have hlong:¬Builtin.List.listTooLong (its.toArray.size * k.toNat)=true:=by
  rw[WX hlen];exact ζF
 have hnew:List.foldl (λx1 x2=>x1 ++ x2) #[] (List.replicate (if its.toArray.isEmpty=true then 0 else k.toNat) its.toArray)=(List.replicate k.toNat its).flatten.toArray:=by
  have f0:∀m:Nat,List.foldl (λx1 x2=>x1 ++ x2) #[] (List.replicate m its.toArray)=(List.replicate m its).flatten.toArray:=λm=>by
   have:=YJ its m [];rw[List.nil_append]at this;exact this
  rw[f0];cases its with
  | nil=>simp
  | cons a r'=>rw[if_neg (by simp)]
 refine wpAny_binaryOp_repeat_ref (T := "list") (U := "int") #[2] ⟨_,e,rfl⟩ (λs'=>typeIs_int s' k t) noFill_list_mul F.fills_int_mul F.slot_int_rmul repeat_list F.slot_int_index.lookup
  (call_meets F.slot_int_rmul (typeIs_int s k t) F.entry_int_rmul (F.args_int_rmul_2 _ _) (int___rmul___int_list k t l its.toArray n)
   ⟨e,rfl,⟨_,e,rfl⟩,call_meets F.slot_list_mul ⟨_,e,rfl⟩ F.entry_list_mul (F.args_list_mul_2 _ _) (AutoListH.list___mul___list_int_3 l its.toArray n k t hfit hcap hlong) ⟨e,?_⟩⟩)
 rw[hnew];exact⟨.ref _,_,I.lnew (t':=s.toks) (r.rep k.toNat) (by rw[zcK,Nat.mul_comm]; exact hz),rfl,q _ I.fresh⟩
end
section
variable {prog:Program}{w:World}{A:Around}{E:AN}{s:Shared}
end
section
variable {X:Cx}
end
end L2
namespace Att
open PySem PySem.W PySem.Calls PyProof.Rows
theorem Zd:∀(ns:AE) (vs:AK),WellAll P h vs (ns.map WData.int)→IntsAre vs ns:=by
 intro ns;induction ns with
 | nil =>
  intro vs w;rw[List.map_nil]at w;cases w;exact .nil
 | cons n ns ih =>
  intro vs w;rw[ζH]at w;cases w with
  | cons a b =>
   cases a;exact .cons _ _ (ih _ b)
theorem Ty{l:OpenLaw}{n:Nat}(hn:l.most=some n){P:Params}{h:Heap}{args:List WData}{vals:AK}
  (hpre:l.row.toRowW.claim.pre args=true) (hwl:WellAll P h vals args) :
  ∃a vs ns,vals=[Value.ref a]∧args=[WData.list (ns.map WData.int)]∧h.get? a=some { cls:=.type "list", data:=.seq vs.toArray }∧IntsAre vs ns∧ns.length≤n:=by
 have hsh:WShape.hasAll [] args [.list .int]=true:=(pre_splitW hpre).1;have hc:l.pre.holds [] { args:=args }=true:=(pre_splitW hpre).2;obtain⟨d,r,rfl,h1,h2⟩:=hasAllW_cons hsh;obtain rfl:=hasAllW_nil h2;obtain⟨xs,rfl,h3⟩:=hasW_list h1;obtain⟨ns,rfl⟩:=items_int h3;have hlen:ns.length≤n:=by
  unfold OpenLaw.pre at hc;have h4:(WTm.not (.lt (.lit (.int (n:Int))) (.len (.arg 0)))).holds [] { args:=[.list (ns.map .int)] }=true:=by
   have h4:=(holds_andW hc).1;rw[hn]at h4;exact h4
  have h5:=condW_of h4 (w_not (w_lt w_lit (w_len_list (w_arg rfl))));rw[ζa]at h5;refine Nat.le_of_not_lt λq=>?_;have q':(n:Int) < ((ns.length:Nat):Int):=by omega
  first
   | (rw[decide_eq_true q']at h5; exact absurd h5 #[2])
   | (simp at h5; omega)
 cases hwl with
 | cons w1 w2 =>
  cases w2;cases w1 with
  | list ho hall=>exact⟨_,_,ns,rfl,rfl,ho,Zd ns _ hall,hlen⟩
theorem TN(l:OpenLaw)(args:List WData):l.row.toRowW.claim.post args (.bool true) args=true :=
 postW_of (r:=l.row.toRowW) (X:=(true == true))
  (show WShape.has [] (.bool true) .bool=true by first | rfl | decide | simp[WShape.has,WShape.arms,WShape.armsAll])
  (show(WTm.eq .res (.lit (.bool true))).value [] { args:=args,res:=some (.bool true),after:=args }=some (.bool (true == true))from w_eq_bool (w_res rfl) w_lit) rfl
theorem Vl{l:OpenLaw}{n:Nat}{q:Program}{loose:AJ}{XP:(Str→Option Value)→Heap→Prop}{YP:World→Heap→Prop}{d:DefRec}
  (hn:l.most=some n) (hdf:d.params.defaults=[])
  (call:∀(w:World) (s₀ s₁:Shared) (mg mb:AO) (fa:Addr) (o:Obj) (pm cd doc:Value) (a:Addr) (vs:AK) (ns:AE),
   Ground q loose [] XP w s₀ mg mb s₁.heap→YP w s₁.heap→
   s₁.heap.get? fa=some o→o.data=.func (docDef d.name d.params d.body d.scope pm cd doc)→s₁.heap.CodeRec cd d.name→mg d.name=some (.ref fa)→
   s₁.heap.get? a=some { cls:=.type "list", data:=.seq vs.toArray }→IntsAre vs ns→ns.length≤n→s₁.gens=#[]→
   codeAny (model l.prog w) callerA (.call (.ref fa) ⟨[.ref a],[]⟩) (λr s'=>r=.ok (.ret (.bool true))∧OldK s₁.heap s'.heap∧s'.os=s₁.os∧AllBare s'.gens) s₁) :
  WalkO q loose XP YP l.row.toRowW d [] (λf vs=>PySem.call f vs):=by
 intro w s₀ s₁ mg mb G Y fa o pm cd doc dV kV ho hd hcd hD hmg hg args vals as hpre hlay hrd hwl hlo;obtain rfl:dV=.none:=Dflts.none hD hdf;obtain rfl:kV=.none:=Dflts.noKw hD;obtain⟨a,vs,ns,rfl,rfl,hobj,hints,hlen⟩:=Ty hn hpre hwl;refine enter_call (codeAny_mono (call w s₀ s₁ mg mb fa o pm cd doc a vs ns G Y ho (fd_plain hd) hcd hmg hobj hints hlen hg) λr s' hq=>?_);obtain⟨rfl,h2,h3,h4⟩:=hq;exact⟨.inl ⟨.bool true,.bool true,[],rfl,λ_=>rfl,.bool true,TN l _,λ_=>⟨List.Pairwise.nil,λ_ hm=>(nomatch hm)⟩⟩,h2,h3,h4⟩
section
variable {prog:Program}{w:World}{A:Around}{E:AN}{s:Shared}{K:Frag}
end
end Att
namespace L2
open PySem PySem.Spec PyProof.Rows
theorem Ym:∀{vs:AK} {ns:AE},IntsAre vs ns→Vals (ns.map V.int) vs
 | _,_,.nil=>.nil
 | _,_,.cons n t h=>.cons ⟨t,rfl⟩ (Ym h)
theorem Vu{K:ζc}{p:Addr×Str}(h:p∈yu K):∃c o vs,K.lookup c=some o∧o.cls=.type "code"∧o.data=.fields vs∧vs[11]?=some (.ref p.1):=by
 obtain⟨⟨c,_⟩,_,e⟩:=ξU.mp h;obtain⟨o,e1,e2⟩:=Option.bind_eq_some_iff.mp e;unfold QT at e2;split at e2
 ·rename_i vs h1 h2;split at e2
  ·rename_i q t P h3 h4;split at e2
   ·cases e2;exact⟨c,o,vs,e1,h1,h2,h4⟩
   ·cases e2
  ·cases e2
 ·cases e2
theorem zaT{P:Program}{w:World}{K:ζc}{mg mb:AO}{CX:CXT}{k:Nat}{fa a:Addr}{fd:FuncData}{x:Str}{sp:Sp}{s₁:Shared}{vs:AK}{ns:AE}
  (KX:K.In s₁.heap) (hT0:(∀p∈yu K,s₁.heap.get? p.1=some (PySem.W.tabObj #[]))∧Y3 K=true)
  (hbm:∃bm ob,mg "__builtins__" = some (.ref bm)∧bm≠builtinsNs∧s₁.heap.get? bm=some ob∧ob.cls=.type "module"∧ob.dict=some builtinsNs∧ob.data=.plain)
  (hns:s₁.heap.Ns mainGlobals mg) (hb:s₁.heap.Ns builtinsNs mb) (hbb:∀x:Str,x ≠ "__name__"→mb x=bootBuiltins x) (hlim:s₁.heap.NoLimit) (hg:s₁.gens=#[])
  (ha:s₁.heap.get? a=some { cls:=.type "list", data:=.seq vs.toArray }) (hi:IntsAre vs ns) (hl:ns.length≤sizeLine) (hr:Room k callerA)
  (F:∀base:Heap,K.In base→base.Ns mainGlobals mg→FnOk P w K mg base CX k fa fd [x] sp) (hbind:∀(s:Shared) (u:Value),BindsTo s fd ⟨[u],[]⟩ [(x,u)])
  (hsp:∀H:Hp,SqL K H a (ns.map V.int)→sp [.ref a] H (λv _=>v=.bl true) λ_ _ _=>False)
  (hCX:∀H e s',CX [] H s₁ (λ_ _ _=>False) e s'→False) :
  codeAny (model P w) callerA (.call (.ref fa) ⟨[.ref a],[]⟩) (λr s'=>r=.ok (.ret (.bool true))∧OldK s₁.heap s'.heap∧s'.os=s₁.os∧AllBare s'.gens) s₁:=by
 have uq:=hT0.2;unfold Y3 at uq;have hT:∀p∈yu K,s₁.heap.get? p.1=some (PySem.W.tabObj #[])∧K.lookup p.1=none:=λp hp=>⟨hT0.1 p hp,by
  have:=ξJ.mp uq p hp;simp only[Bool.and_eq_true]at this;exact Option.isNone_iff_eq_none.mp this.1⟩
 have one:∀p q:Addr×Str,p∈yu K→q∈yu K→p.1=q.1→p.2=q.2:=λp q hp hq e=>by
  have:=ξJ.mp uq p hp;simp only[Bool.and_eq_true]at this;have:=ξJ.mp this.2 q hq;simpa[e]using this
 have rv:=Ym hi;have lenV:=hi.length
 have core:∀H:Hp,SqL K H a (ns.map V.int)→HOk P w H s₁.heap→(∀b,H b=none∨(b=a∧∃o xs,H b=some (.frz o (.lst xs)))∨∃p∈yu K,b=p.1∧∃ps,H b=some (.tbl ps))→(H a≠none→K.lookup a=none)→TbOk K H→
   codeAny (model P w) callerA (.call (.ref fa) ⟨[.ref a],[]⟩) (λr s'=>r=.ok (.ret (.bool true))∧OldK s₁.heap s'.heap∧s'.os=s₁.os∧AllBare s'.gens) s₁:=by
  intro H hS hok hA hK hTb;have base_of:∀{b:Addr} {o:Obj},s₁.heap.get? b=some o→H b=none→(hidT s₁.heap H).get? b=some o:=λe n=>za1 e n;have noA:∀{b:Addr} {o:Obj},s₁.heap.get? b=some o→(∀vs:Array Value,∀n,o.data≠.seq vs n)→(∀vs,o.data≠.fields vs)→H b=none:=λ{b o} e d1 d2=>by
   rcases hA b with z | ⟨rfl,_⟩ | ⟨p,hp,rfl,_⟩
   ·exact z
   ·rw[ha]at e; cases e;exact absurd rfl (d1 _ _)
   ·rw[(hT p hp).1]at e; cases e;exact absurd rfl (d2 _)
  have nsK:∀{b:Addr} {m:AO},s₁.heap.Ns b m→(hidT s₁.heap H).Ns b m:=λ{b m} ⟨o,es,ep,e,d,r⟩=>⟨o,es,ep,base_of e (noA e (λ_ _ z=>by rw[d]at z; cases z) λ_ z=>by rw[d]at z; cases z),d,r⟩
  have hKb:K.In (hidT s₁.heap H):=λb o e=>base_of (KX b o e) (by
   rcases hA b with z | ⟨rfl,_,_,z⟩ | ⟨p,hp,rfl,_⟩
   ·exact z
   ·rw[hK (by rw[z]; simp)]at e; cases e
   ·rw[(hT p hp).2]at e; cases e)
  have hM:Mod K mg (hidT s₁.heap H):=⟨hKb,nsK hns,⟨mb,nsK hb,hbb⟩,let⟨mc,h1,h2⟩:=hlim; ⟨mc,nsK h1,h2⟩,let⟨bm,ob,q1,q2,q3,q4,q5,q6⟩:=hbm; ⟨bm,ob,q1,q2,base_of q3 (noA q3 (λ_ _ z=>by rw[q6]at z; cases z) λ_ z=>by rw[q6]at z; cases z),q4,q5,q6⟩⟩
  have e0:Env0 P w K mg (hidT s₁.heap H) callerA [] s₁ H:=⟨rfl,hM,λb o e=>zcF e,Nat.le_of_eq (Qb _ _),trivial,λb hb=>absurd (show b∈([]:List Addr)from hb) (by simp),hok,.of_eq hg,hTb⟩
  refine codeAny_mono ((F _ hKb (nsK hns)).run callerA [] s₁ H ⟨[.ref a],[]⟩ [.ref a] [.ref a] _ _ hr e0 (hbind s₁ (.ref a)) (.cons rfl .nil) (hsp H hS)) λr s' h=>?_;cases r with
  | error e=>exact(hCX H e s' h).elim
  | ok fl =>
   cases fl with
   | next=>exact False.elim h
   | brk=>exact False.elim h
   | cont=>exact False.elim h
   | ret u =>
    obtain⟨v,H',os,bare,un,hok',r',q⟩:=h;have q':v=.bl true:=q;subst q';obtain rfl:u=Value.bool true:=r';refine⟨rfl,⟨λb o e=>?_,λb o e=>un.there b o e (by simp)⟩,os,bare⟩
    rcases hA b with z | ⟨rfl,ob,xs,z⟩ | ⟨p,hp,rfl,ps,z⟩
    ·exact .inl (un.keep b o e z (by intro z; exact absurd (show b∈([]:List Addr)from z) (by simp)) (by simp))
    ·have z2:=un.frzs _ ob _ z;obtain⟨e1,_⟩:=hok _ _ z;obtain⟨e2,_⟩:=hok' _ _ z2;rw[e]at e1; cases e1;exact .inl e2
    ·obtain⟨m,z2⟩:=un.tbls _ _ z;obtain⟨vs',e2,_⟩:=hok' _ _ z2;obtain⟨c,oc,cs,k1,k2,k3,k4⟩:=Vu hp;rw[(hT p hp).1]at e;cases e;exact .inr (.inl ⟨⟨c,oc,cs,KX _ _ k1,k2,k3,k4⟩,rfl,#[],vs',rfl,by simpa using e2⟩)
 have tabH:∀{H:Hp} {p:Addr×Str},p∈yu K→yA P w H s₁.heap p.1 (.tbl #[.str p.2 0]):=λ{H p} hp=>⟨#[],(hT p hp).1,trivial,λq v z=>by cases z⟩
 let HT:Hp:=λb=>((yu K).find? λp=>p.1 == b).map λp=>HO.tbl #[.str p.2 0];have HTat:∀b,HT b=none∨∃p∈yu K,b=p.1∧HT b=some (.tbl #[.str p.2 0]):=λb=>by
  cases q:(yu K).find? λp=>p.1 == b with
  | none=>exact .inl (by show Option.map _ _=none; rw[q]; rfl)
  | some p=>exact .inr ⟨p,List.mem_of_find?_eq_some q,(show p.1=b by have:=List.find?_some q; simpa using this).symm,by show Option.map _ _=_; rw[q]; rfl⟩
 have HTok:TbOk K HT:=λp hp=>by
  rcases HTat p.1 with z | ⟨q,hq,e,z⟩
  ·exfalso;have z':Option.map _ ((yu K).find? λq=>q.1 == p.1)=none:=z;rw[Option.map_eq_none_iff,List.find?_eq_none]at z';exact z' p hp (by simp)
  ·exact⟨0,#[],by rw[z,one p q hp hq e]; simp⟩
 cases hk:K.lookup a with
 | some o =>
  have e:=KX a o hk;rw[ha]at e;cases e;refine core HT (.inr ⟨_,vs.toArray,_,hk,rfl,rfl,rfl,by rw[List.size_toArray,lenV]; exact hl,by simpa using rv⟩) (λb u z=>?_) (λb=>?_) (λz=>?_) HTok
  ·rcases HTat b with y | ⟨p,hp,rfl,y⟩
   ·rw[y]at z; cases z
   ·rw[y]at z; cases z; exact tabH hp
  ·rcases HTat b with y | ⟨p,hp,e,y⟩
   ·exact .inl y
   ·exact .inr (.inr ⟨p,hp,e,_,y⟩)
  ·rcases HTat a with y | ⟨p,hp,rfl,y⟩
   ·exact absurd y z
   ·exact(hT p hp).2
 | none =>
  have na:∀p∈yu K,p.1≠a:=λp hp e=>by
   have:=(hT p hp).1;rw[e,ha]at this; cases this
  refine core (λb=>if b=a then some (.frz { cls:=.type "list", data:=.seq vs.toArray } (.lst (ns.map V.int)))else HT b) (.inl (.inr ⟨{ cls:=.type "list", data:=.seq vs.toArray },if_pos rfl⟩)) (λb u z=>?_) (λb=>?_) (λ_=>hk) λp hp=>?_
  ·by_cases hb:b=a
   ·have z':=(if_pos hb).symm.trans z;cases z';subst hb;exact⟨ha,by rw[ζa]; exact hl,vs,_,rv,ha⟩
   ·have z':=(if_neg hb).symm.trans z;rcases HTat b with y | ⟨p,hp,rfl,y⟩
    ·rw[y]at z'; cases z'
    ·rw[y]at z'; cases z'; exact tabH hp
  ·by_cases hb:b=a
   ·exact .inr (.inl ⟨hb,_,_,if_pos hb⟩)
   ·rcases HTat b with y | ⟨p,hp,e,y⟩
    ·exact .inl ((if_neg hb).trans y)
    ·exact .inr (.inr ⟨p,hp,e,_,(if_neg hb).trans y⟩)
  ·obtain⟨t,m,e⟩:=HTok p hp;exact⟨t,m,(if_neg (na p hp)).trans e⟩
theorem zbP{l:PySem.W.OpenLaw}{n k:Nat}{q:Program}{loose:AJ}{XP:(Str→Option Value)→Heap→Prop}{YP:World→Heap→Prop}{d:DefRec}{K:Params→ζc}{CX:World→CXT}{sp:World→Sp}{x:Str}
  (hn:l.most=some n) (hn2:n≤sizeLine) (hdf:d.params.defaults=[]) (hr:Room k callerA)
  (hY:∀(w:World) (h:Heap),YP w h→(K w.params).In h) (hT:∀(w:World) (h:Heap),YP w h→(∀p∈yu (K w.params),h.get? p.1=some (PySem.W.tabObj #[]))∧Y3 (K w.params)=true)
  (F:∀(w:World) (mg:AO) (fa:Addr) (h:Heap),(K w.params).In h→h.Ns mainGlobals mg→mg d.name=some (.ref fa)→
   ∃fd:FuncData,(∀(s:Shared) (u:Value),BindsTo s fd ⟨[u],[]⟩ [(x,u)])∧
    ∀base:Heap,(K w.params).In base→base.Ns mainGlobals mg→FnOk l.prog w (K w.params) mg base (CX w) k fa fd [x] (sp w))
  (hsp:∀(w:World) (H:Hp) (a:Addr) (ns:AE),ns.length≤n→SqL (K w.params) H a (ns.map V.int)→sp w [.ref a] H (λv _=>v=.bl true) λ_ _ _=>False)
  (hCX:∀(w:World) (H:Hp) (s:Shared) (e:Value) (s':Shared),CX w [] H s (λ_ _ _=>False) e s'→False) :
  PySem.W.WalkO q loose XP YP l.row.toRowW d [] (λf vs=>PySem.call f vs):=by
 refine Att.Vl hn hdf λw s₀ s₁ mg mb fa o pm cd doc a vs ns G Y ho hd hcd hmg hobj hints hlen hg=>?_;have KX:=hY w _ Y;obtain⟨fd,hb,hF⟩:=F w mg fa _ KX G.T.g hmg;exact zaT KX (hT w _ Y) G.T.bmain G.T.g G.T.b G.T.builtins G.T.nolimit hg hobj hints (ζZ hlen hn2) hr hF hb (λH hS=>hsp w H a ns hlen hS) λH e s'=>hCX w H s₁ e s'
def wn(s:Stmt):Arguments:=match s with
 | .FunctionDef _ a _ _ _ _ _ _ _ _=>a
 | _=>{ posonlyargs:=[],args:=[],vararg:=none,kwonlyargs:=[],kw_defaults:=[],kwarg:=none,defaults:=[] }
def xJ(s:Stmt):List Stmt:=match s with
 | .FunctionDef _ _ b _ _ _ _ _ _ _=>b
 | _=>[]
def zn(s:Stmt):Scope:=match s with
 | .FunctionDef _ _ _ _ _ _ sc _ _ _=>sc
 | _=>{ kind:=.function,names:=[],isGenerator:=false,isCoroutine:=false }
abbrev CX0:CXT:=λ_ _ _ _ _ _=>False
abbrev E0:XK:=λ_ _ _=>False
theorem zaB:Z7 CX0 X E0:=λ_ _ _ _ _ _ _ h=>h.elim
structure Fun(K:ζc)(x qual:Str)(st:Stmt)(f:Addr)(fd:FuncData):Prop where
 ex:∃(oc:Value) (od:Option Addr) (kV doc pm:Value) (an:Option Addr) (cdv ct:Value) (osl:Array (Option Value)),
  fd=PySem.W.fnOf x qual (wn st) (xJ st) (zn st) .none kV doc pm an cdv ct∧K.lookup f=some ⟨oc,od,.func fd,osl⟩∧PySem.W.codeIn K cdv qual=true
 kp:PySem.W.keepIn K (.ref f)=true
section
variable {P:Program}{w:World}{K:ζc}{mg:AO}{base:Heap}
theorem Fun.ok{x qual:Str}{st:Stmt}{f:Addr}{fd:FuncData}{N ps:AJ}{k:Nat}{sp:Sp}(F:Fun K x qual st f fd)(S:zA N ps (zn st))(len:∀vs H Q E,sp vs H Q E→vs.length=ps.length)
  (hbody:∀(cdv:Value) (A:Around) (outer:List Env) (s:Shared) (H:Hp) (vs:List V) (Q:VK) (E:XK),Room k (A.deeper (envOfC qual (zn st) s.heap.objs.size f cdv))→sp vs H Q E→
   ∃t,PSs (cxOf CX0 P w K mg base N qual (zn st) f cdv A outer s H E).nox (xJ st) t∧t { nx:=λ_ H'=>Q .non H',rt:=Q } (yI N vs) H):FnOk P w K mg base CX0 (k + 1) f fd ps sp:=by
 obtain⟨oc,od,kV,doc,pm,an,cdv,ct,osl,rfl,lk,hcd⟩:=F.ex;refine zdJ lk hcd S len λA outer s H vs Q E hr hsp=>?_;obtain⟨t,h,q⟩:=hbody cdv A outer s H vs Q E hr hsp;exact⟨t,h.nox,q⟩
theorem Fun.binds{x qual:Str}{st:Stmt}{f:Addr}{fd:FuncData}{ps:AJ}(F:Fun K x qual st f fd)
  (h:∀(kV doc pm:Value) (an:Option Addr) (cdv ct:Value) (us:AK),us.length=ps.length→bindArgs (PySem.W.fnOf x qual (wn st) (xJ st) (zn st) .none kV doc pm an cdv ct) ⟨us,[]⟩=pure (ps.zip us)):wM K fd ps []:=by
 obtain⟨oc,od,kV,doc,pm,an,cdv,ct,osl,rfl,lk,hcd⟩:=F.ex;exact .all (h kV doc pm an cdv ct)
theorem VX{x qual:Str}{st:Stmt}{f:Addr}{oc:Value}{od an:Option Addr}{osl:Array (Option Value)}{kV doc pm cdv ct:Value}(l:K.lookup f=some ⟨oc,od,.func (PySem.W.fnOf x qual (wn st) (xJ st) (zn st) .none kV doc pm an cdv ct),osl⟩)
  (c:PySem.W.codeIn K cdv qual=true) (k:PySem.W.keepIn K (.ref f)=true):Fun K x qual st f (PySem.W.fnOf x qual (wn st) (xJ st) (zn st) .none kV doc pm an cdv ct):=⟨⟨oc,od,kV,doc,pm,an,cdv,ct,osl,rfl,l,c⟩,k⟩
end
theorem YG(hr:Room k A):A.units + 1 < cLine:=ξs (Nat.add_le_add_left (by decide:1≤64) _) hr.units
section
variable {X:Cx}
theorem pv(i:Nat)(hN:X.N[i]?=some x:=by rfl)(hv:Vis X.env.scope x:=by first | exact Or.inl rfl | exact Or.inr (.inl rfl) | exact Or.inr (.inr rfl))(hd:(x == ("__debug__" : Str))=false:=by decide)
  (hcd:(x == ("__classdict__" : Str))=false:=by decide):PE X (.Name x pos) (tVar i):=VI hN hv hd hcd
end
theorem iteF{A B:Prop}(h:B):if false=true then A else B:=by
 rw[if_neg ζF];exact h
theorem iteT{A B:Prop}(h:A):if true=true then A else B:=by
 rw[if_pos rfl];exact h
def Same(H H':Hp):Prop:=∀b o,H b=some o→H' b=some o
theorem Same.refl(H:Hp):Same H H:=λ_ _ h=>h
theorem Same.trans(a:Same H H1)(b:Same H1 H2):Same H H2:=λc o h=>b c o (a c o h)
theorem Same.free(e:Same H H')(h:H' l=Option.none):H l=Option.none:=by
 cases q:H l with
 | none=>rfl
 | some o =>
  rw[e l o q]at h;cases h
theorem Same.seq{K:ζc}{H H':Hp}{a:Addr}{xs:List V}(e:Same H H')(h:SqL K H a xs):SqL K H' a xs:=by
 rcases h with(h | ⟨o,h⟩) | h
 ·exact .inl (.inl (e _ _ h))
 ·exact .inl (.inr ⟨o,e _ _ h⟩)
 ·exact .inr h
end L2
set_option maxHeartbeats 1000000
namespace Sh
theorem Yv{g y:Int}(h:0 < g * y)(g0:0 < g):0 < y:=by
 have h2:g * 0 < g * y:=by rw[Int.mul_zero]; exact h
 exact Int.lt_of_mul_lt_mul_left h2 ⋯
theorem W7(a b:Int):Int.gcd b (a % b)=Int.gcd a b:=by
 have h:a % b=a + b * (-(a / b)):=by
  have:=Int.emod_def a b;rw[this,Int.mul_neg]; rfl
 rw[h,Int.gcd_comm,Int.gcd_add_mul_left_left]
structure Low(a b:Int):Prop where
 pos:1≤b
 co:Int.gcd a b=1
abbrev co(a b:Int):Prop:=Int.gcd a b=1
theorem ve(h:co a b):co b a:=by rw[co,Int.gcd_comm]; exact h
theorem X1(h1:co a b)(h2:co a c):co a (b * c):=by
 show Nat.gcd a.natAbs (b * c).natAbs=1;rw[ξg];exact Nat.Coprime.mul_right h1 h2
theorem Zm(h1:co b a)(h2:co c a):co (b * c) a:=ve (X1 (ve h1) (ve h2))
theorem u9(h:co a b)(d:c ∣ b):co a c:=by
 show Nat.Coprime a.natAbs c.natAbs;exact(Nat.Coprime.coprime_dvd_left (Int.natAbs_dvd_natAbs.mpr d) (ve h)).symm
theorem Zn(h:co a b)(d:c ∣ a):co c b:=ve (u9 (ve h) d)
theorem uS(h:0 < b):0 < ((Int.gcd a b:Nat):Int):=by
 have:0 < Int.gcd a b:=Int.gcd_pos_of_ne_zero_right a ⋯;omega
theorem Yw(hb:0 < b):∃g x y:Int,((Int.gcd a b:Nat):Int)=g∧0 < g∧a=g * x∧b=g * y∧0 < y∧co x y∧a / g=x∧b / g=y:=by
 have g0:=uS (a:=a) hb;obtain⟨x,hx⟩:=ξ4 a b;obtain⟨y,hy⟩:=ξk a b;refine⟨_,x,y,rfl,g0,hx,hy,?_,?_,?_,?_⟩
 ·exact Yv (by rw[←hy]; exact hb) g0
 ·have e:Int.gcd (((Int.gcd a b:Nat):Int) * x) (((Int.gcd a b:Nat):Int) * y)=Int.gcd a b:=by rw[←hx,←hy]
  rw[Int.gcd_mul_left]at e;have e2:(((Int.gcd a b:Nat):Int)).natAbs=Int.gcd a b:=Int.natAbs_natCast _;rw[e2]at e;have p:0 < Int.gcd a b:=by omega
  have e3:Int.gcd a b * Int.gcd x y=Int.gcd a b * 1:=by rw[e,Nat.mul_one]
  exact Nat.eq_of_mul_eq_mul_left p e3
 ·conv=>lhs; lhs; rw[hx]
  exact Int.mul_ediv_cancel_left x ⋯
 ·conv=>lhs; lhs; rw[hy]
  exact Int.mul_ediv_cancel_left y ⋯
def mk(a b:Int):Int×Int:=(a / (Int.gcd a b:Nat),b / (Int.gcd a b:Nat))
theorem zet(hb:0 < b):Low (mk a b).1 (mk a b).2:=by
 obtain⟨g,x,y,e,g0,ha,hb',hy,c,e1,e2⟩:=Yw (a:=a) hb;show Low (a / _) (b / _);rw[e,e1,e2];exact⟨hy,c⟩
theorem zaM(hb:0 < b):(mk a b).1 * b=a * (mk a b).2:=by
 obtain⟨g,x,y,e,g0,ha,hb',hy,c,e1,e2⟩:=Yw (a:=a) hb;show(a / _) * b=a * (b / _);rw[e,e1,e2,hb',ha,Int.mul_left_comm,ξz]
def pl(a b c d:Int):Int×Int :=
 let g:Int:=(Int.gcd b d:Nat)
 let t:=a * (d / g) + c * (b / g);let r:Int:=(Int.gcd t g:Nat)
 (t / r,(b / g) * (d / r))
theorem VG(h1:Low a b)(h2:Low c d):Low (pl a b c d).1 (pl a b c d).2∧(pl a b c d).1 * (b * d)=(a * d + b * c) * (pl a b c d).2:=by
 obtain⟨g,b',d',e,g0,hb,hd,hd0,cbd,e1,e2⟩:=Yw (a:=b) (b:=d) h2.pos;have hb0:0 < b':=Yv (by rw[←hb]; exact h1.pos) g0;obtain⟨r,t',g',e',r0,ht,hg,hg0,ctg,e3,e4⟩:=Yw (a:=a * d' + c * b') (b:=g) g0;have hdr:d / r=g' * d':=by
  rw[hd,hg,ξz];exact Int.mul_ediv_cancel_left _ ⋯
 have epl:pl a b c d=(t',b' * (g' * d')):=by
  simp only[pl];rw[e,e1,e2,e',e3,hdr]
 rw[epl];have ca:co a b':=u9 h1.co ⟨g,by rw[hb,ξb]⟩;have cc:co c d':=u9 h2.co ⟨g,by rw[hd,ξb]⟩;have dt:t' ∣ a * d' + c * b':=⟨r,by rw[ht,ξb]⟩
 have ctb:co (a * d' + c * b') b':=by
  show Int.gcd _ _=1;rw[Int.gcd_add_mul_right_left];exact Zm ca (ve cbd)
 have ctd:co (a * d' + c * b') d':=by
  show Int.gcd _ _=1;rw[Int.add_comm,Int.gcd_add_mul_right_left];exact Zm cc cbd
 refine⟨⟨?_,X1 (Zn ctb dt) (X1 ctg (Zn ctd dt))⟩,?_⟩
 ·have:0 < b' * (g' * d'):=ξI hb0 (ξI hg0 hd0);show 1≤b' * (g' * d');omega
 ·show t' * (b * d)=(a * d + b * c) * (b' * (g' * d'));have q:a * d + b * c=g * (r * t'):=by
   rw[←ht,hb,hd,Int.mul_add];congr 1
   ·rw[Int.mul_left_comm]
   ·rw[ξz,ξb b' c]
  have q2:b * d=g * b' * (r * g' * d'):=by rw[hb,←hg,←hd]
  rw[q,q2];simp only[Int.mul_left_comm,Int.mul_comm]
def tm(a b c d:Int):Int×Int :=
 let f:Int:=(Int.gcd a d:Nat)
 let s:Int:=(Int.gcd c b:Nat)
 ((a / f) * (c / s),(b / s) * (d / f))
theorem zdW(h1:Low a b)(h2:Low c d):Low (tm a b c d).1 (tm a b c d).2∧(tm a b c d).1 * (b * d)=(a * c) * (tm a b c d).2:=by
 obtain⟨f,a',d',e,f0,ha,hd,hd0,cad,e1,e2⟩:=Yw (a:=a) (b:=d) h2.pos;obtain⟨s,c',b',e',s0,hc,hb,hb0,ccb,e3,e4⟩:=Yw (a:=c) (b:=b) h1.pos;have etm:tm a b c d=(a' * c',b' * d'):=by
  simp only[tm];rw[e,e1,e2,e',e3,e4]
 rw[etm];have ca:co a' b':=Zn (u9 h1.co ⟨s,by rw[hb,ξb]⟩) ⟨f,by rw[ha,ξb]⟩;have cc:co c' d':=Zn (u9 h2.co ⟨f,by rw[hd,ξb]⟩) ⟨s,by rw[hc,ξb]⟩;refine⟨⟨?_,X1 (Zm ca ccb) (Zm cad cc)⟩,?_⟩
 ·have:0 < b' * d':=ξI hb0 hd0;show 1≤b' * d';omega
 ·show a' * c' * (b * d)=a * c * (b' * d');rw[hb,hd,ha,hc];simp only[Int.mul_left_comm,Int.mul_comm]
theorem VW(h:1≤b):(((Int.gcd a b:Nat):Int)).natAbs≤b.natAbs:=by
 rw[Int.natAbs_natCast];exact Nat.le_of_dvd ⋯ (Nat.gcd_dvd_right a.natAbs b.natAbs)
theorem um{a g:Int}(h:g ∣ a):(a / g).natAbs≤a.natAbs:=by
 rw[Int.natAbs_ediv_of_dvd h];exact Nat.div_le_self _ _
theorem zat(h:m≤n):2 ^ m≤2 ^ n:=ξo #[2] h
theorem VR{a b:Int}{m n:Nat}(h1:a.natAbs < 2 ^ m)(h2:b.natAbs < 2 ^ n):(a * b).natAbs < 2 ^ (m + n):=by
 rw[ξg,Nat.pow_add];exact Nat.mul_lt_mul'' h1 h2
theorem ze6{a b:Int}{m:Nat}(h1:a.natAbs < 2 ^ m)(h2:b.natAbs < 2 ^ m):(a + b).natAbs < 2 ^ (m + 1):=by
 have:=Int.natAbs_add_le a b;rw[ξ7];omega
theorem up{a:Int}{m n:Nat}(h1:a.natAbs < 2 ^ m)(h:m≤n):a.natAbs < 2 ^ n:=ζA h1 (zat h)
theorem dn{a b:Int}{m:Nat}(h:a.natAbs≤b.natAbs)(h1:b.natAbs < 2 ^ m):a.natAbs < 2 ^ m:=ξs h h1
end Sh
namespace Wd
def digs:AE→Int→AE
 | [],_=>[]
 | s :: r,p=>(p % s) :: digs r (p / s)
def prod:AE→Int
 | []=>1
 | s :: r=>s * prod r
def rk:AE→AE→Int
 | s :: r,d :: e=>rk r e * s + d
 | _,_=>0
theorem u6:∀(ss:AE) (p:Int),(digs ss p).length=ss.length
 | [],_=>rfl
 | _ :: r,p=>congrArg (· + 1) (u6 r _)
theorem vx:∀{ss:AE},(∀s∈ss,0 < s)→0 < prod ss
 | [],_=>by decide
 | s :: r,h=>ξI (h s ζi) (vx λx hx=>h x (ζp _ hx))
theorem Ux:∀{ss:AE} {p:Int},(∀s∈ss,0 < s)→0≤p→p < prod ss→rk ss (digs ss p)=p
 | [],p,_,h0,h1=>by
  have:p < 1:=h1;show(0:Int)=p;omega
 | s :: r,p,h,h0,h1=>by
  have hs:0 < s:=h s ζi;have hlt:p / s < prod r:=Int.ediv_lt_of_lt_mul hs (by rw[ξb]; exact h1);have ih:=Ux (ss:=r) (p:=p / s) (λx hx=>h x (ζp _ hx)) (Int.ediv_nonneg h0 ⋯) hlt;show rk r (digs r (p / s)) * s + p % s=p;rw[ih,ξb];exact Int.mul_ediv_add_emod p s
def rkF(ss ws:AE):Int:=(ss.zip ws).foldl (λa x=>a * x.1 + x.2) 0
theorem WB:∀(ss ws:AE),rk ss ws=(ss.zip ws).foldr (λx a=>a * x.1 + x.2) 0
 | [],_=>by rw[List.zip_nil_left]; rfl
 | _ :: _,[]=>by rw[List.zip_nil_right]; rfl
 | s :: r,w :: e=>by
  show rk r e * s + w=_;rw[WB r e];rfl
theorem Uf:∀{a:List α} {b:List β},a.length=b.length→a.reverse.zip b.reverse=(a.zip b).reverse
 | [],[],_=>rfl
 | x :: a,y :: b,h=>by
  have h':a.length=b.length:=by simpa using h
  rw[List.reverse_cons,List.reverse_cons,List.zip_append (by simpa using h'),Uf h'];simp
theorem zck(h:ss.length=ws.length):rkF ss.reverse ws.reverse=rk ss ws:=by
 unfold rkF;rw[Uf h,List.foldl_reverse,WB]
def wld(ss:AE)(p:Int):AE:=(digs ss.reverse p).reverse
theorem vy:∀(a b:AE),prod (a ++ b)=prod a * prod b
 | [],b=>(Int.one_mul _).symm
 | s :: r,b=>by
  show s * prod (r ++ b)=s * prod r * prod b;rw[vy r b,ξz]
theorem WH:∀(a:AE),prod a.reverse=prod a
 | []=>rfl
 | s :: r=>by
  rw[List.reverse_cons,vy,WH r];show prod r * (s * 1)=s * prod r;rw[Int.mul_one,ξb]
theorem YY(ss:AE)(p:Int):(wld ss p).length=ss.length:=by unfold wld; rw[List.length_reverse,u6,List.length_reverse]
theorem zcj(h:∀s∈ss,0 < s)(h0:0≤p)(h1:p < prod ss):rkF ss (wld ss p)=p:=by
 have e:ss=ss.reverse.reverse:=(List.reverse_reverse ss).symm
 conv=>lhs; arg 1; rw[e]
 unfold wld;rw[zck (by rw[u6])];exact Ux (λs hs=>h s (List.mem_reverse.mp hs)) h0 (by rw[WH]; exact h1)
def rng(n:Nat):AE:=(List.range n).map λ(i:Nat)=>(i:Int)
def chs(s:Int)(k:Option Int):AE:=(rng s.toNat).filter λv=>match k with | none=>true | some x=>decide (v=x)
def grow(hs:AH)(cs:AE):AH:=hs.flatMap λh=>cs.map λc=>h ++ [c]
def wbyF(fd:AH):List (Int×Option Int)→AH
 | []=>fd
 | x :: r=>wbyF (grow fd (chs x.1 x.2)) r
def wby(ss:AE)(vw:List (Option Int)):AH:=wbyF [[]] (ss.zip vw)
theorem tw:∀(l:List (Int×Option Int)) (fd:AH) (x:Int×Option Int),wbyF fd (l ++ [x])=grow (wbyF fd l) (chs x.1 x.2)
 | [],_,_=>rfl
 | y :: r,fd,x=>tw r (grow fd (chs y.1 y.2)) x
theorem ZR(hs:AH)(cs:AE):(grow hs cs).length=hs.length * cs.length:=by
 induction hs with
 | nil=>simp[grow]
 | cons h r ih =>
  show((cs.map λc=>h ++ [c]) ++ grow r cs).length=_;rw[ζg,ζa,ih,ζ9,Nat.succ_mul,Nat.add_comm]
theorem Ti(s:Int)(k:Option Int):(chs s k).length≤s.toNat:=by
 refine ζZ (ζP _ _) ?_;unfold rng;rw[ζa,ζv];exact ζj _
theorem zbG(s:Int):chs s none=rng s.toNat:=by
 unfold chs;rw[List.filter_eq_self];intro a _;rfl
theorem YH(hs:AH)(h:AE)(cs:AE):grow (hs ++ [h]) cs=grow hs cs ++ cs.map λc=>h ++ [c]:=by
 unfold grow;rw[List.flatMap_append];simp
theorem Yt(ss:AE)(s:Int):prod (ss ++ [s])=prod ss * s:=by
 rw[vy];show prod ss * (s * 1)=_;rw[Int.mul_one]
theorem TL(n s:Nat)(f:Nat→α):(List.range (n * s)).map f=(List.range n).flatMap λq=>(List.range s).map λr=>f (q * s + r):=by
 induction n with
 | zero=>simp
 | succ n ih =>
  rw[Nat.succ_mul,List.range_add,ζy,ih,List.range_succ,List.flatMap_append];congr 1;simp
def wds(ss:AE):AH:=(rng (prod ss).toNat).map λi=>wld ss i
theorem Wb(ss:AE)(s p:Int):wld (ss ++ [s]) p=wld ss (p / s) ++ [p % s]:=by
 unfold wld;rw[List.reverse_append];show(digs (s :: ss.reverse) p).reverse=_;show((p % s) :: digs ss.reverse (p / s)).reverse=_;rw[List.reverse_cons]
theorem uu(h:∀x∈ss,0 < x)(hs:0 < s):wds (ss ++ [s])=grow (wds ss) (rng s.toNat):=by
 have pp:=vx h;have e:(prod (ss ++ [s])).toNat=(prod ss).toNat * s.toNat:=by
  rw[Yt];have h1:prod ss=((prod ss).toNat:Int):=by omega
  have h2:s=(s.toNat:Int):=by omega
  conv=>lhs; rw[h1,h2,←ξA]
  rw[ζI]
 unfold wds rng grow;rw[e,ζx,TL,ζx];simp only[List.flatMap_map,List.map_map];congr 1;funext q;refine ζs λr hr=>?_;have hr':r < s.toNat:=ζG.mp hr;show wld (ss ++ [s]) ((q * s.toNat + r:Nat):Int)=wld ss (q:Int) ++ [(r:Int)];rw[Wb];have h2:((q * s.toNat + r:Nat):Int)=(r:Int) + s * (q:Int):=by
  have:s=(s.toNat:Int):=by omega
  conv=>rhs; rw[this]
  rw[ξB,ξA,ξb,Int.add_comm]
 rw[h2,Int.add_mul_ediv_left _ _ ⋯,Int.add_mul_emod_self_left,Int.ediv_eq_zero_of_lt ⋯ ⋯,Int.emod_eq_of_lt ⋯ ⋯,Int.zero_add]
theorem zbN:wds []=[[]]:=rfl
theorem zbO:∀(n:Nat) (ss:AE),ss.length=n→(∀x∈ss,0 < x)→wby ss (List.replicate n none)=wds ss:=by
 intro n;induction n with
 | zero =>
  intro ss h _;have e:ss=[]:=ζU h;subst e;rfl
 | succ n ih =>
  intro ss h hp;obtain⟨t,s,rfl⟩:∃t s,ss=t ++ [s]:=⟨ss.dropLast,ss.getLast (by intro e; rw[e]at h; cases h),(ζ6 _).symm⟩
  have hl:t.length=n:=by rw[List.length_append]at h; simpa using h
  have e:(t ++ [s]).zip (List.replicate (n + 1) (none:Option Int))=t.zip (List.replicate n none) ++ [(s,none)]:=by
   rw[List.replicate_succ',List.zip_append (by rw[hl,ζT])];rfl
  unfold wby;rw[e,tw];have ih':=ih t hl λx hx=>hp x (ζS _ hx);unfold wby at ih';rw[ih',zbG];exact(uu (λx hx=>hp x (List.mem_append_left _ hx)) (hp s (by simp))).symm
theorem zcg(n:Nat):(rng n).length=n:=by unfold rng; rw[List.length_map,List.length_range]
theorem zch{n i:Nat}(h:i < n):(rng n)[i]?=some (i:Int):=by
 unfold rng;rw[ζo,ξ5 h];rfl
theorem yM(ss:AE):(wds ss).length=(prod ss).toNat:=by unfold wds; rw[List.length_map,zcg]
theorem Uj(h:i < (prod ss).toNat):(wds ss)[i]?=some (wld ss i):=by
 unfold wds;rw[ζo,zch h];rfl
end Wd
namespace L2
open PySem PySem.Spec PyProof.Rows PySem.SeqAt
theorem Tk(h:k.natAbs < 2 ^ n):Builtin.Int.intBits k≤n:=by
 unfold Builtin.Int.intBits;by_cases h0:k=0
 ·subst h0; exact ξn _
 ·have hk:k.natAbs≠0:=by omega
  rw[if_neg (by simpa using h0)];exact(Nat.log2_lt hk).mpr h
theorem wH(hi:i.natAbs < 2 ^ m)(hj:j.natAbs < 2 ^ n)(hs:m + n≤2 ^ 27):IntMulOk i j:=by
 have h1:=Tk hi;have h2:=Tk hj;unfold IntMulOk;intro h;rw[ξS]at h;have h3:decide (((Builtin.Int.intBits i + Builtin.Int.intBits j:Nat):Int) > (bitsLine:Int))=true:=by
  have h4:=h.2;unfold Builtin.Int.intTooBig at h4;simpa using h4
 have h5:((Builtin.Int.intBits i + Builtin.Int.intBits j:Nat):Int) > (bitsLine:Int):=of_decide_eq_true h3;have h6:bitsLine=2 ^ 27:=rfl;rw[h6]at h5;omega
section
variable {X:Cx}
theorem ym:OpR X (binaryOp .Mult) (rI IntMulOk λi j=>.int (i * j)):=opI λ_ _ _ _ _ _ _ hc q=>mul_int q hc
def ug(_ j:Int):Prop:=0 < j∧j.natAbs < 2 ^ 9000
theorem yY:OpR X (binaryOp .FloorDiv) (rI ug λi j=>.int (i / j)):=opI λi j _ _ _ _ _ hc q=>by
 have h1:(0:Int) < j:=hc.1;have h2:j.natAbs.log2 < 9000:=(Nat.log2_lt ⋯).mpr hc.2;exact floordiv_int ⋯ (by rw[Int.fdiv_eq_ediv_of_nonneg i ⋯]; exact q) (.inl (PyProof.noPylong_of_log2 h2))
mutual
inductive Dp(K:ζc)(H:Hp):V→AD→Prop
 | non:Dp K H .non .none
 | bl (b:Bool):Dp K H (.bl b) (.bool b)
 | int (i:Int):Dp K H (.int i) (.int i)
 | str (x:Str):Dp K H (.str x) (.str x)
 | lst {a:Addr} {xs:List V} {ds:AG}:SqL K H a xs→zT K H xs ds→Dp K H (.ref a) (.list ds)
 | tup {a:Addr} {xs:List V} {ds:AG}:SqT K H a xs→zT K H xs ds→Dp K H (.ref a) (.tuple ds)
inductive zT(K:ζc)(H:Hp):List V→AG→Prop
 | nil:zT K H [] []
 | cons {v:V} {vs:List V} {d:AD} {ds:AG}:Dp K H v d→zT K H vs ds→zT K H (v :: vs) (d :: ds)
end
mutual
theorem Dp.reads(I:Inv X pins σ H s):∀{x:V} {d:AD} {u:Value},Dp X.K H x d→RelV x u→∃as,Reads s.heap u d as
 | _,_,u,.non,r=>by cases(show u=Value.none from r); exact⟨_,.none⟩
 | _,_,u,.bl b,r=>by cases(show u=Value.bool b from r); exact⟨_,.bool b⟩
 | _,_,u,.int i,r=>by obtain⟨t,e⟩:=(show∃t,u=Value.int i t from r); subst e; exact⟨_,.int i t⟩
 | _,_,u,.str x,r=>by obtain⟨t,e⟩:=(show∃t,u=Value.str x t from r); subst e; exact⟨_,.str x t⟩
 | _,_,u,@Dp.lst _ _ a xs ds h k,r=>by
  cases(show u=Value.ref a from r);obtain⟨its,rv,⟨o,n,e,c,_,d⟩,_⟩:=I.list h;obtain⟨as,ra⟩:=zT.reads I k rv;exact⟨_,.list e c d (by simpa using ra)⟩
 | _,_,u,@Dp.tup _ _ a xs ds h k,r=>by
  cases(show u=Value.ref a from r);obtain⟨its,rv,⟨o,e,c,n,d⟩,_⟩:=I.tuple h;obtain⟨as,ra⟩:=zT.reads I k rv;exact⟨_,.tuple e c d (by simpa using ra)⟩
theorem zT.reads(I:Inv X pins σ H s):∀{xs:List V} {ds:AG} {us:AK},zT X.K H xs ds→Vals xs us→∃as,ReadsAll s.heap us ds as
 | _,_,_,.nil,.nil=>⟨_,.nil⟩
 | _,_,_,.cons h k,.cons r t=>by
  obtain⟨as,ra⟩:=Dp.reads I h r;obtain⟨bs,rb⟩:=zT.reads I k t;exact⟨_,.cons ra rb⟩
end
def rEqD(K:ζc)(neg:Bool):R2:=λx y H Q=>∃d e,Dp K H x d∧Dp K H y e∧shaped d=true∧shaped e=true∧Q (.bl (if neg then !PyData.eqv d e else PyData.eqv d e)) H
theorem zeq(hu:X.A.units + 64 < cLine):OpR X (compareOp .Eq) (rEqD X.K false):=by
 intro pins s σ H x y v u Q I rx ry h;obtain⟨d,e,h1,h2,z1,z2,q⟩:=h;obtain⟨as,ra⟩:=h1.reads I rx;obtain⟨bs,rb⟩:=h2.reads I ry;exact eq_dataH ra rb z1 z2 hu ⟨.bl (PyData.eqv d e),H,I,rfl,q⟩
theorem zem(hu:X.A.units + 64 < cLine):OpR X (compareOp .NotEq) (rEqD X.K true):=by
 intro pins s σ H x y v u Q I rx ry h;obtain⟨d,e,h1,h2,z1,z2,q⟩:=h;obtain⟨as,ra⟩:=h1.reads I rx;obtain⟨bs,rb⟩:=h2.reads I ry;exact ne_dataH ra rb z1 z2 hu ⟨.bl (!PyData.eqv d e),H,I,rfl,q⟩
theorem Inv.turnNew{pins:AL}{σ:St}{H:Hp}{s:Shared}{h':Heap}{fp:List Addr}{T:Addr}{o:HO}{t':Nat}(I:Inv X pins σ H s)(hf:∀b∈fp,FpOk X pins H b)
  (k:∀b u,b∉fp→s.heap.get? b=some u→h'.get? b=some u) (hT:s.heap.objs.size≤T) (new:yA X.prog X.w (upd H T o) h' T o):Inv X pins σ (upd H T o) { s with heap:=h',toks:=t' }:=by
 have hn:H T=none:=I.hok.fresh hT;have nfp:∀b u,H b=some u→b∉fp:=λb u e z=>by rw[(hf b z).1]at e; cases e
 have neT:∀b u,s.heap.get? b=some u→b≠T:=λb u e=>ζL (ζA (ζm e) hT)
 refine I.step (g':=s.gens) (d':=s.drawn) (ch:=fp) (λb hb=>⟨(hf b hb).2.2.2.1,(hf b hb).2.1,(hf b hb).2.2.2.2.1,(hf b hb).2.2.2.2.2⟩) (λb u _ _ hc e _=>k b u hc e) (λb u _ _ hc e _=>⟨u.slots,k b u hc e⟩)
  (λb u _ e n=>by rw[zC (neT b u e)]; exact n) (λb u hc e=>⟨u,k b u hc e⟩) (λb xs e=>by rw[zC (zN e hn)]; exact e) (λb u v e=>by rw[zC (zN e hn)]; exact e) (λb ps e=>⟨#[],by rw[zC (zN e hn),e]; simp⟩)
  (λm hm=>?_) (λb u e=>?_) I.bare
 ·obtain⟨ob,es,ep,ho,r⟩:=hm;exact⟨ob,es,ep,k _ ob (λz=>(hf _ z).2.1 rfl) ho,r⟩
 ·by_cases hb:b=T
  ·subst hb; rw[zp]at e; cases e; exact new
  ·rw[zC hb]at e;refine(I.hok b u e).stay (λc v hc q=>k c v ?_ q) (λc q=>by rw[zC (zN q hn)]; exact q) λc xs q=>by rw[zC (zN q hn)]; exact q
   rcases hc with z | z
   ·rw[z]; exact nfp b u e
   ·exact nfp c _ z
theorem Inv.turnAll{pins:AL}{σ:St}{H:Hp}{s:Shared}{h':Heap}{fp:List Addr}{t':Nat}(I:Inv X pins σ H s)(hf:∀b∈fp,FpOk X pins H b)
  (k:∀b u,b∉fp→s.heap.get? b=some u→h'.get? b=some u):Inv X pins σ H { s with heap:=h',toks:=t' }:=by
 have nfp:∀b u,H b=some u→b∉fp:=λb u e z=>by rw[(hf b z).1]at e; cases e
 refine I.step (g':=s.gens) (d':=s.drawn) (ch:=fp) (λb hb=>⟨(hf b hb).2.2.2.1,(hf b hb).2.1,(hf b hb).2.2.2.2.1,(hf b hb).2.2.2.2.2⟩) (λb u _ _ hc e _=>k b u hc e) (λb u _ _ hc e _=>⟨u.slots,k b u hc e⟩)
  (λb u _ e n=>n) (λb u hc e=>⟨u,k b u hc e⟩) (λb xs e=>e) (λb u v e=>e) (λb ps e=>⟨#[],by rw[e]; simp⟩)
  (λm hm=>?_) (λb u e=>?_) I.bare
 ·obtain⟨ob,es,ep,ho,r⟩:=hm;exact⟨ob,es,ep,k _ ob (λz=>(hf _ z).2.1 rfl) ho,r⟩
 ·refine(I.hok b u e).stay (λc v hc q=>k c v ?_ q) (λc q=>q) λc xs q=>q;rcases hc with z | z
  ·rw[z]; exact nfp b u e
  ·exact nfp c _ z
end
theorem ad(h:m≠n):(show Addr from m)≠(show Addr from n):=h
def Itz(K:ζc)(a b:Addr):It :=
 ⟨λi H=>∃xs x ys y,SqL K H a xs∧xs[i]?=some x∧SqL K H b ys∧ys[i]?=some y,
  λi H x H'=>∃T u v,H T=none∧x=.ref T∧H'=upd H T (.tup [u,v])∧(∀xs,SqL K H a xs→xs[i]?=some u)∧∀ys,SqL K H b ys→ys[i]?=some v,
  λi H=>∃xs ys,SqL K H a xs∧SqL K H b ys∧(xs.length≤i∨ys.length≤i)⟩
theorem QL{P:Program}{w:World}{K:ζc}{es:List Expr}{k:Nat}{tpos:Pos}(a b n:Addr):
  Turn P w K (.Tuple es k tpos) (Itz K a b) [n + 4,n + 2,n + 3,n,n + 1] (n + 4)
   (λi h=>IsZip h (n + 4) (n + 2) (n + 3) .none∧IsPair h (n + 2) (.ref n) (.ref (n + 1))∧(∃u v,IsPair h (n + 3) u v)∧h.IsListIter n a i∧h.IsListIter (n + 1) b i) where
 mem:=by simp
 obj:=λi h st c hc=>by
  obtain⟨hz,hI,⟨u,v,hO⟩,⟨o1,e1,_,d1⟩,⟨o2,e2,_,d2⟩⟩:=st;simp only[List.mem_cons,List.not_mem_nil,or_false]at hc;rcases hc with rfl | rfl | rfl | rfl | rfl
  ·exact⟨_,hz,λv z=>by have z':Data.fields _=Data.cell v:=z; cases z'⟩
  ·exact⟨_,hI,λv z=>by have z':Data.seq _ _=Data.cell v:=z; cases z'⟩
  ·exact⟨_,hO,λv z=>by have z':Data.seq _ _=Data.cell v:=z; cases z'⟩
  ·exact⟨_,e1,λv z=>by rw[d1]at z; cases z⟩
  ·exact⟨_,e2,λv z=>by rw[d2]at z; cases z⟩
 keep:=λi h h' st k=>by
  obtain⟨hz,hI,⟨u,v,hO⟩,h1,h2⟩:=st;exact⟨k _ (by simp) _ hz,k _ (by simp) _ hI,⟨u,v,k _ (by simp) _ hO⟩,h1.at λo e=>k _ (by simp) o e,h2.at λo e=>k _ (by simp) o e⟩
 item:=by
  intro X hP hw hK hc i pins s σ H E I hf st hg;subst hP hw hK;obtain⟨hz,hI,⟨u0,v0,hO⟩,h1,h2⟩:=st;obtain⟨xs,x,ys,y,hxs,hx,hys,hy⟩:=hg;obtain⟨its,rx,px,zx⟩:=I.list hxs;obtain⟨jts,ry,py,zy⟩:=I.list hys;obtain⟨u,hu,ru⟩:=rx.get hx;obtain⟨v,hv,rv⟩:=ry.get hy;have nofp:∀{c:Addr} {zs:List V},SqL X.K H c zs→∀d∈[n + 4,n + 2,n + 3,n,n + 1],c≠d:=λ{c zs} hq d hd e=>by
   subst e;have hn:=(hf c hd).1;rcases hq with(q | ⟨o,q⟩) | ⟨o,its,m,q,_⟩
   ·rw[hn]at q; cases q
   ·rw[hn]at q; cases q
   ·have hb:X.base.get? c=some o:=I.ok.mod.kin c o q;rcases(hf c hd).2.2.2.1 with z | z
    ·exact I.ok.noex c o hb z
    ·exact absurd (ζA (ζm hb) (ζZ I.ok.bsz z)) (ξq _)
  have D:ZipApart (n + 4) (n + 2) (n + 3) n (n + 1) a b:=by
   have na:=nofp hxs;have nb:=nofp hys;exact⟨ad ⋯,ad ⋯,ad ⋯,ad ⋯,ad ⋯,ad ⋯,ad ⋯,ad ⋯,ad ⋯,ad ⋯,na _ (by simp),na _ (by simp),na _ (by simp),na _ (by simp),nb _ (by simp),nb _ (by simp),nb _ (by simp),nb _ (by simp)⟩
  refine wpAny_pyNext_zip_item D hz hI hO h1 h2 px.isList py.isList (x:=u) (y:=v) (by simpa using hu) (by simpa using hv) λh' z' o' i1' i2' t' sz' kp=>?_;refine⟨_,rfl,wpAny_letOwnedTupleGo_zip z' λh'' z'' sb=>?_⟩
  have kp2:∀c o,c∉[n + 4,n + 2,n + 3,n,n + 1]→s.heap.get? c=some o→h''.get? c=some o:=λc o hc e =>
   (sb.2 c (λz=>hc (by simp[z]))).trans (kp c o (λz=>hc (by simp[z])) (λz=>hc (by simp[z])) (λz=>hc (by simp[z])) (λz=>hc (by simp[z])) e)
  have lts:∀c∈[n + 4,n + 2,n + 3,n,n + 1],c < s.heap.objs.size:=λc hc=>by
   obtain⟨_,e1,_⟩:=id h1;obtain⟨_,e2,_⟩:=id h2;simp only[List.mem_cons,List.not_mem_nil,or_false]at hc;rcases hc with rfl | rfl | rfl | rfl | rfl
   ·exact ζm hz
   ·exact ζm hI
   ·exact ζm hO
   ·exact ζm e1
   ·exact ζm e2
  have nez:∀{c:Addr},c∈[n + 2,n + 3,n,n + 1]→c≠n + 4:=λ{c} hc=>by
   simp only[List.mem_cons,List.not_mem_nil,or_false]at hc;rcases hc with rfl | rfl | rfl | rfl
   ·exact ad ⋯
   ·exact ad ⋯
   ·exact ad ⋯
   ·exact ad ⋯
  have tz:s.heap.objs.size≠n + 4:=Nat.ne_of_gt (lts _ (by simp));refine⟨.ref s.heap.objs.size,upd H s.heap.objs.size (.tup [x,y]),I.turnNew (t':=s.toks) hf kp2 (ζj _) ?_,rfl,⟨_,x,y,I.hok.fresh (ζj _),rfl,rfl,λzs hq=>by rw[I.list_inj hq hxs]; exact hx,λzs hq=>by rw[I.list_inj hq hys]; exact hy⟩,?_,λc hc=>?_⟩
  ·refine⟨by show 2≤sizeLine; decide,[u,v],.cons ru (.cons rv .nil),⟨_,(sb.2 _ tz).trans t',rfl,_,rfl⟩⟩
  ·refine⟨z'',?_,⟨_,_,(sb.2 _ (nez (by simp))).trans o'⟩,i1'.at λo e=>(sb.2 _ (nez (by simp))).trans e,i2'.at λo e=>(sb.2 _ (nez (by simp))).trans e⟩
   exact(sb.2 _ (nez (by simp))).trans (kp _ _ (ad ⋯) (ad ⋯) (ad ⋯) (ad ⋯) hI)
  ·rw[zC (ζL (lts c hc))];exact(hf c hc).1
 done:=by
  intro X hP hw hK hc i pins s σ H E I hf st hg;subst hP hw hK;obtain⟨hz,hI,⟨u0,v0,hO⟩,h1,h2⟩:=st;obtain⟨xs,ys,hxs,hys,hl⟩:=hg;obtain⟨its,rx,px,zx⟩:=I.list hxs;obtain⟨jts,ry,py,zy⟩:=I.list hys;have nofp:∀{c:Addr} {zs:List V},SqL X.K H c zs→∀d∈[n + 4,n + 2,n + 3,n,n + 1],c≠d:=λ{c zs} hq d hd e=>by
   subst e;have hn:=(hf c hd).1;rcases hq with(q | ⟨o,q⟩) | ⟨o,its,m,q,_⟩
   ·rw[hn]at q; cases q
   ·rw[hn]at q; cases q
   ·have hb:X.base.get? c=some o:=I.ok.mod.kin c o q;rcases(hf c hd).2.2.2.1 with z | z
    ·exact I.ok.noex c o hb z
    ·exact absurd (ζA (ζm hb) (ζZ I.ok.bsz z)) (ξq _)
  have D:ZipApart (n + 4) (n + 2) (n + 3) n (n + 1) a b:=by
   have na:=nofp hxs;have nb:=nofp hys;exact⟨ad ⋯,ad ⋯,ad ⋯,ad ⋯,ad ⋯,ad ⋯,ad ⋯,ad ⋯,ad ⋯,ad ⋯,na _ (by simp),na _ (by simp),na _ (by simp),na _ (by simp),nb _ (by simp),nb _ (by simp),nb _ (by simp),nb _ (by simp)⟩
  have l1:=rx.length;have l2:=ry.length;have hend:its.toArray[i]?=none∨jts.toArray[i]?=none:=by
   rcases hl with q | q
   ·left; simp; omega
   ·right; simp; omega
  refine wpAny_pyNext_zip_end (I.ok.hd hc) D hz hI hO h1 h2 px.isList py.isList hend λh' kp=>⟨rfl,I.turnAll (t':=s.toks) hf λc o hc e=>kp c o (λz=>hc (by simp[z])) (λz=>hc (by simp[z])) (λz=>hc (by simp[z])) (λz=>hc (by simp[z])) e⟩
 self:=λ_ _ _ _ _ st h=>wpAny_pyIter_zip st.1 h
section
variable {X:Cx}
def iZip(K:ζc)(ta:TA):TI:=λσ H R=>ta σ H λvs H1=>∃a b,vs=[.ref a,.ref b]∧(∃xs,SqL K H1 a xs)∧(∃ys,SqL K H1 b ys)∧R (Itz K a b) H1
theorem zeb{a b:Expr}{ta:TA}{p pos:Pos}{es:List Expr}{k:Nat}{tpos:Pos}(hg:Gl X "zip")(hm:X.mg "zip" = none)(ha:PA X [a,b] ta)(he:starEach (a :: [b]) X.env=(false,eval a X.env) :: starEach [b] X.env:=by rfl)
  (hpl:(backTo pos (starEach [b] X.env)).any (·.1)=false:=by rfl):PI X (.Tuple es k tpos) (.Call (.Name "zip" p) [a,b] [] pos) (iZip X.K ta):=by
 intro pins s σ H R I h;refine wpAny_Call_Name_kw (vC I hg hm (u:=.type "zip") (by decide +kernel) ?_ #[2] #[2]);refine PyProof.Rows.callWith_type1 (thn (ha pos pins s σ H _ I h) λus s1 ⟨vs,H1,I1,r1,q1⟩=>?_) he hpl;obtain⟨a1,b1,rfl,⟨xs,hx⟩,⟨ys,hy⟩,q⟩:=q1;obtain⟨u,v,rfl,ru,rv⟩:=r1.two;cases(show u=Value.ref a1 from ru);cases(show v=Value.ref b1 from rv);obtain⟨its,rx,px,zx⟩:=I1.list hx;obtain⟨jts,ry,py,zy⟩:=I1.list hy;refine call_zip_2 px.isList py.isList λh' hz hI hO h1 h2 sz kp=>?_;refine wpAny_pyIter_zip hz ?_;refine⟨s1.heap.objs.size + 4,_,_,_,H1,rfl,I1.kept (t':=s1.toks) kp,QL a1 b1 s1.heap.objs.size,⟨hz,hI,⟨_,_,hO⟩,h1,h2⟩,λc hc=>?_,q⟩
 have hc':s1.heap.objs.size≤c:=by
  simp only[List.mem_cons,List.not_mem_nil,or_false]at hc;rcases hc with rfl | rfl | rfl | rfl | rfl
  ·exact ξC _ _
  ·exact ξC _ _
  ·exact ξC _ _
  ·exact ζj _
  ·exact ξC _ _
 exact I1.fpOk hc' (I1.hok.fresh hc')
def Itv(K:ζc)(a:Addr)(n:Nat):It :=
 ⟨λi H=>i < n∧∃xs,SqL K H a xs∧xs.length=n,λi H x H'=>H'=H∧∀xs,SqL K H a xs→xs[n - 1 - i]?=some x,λi H=>i=n∧∃xs,SqL K H a xs⟩
theorem QM{P:Program}{w:World}{K:ζc}{tg:Expr}(a it:Addr)(n:Nat):Turn P w K tg (Itv K a n) [it] it (λi h=>i≤n∧h.IsRevIter it a ((n:Int) - 1 - (i:Int))) where
 mem:=by simp
 obj:=λi h st b hb=>by
  have e:b=it:=by simpa using hb
  subst e;obtain⟨_,o,e,c,d⟩:=st;exact⟨o,e,λv z=>by rw[d]at z; cases z⟩
 keep:=λi h h' st k=>⟨st.1,st.2.at λo e=>k it (by simp) o e⟩
 item:=by
  intro X hP hw hK hc i pins s σ H E I hf st hg;subst hP hw hK;obtain⟨hi,xs,hq,hl⟩:=hg;obtain⟨its,rv,p,hz⟩:=I.list hq;have hlt:n - 1 - i < xs.length:=by omega
  have hx:xs[n - 1 - i]?=some (xs[n - 1 - i]):=ζd hlt;obtain⟨u,hu,ru⟩:=rv.get hx;obtain⟨f0,f1,f2,f3,f4,f5⟩:=hf it (by simp);have e1:(n:Int) - 1 - (i:Int)=((n - 1 - i:Nat):Int):=by omega
  have st2:=st.2;rw[e1]at st2;refine wpAny_pyNext_rev_item st2 p.isList (x:=u) (by simpa using hu) λh' st' sb=>?_;have I1:Inv X pins σ H { s with heap:=h' }:=I.turned (t':=s.toks) (λb o hb e=>(sb.2 b hb).trans e) f0 f1 f3 f4 f5;have e2:((n - 1 - i:Nat):Int) - 1=(n:Int) - 1 - ((i + 1:Nat):Int):=by omega
  rw[e2]at st';obtain⟨o,e,c,d⟩:=id st';exact⟨u,rfl,za3 (s:={ s with heap:=h' }) e c d #[2] ⟨_,H,I1,ru,⟨rfl,λys hy=>by rw[I.list_inj hy hq]; exact hx⟩,⟨hi,st'⟩,λb hb=>(hf b hb).1⟩⟩
 done:=by
  intro X hP hw hK hc i pins s σ H E I hf st hg;subst hP hw hK;obtain⟨hi,_⟩:=hg;subst hi;obtain⟨f0,f1,f2,f3,f4,f5⟩:=hf it (by simp);have e1:(i:Int) - 1 - (i:Int)=-1:=by omega
  have st2:=st.2;rw[e1]at st2;exact wpAny_pyNext_rev_end (I.ok.hd hc) st2 λh' eb=>⟨rfl,I.turned (t':=s.toks) (λb o hb e=>eb b o hb e) f0 f1 f3 f4 f5⟩
 self:=λ_ _ _ _ _ st h=>wpAny_pyIter_revIter st.2 h
def iRev(K:ζc)(ta:TA):TI:=λσ H R=>ta σ H λvs H1=>∃a xs,vs=[.ref a]∧SqL K H1 a xs∧R (Itv K a xs.length) H1
theorem zec{a:Expr}{ta:TA}{tg:Expr}{p pos:Pos}(hg:Gl X "reversed")(hm:X.mg "reversed" = none)(ha:PA X [a] ta)(he:starEach (a :: []) X.env=(false,eval a X.env) :: starEach [] X.env:=by rfl):PI X tg (.Call (.Name "reversed" p) [a] [] pos) (iRev X.K ta):=by
 intro pins s σ H R I h;refine wpAny_Call_Name_kw (vC I hg hm (u:=.type "reversed") (by decide +kernel) ?_ #[2] #[2]);refine PyProof.Rows.callWith_type1 (thn (ha pos pins s σ H _ I h) λus s1 ⟨vs,H1,I1,r1,q1⟩=>?_) he (by rfl);obtain⟨a1,xs,rfl,hx,q⟩:=q1;obtain⟨u,rfl,ru⟩:=r1.one;cases(show u=Value.ref a1 from ru);obtain⟨its,rx,px,zx⟩:=I1.list hx;refine call_reversed_list px.isList ?_;have hl:its.toArray.size=xs.length:=by rw[ζO,rx.length]
 rw[hl];have hit:Heap.IsRevIter (s1.heap.push (revObj a1 ((xs.length:Int) - 1))) s1.heap.objs.size a1 ((xs.length:Int) - 1):=⟨_,ζt _ rfl,rfl,rfl⟩
 refine wpAny_pyIter_revIter (s:={ s1 with heap:=s1.heap.push (revObj a1 ((xs.length:Int) - 1)) }) hit ?_;refine⟨s1.heap.objs.size,[s1.heap.objs.size],_,_,H1,rfl,I1.kept (t':=s1.toks) λb o e=>ζe _ e,QM a1 _ xs.length,⟨ξn _,?_⟩,λb hb=>?_,q⟩
 ·have e:(xs.length:Int) - 1 - ((0:Nat):Int)=(xs.length:Int) - 1:=by omega
  rw[e]; exact hit
 ·have e:b=s1.heap.objs.size:=by simpa using hb
  subst e;exact I1.fpOk (ζj _) (I1.hok.fresh (ζj _))
end
end L2
namespace L2
open PySem PySem.Spec PyProof.Rows
def Cx.blk(X:Cx)(N:AJ)(scope:Scope)(cl:List (Str×Addr))(C:Addr)(s:Shared)(H:Hp)(fp:List Addr):Cx :=
 { X with N:=N,s₀:=s,H₀:=H,env:=compEnvC scope cl C X.env,outer:=X.stack,stack:=X.stack,ex:=fp,fn:=λ_=>false,pn:=[],xe:=λ_ _=>False }
def capt(js:List (Option Nat))(σ:St):St:=js.map λo=>match o with | none=>none | some j=>(σ[j]?).join
structure vL(X:Cx)(N:AJ)(scope:Scope)(cl:List (Str×Addr))(js:List (Option Nat)):Prop where
 clos:closureFor scope X.env=pure cl
 nocell:∀y∈scope.names,y.2≠.cell
 kind:scope.kind=.function
 names:∀y∈scope.names,y.2=.local→scope.names.lookup y.1=some .local
 cells:∀p∈cl,X.env.cells.lookup p.1=some p.2
 has:∀y∈scope.names,y.2=.free→(cl.lookup y.1).isSome=true
 len:js.length=N.length
 cap:∀(i j:Nat),js[i]?=some (some j)→∃x,N[i]?=some x∧X.N[j]?=some x∧scope.names.lookup x=some .free∧(X.env.scope.names.lookup x=some .cell∨X.env.scope.names.lookup x=some .free)
def Sub(σ σ':St):Prop:=σ.length=σ'.length∧∀(i:Nat) v,σ[i]?=some (some v)→σ'[i]?=some (some v)
theorem uF{env:Env}(hk:env.scope.kind=.function):∀{names:List (Str×NameKind)} {x:Str},names.lookup x=some .free→env.scope.names.lookup x=some .cell→
  (names.map λ(n,k)=>if(k == NameKind.free && env.scope.kind == .function && env.kindOf n == some .cell)then(n,NameKind.cell)else(n,k)).lookup x=some .cell
 | [],_,h,_=>by simp at h
 | (n,k) :: r,x,h,hc=>by
  have ih:=@uF env hk r x;show List.lookup x ((if(k == NameKind.free && env.scope.kind == .function && env.kindOf n == some .cell)=true then(n,NameKind.cell)else(n,k)) :: _)=_;cases hx:x == n with
  | true =>
   have e:x=n:=by simpa using hx
   subst e;simp only[List.lookup_cons,hx]at h;cases h;have c:(NameKind.free == NameKind.free && env.scope.kind == .function && env.kindOf x == some .cell)=true:=by
    have q:env.kindOf x=some .cell:=hc;rw[hk,q]; rfl
   rw[if_pos c,ξ3,hx]
  | false =>
   simp only[List.lookup_cons,hx]at h;by_cases hcc:(k == NameKind.free && env.scope.kind == .function && env.kindOf n == some .cell)=true
   ·rw[if_pos hcc,ξ3,hx]; exact ih h hc
   ·rw[if_neg hcc,ξ3,hx]; exact ih h hc
theorem uE{env:Env}:∀{names:List (Str×NameKind)} {x:Str},names.lookup x=some .free→env.scope.names.lookup x=some .free→
  (names.map λ(n,k)=>if(k == NameKind.free && env.scope.kind == .function && env.kindOf n == some .cell)then(n,NameKind.cell)else(n,k)).lookup x=some .free
 | [],_,h,_=>by simp at h
 | (n,k) :: r,x,h,hc=>by
  have ih:=@uE env r x;show List.lookup x ((if(k == NameKind.free && env.scope.kind == .function && env.kindOf n == some .cell)=true then(n,NameKind.cell)else(n,k)) :: _)=_;cases hx:x == n with
  | true =>
   have e:x=n:=by simpa using hx
   subst e;simp only[List.lookup_cons,hx]at h;cases h;have q:env.kindOf x=some .free:=hc;rw[if_neg (by rw[q]; simp),List.lookup_cons,hx]
  | false =>
   simp only[List.lookup_cons,hx]at h;by_cases hcc:(k == NameKind.free && env.scope.kind == .function && env.kindOf n == some .cell)=true
   ·rw[if_pos hcc,ξ3,hx]; exact ih h hc
   ·rw[if_neg hcc,ξ3,hx]; exact ih h hc
theorem uG{env:Env}:∀{names:List (Str×NameKind)} {x:Str},(∀y∈names,y.2≠.cell)→
  ((names.map λ(n,k)=>if(k == NameKind.free && env.scope.kind == .function && env.kindOf n == some .cell)then(n,NameKind.cell)else(n,k)).lookup x=some .cell∨
   (names.map λ(n,k)=>if(k == NameKind.free && env.scope.kind == .function && env.kindOf n == some .cell)then(n,NameKind.cell)else(n,k)).lookup x=some .free)→∃y∈names,y.1=x∧y.2=.free
 | [],_,_,h=>by simp at h
 | (n,k) :: r,x,hn,h=>by
  have ih:=@uG env r x (λy hy=>hn y (ζp _ hy))
  have h':List.lookup x ((if(k == NameKind.free && env.scope.kind == .function && env.kindOf n == some .cell)=true then(n,NameKind.cell)else(n,k)) :: (r.map λ(n,k)=>if(k == NameKind.free && env.scope.kind == .function && env.kindOf n == some .cell)then(n,NameKind.cell)else(n,k)))=some .cell∨
   List.lookup x ((if(k == NameKind.free && env.scope.kind == .function && env.kindOf n == some .cell)=true then(n,NameKind.cell)else(n,k)) :: (r.map λ(n,k)=>if(k == NameKind.free && env.scope.kind == .function && env.kindOf n == some .cell)then(n,NameKind.cell)else(n,k)))=some .free:=h
  cases hx:x == n with
  | true =>
   have e:x=n:=by simpa using hx
   subst e;by_cases hcc:(k == NameKind.free && env.scope.kind == .function && env.kindOf x == some .cell)=true
   ·have kf:k=.free:=by
     cases k <;> first | rfl | (simp at hcc)
    exact⟨(x,k),ζi,rfl,kf⟩
   ·rw[if_neg hcc]at h';simp only[List.lookup_cons,hx]at h';rcases h' with q | q
    ·cases q; exact absurd rfl (hn (x,.cell) ζi)
    ·cases q; exact⟨(x,.free),ζi,rfl,rfl⟩
  | false =>
   by_cases hcc:(k == NameKind.free && env.scope.kind == .function && env.kindOf n == some .cell)=true
   ·rw[if_pos hcc]at h';simp only[List.lookup_cons,hx]at h';obtain⟨y,hy,e⟩:=ih h';exact⟨y,ζp _ hy,e⟩
   ·rw[if_neg hcc]at h';simp only[List.lookup_cons,hx]at h';obtain⟨y,hy,e⟩:=ih h';exact⟨y,ζp _ hy,e⟩
section
variable {X:Cx}{N:AJ}{scope:Scope}{cl:List (Str×Addr)}{js:List (Option Nat)}{pins:AL}{σ:St}{H:Hp}{s:Shared}{fp:List Addr}
theorem Qy(K:vL X N scope cl js)(I:Inv X pins σ H s)(hf:∀b∈fp,FpOk X pins H b)(hlt:∀b∈fp,b < s.heap.objs.size){h1:Heap}{m1:AO}{tk:Nat}(hn:h1.Ns s.heap.objs.size m1)
  (hk:∀b o,s.heap.get? b=some o→h1.get? b=some o) :
  Inv (X.blk N scope cl s.heap.objs.size s H fp) [] (capt js σ) H { s with heap:=h1,toks:=tk }:=by
 have bigC:∀b∈fp,b≠s.heap.objs.size:=λb hb=>ζL (hlt b hb);have hcl:∀x c,cl.lookup x=some c→X.env.cells.lookup x=some c:=λx c e=>K.cells (x,c) (PySem.mem_of_lookup e)
 refine⟨⟨I.ok.mod,K.kind,I.ok.glob,I.ok.blt,ζj _,λx y c e1 e2=>I.ok.inj x y c (hcl x c e1) (hcl y c e2),λx hx=>?_,λx c z _=>absurd z (by intro q; cases q),I.ok.hd,I.ok.frames,.inl rfl,λb hb=>⟨bigC b hb,λx c e=>(hf b hb).2.2.2.2.1 x c (hcl x c e)⟩,
  I.bs,Nat.le_trans I.ok.bsz I.sz,λb o e hb=>?_,λb hb z=>?_,I.stack,I.stkFree,I.ok.tb.un I.base⟩,rfl,I.bare,Un.kept hk,⟨m1,hn,λi x v e1 e2 e3=>?_⟩,λx c e=>?_,I.hok.fresh (Nat.le_refl _),λx c e=>(I.freeC x c (hcl x c e)).imp id λz=>⟨rfl,z.2⟩,λp hp=>absurd (show p∈([]:AL)from hp) (by simp),I.hok.kept hk,?_⟩
 ·obtain⟨y,hy,e1,e2⟩:=uG K.nocell hx;have q:=K.has y hy e2;rw[e1]at q;exact ξO.mp q
 ·rcases(hf b hb).2.2.2.1 with z | z
  ·exact I.ok.noex b o e z
  ·exact absurd (ζA (ζm e) (ζZ I.ok.bsz z)) (ξq _)
 ·rcases ζC.mp (I.stkSub b z)with q | q
  ·exact(hf b hb).2.1 q
  ·exact(hf b hb).2.2.1 q
 ·
  have hi:(capt js σ)[i]?=some (some v):=e2;unfold capt at hi;rw[ζo]at hi;cases ej:js[i]? with
  | none=>rw[ej]at hi; cases hi
  | some o =>
   rw[ej]at hi;cases o with
   | none=>cases hi
   | some j =>
    obtain⟨y,h1',h2',h3',h4'⟩:=K.cap i j ej;have e1':N[i]?=some x:=e1;rw[h1']at e1';cases e1';have hj:σ[j]?=some (some v):=by
     cases q:σ[j]? with
     | none=>have hi':(Option.join σ[j]?)=some v:=ζr hi; rw[q]at hi'; cases hi'
     | some w=>have hi':(Option.join σ[j]?)=some v:=ζr hi; rw[q]at hi'; cases w with
      | none=>cases hi'
      | some w=>exact congrArg some hi'
    obtain⟨m,_,hl⟩:=I.loc;obtain⟨u,r,l⟩:=hl j x v h2' hj (.inr h4');refine⟨u,r,.inr ⟨h4'.imp (λz=>uF I.ok.kind h3' z) (λz=>uE h3' z),?_⟩⟩
    rcases l with⟨k,_⟩ | ⟨_,c,ec,hc⟩
    ·rcases h4' with h4' | h4' <;> exact absurd (k.symm.trans h4') (by intro z; cases z)
    ·obtain⟨c',ec'⟩:=ξO.mp (K.has (x,.free) (PySem.mem_of_lookup h3') rfl);have e3':=hcl x c' ec';rw[ec]at e3';cases e3';exact⟨c,ec',hc.keeps hk⟩
 ·obtain⟨v,hv⟩:=I.cell x c (hcl x c e);exact⟨v,hv.keeps hk⟩
 ·show(capt js σ).length=N.length;unfold capt;rw[ζa];exact K.len
theorem Tj(I:Inv X pins σ H s)(hf:∀b∈fp,FpOk X pins H b)(J:Inv (X.blk N scope cl s.heap.objs.size s H fp) [] σ' H' s')(hs:Heap.SameBut s.heap.objs.size s'.heap h'):
  Inv X pins σ H' { s' with heap:=h' }:=by
 have neC:∀b o,s.heap.get? b=some o→b≠s.heap.objs.size:=λb o e=>ζL (ζm e);have u:=J.base;have u':Un (frs X.stack) fp H H' s.heap s'.heap:=u;refine I.call' (s':={ s' with heap:=h' }) (ch:=fp) J.os ⟨λb o e n hb hx=>?_,λb o e n hb hx=>?_,u'.free,λb o e hx=>?_,u'.tups,u'.frzs,u'.tbls⟩ (λb ob e=>?_) J.bare λb hb=>?_
 ·exact(hs.2 b (neC b o e)).trans (u'.keep b o e n hb hx)
 ·obtain⟨sl,q⟩:=u'.slot b o e n hb hx;exact⟨sl,(hs.2 b (neC b o e)).trans q⟩
 ·obtain⟨o',q⟩:=u'.there b o e hx;exact⟨o',(hs.2 b (neC b o e)).trans q⟩
 ·have hfree:H' s.heap.objs.size=none:=J.free;refine(J.hok b ob e).stay (λc w' hc q=>(hs.2 c ?_).trans q) (λ_ q=>q) λ_ _ q=>q;rintro rfl;rcases hc with rfl | hc
  ·rw[hfree]at e; cases e
  ·rw[hfree]at hc; cases hc
 ·obtain⟨f0,f1,f2,f3,f4,f5⟩:=hf b hb;exact⟨f3,f1,f4,f5⟩
end
def PIf(X:Cx)(ifs:List Expr)(t:TT):Prop :=
 ∀(pins:AL) (s:Shared) (σ:St) (H:Hp) (Q:Bool→Hp→Prop),Inv X pins σ H s→t σ H Q→
  wpAny (model X.prog X.w) X.A (forIn ifs true λc r=>if r=true then(do let ok←isTrue c X.env (eval c X.env); pure (ForInStep.yield ok))else pure (ForInStep.yield r)) (TP X pins σ Q) X.xe s
def tYes:TT:=λ_ H Q=>Q true H
theorem xF:PIf X [] tYes:=λ_ _ _ H _ I h=>wpAny_tests_nil ⟨H,I,h⟩
theorem yn(h:PT X c t):PIf X [c] t:=λpins s σ H Q I q=>wpAny_tests_one (h pins s σ H Q I q)
def zdM(J:It)(g:TG)(tt:TT)(te:TE)(σc:St)(Q:VK)(H1:Hp):Prop:=∀D,H1 D=none→
 ∃W:Nat→Nat→List V→Hp→Prop,(∃m,W 0 m [] (upd H1 D (.lst [])))∧∀i m ys H,W i m ys H→
  (J.stop i H∧Q (.ref D) H)∨
  (J.go i H∧∃N:List V→Hp→Prop,(∀zs H',N zs H'→∃m',m' < m∧W (i + 1) m' zs H')∧∀x H',J.yld i H x H'→g x σc H' λσ2 H2=>Sub σc σ2∧tt σ2 H2 λb H3 =>
   if b=true then te σ2 H3 λv H4=>H4 D=some (.lst ys)∧ys.length < sizeLine∧N (ys ++ [v]) (upd H4 D (.lst (ys ++ [v])))else N ys H3)
def ux(js:List (Option Nat))(wi:TI)(g:TG)(tt:TT)(te:TE):TE:=λσ H Q=>wi σ H λJ H1=>zdM J g tt te (capt js σ) Q H1
section
variable {prog:Program}{w:World}{A:Around}{R:Result→Shared→Prop}{s:Shared}
theorem Qq(Iv:Nat→Shared→Prop)(F:AN)(hF:∀e s,¬F e s)
  (turn:∀n s,Iv n s→wpAny (model prog w) A (pyNext it) (λr s1=>(r=none→R (.ok .next) s1)∧∀v,r=some v→
   wpAny (model prog w) A (letOwnedTupleGo tg it v) (λ_ s2=>wpAny (model prog w) A (assign tg env v) (λ_ s3 =>
    wpAny (model prog w) A (forIn ifs true λc r=>if r=true then(do let ok←isTrue c env (eval c env); pure (ForInStep.yield ok))else pure (ForInStep.yield r)) (λok s4 =>
     (ok=false→∃m,m < n∧Iv m s4)∧(ok=true→wpAny (model prog w) A (eval elt env) (λx s5=>wpAny (model prog w) A (call (.builtin "list.append") [acc,x]) (λ_ s6=>∃m,m < n∧Iv m s6) F s5) F s4)) F s3) F s2) F s1) F s)
  (n:Nat) (h:Iv n s):codeAny (model prog w) A (.compLoop (.ListComp elt [⟨tg,iter,ifs,0⟩] scope pos) 0 it acc env) R s:=by
 refine codeAny_loop rfl Iv (λn s hI=>?_) n h;show wpAny _ A (Sem.onRaise (compTurn (.ListComp elt [⟨tg,iter,ifs,0⟩] scope pos) 0 it acc env) (λx=>do noteFrame x env; theTreesLotGoes x)) _ _ s;refine wpAny_noted ?_;rw[compTurn_list];have ff:∀{E:AN} (e:Value) (s:Shared),F e s→E e s:=λe s z=>(hF e s z).elim;refine AA (wpAny_standAt (AA (wpAny_mono (turn n s hI) (λr s1 h1=>?_) ff)));obtain⟨h0,h1⟩:=h1;cases r with
 | none=>exact AB (h0 rfl)
 | some v =>
  refine AA (wpAny_mono (h1 v rfl) (λ_ s2 h2=>?_) ff);refine AA (wpAny_mono h2 (λ_ s3 h3=>?_) ff);refine AA (wpAny_mono h3 (λok s4 h4=>?_) ff);cases ok with
  | false=>exact AB ⟨rfl,h4.1 rfl⟩
  | true =>
   refine AA (AA (wpAny_mono (h4.2 rfl) (λx s5 h5=>?_) ff));exact AA (wpAny_mono h5 (λ_ s6 h6=>AB (AB ⟨rfl,h6⟩)) ff)
end
section
variable {X:Cx}{N:AJ}{scope:Scope}{cl:List (Str×Addr)}{js:List (Option Nat)}{pins:AL}{σ:St}{H:Hp}{s:Shared}
theorem YR{elt tg iter:Expr}{ifs:List Expr}{pos:Pos}{J:It}{fp:List Addr}{it:Addr}{tn:Nat→Heap→Prop}{g:TG}{tt:TT}{te:TE}{Q:VK}{E:AN}{RR:Value→Addr→Result→Shared→Prop}
  (hc:X.calm=true) (K:vL X N scope cl js) (I:Inv X pins σ H s) (T:Turn X.prog X.w X.K tg J fp it tn) (st:tn 0 s.heap) (hf:∀b∈fp,FpOk X pins H b)
  (hg:∀C s H fp,PG (X.blk N scope cl C s H fp) tg g) (ht:∀C s H fp,PIf (X.blk N scope cl C s H fp) ifs tt) (he:∀C s H fp,PE (X.blk N scope cl C s H fp) elt te)
  (hq:zdM J g tt te (capt js σ) Q H)
  (hRR:∀(D:Addr) (s3 s':Shared) (H':Hp) (σ':St),Inv X pins σ (upd H D (.lst [])) s3→(∀b∈fp,FpOk X pins (upd H D (.lst [])) b)→Inv (X.blk N scope cl s3.heap.objs.size s3 (upd H D (.lst [])) fp) [] σ' H' s'→Q (.ref D) H'→RR (.ref D) s3.heap.objs.size (.ok .next) s') :
  wpAny (model X.prog X.w) X.A (newList []) (λacc s3=>wpAny (model X.prog X.w) X.A (newFunctionEnv scope X.env.globals cl [] X.env.qual none .none (some X.env)) (λcenv s4 =>
   codeAny (model X.prog X.w) X.A (.compStart (.ListComp elt [⟨tg,iter,ifs,0⟩] scope pos) 0 (.ref it) acc { cenv with scope:=relabel scope X.env }) (RR acc cenv.locals) s4) E s3) E s:=by
 have fresh:H s.heap.objs.size=none:=I.fresh;have lt:∀b∈fp,b < s.heap.objs.size:=λb hb=>by
  obtain⟨o,e,_⟩:=T.obj _ _ st b hb;exact ζm e
 obtain⟨W,⟨m0,w0⟩,step⟩:=hq _ fresh;refine wpAny_newObj_type ?_;have I3:=I.lnew (ys:=[]) (its:=[]) (t':=s.toks) .nil (ξn _);have f3:∀b∈fp,FpOk X pins (upd H s.heap.objs.size (.lst [])) b:=λb hb=>⟨by rw[zC (ζL (lt b hb))]; exact(hf b hb).1,(hf b hb).2⟩
 generalize e3:({ s with heap:=s.heap.push { cls:=.type "list", data:=.seq ([]:AK).toArray },toks:=s.toks }:Shared)=s3 at I3;have st3:tn 0 s3.heap:=by
  rw[←e3];exact T.keep _ _ _ st λb _ o e=>ζe _ e
 have lt3:∀b∈fp,b < s3.heap.objs.size:=λb hb=>by
  obtain⟨o,e,_⟩:=T.obj _ _ st3 b hb;exact ζm e
 refine wpAny_newFunctionEnv K.nocell (by intro y hy; simp at hy) (λh4 n4 k4=>?_) K.kind;have old:∀b o,s3.heap.get? b=some o→h4.get? b=some o:=λb o e=>(k4.2 b (ζL (ζm e))).trans (ζe _ e);have I4:=Qy K I3 f3 lt3 (tk:=s3.toks + ([]:List (Str×Value)).length) n4 old;have st4:tn 0 h4:=T.keep _ _ _ st3 λb _ o e=>old b o e;have fpB:∀{H':Hp},(∀b∈fp,H' b=none)→∀b∈fp,FpOk (X.blk N scope cl s3.heap.objs.size s3 (upd H s.heap.objs.size (.lst [])) fp) [] H' b:=λhn b hb =>
  ⟨hn b hb,Nat.ne_of_lt (lt3 b hb),λz=>(List.mem_cons.mp (I3.stkSub b z)).elim (f3 b hb).2.1 (f3 b hb).2.2.1,.inl hb,λx c e=>(f3 b hb).2.2.2.2.1 x c (K.cells (x,c) (PySem.mem_of_lookup e)),λp hp=>absurd (show p∈([]:AL)from hp) (by simp)⟩
 have loop:codeAny (model X.prog X.w) X.A (.compLoop (.ListComp elt [⟨tg,iter,ifs,0⟩] scope pos) 0 (.ref it) (.ref s.heap.objs.size) (compEnvC scope cl s3.heap.objs.size X.env)) (RR (.ref s.heap.objs.size) s3.heap.objs.size)
   ({ s3 with heap:=h4,toks:=s3.toks + ([]:List (Str×Value)).length }:Shared):=by
  refine Qq (λn s'=>∃i ys H',Inv (X.blk N scope cl s3.heap.objs.size s3 (upd H s.heap.objs.size (.lst [])) fp) [] (capt js σ) H' s'∧tn i s'.heap∧(∀b∈fp,H' b=none)∧W i n ys H') (λ_ _=>False) (λ_ _ z=>z) ?_ m0
   ⟨0,[],_,I4,st4,λb hb=>(f3 b hb).1,w0⟩
  rintro n s5 ⟨i,ys,H5,I5,st5,fr5,w5⟩;rcases step i n ys H5 w5 with⟨stop,qn⟩ | ⟨go,Nn,hN,nxt⟩
  ·refine thn (T.done (X.blk N scope cl s3.heap.objs.size s3 (upd H s.heap.objs.size (.lst [])) fp) rfl rfl rfl hc i [] s5 (capt js σ) H5 _ I5 (fpB fr5) st5 stop) λr s6 ⟨hr,I6⟩=>⟨λ_=>?_,λv e=>?_⟩
   ·exact hRR _ s3 s6 H5 _ I3 f3 I6 qn
   ·rw[hr]at e; cases e
  ·refine thn (T.item (X.blk N scope cl s3.heap.objs.size s3 (upd H s.heap.objs.size (.lst [])) fp) rfl rfl rfl hc i [] s5 (capt js σ) H5 _ I5 (fpB fr5) st5 go) λr s6 ⟨u,hr,h6⟩=>⟨λe=>?_,λv e=>?_⟩
   ·rw[hr]at e; cases e
   rw[hr]at e; cases e;refine thn h6 λ_ s7 ⟨x,H7,I7,r7,y7,st7,fr7⟩=>?_;have I7':=I7.pinned (fpB fr7) (T.obj _ _ st7)
   have back:∀{σ':St} {H':Hp} {s':Shared} {i' n':Nat} {zs:List V},Inv (X.blk N scope cl s3.heap.objs.size s3 (upd H s.heap.objs.size (.lst [])) fp) ([] ++ ZI fp s7.heap) σ' H' s'→Sub (capt js σ) σ'→W (i + 1) n' zs H'→
     ∃i ys H',Inv (X.blk N scope cl s3.heap.objs.size s3 (upd H s.heap.objs.size (.lst [])) fp) [] (capt js σ) H' s'∧tn i s'.heap∧(∀b∈fp,H' b=none)∧W i n' ys H':=λ{σ' H' s' i' n' zs} I' sb w'=>by
    refine⟨i + 1,zs,H',(I'.unpinned).weak sb.1 sb.2,T.keep _ _ _ st7 λb hb o e=>(I'.pin (b,o) (ζN _ (ζN _ (w8 hb e)))).1,λb hb=>?_,w'⟩
    obtain⟨o,e,_⟩:=T.obj _ _ st7 b hb;exact(I'.pin (b,o) (ζN _ (ζN _ (w8 hb e)))).2.1
   refine thn (hg _ _ _ _ _ s7 (capt js σ) H7 x _ _ I7' r7 (nxt x H7 y7)) λ_ s8 ⟨σ8,H8,I8,sb8,q8⟩=>?_;refine thn (ht _ _ _ _ _ s8 σ8 H8 _ I8 q8) λok s9 ⟨H9,I9,q9⟩=>⟨λe=>?_,λe=>?_⟩
   ·rw[e,if_neg ζF]at q9;obtain⟨m',hm,w'⟩:=hN _ _ q9;exact⟨m',hm,back (i':=0) I9 sb8 w'⟩
   ·rw[e,if_pos rfl]at q9;refine thn (he _ _ _ _ _ s9 σ8 H9 _ I9 q9) λxv sa ⟨v,Ha,Ia,ra,qa,za,nn⟩=>?_;obtain⟨m',hm,w'⟩:=hN _ _ nn;refine thn (zW (X:=X.blk N scope cl s3.heap.objs.size s3 (upd H s.heap.objs.size (.lst [])) fp) _ sa σ8 Ha (.ref s.heap.objs.size) [v] (.ref s.heap.objs.size) [xv] (λy H'=>H'=upd Ha s.heap.objs.size (.lst (ys ++ [v]))) Ia rfl (.cons ra .nil) ⟨_,ys,v,rfl,rfl,qa,za,rfl⟩) λy sb ⟨z,Hb,Ib,_,eb⟩=>?_;rw[eb]at Ib;exact⟨m',hm,back (i':=0) Ib sb8 w'⟩
 exact codeAny_compStart_list loop (T.self _ 0 _ _ _ st4 loop)
theorem yl(hc:X.calm=true)(K:vL X N scope cl js)(hi:PI X tg iter wi)
  (hg:∀C s H fp,PG (X.blk N scope cl C s H fp) tg g) (ht:∀C s H fp,PIf (X.blk N scope cl C s H fp) ifs tt) (he:∀C s H fp,PE (X.blk N scope cl C s H fp) elt te)
  (hs:∀x,foldedSetIterable iter X.env x=pure x:=by intro _; rfl):PE X (.ListComp elt [⟨tg,iter,ifs,0⟩] scope pos) (ux js wi g tt te):=by
 intro pins s σ H Q I h;rw[eval_ListComp];refine wpAny_comprehension_free (use:=none) rfl hs K.clos K.kind K.names (thn (hi pins s σ H _ I h) λv s1 h1=>thn h1 λitv s2 h2=>?_);obtain⟨it,fp,tn,J,H2,e,I2,T,st2,f2,hq⟩:=h2;subst e;refine YR (RR:=λacc C=>compPost (model X.prog X.w) X.A X.xe none (EP X pins σ Q) acc C) hc K I2 T st2 f2 hg ht he hq ?_;intro D s3 s' H' σ' I3 f3 J' q;obtain⟨m,hn,_⟩:=J'.loc;exact⟨m,hn,λh'' hs''=>⟨.ref D,H',Tj I3 f3 J' hs'',rfl,q⟩⟩
theorem yX(hc:X.calm=true)(hN:X.N.Nodup)(hiN:X.N[i]?=some y)(hy:X.env.scope.names.lookup y=some .local)(K:vL X N scope cl js)(hi:PI X tg iter wi)
  (hg:∀C s H fp,PG (X.blk N scope cl C s H fp) tg g) (ht:∀C s H fp,PIf (X.blk N scope cl C s H fp) ifs tt) (he:∀C s H fp,PE (X.blk N scope cl C s H fp) elt te)
  (hsw:swapsWith (.ListComp elt [⟨tg,iter,ifs,0⟩] scope pos) (some (.Name y py)) spos.line X.env=pure true:=by rfl)
  (hs:∀x,foldedSetIterable iter X.env x=pure x:=by intro _; rfl):PS X (.Assign [.Name y py] (.ListComp elt [⟨tg,iter,ifs,0⟩] scope pos) spos) (tAsg (ux js wi g tt te) (yG i)):=by
 intro pins s σ H D I h;rw[exec_Assign_Name_used _ _ _ _ hsw];refine AA (wpAny_standAt (AA ?_));show wpAny _ X.A (do let _←comprehension (.ListComp elt [⟨tg,iter,ifs,0⟩] scope pos) scope X.env _ (newList []) false (eval iter X.env) (some (assign (.Name y py) X.env))) _ _ s
 refine AA (wpAny_mono (wpAny_comprehension_free (use:=some (assign (.Name y py) X.env)) (Q:=λ_ s'=>SP X pins D .next s') rfl hs K.clos K.kind K.names
  (thn (hi pins s σ H _ I h) λv s1 h1=>thn h1 λitv s2 h2=>?_)) (λ_ s' hq=>AB (AB hq)) λ_ _ e=>e)
 obtain⟨it,fp,tn,J,H2,e,I2,T,st2,f2,hq⟩:=h2;subst e;refine YR (RR:=λacc C=>compPost (model X.prog X.w) X.A X.xe (some (assign (.Name y py) X.env)) (λ_ s'=>SP X pins D .next s') acc C) hc K I2 T st2 f2 hg ht he hq ?_;intro Dl s3 s' H' σ' I3 f3 J' q;have I':Inv X pins σ H' s':=Tj I3 f3 J' (Heap.SameBut.refl ..);obtain⟨m,hn,_⟩:=J'.loc;have hC:s3.heap.objs.size≠X.env.locals:=Ne.symm (ζL I3.lt);have hcell:∀x c,X.env.cells.lookup x=some c→c≠s3.heap.objs.size:=λx c e z=>by
  obtain⟨v,q⟩:=I3.cell x c e;exact absurd q.lt (by rw[z]; exact ξq _)
 show wpAny _ X.A (assign (.Name y py) X.env (.ref Dl)) _ _ _;refine wpAny_assign_Name (Yp I' hN hiN (.inl hy) (v:=.ref Dl) rfl (λs'' I'' ⟨a,hs2,ha⟩=>?_) (.inr hy));have ha':s3.heap.objs.size≠a:=by
  rcases ha with ha | ha
  ·rw[ha]; exact hC
  ·exact Ne.symm (hcell y a ha)
 refine⟨m,hn.sameBut hs2 ha',λh3 hs3=>?_⟩
 refine⟨_,H',I''.turned (t':=s''.toks) (it:=s3.heap.objs.size) (λb o hb e=>(hs3.2 b hb).trans e) J'.free hC (.inr I3.sz) hcell (λp hp z=>?_),q⟩
 exact absurd (ζm (I3.pin p hp).1) (by rw[z]; exact ξq _)
end
structure zt(P:Program)(w:World)(K:ζc)(mg:AO)(base:Heap)(CX:CXT)(x:Str)(ps:AJ)(k:Nat)(sp:Sp):Prop where
 ex:∃f fd,FnOk P w K mg base CX k f fd ps sp∧mg x=some (.ref f)∧PySem.W.keepIn K (.ref f)=true∧wM K fd ps []
section
variable {X:Cx}{CX:CXT}{k:Nat}{ps:AJ}{sp:Sp}{E:XK}{x:Str}{p pos:Pos}{e:Expr}{es:List Expr}{t:TA}
theorem zfn(C:zt X.prog X.w X.K X.mg X.base CX x ps k sp)(hr:Room k X.A)(hg:Gl X x)(hx:Z7 CX X E)(ha:PA X (e :: es) t)
  (hdb:(x == ("__debug__" : Str))=false:=by decide) (he:starEach (e :: es) X.env=(false,eval e X.env) :: starEach es X.env:=by rfl) (hpl:(backTo pos (starEach es X.env)).any (·.1)=false:=by rfl) :
  PE X (.Call (.Name x p) (e :: es) [] pos) (vm sp [] E t):=by
 intro pins s σ H Q I h;obtain⟨f,fd,F,hm,hk,hb⟩:=C.ex;exact(zct F hr hg hm hk hb .nil hx ha hdb he hpl) pins s σ H Q I h
end
theorem vL.of(clos:closureFor scope X.env=pure cl)(nc:(scope.names.all λy=>y.2 != .cell)=true)(kind:scope.kind=.function)
  (nm:(scope.names.all λy=>y.2 != .local || (scope.names.lookup y.1 == some .local))=true) (cells:∀p∈cl,X.env.cells.lookup p.1=some p.2) (has:(scope.names.all λy=>y.2 != .free || (cl.lookup y.1).isSome)=true)
  (len:js.length=N.length) (cap:((js.zip N).all λp=>match p.1 with | none=>true | some j=>(X.N[j]? == some p.2) && (scope.names.lookup p.2 == some .free) && (X.env.scope.names.lookup p.2 == some .cell || X.env.scope.names.lookup p.2 == some .free))=true):vL X N scope cl js:=by
 rw[ξJ]at nc nm has cap;refine⟨clos,λy hy=>by simpa using nc y hy,kind,λy hy e=>?_,cells,λy hy e=>?_,len,λi j e=>?_⟩
 ·have q:=nm y hy;rw[e]at q;simpa using q
 ·have q:=has y hy;rw[e]at q;simpa using q
 ·have hi:i < js.length:=(ζh.mp e).1;have hx:N[i]?=some (N[i]'⋯):=ζd ⋯;have hz:(js.zip N)[i]?=some (some j,N[i]'⋯):=by
   rw[ξN];exact⟨e,hx⟩
  have q:=cap _ (ζf hz);simp only[Bool.and_eq_true,Bool.or_eq_true,beq_iff_eq]at q;exact⟨_,hx,q.1.1,q.1.2,q.2⟩
theorem Same.new(h:H p=none)(o:HO):Same H (upd H p o):=λb u q=>by rw[zC (zN q h)]; exact q
def Uu(K:ζc):Sp:=λvs H Q _=>∃(a:Addr) (ns:AE),vs=[.ref a]∧SqL K H a (ns.map V.int)∧ns.length≤63∧∀H',Q (.bl true) H'
theorem Tc{K:ζc}{H:Hp}:∀ns:AE,zT K H (ns.map V.int) (ns.map PyData.int)
 | []=>.nil
 | n :: r=>.cons (.int n) (Tc r)
section
variable {X:Cx}{K:ζc}
theorem zv(hK:X.K=K):IxR X (rIxL K):=by subst hK; exact zcM
theorem zw(hK:X.K=K):IxR X (rIxT K):=by subst hK; exact zeD
theorem zj(hK:X.K=K):y8 X (.builtin "len") (λxs H Q=>∃p ys,xs=[.ref p]∧(SqL K H p ys∨SqT K H p ys)∧Q (.int ys.length) H):=by subst hK; exact X5
theorem yh(hK:X.K=K):y8 X (.type "list") (λxs H Q=>∃p ys,xs=[.ref p]∧(SqL K H p ys∨SqT K H p ys)∧∀l,H l=none→Q (.ref l) (upd H l (.lst ys))):=by subst hK; exact X3
theorem zcw(hK:X.K=K)(hu:X.A.units + 64 < cLine):OpR X (compareOp .Eq) (rEqD K false):=by subst hK; exact zeq hu
theorem UM(hK:X.K=K)(hu:X.A.units + 64 < cLine):OpR X (compareOp .NotEq) (rEqD K true):=by subst hK; exact zem hu
theorem wz(hK:X.K=K):SlR X (rSlL K):=by subst hK; exact zb2
theorem yz(hK:X.K=K):OpR X (compareOp .In) (rIn K false):=by subst hK; exact TV
theorem ya(hK:X.K=K):OpR X (compareOp .NotIn) (rIn K true):=by subst hK; exact Xu
theorem xQ(hK:X.K=K)(hc:X.calm=true)(h:PGs X es t)
  (hn:(assignEach es X.env).length=n:=by rfl) (hst:(assignEach es X.env).findIdx? (·.1)=none:=by rfl):PG X (.Tuple es k pos) (gTup K n t):=by subst hK; exact zed hc h hn hst
end
end L2
namespace L2
open PySem PySem.Spec PyProof.Rows PySem.SeqAt
section
variable {X:Cx}{K:ζc}
def rEqS(K:ζc):R2:=λx y H Q=>∃d,Dp K H x d∧Dp K H y d∧shaped d=true∧Q (.bl true) H
def rNeS(K:ζc):R2:=λx y H Q=>∃d,Dp K H x d∧Dp K H y d∧shaped d=true∧Q (.bl false) H
theorem zep(hu:X.A.units + 64 < cLine):OpR X (compareOp .Eq) (rEqS X.K):=by
 intro pins s σ H x y v u Q I rx ry h;obtain⟨d,h1,h2,z,q⟩:=h;obtain⟨as,ra⟩:=h1.reads I rx;obtain⟨bs,rb⟩:=h2.reads I ry;refine eq_dataH ra rb z z hu ?_;rw[eqv_refl d (canLay_of_shaped z)];exact⟨.bl true,H,I,rfl,q⟩
theorem zel(hu:X.A.units + 64 < cLine):OpR X (compareOp .NotEq) (rNeS X.K):=by
 intro pins s σ H x y v u Q I rx ry h;obtain⟨d,h1,h2,z,q⟩:=h;obtain⟨as,ra⟩:=h1.reads I rx;obtain⟨bs,rb⟩:=h2.reads I ry;refine ne_dataH ra rb z z hu ?_;rw[eqv_refl d (canLay_of_shaped z)];exact⟨.bl false,H,I,rfl,q⟩
theorem zcv(hK:X.K=K)(hu:X.A.units + 64 < cLine):OpR X (compareOp .Eq) (rEqS K):=by subst hK; exact zep hu
theorem UL(hK:X.K=K)(hu:X.A.units + 64 < cLine):OpR X (compareOp .NotEq) (rNeS K):=by subst hK; exact zel hu
end
end L2
namespace L2
open PySem PySem.Spec PyProof.Rows
section
end
end L2
namespace Cm
open PySem L2
theorem take_succ{α:Type}{xs:List α}{i:Nat}{x:α}(h:xs[i]?=some x):xs.take (i + 1)=xs.take i ++ [x]:=by
 rw[List.take_add_one,h]; rfl
theorem zL(F:Fun K x x st f fd)(hm:mg x=some (.ref f))(hb:wM K fd ps [])(G:FnOk P w K mg base CX0 k f fd ps sp):
  zt P w K mg base CX0 x ps k sp:=⟨f,fd,G,hm,F.kp,hb⟩
structure At(K:ζc)(x:Str)(st:Stmt)(f:Addr)(fd:FuncData):Prop where
 ns:PySem.W.nsIn K mainGlobals x=some (some (.ref f))
 fn:Fun K x x st f fd
theorem QR{K:ζc}{x:Str}{st:Stmt}{f:Addr}{oc:Value}{od an:Option Addr}{osl:Array (Option Value)}{kV doc pm cdv ct:Value}(a:PySem.W.nsIn K mainGlobals x=some (some (.ref f)))
  (l:K.lookup f=some ⟨oc,od,.func (PySem.W.fnOf x x (wn st) (xJ st) (zn st) .none kV doc pm an cdv ct),osl⟩) (c:PySem.W.codeIn K cdv x=true) (k:PySem.W.keepIn K (.ref f)=true):∃f fd,At K x st f fd:=⟨f,_,a,VX l c k⟩
end Cm
namespace PD
open PySem L2
variable {K:ζc}
theorem Same.seqT(e:Same H H')(h:SqT K H a xs):SqT K H' a xs:=by
 rcases h with(h | ⟨o,h⟩) | h
 ·exact .inl (.inl (e _ _ h))
 ·exact .inl (.inr ⟨o,e _ _ h⟩)
 ·exact .inr h
mutual
theorem xu(e:Same F F'):∀{v:V} {d:AD},Dp K F v d→Dp K F' v d
 | _,_,.non=>.non
 | _,_,.bl b=>.bl b
 | _,_,.int i=>.int i
 | _,_,.str x=>.str x
 | _,_,.lst h k=>.lst (e.seq h) (x0 e k)
 | _,_,.tup h k=>.tup (Same.seqT e h) (x0 e k)
theorem x0(e:Same F F'):∀{vs:List V} {ds:AG},zT K F vs ds→zT K F' vs ds
 | _,_,.nil=>.nil
 | _,_,.cons h k=>.cons (xu e h) (x0 e k)
end
theorem zT.length:∀{vs:List V} {ds:AG},zT K F vs ds→vs.length=ds.length
 | _,_,.nil=>rfl
 | _,_,.cons _ k=>congrArg (· + 1) (zT.length k)
theorem zT.get:∀{vs:List V} {ds:AG} {i:Nat} {d:AD},zT K F vs ds→ds[i]?=some d→∃v,vs[i]?=some v∧Dp K F v d
 | _,_,_,_,.nil,e=>by simp at e
 | _,_,0,_,.cons h _,e=>by simp at e; subst e; exact⟨_,rfl,h⟩
 | _,_,i + 1,d,.cons _ k,e=>by
  obtain⟨v,h1,h2⟩:=zT.get (i:=i) k (by simpa using e);exact⟨v,by simpa using h1,h2⟩
theorem ZX(ns:AE):zT K F (ns.map V.int) (ns.map PyData.int):=Tc ns
theorem yb:∀{vs:List V} {ns:AE},zT K F vs (ns.map PyData.int)→vs=ns.map V.int
 | _,[],.nil=>rfl
 | _,n :: r,.cons h t=>by cases h; rw[ζH,yb t]
theorem vG(h:Dp K F v (.int i)):v=.int i:=by cases h; rfl
theorem zbw(h:Dp K F v (.bool b)):v=.bl b:=by cases h; rfl
structure Gr(H F H' F':Hp):Prop where
 h:Same H H'
 f:Same F F'
 le:Same F' H'
 ap:∀a o,H a=some o→F a=none→F' a=none
theorem Gr.refl(le:Same F H):Gr H F H F:=⟨.refl _,.refl _,le,λ_ _ _ h=>h⟩
theorem Gr.trans(a:Gr H F H1 F1)(b:Gr H1 F1 H2 F2):Gr H F H2 F2:=⟨a.h.trans b.h,a.f.trans b.f,b.le,λc o q n=>b.ap c o (a.h _ _ q) (a.ap c o q n)⟩
theorem Gr.new(le:Same F H)(hp:H p=none)(o:HO):Gr H F (upd H p o) (upd F p o):=by
 have fp:F p=none:=le.free hp;refine⟨Same.new hp o,Same.new fp o,λb u q=>?_,λb u q n=>?_⟩
 ·by_cases e:b=p
  ·subst e; rw[zp]at q ⊢; exact q
  ·rw[zC e]at q ⊢; exact le _ _ q
 ·rw[zC (zN q hp)]; exact n
theorem Gr.newO(le:Same F H)(hp:H p=none)(o:HO):Gr H F (upd H p o) F:=⟨Same.new hp o,.refl _,λb u q=>by rw[zC (zN (le _ _ q) hp)]; exact le _ _ q,λ_ _ _ n=>n⟩
inductive Sx where
 | fresh | spoil (T:Addr→Prop)
def Sx.has(S:Sx)(H0:Hp)(a:Addr):Prop:=match S with | .fresh=>H0 a≠none | .spoil T=>H0 a≠none∨T a
def LN(K:ζc)(κ:Bool)(S:Sx)(H0 F:Hp)(a:Addr)(xs:List V):Prop:=match κ with
 | true=>F a=some (.lst xs)∧¬S.has H0 a
 | false=>SqL K F a xs
theorem LN.sq(h:LN K κ S H0 F a xs):SqL K F a xs:=by
 cases κ with
 | true=>exact SqL.of h.1
 | false=>exact h
theorem LN.mono(h:LN K κ S H0 F a xs)(e:Same F F'):LN K κ S H0 F' a xs:=by
 cases κ with
 | true=>exact⟨e _ _ h.1,h.2⟩
 | false=>exact e.seq h
theorem LN.new(h:¬S.has H0 a):LN K κ S H0 (upd F a (.lst xs)) a xs:=by
 cases κ with
 | true=>exact⟨zp,h⟩
 | false=>exact SqL.of zp
mutual
inductive Rp(K:ζc)(κ:Bool)(S:Sx)(H0 F:Hp):V→AD→Prop
 | non:Rp K κ S H0 F .non .none
 | bl (b:Bool):Rp K κ S H0 F (.bl b) (.bool b)
 | int (i:Int):Rp K κ S H0 F (.int i) (.int i)
 | str (x:Str):Rp K κ S H0 F (.str x) (.str x)
 | lst {a:Addr} {xs:List V} {ds:AG}:LN K κ S H0 F a xs→zr K κ S H0 F xs ds→Rp K κ S H0 F (.ref a) (.list ds)
 | tup {a:Addr} {xs:List V} {ds:AG}:SqT K F a xs→zr K κ S H0 F xs ds→Rp K κ S H0 F (.ref a) (.tuple ds)
inductive zr(K:ζc)(κ:Bool)(S:Sx)(H0 F:Hp):List V→AG→Prop
 | nil:zr K κ S H0 F [] []
 | cons {v:V} {vs:List V} {d:AD} {ds:AG}:Rp K κ S H0 F v d→zr K κ S H0 F vs ds→zr K κ S H0 F (v :: vs) (d :: ds)
end
section
variable {κ κ':Bool}{S S':Sx}{H0 H0' F F':Hp}
mutual
theorem wR(hl:∀a xs,LN K κ S H0 F a xs→LN K κ' S' H0' F' a xs)(ht:∀a xs,SqT K F a xs→SqT K F' a xs):∀{v:V} {d:AD},Rp K κ S H0 F v d→Rp K κ' S' H0' F' v d
 | _,_,.non=>.non
 | _,_,.bl b=>.bl b
 | _,_,.int i=>.int i
 | _,_,.str x=>.str x
 | _,_,.lst h k=>.lst (hl _ _ h) (xT hl ht k)
 | _,_,.tup h k=>.tup (ht _ _ h) (xT hl ht k)
theorem xT(hl:∀a xs,LN K κ S H0 F a xs→LN K κ' S' H0' F' a xs)(ht:∀a xs,SqT K F a xs→SqT K F' a xs):∀{vs:List V} {ds:AG},zr K κ S H0 F vs ds→zr K κ' S' H0' F' vs ds
 | _,_,.nil=>.nil
 | _,_,.cons h k=>.cons (wR hl ht h) (xT hl ht k)
end
theorem yE(e:Same F F')(h:Rp K κ S H0 F v d):Rp K κ S H0 F' v d:=wR (λ_ _ z=>z.mono e) (λ_ _ z=>Same.seqT e z) h
theorem zF(e:Same F F')(h:zr K κ S H0 F vs ds):zr K κ S H0 F' vs ds:=xT (λ_ _ z=>z.mono e) (λ_ _ z=>Same.seqT e z) h
mutual
theorem xa:∀{v:V} {d:AD},Rp K κ S H0 F v d→Dp K F v d
 | _,_,.non=>.non
 | _,_,.bl b=>.bl b
 | _,_,.int i=>.int i
 | _,_,.str x=>.str x
 | _,_,.lst h k=>.lst h.sq (zM k)
 | _,_,.tup h k=>.tup h (zM k)
theorem zM:∀{vs:List V} {ds:AG},zr K κ S H0 F vs ds→zT K F vs ds
 | _,_,.nil=>.nil
 | _,_,.cons h k=>.cons (xa h) (zM k)
end
mutual
theorem uf:∀{v:V} {d:AD},Dp K F v d→Rp K false S H0 F v d
 | _,_,.non=>.non
 | _,_,.bl b=>.bl b
 | _,_,.int i=>.int i
 | _,_,.str x=>.str x
 | _,_,.lst h k=>.lst h (uZ k)
 | _,_,.tup h k=>.tup h (uZ k)
theorem uZ:∀{vs:List V} {ds:AG},zT K F vs ds→zr K false S H0 F vs ds
 | _,_,.nil=>.nil
 | _,_,.cons h k=>.cons (uf h) (uZ k)
end
theorem vN(hk:κ'=true→κ=true)(h:Rp K κ S H0 F v d):Rp K κ' S H0 F v d:=by
 cases κ' with
 | false=>exact uf (xa h)
 | true=>rw[hk rfl]at h; exact h
theorem zr.length(h:zr K κ S H0 F vs ds):vs.length=ds.length:=zT.length (zM h)
theorem zr.get:∀{vs:List V} {ds:AG} {i:Nat} {d:AD},zr K κ S H0 F vs ds→ds[i]?=some d→∃v,vs[i]?=some v∧Rp K κ S H0 F v d
 | _,_,_,_,.nil,e=>by simp at e
 | _,_,0,_,.cons h _,e=>by simp at e; subst e; exact⟨_,rfl,h⟩
 | _,_,i + 1,d,.cons _ k,e=>by
  obtain⟨v,h1,h2⟩:=zr.get (i:=i) k (by simpa using e);exact⟨v,by simpa using h1,h2⟩
theorem zr.get':∀{vs:List V} {ds:AG} {i:Nat} {v:V},zr K κ S H0 F vs ds→vs[i]?=some v→∃d,ds[i]?=some d∧Rp K κ S H0 F v d
 | _,_,_,_,.nil,e=>by simp at e
 | _,_,0,_,.cons h _,e=>by simp at e; subst e; exact⟨_,rfl,h⟩
 | _,_,i + 1,d,.cons _ k,e=>by
  obtain⟨v,h1,h2⟩:=zr.get' (i:=i) k (by simpa using e);exact⟨v,by simpa using h1,h2⟩
theorem zr.append:∀{vs ws:List V} {ds es:AG},zr K κ S H0 F vs ds→zr K κ S H0 F ws es→zr K κ S H0 F (vs ++ ws) (ds ++ es)
 | _,_,_,_,.nil,k=>k
 | _,_,_,_,.cons h t,k=>.cons h (zr.append t k)
theorem zr.take:∀{vs:List V} {ds:AG} (n:Nat),zr K κ S H0 F vs ds→zr K κ S H0 F (vs.take n) (ds.take n)
 | _,_,0,_=>.nil
 | _,_,_ + 1,.nil=>.nil
 | _,_,n + 1,.cons h t=>.cons h (zr.take n t)
theorem zr.drop:∀{vs:List V} {ds:AG} (n:Nat),zr K κ S H0 F vs ds→zr K κ S H0 F (vs.drop n) (ds.drop n)
 | _,_,0,r=>r
 | _,_,_ + 1,.nil=>.nil
 | _,_,n + 1,.cons _ t=>zr.drop n t
theorem zr.set(h:Rp K κ S H0 F v d):∀{vs:List V} {ds:AG} (n:Nat),zr K κ S H0 F vs ds→zr K κ S H0 F (vs.set n v) (ds.set n d)
 | _,_,_,.nil=>.nil
 | _,_,0,.cons _ t=>.cons h t
 | _,_,n + 1,.cons q t=>.cons q (zr.set h n t)
theorem zr.rep(h:zr K κ S H0 F vs ds):∀n:Nat,zr K κ S H0 F (List.replicate n vs).flatten (List.replicate n ds).flatten
 | 0=>.nil
 | n + 1=>by
  rw[ξd,ξd,ξP,ξP];exact zr.append h (zr.rep h n)
theorem yw(h:Rp K κ S H0 F v (.int i)):v=.int i:=by cases h; rfl
theorem tV(h:Rp K κ S H0 F v (.bool b)):v=.bl b:=by cases h; rfl
theorem wS(h:Rp K κ S H0 F v (.list ds)):∃a vs,v=.ref a∧LN K κ S H0 F a vs∧zr K κ S H0 F vs ds:=by cases h with | lst h k=>exact⟨_,_,rfl,h,k⟩
theorem Xn(h:Rp K κ S H0 F v (.tuple ds)):∃a vs,v=.ref a∧SqT K F a vs∧zr K κ S H0 F vs ds:=by cases h with | tup h k=>exact⟨_,_,rfl,h,k⟩
end
def imm:AD→Bool
 | .none=>true
 | .bool _=>true
 | .int _=>true
 | .str _=>true
 | .tuple ds=>immAll ds
 | _=>false
where immAll:AG→Bool
 | []=>true
 | d :: r=>imm d && immAll r
mutual
theorem ZW:∀{v:V} {d:AD},imm d=true→Dp K F v d→Rp K κ S H0 F v d
 | _,_,_,.non=>.non
 | _,_,_,.bl b=>.bl b
 | _,_,_,.int i=>.int i
 | _,_,_,.str x=>.str x
 | _,_,h,.lst _ _=>by unfold imm at h; cases h
 | _,_,h,.tup q k=>.tup q (tQ (by unfold imm at h; exact h) k)
theorem tQ:∀{vs:List V} {ds:AG},imm.immAll ds=true→zT K F vs ds→zr K κ S H0 F vs ds
 | _,_,_,.nil=>.nil
 | _,_,h,.cons p k=>by
  unfold imm.immAll at h;rw[ξS]at h;exact .cons (ZW h.1 p) (tQ h.2 k)
end
theorem xD(h:∀d∈ds,imm d=true)(k:zT K F vs ds):zr K κ S H0 F vs ds:=by
 refine tQ ?_ k;clear k;induction ds with
 | nil=>rfl
 | cons d r ih =>
  unfold imm.immAll;rw[h d ζi,ih λx hx=>h x (ζp _ hx)];rfl
inductive DV where
 | fz (κ:Bool) (d:AD) | ow (κ:Bool) (ds:AG) | tn (d:AD) | ox | o2 (r:Option Addr) (dss:List AG) | fn (a:Addr) | xn (o:Addr→HO) | oa (a:Addr) (κ:Bool) (ds:AG) | xp (φ:Hp→V→Prop) | od (o:HO) | og (ad:Hp→V→Addr→Prop) (ψ:Sx→Hp→Hp→Hp→V→Prop)
abbrev Ctx:=List (Option DV)
structure OwnO(S:Sx)(H0 H F:Hp)(a:Addr)(o:HO):Prop where
 h:H a=some o
 f:F a=none
 n:H0 a=none
 s:¬S.has H0 a
abbrev wL(S:Sx)(H0 H F:Hp)(a:Addr)(vs:List V):Prop:=OwnO S H0 H F a (.lst vs)
structure IdA(r:Option Addr)(v:V)(a:Addr):Prop where
 eq:v=.ref a
 id:∀b,r=some b→a=b
structure GOk(ad:Hp→V→Addr→Prop)(ψ:Sx→Hp→Hp→Hp→V→Prop):Prop where
 pl:∀H H' v,(∀a,ad H v a→H' a=H a)→∀a,ad H' v a↔ad H v a
 ps:∀S H0 H H' F F' v,(∀a,ad H v a→H' a=H a)→Same F F'→ψ S H0 H F v→ψ S H0 H' F' v
def HasV(K:ζc)(S:Sx)(H0 H F:Hp)(v:V):DV→Prop
 | .fz κ d=>Rp K κ S H0 F v d
 | .ow κ ds=>∃a vs,v=.ref a∧wL S H0 H F a vs∧zr K κ S H0 F vs ds
 | .tn d=>∃T,S=.spoil T∧Rp K true (.spoil λa=>¬T a) (λ_=>none) F v d
 | .ox=>∃a vs,v=.ref a∧wL S H0 H F a vs
 | .fn a=>v=.ref a
 | .xn o=>∃a,v=.ref a∧F a=some (o a)
 | .oa a κ ds=>v=.ref a∧∃vs,wL S H0 H F a vs∧zr K κ S H0 F vs ds
 | .xp φ=>∃F1,Same F1 F∧φ F1 v
 | .od o=>∃a,v=.ref a∧OwnO S H0 H F a o
 | .og ad ψ=>GOk ad ψ∧(∀a,ad H v a→∃o,OwnO S H0 H F a o)∧ψ S H0 H F v
 | .o2 r dss=>∃a vs,IdA r v a∧wL S H0 H F a vs∧V.ref a∉vs∧vs.Nodup∧vs.length=dss.length∧∀(j:Nat) x,vs[j]?=some x→∃b us ds,x=.ref b∧wL S H0 H F b us∧dss[j]?=some ds∧zr K true S H0 F us ds
def Owns(H:Hp)(v:V):DV→Addr→Prop
 | .ow _ _,a=>v=.ref a
 | .ox,a=>v=.ref a
 | .oa _ _ _,a=>v=.ref a
 | .od _,a=>v=.ref a
 | .og ad _,a=>ad H v a
 | .o2 _ _,a=>v=.ref a∨∃p vs,v=.ref p∧H p=some (.lst vs)∧V.ref a∈vs
 | _,_=>False
structure DEnv(K:ζc)(S:Sx)(H0 F0 H F:Hp)(σ:St)(Γ:Ctx):Prop where
 gr:Gr H0 F0 H F
 l0:Same F0 H0
 sd:∀a,S.has H0 a→∃o,H a=some o
 s0:∀T,S=.spoil T→∀a,T a→H0 a=none
 len:σ.length=Γ.length
 has:∀(i:Nat) (x:DV),Γ[i]?=some (some x)→∃v,σ[i]?=some (some v)∧HasV K S H0 H F v x
 ne:∀(i j:Nat) (x y:DV) (v w:V) (a:Addr),Γ[i]?=some (some x)→Γ[j]?=some (some y)→σ[i]?=some (some v)→σ[j]?=some (some w)→Owns H v x a→Owns H w y a→i=j
variable {S:Sx}{κ:Bool}
theorem DEnv.le(e:DEnv K S H0 F0 H F σ Γ):Same F H:=e.gr.le
theorem DEnv.out(e:DEnv K S H0 F0 H F σ Γ)(hp:H p=none):¬S.has H0 p:=λc=>by
 obtain⟨o,q⟩:=e.sd p c;rw[hp]at q; cases q
theorem OwnO.mono(o:OwnO S H0 H F a u)(g:Gr H F H' F'):OwnO S H0 H' F' a u:=⟨g.h _ _ o.h,g.ap _ _ o.h o.f,o.n,o.s⟩
theorem HasV.mono(h:HasV K S H0 H F v x)(g:Gr H F H' F'):HasV K S H0 H' F' v x:=by
 cases x with
 | fz κ d=>exact yE g.f h
 | ow κ ds=>obtain⟨a,vs,e,o,k⟩:=h; exact⟨a,vs,e,o.mono g,zF g.f k⟩
 | tn d=>obtain⟨T,e,k⟩:=h; exact⟨T,e,yE g.f k⟩
 | ox=>obtain⟨a,vs,e,o⟩:=h; exact⟨a,vs,e,o.mono g⟩
 | o2 r dss =>
  obtain⟨a,vs,e,o,n1,n2,l,k⟩:=h;refine⟨a,vs,e,o.mono g,n1,n2,l,λj x hx=>?_⟩
  obtain⟨b,us,ds,e2,o2,h2,k2⟩:=k j x hx;exact⟨b,us,ds,e2,o2.mono g,h2,zF g.f k2⟩
 | fn a=>exact h
 | xn φ=>obtain⟨a,e,k⟩:=h; exact⟨a,e,g.f _ _ k⟩
 | oa a κ ds=>obtain⟨e,vs,o,k⟩:=h; exact⟨e,vs,o.mono g,zF g.f k⟩
 | xp φ=>obtain⟨F1,s,k⟩:=h; exact⟨F1,s.trans g.f,k⟩
 | od u=>obtain⟨a,e,o⟩:=h; exact⟨a,e,o.mono g⟩
 | og ad ψ =>
  obtain⟨ok,w,p⟩:=h;have eq:∀a,ad H v a→H' a=H a:=λa z=>by
   obtain⟨o,y⟩:=w a z;rw[y.h];exact g.h _ _ y.h
  refine⟨ok,λa z=>?_,ok.ps S H0 H H' F F' v eq g.f p⟩
  obtain⟨o,y⟩:=w a ((ok.pl H H' v eq a).mp z);exact⟨o,y.mono g⟩
theorem HasV.owns(h:HasV K S H0 H F v x)(o:Owns H v x a):∃u,OwnO S H0 H F a u:=by
 cases x with
 | fz _ _=>exact o.elim
 | tn _=>exact o.elim
 | ow κ ds=>obtain⟨b,vs,e,w,_⟩:=h; cases(show v=.ref a from o); cases e; exact⟨_,w⟩
 | ox=>obtain⟨b,vs,e,w⟩:=h; cases(show v=.ref a from o); cases e; exact⟨_,w⟩
 | o2 r dss =>
  obtain⟨b,vs,e,w,_,_,_,k⟩:=h;rcases o with o | ⟨p,us,e2,hp,hm⟩
  ·cases o; cases e.eq; exact⟨_,w⟩
  ·cases e.eq;cases e2;have hw:=w.h;rw[hp]at hw;cases hw;obtain⟨j,hj⟩:=ξV.mp hm;obtain⟨c,ws,ds,e3,o3,_⟩:=k j _ hj;cases e3;exact⟨_,o3⟩
 | fn _=>exact o.elim
 | xn _=>exact o.elim
 | oa b κ ds=>obtain⟨e,vs,w,_⟩:=h; cases(show v=.ref a from o); cases e; exact⟨_,w⟩
 | xp _=>exact o.elim
 | od u=>obtain⟨b,e,w⟩:=h; cases(show v=.ref a from o); cases e; exact⟨u,w⟩
 | og ad ψ=>exact h.2.1 a o
theorem Owns.back(h:HasV K S H0 H F v x)(g:∀b u,OwnO S H0 H F b u→H' b=some u)(o:Owns H' v x a):Owns H v x a:=by
 cases x with
 | fz _ _=>exact o.elim
 | tn _=>exact o.elim
 | ow κ ds=>exact o
 | ox=>exact o
 | o2 r dss =>
  rcases o with o | ⟨p,us,e2,hp,hm⟩
  ·exact .inl o
  ·obtain⟨b,vs,e',w,_⟩:=h;have e:=e'.eq;rw[e2]at e;cases e;rw[g _ _ w]at hp;cases hp;exact .inr ⟨p,_,e2,w.h,hm⟩
 | fn _=>exact o.elim
 | xn _=>exact o.elim
 | oa b κ ds=>exact o
 | xp _=>exact o.elim
 | od _=>exact o
 | og ad ψ =>
  obtain⟨ok,w,p⟩:=h;exact(ok.pl H H' v (λb z=>by
   obtain⟨u,y⟩:=w b z;rw[g _ _ y,y.h]) a).mp o
theorem Owns.cut(h:HasV K S H0 H F v x)(c:∀b,Owns H v x b→H' b=H b)(o:Owns H' v x a):Owns H v x a:=by
 cases x with
 | fz _ _=>exact o.elim
 | tn _=>exact o.elim
 | ow κ ds=>exact o
 | ox=>exact o
 | o2 r dss =>
  rcases o with o | ⟨p,us,e2,hp,hm⟩
  ·exact .inl o
  ·rw[c p (.inl e2)]at hp;exact .inr ⟨p,us,e2,hp,hm⟩
 | fn _=>exact o.elim
 | xn _=>exact o.elim
 | oa b κ ds=>exact o
 | xp _=>exact o.elim
 | od _=>exact o
 | og ad ψ=>exact(h.1.pl H H' v c a).mp o
theorem DEnv.mono(e:DEnv K S H0 F0 H F σ Γ)(g:Gr H F H' F'):DEnv K S H0 F0 H' F' σ Γ where
 gr:=e.gr.trans g
 l0:=e.l0
 sd:=λa h=>let⟨o,q⟩:=e.sd a h; ⟨o,g.h _ _ q⟩
 s0:=e.s0
 len:=e.len
 has:=λi x h=>let⟨v,a,b⟩:=e.has i x h; ⟨v,a,b.mono g⟩
 ne:=λi j x y v w a h1 h2 h3 h4 o1 o2=>by
  obtain⟨v',q1,q2⟩:=e.has i x h1;obtain⟨w',q3,q4⟩:=e.has j y h2;rw[h3]at q1;cases q1;rw[h4]at q3;cases q3;exact e.ne i j x y v w a h1 h2 h3 h4 (o1.back q2 λ_ _ z=>g.h _ _ z.h) (o2.back q4 λ_ _ z=>g.h _ _ z.h)
section
variable {Γ:Ctx}
def EvE(K:ζc)(S:Sx)(κ:Bool)(t:TE)(Γ:Ctx)(d:AD):Prop:=∀(H0 F0 H F:Hp) (σ:St),DEnv K S H0 F0 H F σ Γ→∀Q:VK,(∀v H' F',Gr H F H' F'→Rp K κ S H0 F' v d→Q v H')→t σ H Q
def EvO(K:ζc)(S:Sx)(κ:Bool)(t:TE)(Γ:Ctx)(ds:AG):Prop:=∀(H0 F0 H F:Hp) (σ:St),DEnv K S H0 F0 H F σ Γ→∀Q:VK,(∀a vs H' F',Gr H F H' F'→H a=none→H' a=some (.lst vs)→F' a=none→zr K κ S H0 F' vs ds→Q (.ref a) H')→t σ H Q
def EvL(K:ζc)(S:Sx)(κ:Bool)(t:TE)(Γ:Ctx)(ds:AG):Prop:=∀(H0 F0 H F:Hp) (σ:St),DEnv K S H0 F0 H F σ Γ→∀Q:VK,(∀a vs H' F',Gr H F H' F'→SqL K H' a vs→zr K κ S H0 F' vs ds→Q (.ref a) H')→t σ H Q
def EvD(K:ζc)(S:Sx)(t:TE)(Γ:Ctx)(d:AD):Prop:=∀(H0 F0 H F:Hp) (σ:St),DEnv K S H0 F0 H F σ Γ→∀Q:VK,(∀v H' F',Gr H F H' F'→Dp K H' v d→Q v H')→t σ H Q
def EvT(K:ζc)(S:Sx)(t:TT)(Γ:Ctx)(b:Bool):Prop:=∀(H0 F0 H F:Hp) (σ:St),DEnv K S H0 F0 H F σ Γ→∀Q:Bool→Hp→Prop,(∀H' F',Gr H F H' F'→Q b H')→t σ H Q
def EvA(K:ζc)(S:Sx)(κ:Bool)(t:TA)(Γ:Ctx)(ds:AG):Prop:=∀(H0 F0 H F:Hp) (σ:St),DEnv K S H0 F0 H F σ Γ→∀Q:List V→Hp→Prop,(∀vs H' F',Gr H F H' F'→zr K κ S H0 F' vs ds→Q vs H')→t σ H Q
def EvP(K:ζc)(S:Sx)(t:TO)(Γ:Ctx)(o:Option Int):Prop:=∀(H0 F0 H F:Hp) (σ:St),DEnv K S H0 F0 H F σ Γ→∀Q:Option Int→Hp→Prop,(∀H' F',Gr H F H' F'→Q o H')→t σ H Q
theorem EvE.toD(h:EvE K S κ t Γ d):EvD K S t Γ d:=λH0 F0 H F σ e Q q=>h H0 F0 H F σ e Q λv H' F' g p=>q v H' F' g (xu g.le (xa p))
theorem EvE.weak(h:EvE K S κ t Γ d)(hk:κ'=true→κ=true):EvE K S κ' t Γ d:=λH0 F0 H F σ e Q q=>h H0 F0 H F σ e Q λv H' F' g p=>q v H' F' g (vN hk p)
theorem EvE.imm(h:EvE K S κ t Γ d)(hk:imm d=true):EvE K S κ' t Γ d:=λH0 F0 H F σ e Q q=>h H0 F0 H F σ e Q λv H' F' g p=>q v H' F' g (ZW hk (xa p))
theorem EvE.toL(h:EvE K S κ t Γ (.list ds)):EvL K S κ t Γ ds:=λH0 F0 H F σ e Q q=>h H0 F0 H F σ e Q λv H' F' g p=>by
 obtain⟨a,vs,rfl,h1,h2⟩:=wS p;exact q a vs H' F' g (g.le.seq h1.sq) h2
theorem EvL.imm(h:EvL K S κ t Γ ds)(hk:∀d∈ds,imm d=true):EvL K S κ' t Γ ds:=λH0 F0 H F σ e Q q=>h H0 F0 H F σ e Q λa vs H' F' g p k=>q a vs H' F' g p (xD hk (zM k))
theorem EvO.toL(h:EvO K S κ t Γ ds):EvL K S κ t Γ ds:=λH0 F0 H F σ e Q q=>h H0 F0 H F σ e Q λa vs H' F' g _ p _ k=>q a vs H' F' g (SqL.of p) k
theorem EvO.toE(h:EvO K S κ t Γ ds):EvE K S κ t Γ (.list ds):=λH0 F0 H F σ e Q q=>h H0 F0 H F σ e Q λa vs H' F' g n p f k=>by
 have s:Same F' (upd F' a (.lst vs)):=Same.new f _;refine q (.ref a) H' (upd F' a (.lst vs)) ⟨g.h,g.f.trans s,λb u z=>?_,λb u z y=>?_⟩ (.lst (LN.new (e.out n)) (zF s k))
 ·by_cases eb:b=a
  ·subst eb; rw[zp]at z; rw[←z]; exact p
  ·rw[zC eb]at z; exact g.le _ _ z
 ·rw[zC (zN z n)]; exact g.ap _ _ z y
theorem EvL.toD(h:EvL K S κ t Γ ds):EvD K S t Γ (.list ds):=λH0 F0 H F σ e Q q=>h H0 F0 H F σ e Q λa vs H' F' g p k=>q _ H' F' g (.lst p (x0 g.le (zM k)))
theorem zc0(h:Γ[i]?=some (some (.ow κ ds))):EvL K S κ (tVar i) Γ ds:=λH0 F0 H F σ e Q q=>by
 obtain⟨v,h1,a,vs,rfl,o,k⟩:=e.has i _ h;exact⟨_,h1,q a vs H F (.refl e.le) (SqL.of o.h) k⟩
theorem VZ(h:Γ[i]?=some (some (.fz κ d))):EvE K S κ (tVar i) Γ d:=λH0 F0 H F σ e Q q=>by
 obtain⟨v,hv,hd⟩:=e.has i _ h;exact⟨v,hv,q v H F (.refl e.le) hd⟩
theorem zeQ:EvE K S κ (tC (.int i)) Γ (.int i):=λ_ _ H F _ e _ q=>q _ H F (.refl e.le) (.int i)
theorem zfC:EvE K S κ (tC (.bl b)) Γ (.bool b):=λ_ _ H F _ e _ q=>q _ H F (.refl e.le) (.bl b)
theorem zeN:EvE K S κ (tC .non) Γ .none:=λ_ _ H F _ e _ q=>q _ H F (.refl e.le) .non
theorem Vc(ha:EvE K S false ta Γ x)(hb:EvE K S false tb Γ y)(hr:∀v w H F (Q:VK),Same F H→Dp K F v x→Dp K F w y→(∀z,(∀F,Dp K F z d)→Q z H)→r v w H Q)(hi:imm d=true:=by rfl):EvE K S κ (tOp r ta tb) Γ d:=λH0 F0 H F σ e Q q =>
 ha H0 F0 H F σ e _ λv H1 F1 g1 p1=>hb H0 F0 H1 F1 σ (e.mono g1) _ λw H2 F2 g2 p2=>by
  exact hr v w H2 F2 Q g2.le (xu g2.f (xa p1)) (xa p2) λz p3=>q z H2 F2 (g1.trans g2) (ZW hi (p3 F2))
theorem Ve(hi:imm d=true)(hg:∀F,Dp K F (g i j) d)(ha:EvE K S false ta Γ (.int i))(hb:EvE K S false tb Γ (.int j)):EvE K S κ (tOp (rI0 g) ta tb) Γ d :=
 Vc ha hb (λv w H F Q le p1 p2 k=>by cases vG p1; cases vG p2; exact⟨i,j,rfl,rfl,k _ hg⟩) hi
theorem ev_I(hi:imm d=true)(hg:∀F,Dp K F (g i j) d)(ha:EvE K S false ta Γ (.int i))(hb:EvE K S false tb Γ (.int j))(hc:C i j):EvE K S κ (tOp (rI C g) ta tb) Γ d :=
 Vc ha hb (λv w H F Q le p1 p2 k=>by cases vG p1; cases vG p2; exact⟨i,j,rfl,rfl,hc,k _ hg⟩) hi
theorem xC(ha:EvE K S false ta Γ (.int i))(hb:EvE K S false tb Γ (.int j)):EvE K S κ (tOp (rI0 λi j=>.int (i + j)) ta tb) Γ (.int (i + j)):=Ve rfl (λ_=>.int _) ha hb
theorem uk(ha:EvE K S false ta Γ (.int i))(hb:EvE K S false tb Γ (.int j)):EvE K S κ (tOp (rI0 λi j=>.int (i - j)) ta tb) Γ (.int (i - j)):=Ve rfl (λ_=>.int _) ha hb
theorem U8(ha:EvE K S false ta Γ (.int i))(hb:EvE K S false tb Γ (.int j)):EvE K S κ (tOp (rI0 λi j=>.bl (decide (i < j))) ta tb) Γ (.bool (decide (i < j))):=Ve rfl (λ_=>.bl _) ha hb
theorem zfB(ha:EvE K S false ta Γ (.int i))(hb:EvE K S false tb Γ (.int j)):EvE K S κ (tOp (rI0 λi j=>.bl (decide (i≤j))) ta tb) Γ (.bool (decide (i≤j))):=Ve rfl (λ_=>.bl _) ha hb
theorem ZU(ha:EvE K S false ta Γ (.int i))(hb:EvE K S false tb Γ (.int j)):EvE K S κ (tOp (rI0 λi j=>.bl (decide (j < i))) ta tb) Γ (.bool (decide (j < i))):=Ve rfl (λ_=>.bl _) ha hb
theorem XU(ha:EvE K S false ta Γ (.int i))(hb:EvE K S false tb Γ (.int j))(hc:IntMulOk i j):EvE K S κ (tOp (rI IntMulOk λi j=>.int (i * j)) ta tb) Γ (.int (i * j)):=ev_I rfl (λ_=>.int _) ha hb hc
theorem xI(ha:EvE K S false ta Γ (.int i))(hb:EvE K S false tb Γ (.int j))(hc:CDiv i j):EvE K S κ (tOp (rI CDiv λi j=>.int (i / j)) ta tb) Γ (.int (i / j)):=ev_I rfl (λ_=>.int _) ha hb hc
theorem zbm(ha:EvE K S false ta Γ (.int i))(hb:EvE K S false tb Γ (.int j))(hc:ug i j):EvE K S κ (tOp (rI ug λi j=>.int (i / j)) ta tb) Γ (.int (i / j)):=ev_I rfl (λ_=>.int _) ha hb hc
theorem yZ(ha:EvE K S false ta Γ (.int i))(hb:EvE K S false tb Γ (.int j))(hc:0 < j):EvE K S κ (tOp (rI (λ_ j=>0 < j) λi j=>.int (i % j)) ta tb) Γ (.int (i % j)):=ev_I rfl (λ_=>.int _) ha hb hc
theorem zeO(ha:EvE K S false ta Γ (.int i)):EvE K S κ (tUn (rU λi=>.int (-i)) ta) Γ (.int (-i)):=λH0 F0 H F σ e Q q =>
 ha H0 F0 H F σ e _ λv H1 F1 g1 p1=>by cases yw p1; exact⟨i,rfl,q _ H1 F1 g1 (.int _)⟩
theorem u7(i j:Int):decide (V.int i=V.int j)=decide (i=j):=by by_cases h:i=j <;> simp[h]
theorem XX(i j:Bool):decide (V.bl i=V.bl j)=(i == j):=by cases i <;> cases j <;> rfl
theorem xM(ha:EvE K S false ta Γ (.int i))(hb:EvE K S false tb Γ (.int j)):EvE K S κ (tOp rEq ta tb) Γ (.bool (decide (i=j))) :=
 Vc ha hb λv w H F Q le p1 p2 k=>by
  cases vG p1; cases vG p2;refine⟨rfl,?_⟩
  rw[u7]; exact k _ λ_=>.bl _
theorem zbk(ha:EvE K S false ta Γ (.int i))(hb:EvE K S false tb Γ (.int j)):EvE K S κ (tOp rNe ta tb) Γ (.bool (!(decide (i=j)))) :=
 Vc ha hb λv w H F Q le p1 p2 k=>by
  cases vG p1; cases vG p2;refine⟨rfl,?_⟩
  rw[u7]; exact k _ λ_=>.bl _
theorem zbl(ha:EvE K S false ta Γ (.bool i))(hb:EvE K S false tb Γ (.bool j)):EvE K S κ (tOp rNe ta tb) Γ (.bool (!(i == j))) :=
 Vc ha hb λv w H F Q le p1 p2 k=>by
  cases zbw p1; cases zbw p2;refine⟨rfl,?_⟩
  rw[XX]; exact k _ λ_=>.bl _
def isNone:AD→Bool
 | .none=>true
 | _=>false
theorem zaY(h:Dp K F v d):decide (v=.non)=isNone d:=by
 cases h <;> first | rfl | exact decide_eq_false (by intro e; cases e)
theorem V0(ha:EvD K S ta Γ d):EvE K S κ (tOp (λx y H Q=>y=.non∧Q (.bl (decide (x=.non))) H) ta (tC .non)) Γ (.bool (isNone d)):=λH0 F0 H F σ e Q q =>
 ha H0 F0 H F σ e _ λv H1 F1 g1 p1=>⟨rfl,by rw[zaY p1]; exact q _ H1 F1 g1 (.bl _)⟩
theorem V3(ha:EvD K S ta Γ d)(hb:EvD K S tb Γ f)(z1:SeqAt.shaped d=true)(z2:SeqAt.shaped f=true):EvE K S κ (tOp (rEqD K neg) ta tb) Γ (.bool (if neg then !PyData.eqv d f else PyData.eqv d f)):=λH0 F0 H F σ e Q q =>
 ha H0 F0 H F σ e _ λv H1 F1 g1 p1=>hb H0 F0 H1 F1 σ (e.mono g1) _ λw H2 F2 g2 p2=>⟨d,f,xu g2.h p1,p2,z1,z2,q _ H2 F2 (g1.trans g2) (.bl _)⟩
theorem zc4(ha:EvD K S ta Γ d)(hb:EvD K S tb Γ d)(z:SeqAt.shaped d=true):EvE K S κ (tOp (rEqS K) ta tb) Γ (.bool true):=λH0 F0 H F σ e Q q =>
 ha H0 F0 H F σ e _ λv H1 F1 g1 p1=>hb H0 F0 H1 F1 σ (e.mono g1) _ λw H2 F2 g2 p2=>⟨d,xu g2.h p1,p2,z,q _ H2 F2 (g1.trans g2) (.bl _)⟩
theorem U7(ha:EvD K S ta Γ d)(hb:EvD K S tb Γ d)(z:SeqAt.shaped d=true):EvE K S κ (tOp (rNeS K) ta tb) Γ (.bool false):=λH0 F0 H F σ e Q q =>
 ha H0 F0 H F σ e _ λv H1 F1 g1 p1=>hb H0 F0 H1 F1 σ (e.mono g1) _ λw H2 F2 g2 p2=>⟨d,xu g2.h p1,p2,z,q _ H2 F2 (g1.trans g2) (.bl _)⟩
theorem zbI(k:zr K κ S H0 F vs ds)(h:atI ds i=some d):∃v,atI vs i=some v∧Rp K κ S H0 F v d:=by
 unfold atI at h ⊢;rw[zr.length k];cases e:ixN ds.length i with
 | none=>rw[e]at h; cases h
 | some j=>rw[e]at h; exact zr.get k h
theorem zS(ha:EvL K S κ ta Γ ds)(hb:EvE K S false tb Γ (.int i))(h:atI ds i=some d):EvE K S κ (tOp (rIxL K) ta tb) Γ d:=λH0 F0 H F σ e Q q =>
 ha H0 F0 H F σ e _ λa vs H1 F1 g1 p1 k1=>hb H0 F0 H1 F1 σ (e.mono g1) _ λw H2 F2 g2 p2=>by
  cases yw p2;obtain⟨v,h1,h2⟩:=zbI (zF g2.f k1) h;exact⟨a,vs,i,v,rfl,rfl,g2.h.seq p1,h1,q _ H2 F2 (g1.trans g2) h2⟩
theorem vE(ha:EvE K S κ ta Γ (.tuple ds))(hb:EvE K S false tb Γ (.int i))(h:atI ds i=some d):EvE K S κ (tOp (rIxT K) ta tb) Γ d:=λH0 F0 H F σ e Q q =>
 ha H0 F0 H F σ e _ λv H1 F1 g1 p1=>hb H0 F0 H1 F1 σ (e.mono g1) _ λw H2 F2 g2 p2=>by
  cases yw p2;obtain⟨a,vs,rfl,h1,h2⟩:=Xn p1;obtain⟨v,h3,h4⟩:=zbI (zF g2.f h2) h;exact⟨a,vs,i,v,rfl,rfl,Same.seqT (g1.le.trans g2.h) h1,h3,q _ H2 F2 (g1.trans g2) h4⟩
theorem zbn(ha:EvE K S false ta Γ (.bool a))(hb:a=true→EvE K S false tb Γ (.bool b)):EvE K S κ (zdt ta tb) Γ (.bool (a && b)):=λH0 F0 H F σ e Q q =>
 ha H0 F0 H F σ e _ λv H1 F1 g1 p1=>by
  cases tV p1;refine⟨a,rfl,?_⟩
  cases a with
  | true=>exact iteT (hb rfl H0 F0 H1 F1 σ (e.mono g1) Q λv H2 F2 g2 p2=>by cases tV p2; exact q _ H2 F2 (g1.trans g2) (.bl _))
  | false=>exact iteF (q _ H1 F1 g1 (.bl _))
theorem zbj(ha:EvE K S false ta Γ (.bool a))(hb:a=false→EvE K S false tb Γ (.bool b)):EvE K S κ (tOrV ta tb) Γ (.bool (a || b)):=λH0 F0 H F σ e Q q =>
 ha H0 F0 H F σ e _ λv H1 F1 g1 p1=>by
  cases tV p1;refine⟨a,rfl,?_⟩
  cases a with
  | false=>exact iteF (hb rfl H0 F0 H1 F1 σ (e.mono g1) Q λv H2 F2 g2 p2=>by cases tV p2; exact q _ H2 F2 (g1.trans g2) (.bl _))
  | true=>exact iteT (q _ H1 F1 g1 (.bl _))
theorem zeM(ha:EvE K S false ta Γ (.bool a)):EvE K S κ (zdr ta) Γ (.bool (!a)):=λH0 F0 H F σ e Q q =>
 ha H0 F0 H F σ e _ λv H1 F1 g1 p1=>by cases tV p1; exact⟨a,rfl,q _ H1 F1 g1 (.bl _)⟩
theorem zH(h:EvE K S false t Γ (.bool b)):EvT K S (zdp t) Γ b:=λH0 F0 H F σ e Q q =>
 h H0 F0 H F σ e _ λv H1 F1 g1 p1=>by cases tV p1; exact⟨b,rfl,q H1 F1 g1⟩
theorem et_B(h:EvE K S false t Γ (.bool b)):EvT K S (tB t) Γ b:=λH0 F0 H F σ e Q q =>
 h H0 F0 H F σ e _ λv H1 F1 g1 p1=>by cases tV p1; exact⟨b,rfl,q H1 F1 g1⟩
theorem ww(ha:EvT K S t Γ a)(hb:a=true→EvT K S u Γ b):EvT K S (tAnd t u) Γ (a && b):=λH0 F0 H F σ e Q q =>
 ha H0 F0 H F σ e _ λH1 F1 g1=>by
  cases a with
  | true=>exact iteT (hb rfl H0 F0 H1 F1 σ (e.mono g1) Q λH2 F2 g2=>q H2 F2 (g1.trans g2))
  | false=>exact iteF (q H1 F1 g1)
theorem U9(ha:EvT K S t Γ a)(hb:a=false→EvT K S u Γ b):EvT K S (tOr t u) Γ (a || b):=λH0 F0 H F σ e Q q =>
 ha H0 F0 H F σ e _ λH1 F1 g1=>by
  cases a with
  | false=>exact iteF (hb rfl H0 F0 H1 F1 σ (e.mono g1) Q λH2 F2 g2=>q H2 F2 (g1.trans g2))
  | true=>exact iteT (q H1 F1 g1)
theorem tP(ha:EvT K S t Γ a):EvT K S (tNot t) Γ (!a):=λH0 F0 H F σ e Q q=>ha H0 F0 H F σ e _ λH1 F1 g1=>q H1 F1 g1
theorem zbo:EvT K S tYes Γ true:=λH0 F0 H F σ e Q q=>q H F (.refl e.le)
theorem EvT.eq(h:EvT K S t Γ a)(e:a=b):EvT K S t Γ b:=e ▸ h
theorem EvE.eq(h:EvE K S κ t Γ a)(e:a=b):EvE K S κ t Γ b:=e ▸ h
theorem EvO.eq(h:EvO K S κ t Γ a)(e:a=b):EvO K S κ t Γ b:=e ▸ h
theorem zD:EvA K S κ tNil Γ []:=λH0 F0 H F σ e Q q=>q [] H F (.refl e.le) .nil
theorem zh(h:EvE K S κ t Γ d)(k:EvA K S κ u Γ ds):EvA K S κ (zX t u) Γ (d :: ds):=λH0 F0 H F σ e Q q =>
 h H0 F0 H F σ e _ λv H1 F1 g1 p1=>k H0 F0 H1 F1 σ (e.mono g1) _ λvs H2 F2 g2 p2=>q _ H2 F2 (g1.trans g2) (.cons (yE g2.f p1) p2)
theorem zbh(h:EvA K S κ t Γ ds)(hz:ds.length≤sizeLine):EvE K S κ (tTup t) Γ (.tuple ds):=λH0 F0 H F σ e Q q =>
 h H0 F0 H F σ e _ λvs H1 F1 g1 p1=>⟨by rw[zr.length p1]; exact hz,λp hp=>q _ _ (upd F1 p (.tup vs)) (g1.trans (.new g1.le hp _)) (.tup (SqT.of zp) (zF (Same.new (g1.le.free hp) _) p1))⟩
theorem yc(h:EvA K S κ t Γ ds)(hz:ds.length≤sizeLine):EvO K S κ (tLst t) Γ ds:=λH0 F0 H F σ e Q q =>
 h H0 F0 H F σ e _ λvs H1 F1 g1 p1=>⟨by rw[zr.length p1]; exact hz,λp hp=>q p vs _ F1 (g1.trans (.newO g1.le hp _)) (g1.h.free hp) zp (g1.le.free hp) p1⟩
def spD(K:ζc)(κ:Bool)(pre:AG→AD→Prop):Sp:=λvs H Q _=>∃F ds d,Same F H∧zT K F vs ds∧pre ds d∧∀v H' F',Gr H F H' F'→Rp K κ .fresh H F' v d→Q v H'
theorem zm(h:EvA K S false t Γ ds)(hp:pre ds d):EvE K S κ (vm (spD K true pre) [] E t) Γ d:=λH0 F0 H F σ e Q q =>
 h H0 F0 H F σ e _ λvs H1 F1 g1 p1=>⟨F1,ds,d,g1.le,by rw[ζQ]; exact zM p1,hp,λv H2 F2 g2 p2=>q v H2 F2 (g1.trans g2) (vN (κ:=true) (λ_=>rfl) (wR (κ:=true) (κ':=true) (S':=S) (H0':=H0) (λa xs z=>⟨z.1,λc=>by
  obtain⟨u,hu⟩:=(e.mono g1).sd a c;exact z.2 (by show H1 a≠none; rw[hu]; simp)⟩) (λ_ _ z=>z) p2))⟩
theorem vF(h:EvA K S false t Γ ds)(hp:pre ds d):EvE K S false (vm (spD K false pre) [] E t) Γ d:=λH0 F0 H F σ e Q q =>
 h H0 F0 H F σ e _ λvs H1 F1 g1 p1=>⟨F1,ds,d,g1.le,by rw[ζQ]; exact zM p1,hp,λv H2 F2 g2 p2=>q v H2 F2 (g1.trans g2) (uf (xa p2))⟩
theorem ye(h:EvL K S false ta Γ ds):EvE K S κ (tCB (λxs H Q=>∃p ys,xs=[.ref p]∧(SqL K H p ys∨SqT K H p ys)∧Q (.int ys.length) H) (zX ta tNil)) Γ (.int ds.length):=λH0 F0 H F σ e Q q =>
 h H0 F0 H F σ e _ λa vs H1 F1 g1 p1 k1=>⟨a,vs,rfl,.inl p1,q _ H1 F1 g1 (by rw[zr.length k1]; exact .int _)⟩
theorem zc3(h:EvE K S false ta Γ (.tuple ds)):EvE K S κ (tCB (λxs H Q=>∃p ys,xs=[.ref p]∧(SqL K H p ys∨SqT K H p ys)∧Q (.int ys.length) H) (zX ta tNil)) Γ (.int ds.length):=λH0 F0 H F σ e Q q =>
 h H0 F0 H F σ e _ λv H1 F1 g1 p1=>by
  obtain⟨a,vs,rfl,h1,h2⟩:=Xn p1;exact⟨a,vs,rfl,.inr (Same.seqT g1.le h1),q _ H1 F1 g1 (by rw[zr.length h2]; exact .int _)⟩
theorem yR(h:EvL K S κ ta Γ ds):EvO K S κ (tCB (λxs H Q=>∃p ys,xs=[.ref p]∧(SqL K H p ys∨SqT K H p ys)∧∀l,H l=none→Q (.ref l) (upd H l (.lst ys))) (zX ta tNil)) Γ ds:=λH0 F0 H F σ e Q q =>
 h H0 F0 H F σ e _ λa vs H1 F1 g1 p1 k1=>⟨a,vs,rfl,.inl p1,λp hp=>q p vs _ F1 (g1.trans (.newO g1.le hp _)) (g1.h.free hp) zp (g1.le.free hp) k1⟩
theorem zeW(h:EvE K S false ta Γ (.int i)):EvE K S κ (tCB (λxs H Q=>∃i,xs=[.int i]∧Q (.int (if i < 0 then -i else i)) H) (zX ta tNil)) Γ (.int (i.natAbs:Int)):=λH0 F0 H F σ e Q q =>
 h H0 F0 H F σ e _ λv H1 F1 g1 p1=>by
  cases yw p1;have e:(if i < 0 then -i else i)=(i.natAbs:Int):=by split <;> omega
  exact⟨i,rfl,by rw[e]; exact q _ H1 F1 g1 (.int _)⟩
def cutD(xs:AG)(lo hi:Option Int):AG:=(xs.drop (HT.sIx xs.length 0 lo)).take (HT.sIx xs.length xs.length hi - HT.sIx xs.length 0 lo)
theorem ze2(k:zr K κ S H0 F vs ds):zr K κ S H0 F (cutV vs lo hi) (cutD ds lo hi):=by
 unfold cutV cutD;rw[zr.length k];exact zr.take _ (zr.drop _ k)
theorem uY:EvP K S Um Γ none:=λH0 F0 H F σ e Q q=>q H F (.refl e.le)
theorem uX(h:EvE K S false t Γ (.int i)):EvP K S (zdq t) Γ (some i):=λH0 F0 H F σ e Q q =>
 h H0 F0 H F σ e _ λv H1 F1 g1 p1=>by cases yw p1; exact⟨i,rfl,q H1 F1 g1⟩
theorem xh(h:EvL K S κ t Γ ds)(hl:EvP K S tl Γ lo)(hh:EvP K S th Γ hi):EvO K S κ (tSl (rSlL K) t tl th) Γ (cutD ds lo hi):=λH0 F0 H F σ e Q q =>
 h H0 F0 H F σ e _ λa vs H1 F1 g1 p1 k1=>hl H0 F0 H1 F1 σ (e.mono g1) _ λH2 F2 g2=>hh H0 F0 H2 F2 σ ((e.mono g1).mono g2) _ λH3 F3 g3 =>
  ⟨a,vs,rfl,(g2.h.trans g3.h).seq p1,λp hp=>q p _ _ F3 (((g1.trans g2).trans g3).trans (.newO g3.le hp _)) (((g1.trans g2).trans g3).h.free hp) zp (g3.le.free hp) (ze2 (zF (g2.f.trans g3.f) k1))⟩
end
end PD
namespace L2
open PySem PySem.Spec PyProof.Rows
section
variable {X:Cx}{K:ζc}
def zal(K:ζc):R2:=λx y H Q=>∃l b xs zs,x=.ref l∧y=.ref b∧SqL K H l xs∧SqL K H b zs∧xs.length + zs.length≤sizeLine∧∀p,H p=none→Q (.ref p) (upd H p (.lst (xs ++ zs)))
theorem zcx:OpR X (binaryOp .Add) (zal X.K):=by
 intro pins s σ H x y v u Q I rx ry h;obtain⟨l,b,xs,zs,rfl,rfl,hH,hB,hz,q⟩:=h;cases rx;cases ry;obtain⟨its,r,pl,z⟩:=I.list hH;obtain⟨its2,r2,pl2,z2⟩:=I.list hB;have l1:=r.length;have l2:=r2.length;obtain⟨⟨cls,dd,data,sl⟩,ho,hc,n,hd⟩:=pl.isList;obtain⟨⟨cls2,dd2,data2,sl2⟩,ho2,hc2,n2,hd2⟩:=pl2.isList;simp only at hc hd hc2 hd2;subst hc hd hc2 hd2;have e:its.toArray ++ its2.toArray=(its ++ its2).toArray:=by simp
 refine concat_meets ⟨_,ho,rfl⟩ ⟨_,ho2,rfl⟩ noFill_list_add seq_list_add PySem.F.slot_list_add PySem.F.entry_list_add (PySem.F.args_list_add_2 _ _) (list_addW l b its.toArray its2.toArray n n2 dd dd2 sl sl2 (by simp only[List.size_toArray]; omega)) ⟨ho,ho2,?_⟩;rw[e];exact⟨.ref _,_,I.lnew (t':=s.toks) (r.append r2) (by rw[ζg]; omega),rfl,q _ I.fresh⟩
def tyD:AD→String
 | .none => "NoneType"
 | .bool _ => "bool"
 | .int _ => "int"
 | .str _ => "str"
 | .list _ => "list"
 | .tuple _ => "tuple"
 | _ => "object"
def zak(K:ζc):List V→Hp→VK→Prop:=λxs H Q=>∃x d T b,xs=[x,.ty T]∧Dp K H x d∧PySem.W.kitOne K (.type (tyD d)) (.type T)=some b∧Q (.bl b) H
theorem Qw:y8 X (.builtin "isinstance") (zak X.K):=by
 intro pins s σ H xs us Q I r h;obtain⟨x,d,T,b,rfl,dp,e,q⟩:=h;obtain⟨u,v,rfl,ru,rv⟩:=r.two;cases(show v=Value.type T from rv);have fin:∀tk,EP X pins σ Q (.bool b) { s with toks:=tk }:=λtk=>⟨.bl b,H,I.tok tk,rfl,q⟩
 cases dp with
 | non=>cases(show u=Value.none from ru); exact PySem.W.kia_one PySem.W.kitx_none I.kIn True.intro e (λz=>nomatch z) fin
 | bl y=>cases(show u=Value.bool y from ru); exact PySem.W.kia_one PySem.W.kitx_bool I.kIn True.intro e (λz=>nomatch z) fin
 | int i=>obtain⟨t,z⟩:=(show∃t,u=Value.int i t from ru); cases z; exact PySem.W.kia_one PySem.W.kitx_int I.kIn True.intro e (λz=>nomatch z) fin
 | str y=>obtain⟨t,z⟩:=(show∃t,u=Value.str y t from ru); cases z; exact PySem.W.kia_one PySem.W.kitx_str I.kIn True.intro e (λz=>nomatch z) fin
 | @lst a xs ds h k =>
  cases(show u=Value.ref a from ru);obtain⟨its,rv,⟨o,n,h1,h2,_⟩,_⟩:=I.list h;exact PySem.W.kia_one PySem.W.kitx_list I.kIn ⟨_,h1,h2⟩ e (λz=>nomatch z) fin
 | @tup a xs ds h k =>
  cases(show u=Value.ref a from ru);obtain⟨its,rv,⟨o,h1,h2,_⟩,_⟩:=I.tuple h;exact PySem.W.kia_one PySem.W.kitx_tuple I.kIn ⟨_,h1,h2⟩ e (λz=>nomatch z) fin
theorem vf(hK:X.K=K):y8 X (.builtin "isinstance") (zak K):=by subst hK; exact Qw
theorem uM(hK:X.K=K):OpR X (binaryOp .Add) (zal K):=by subst hK; exact zcx
end
end L2
namespace PD
open PySem L2
section
variable {K:ζc}{S:Sx}{κ:Bool}{Γ:Ctx}
theorem Zl(ha:EvL K S κ ta Γ xs)(hb:EvL K S κ tb Γ ys)(hz:xs.length + ys.length≤sizeLine):EvO K S κ (tOp (zal K) ta tb) Γ (xs ++ ys):=λH0 F0 H F σ e Q q =>
 ha H0 F0 H F σ e _ λa vs H1 F1 g1 p1 k1=>hb H0 F0 H1 F1 σ (e.mono g1) _ λb ws H2 F2 g2 p2 k2 =>
  ⟨a,b,vs,ws,rfl,rfl,g2.h.seq p1,p2,by rw[zr.length k1,zr.length k2]; exact hz,λp hp=>q p _ _ F2 ((g1.trans g2).trans (.newO g2.le hp _)) ((g1.trans g2).h.free hp) zp (g2.le.free hp) (zr.append (zF g2.f k1) k2)⟩
theorem vc(ha:EvO K S κ ta Γ xs)(hb:EvE K S false tb Γ (.int k))(h1:-(2 ^ 63)≤k)(h2:k < 2 ^ 63)(hz:xs.length * k.toNat≤sizeLine):EvO K S κ (tOp rRep ta tb) Γ (List.replicate k.toNat xs).flatten:=λH0 F0 H F σ e Q q =>
 ha H0 F0 H F σ e _ λa vs H1 F1 g1 n1 p1 f1 k1=>hb H0 F0 H1 F1 σ (e.mono g1) _ λw H2 F2 g2 p2=>by
  cases yw p2;exact⟨a,k,vs,rfl,rfl,g2.h _ _ p1,h1,h2,by rw[zr.length k1]; exact hz,λp hp=>q p _ _ F2 ((g1.trans g2).trans (.newO g2.le hp _)) ((g1.trans g2).h.free hp) zp (g2.le.free hp) (zr.rep (zF g2.f k1) _)⟩
theorem zeP(h:EvD K S ta Γ d)(hi:PySem.W.kitOne K (.type (tyD d)) (.type T)=some b):EvE K S κ (tCB (zak K) (zX ta (zX (tC (.ty T)) tNil))) Γ (.bool b):=λH0 F0 H F σ e Q q =>
 h H0 F0 H F σ e _ λv H1 F1 g1 p1=>⟨v,d,T,b,rfl,p1,hi,q _ H1 F1 g1 (.bl b)⟩
theorem za6(ns:AE):(ns.map V.int).all uT=true:=by
 rw[ξJ];intro v hv;obtain⟨n,_,rfl⟩:=ζn.mp hv;rfl
theorem zcO(i:Int)(ns:AE):inV (.int i) (ns.map V.int)=decide (i∈ns):=by
 unfold inV;rw[List.any_map];by_cases h:i∈ns
 ·rw[decide_eq_true h,ξD];exact⟨i,h,by show eqV (.int i) (.int i)=true; simp[eqV]⟩
 ·rw[decide_eq_false h,List.any_eq_false];intro x hx hq;have:x=i:=by
   have q:eqV (.int x) (.int i)=true:=hq;simpa[eqV]using q
  exact h (this ▸ hx)
theorem yC{neg:Bool}{ta tb:TE}{i:Int}{ns:AE}(ha:EvE K S false ta Γ (.int i))(hb:EvL K S false tb Γ (ns.map .int)):EvE K S κ (tOp (rIn K neg) ta tb) Γ (.bool (if neg then !decide (i∈ns)else decide (i∈ns))):=λH0 F0 H F σ e Q q =>
 ha H0 F0 H F σ e _ λv H1 F1 g1 p1=>hb H0 F0 H1 F1 σ (e.mono g1) _ λb ws H2 F2 g2 p2 k2=>by
  cases yw p1;cases yb (zM k2);refine⟨b,_,rfl,.inl p2,rfl,za6 ns,?_⟩
  rw[zcO];exact q _ H2 F2 (g1.trans g2) (.bl _)
def ExG(K:ζc)(S:Sx)(κ:Bool)(g:TG)(js:AF)(d:AD)(Γ:Ctx)(k:Ctx→Prop):Prop:=∀(H0 F0 H F:Hp) (σ:St) (v:V),DEnv K S H0 F0 H F σ Γ→Rp K κ S H0 F v d→∀Q:St→Hp→Prop,
 (∀Γ' σ' H' F',k Γ'→Gr H F H' F'→DEnv K S H0 F0 H' F' σ' Γ'→σ'.length=σ.length→(∀j,j∉js→σ'[j]?=σ[j]?)→Q σ' H')→g v σ H Q
theorem DEnv.set(e:DEnv K S H0 F0 H F σ Γ)(p:HasV K S H0 H F v x)
  (hne:∀a,Owns H v x a→∀(j:Nat) y w,j≠i→Γ[j]?=some (some y)→σ[j]?=some (some w)→¬Owns H w y a):DEnv K S H0 F0 H F (σ.set i (some v)) (Γ.set i (some x)):=by
 refine⟨e.gr,e.l0,e.sd,e.s0,by simp[e.len],λj f h=>?_,λj k' x1 y1 v1 w1 b g1 g2 g3 g4 o1 o2=>?_⟩
 ·by_cases hj:j=i
  ·subst hj;by_cases hl:j < Γ.length
   ·rw[ζu hl]at h;cases h;exact⟨v,by rw[ζu (by rw[e.len]; exact hl)],p⟩
   ·rw[List.getElem?_eq_none (by simp; omega)]at h;cases h
  ·rw[ζz (Ne.symm hj)]at h ⊢;exact e.has j f h
 ·have li:∀{j:Nat} {y:DV},(Γ.set i (some x))[j]?=some (some y)→j < Γ.length:=λ{j y} z=>by
   have:=(ζh.mp z).1;rw[ξ9]at this;exact this
  by_cases hj:j=i
  ·subst hj;by_cases hk:k'=j
   ·exact hk.symm
   ·rw[ζu (by rw[e.len]; exact li g1)]at g3;rw[ζu (li g1)]at g1;cases g1;cases g3;rw[ζz (Ne.symm hk)]at g4 g2;exact absurd o2 (hne b o1 k' y1 w1 hk g2 g4)
  ·rw[ζz (Ne.symm hj)]at g3 g1;by_cases hk:k'=i
   ·subst hk;rw[ζu (by rw[e.len]; exact li g2)]at g4;rw[ζu (li g2)]at g2;cases g2;cases g4;exact absurd o1 (hne b o2 j x1 v1 hj g1 g3)
   ·rw[ζz (Ne.symm hk)]at g4 g2;exact e.ne j k' x1 y1 v1 w1 b g1 g2 g3 g4 o1 o2
theorem DEnv.setF(e:DEnv K S H0 F0 H F σ Γ)(p:Rp K κ S H0 F v d):DEnv K S H0 F0 H F (σ.set i (some v)) (Γ.set i (some (.fz κ d))):=e.set (x:=.fz κ d) p λ_ z=>z.elim
theorem OwnO.other(w:OwnO S H0 H F b u)(h:b≠a):OwnO S H0 (upd H a oo) F b u:=⟨by rw[zC h]; exact w.h,w.f,w.n,w.s⟩
theorem HasV.other(h:HasV K S H0 H F v x)(n:¬Owns H v x a):HasV K S H0 (upd H a oo) F v x:=by
 cases x with
 | fz κ d=>exact h
 | tn d=>exact h
 | ow κ ds=>obtain⟨b,us,eb,wo,kk⟩:=h; exact⟨b,us,eb,wo.other λz=>n (by rw[eb,z]; rfl),kk⟩
 | ox=>obtain⟨b,us,eb,wo⟩:=h; exact⟨b,us,eb,wo.other λz=>n (by rw[eb,z]; rfl)⟩
 | o2 r dss =>
  obtain⟨b,us,eb,wo,n1,n2,l,k⟩:=h;refine⟨b,us,eb,wo.other λz=>n (.inl (by rw[eb.eq,z])),n1,n2,l,λj y hy=>?_⟩
  obtain⟨c,ws,ds,e2,o2,h2,k2⟩:=k j y hy;exact⟨c,ws,ds,e2,o2.other λz=>n (.inr ⟨b,us,eb.eq,wo.h,by rw[←z,←e2]; exact ζf hy⟩),h2,k2⟩
 | fn a=>exact h
 | xn φ=>exact h
 | oa b κ ds=>obtain⟨eb,us,wo,kk⟩:=h; exact⟨eb,us,wo.other λz=>n (by rw[eb,z]; rfl),kk⟩
 | xp φ=>exact h
 | od u=>obtain⟨b,eb,wo⟩:=h; exact⟨b,eb,wo.other λz=>n (by rw[eb,z]; rfl)⟩
 | og ad ψ =>
  obtain⟨ok,w,p⟩:=h;have eq:∀b,ad H v b→upd H a oo b=H b:=λb z=>zC λy=>n (y ▸ z);refine⟨ok,λb z=>?_,ok.ps S H0 H _ F F v eq (.refl _) p⟩
  have z:=(ok.pl H _ v eq b).mp z;obtain⟨o,y⟩:=w b z;exact⟨o,y.other λq=>n (q ▸ z)⟩
theorem Owns.other(h:HasV K S H0 H F v x)(n:¬Owns H v x a)(o:Owns (upd H a oo) v x c):Owns H v x c:=by
 cases x with
 | fz _ _=>exact o.elim
 | tn _=>exact o.elim
 | ow κ ds=>exact o
 | ox=>exact o
 | o2 r dss =>
  rcases o with o | ⟨p,us,e2,hp,hm⟩
  ·exact .inl o
  ·rw[zC (λz=>n (.inl (by rw[e2,z])))]at hp;exact .inr ⟨p,us,e2,hp,hm⟩
 | fn _=>exact o.elim
 | xn _=>exact o.elim
 | oa _ _ _=>exact o
 | xp _=>exact o.elim
 | od _=>exact o
 | og ad ψ=>exact(h.1.pl H (upd H a oo) v (λb z=>zC λy:b=a=>n (y ▸ z)) c).mp o
theorem DEnv.putO(e:DEnv K S H0 F0 H F σ Γ)(h:Γ[i]?=some (some x))(ha:σ[i]?=some (some v))(ho:Owns H v x a)
  (k:HasV K S H0 (upd H a oo) F v y) (ko:∀c,Owns (upd H a oo) v y c→Owns H v x c):DEnv K S H0 F0 (upd H a oo) F σ (Γ.set i (some y)):=by
 obtain⟨v',q1,q2⟩:=e.has i x h;rw[ha]at q1;cases q1;obtain⟨ws,w⟩:=q2.owns ho;have hs:Same F (upd H a oo):=λb u z=>by
  have:b≠a:=by rintro rfl; rw[w.f]at z; cases z
  rw[zC this]; exact e.le _ _ z
 have li:=(ζh.mp h).1;have far:∀{j:Nat} {f:DV} {u:V},j≠i→Γ[j]?=some (some f)→σ[j]?=some (some u)→¬Owns H u f a:=λ{j f u} hj z r o=>hj (e.ne j i f x u v a z h r ha o ho);refine⟨⟨λb u z=>?_,e.gr.f,hs,e.gr.ap⟩,e.l0,λb c=>?_,e.s0,by simp[e.len],λj f z=>?_,λj k' x1 y1 v1 w1 b g1 g2 g3 g4 o1 o2=>?_⟩
 ·rw[zC (zN z w.n)]; exact e.gr.h _ _ z
 ·obtain⟨o,q⟩:=e.sd b c;by_cases hb:b=a
  ·subst hb; exact⟨_,zp⟩
  ·exact⟨o,by rw[zC hb]; exact q⟩
 ·by_cases hj:j=i
  ·subst hj;rw[ζu li]at z;cases z;exact⟨_,ha,k⟩
  ·rw[ζz (Ne.symm hj)]at z;obtain⟨u,r1,r2⟩:=e.has j f z;exact⟨u,r1,r2.other (far hj z r1)⟩
 ·have bk:∀{j:Nat} {f:DV} {u:V},(Γ.set i (some y))[j]?=some (some f)→σ[j]?=some (some u)→Owns (upd H a oo) u f b→∃g,Γ[j]?=some (some g)∧Owns H u g b:=λ{j f u} z r o=>by
   by_cases hj:j=i
   ·subst hj;rw[ζu li]at z;cases z;rw[ha]at r;cases r;exact⟨x,h,ko b o⟩
   ·rw[ζz (Ne.symm hj)]at z;obtain⟨u',r1,r2⟩:=e.has j f z;rw[r]at r1;cases r1;exact⟨f,z,o.other r2 (far hj z r)⟩
  obtain⟨f1,z1,w1'⟩:=bk g1 g3 o1;obtain⟨f2,z2,w2'⟩:=bk g2 g4 o2;exact e.ne j k' f1 f2 v1 w1 b z1 z2 g3 g4 w1' w2'
theorem DEnv.put(e:DEnv K S H0 F0 H F σ Γ)(h:Γ[i]?=some (some x))(ha:σ[i]?=some (some v))(ho:Owns H v x a)
  (k:HasV K S H0 (upd H a (.lst vs)) F v y) (ko:∀c,Owns (upd H a (.lst vs)) v y c→Owns H v x c):DEnv K S H0 F0 (upd H a (.lst vs)) F σ (Γ.set i (some y)):=e.putO h ha ho k ko
theorem OwnO.frz(w:OwnO S H0 H F b u)(h:b≠a):OwnO S H0 H (upd F a oo) b u:=⟨w.h,by rw[zC h]; exact w.f,w.n,w.s⟩
theorem HasV.frz(h:HasV K S H0 H F v x)(s:Same F (upd F a (.lst vs)))(n:¬Owns H v x a):HasV K S H0 H (upd F a (.lst vs)) v x:=by
 cases x with
 | fz κ d=>exact yE s h
 | tn d=>obtain⟨T,eT,k⟩:=h; exact⟨T,eT,yE s k⟩
 | ow κ ds=>obtain⟨b,us,eb,wo,kk⟩:=h; exact⟨b,us,eb,wo.frz λz=>n (by rw[eb,z]; rfl),zF s kk⟩
 | ox=>obtain⟨b,us,eb,wo⟩:=h; exact⟨b,us,eb,wo.frz λz=>n (by rw[eb,z]; rfl)⟩
 | o2 r dss =>
  obtain⟨b,us,eb,wo,n1,n2,l,k⟩:=h;refine⟨b,us,eb,wo.frz λz=>n (.inl (by rw[eb.eq,z])),n1,n2,l,λj y hy=>?_⟩
  obtain⟨c,ws,ds,e2,o2,h2,k2⟩:=k j y hy;exact⟨c,ws,ds,e2,o2.frz λz=>n (.inr ⟨b,us,eb.eq,wo.h,by rw[←z,←e2]; exact ζf hy⟩),h2,zF s k2⟩
 | fn a=>exact h
 | xn φ=>obtain⟨b,e,k⟩:=h; exact⟨b,e,s _ _ k⟩
 | oa b κ ds=>obtain⟨eb,us,wo,kk⟩:=h; exact⟨eb,us,wo.frz λz=>n (by rw[eb,z]; rfl),zF s kk⟩
 | xp φ=>obtain⟨F1,s1,k⟩:=h; exact⟨F1,s1.trans s,k⟩
 | od u=>obtain⟨b,eb,wo⟩:=h; exact⟨b,eb,wo.frz λz=>n (by rw[eb,z]; rfl)⟩
 | og ad ψ =>
  obtain⟨ok,w,p⟩:=h;refine⟨ok,λb z=>?_,ok.ps S H0 H H F _ v (λ_ _=>rfl) s p⟩
  obtain⟨o,y⟩:=w b z;exact⟨o,y.frz λq=>n (q ▸ z)⟩
theorem DEnv.froz(e:DEnv K S H0 F0 H F σ Γ)(h:Γ[i]?=some (some x))(hv:σ[i]?=some (some v))(ho:Owns H v x a)(w:wL S H0 H F a vs)
  (k:HasV K S H0 H (upd F a (.lst vs)) v y) (ko:∀c,Owns H v y c→Owns H v x c):Same F (upd F a (.lst vs))∧DEnv K S H0 F0 H (upd F a (.lst vs)) σ (Γ.set i (some y)):=by
 have s:Same F (upd F a (.lst vs)):=Same.new w.f _;have li:=(ζh.mp h).1;have g:Gr H0 F0 H (upd F a (.lst vs)):=⟨e.gr.h,e.gr.f.trans s,λb u z=>by
  by_cases eb:b=a
  ·subst eb; rw[zp]at z; rw[←z]; exact w.h
  ·rw[zC eb]at z; exact e.le _ _ z,λb u z y=>by
  rw[zC (zN z w.n)]; exact e.gr.ap _ _ z y⟩
 refine⟨s,g,e.l0,e.sd,e.s0,by simp[e.len],λj f z=>?_,λj k' x1 y1 v1 w1 b g1 g2 g3 g4 o1 o2=>?_⟩
 ·by_cases hj:j=i
  ·subst hj;rw[ζu li]at z;cases z;exact⟨v,hv,k⟩
  ·rw[ζz (Ne.symm hj)]at z;obtain⟨u,r1,r2⟩:=e.has j f z;exact⟨u,r1,r2.frz s λo=>hj (e.ne j i f x u v a z h r1 hv o ho)⟩
 ·have bk:∀{j:Nat} {f:DV} {u:V},(Γ.set i (some y))[j]?=some (some f)→σ[j]?=some (some u)→Owns H u f b→∃g,Γ[j]?=some (some g)∧Owns H u g b:=λ{j f u} z r o=>by
   by_cases hj:j=i
   ·subst hj;rw[ζu li]at z;cases z;rw[hv]at r;cases r;exact⟨x,h,ko b o⟩
   ·rw[ζz (Ne.symm hj)]at z;exact⟨f,z,o⟩
  obtain⟨f1,z1,w1'⟩:=bk g1 g3 o1;obtain⟨f2,z2,w2'⟩:=bk g2 g4 o2;exact e.ne j k' f1 f2 v1 w1 b z1 z2 g3 g4 w1' w2'
theorem DEnv.freeze(e:DEnv K S H0 F0 H F σ Γ)(h:Γ[i]?=some (some (.ow κ ds))):∃F',Same F F'∧DEnv K S H0 F0 H F' σ (Γ.set i (some (.fz κ (.list ds)))):=by
 obtain⟨v,q1,a,vs,rfl,w,q5⟩:=e.has i _ h;exact⟨_,e.froz (y:=.fz κ (.list ds)) h q1 rfl w (.lst (LN.new w.s) (zF (Same.new w.f _) q5)) λ_ z=>z.elim⟩
theorem zc8(h:k (Γ.set i (some (.fz κ d)))):ExG K S κ (yG i) [i] d Γ k:=λH0 F0 H F σ v e p Q q =>
 q _ _ H F h (.refl e.le) (e.setF p) (by simp) λj hj=>by rw[List.getElem?_set_ne (by intro z; exact hj (by simp[z]))]
theorem zeY(h:k ((Γ.set i (some (.fz κ x))).set j (some (.fz κ y)))):ExG K S κ (gTup K 2 (t8 (yG i) (t8 (yG j) gNil))) [i,j] (.tuple [x,y]) Γ k:=λH0 F0 H F σ v e p Q q=>by
 obtain⟨a,vs,rfl,h1,h2⟩:=Xn p;cases h2 with
 | cons px h2=>cases h2 with
  | cons py h2 =>
   cases h2;refine⟨a,_,rfl,Same.seqT e.le h1,rfl,_,_,rfl,_,_,rfl,rfl,?_⟩
   refine q _ _ H F h (.refl e.le) ((e.setF px).setF py) (by simp) λm hm=>?_;rw[List.getElem?_set_ne (by intro z; exact hm (by simp[z])),List.getElem?_set_ne (by intro z; exact hm (by simp[z]))]
structure ItD(K:ζc)(S:Sx)(κ:Bool)(H0 F:Hp)(J:It)(ds:AG):Prop where
 go:∀i H F',Same F F'→Same F' H→i < ds.length→J.go i H
 yld:∀i H F' x H',Same F F'→Same F' H→(∀a,S.has H0 a→∃o,H a=some o)→i < ds.length→J.yld i H x H'→∃d F'',ds[i]?=some d∧Gr H F' H' F''∧Rp K κ S H0 F'' x d
 stop:∀H F',Same F F'→Same F' H→J.stop ds.length H
def EvI(K:ζc)(S:Sx)(κ:Bool)(t:TI)(Γ:Ctx)(ds:AG):Prop:=∀(H0 F0 H F:Hp) (σ:St),DEnv K S H0 F0 H F σ Γ→∀R:It→Hp→Prop,(∀J H' F',Gr H F H' F'→ItD K S κ H0 F' J ds→R J H')→t σ H R
theorem zO(h:EvE K S κ t Γ (.list ds)):EvI K S κ (U1 K t) Γ ds:=λH0 F0 H F σ e R q =>
 h H0 F0 H F σ e _ λv H1 F1 g1 p1=>by
  obtain⟨a,vs,rfl,h1,h2⟩:=wS p1;have hl:=zr.length h2;have up:∀{F' H':Hp},Same F1 F'→Same F' H'→SqL K H' a vs:=λs1 s2=>(s1.trans s2).seq h1.sq;refine⟨a,rfl,⟨vs,up (.refl _) g1.le⟩,q _ H1 F1 g1 ⟨λi H' F' s1 s2 hi=>?_,λi H' F' x H'' s1 s2 _ hi y=>?_,λH' F' s1 s2=>?_⟩⟩
  ·exact⟨vs,vs[i]'⋯,up s1 s2,by simp⟩
  ·obtain⟨rfl,y⟩:=y;obtain⟨d,hd,hp⟩:=zr.get' h2 (y vs (up s1 s2));exact⟨d,F',hd,.refl s2,yE s1 hp⟩
  ·exact⟨vs,up s1 s2,⋯⟩
theorem yQ(h:EvA K S false t Γ [.int n])(h1:-(2 ^ 62)≤n)(h2:n < 2 ^ 62):EvI K S κ (za0 t) Γ ((List.range n.toNat).map λi:Nat=>.int (i:Int)):=λH0 F0 H F σ e R q =>
 h H0 F0 H F σ e _ λvs H1 F1 g1 p1=>by
  cases p1 with
  | cons p p1 =>
   cases p1;cases yw p;refine⟨n,rfl,h1,h2,q _ H1 F1 g1 ⟨λi H' F' s1 s2 hi=>?_,λi H' F' x H'' s1 s2 _ hi y=>?_,λH' F' s1 s2=>?_⟩⟩
   ·show i < n.toNat;simpa using hi
   ·obtain⟨rfl,rfl⟩:=y;have hi':i < n.toNat:=by simpa using hi
    refine⟨.int i,F',by simp[hi'],.refl s2,?_⟩
    have:(0:Int) + (i:Int)=i:=by omega
    rw[this]; exact .int _
   ·show n.toNat≤_;simp
theorem zc7(h:EvA K S false t Γ [.int m,.int n])(h1:-(2 ^ 62)≤m∧m < 2 ^ 62∧-(2 ^ 62)≤n∧n < 2 ^ 62):EvI K S κ (zdH t) Γ ((List.range (n - m).toNat).map λi:Nat=>.int (m + (i:Int))):=λH0 F0 H F σ e R q =>
 h H0 F0 H F σ e _ λvs H1 F1 g1 p1=>by
  cases p1 with
  | cons p p1 =>
   cases p1 with
   | cons p' p1 =>
    cases p1;cases yw p;cases yw p';refine⟨m,n,rfl,h1,q _ H1 F1 g1 ⟨λi H' F' s1 s2 hi=>?_,λi H' F' x H'' s1 s2 _ hi y=>?_,λH' F' s1 s2=>?_⟩⟩
    ·show i < (n - m).toNat;simpa using hi
    ·obtain⟨rfl,rfl⟩:=y;have hi':i < (n - m).toNat:=by simpa using hi
     exact⟨.int (m + i),F',by simp[hi'],.refl s2,.int _⟩
    ·show(n - m).toNat≤_;simp
theorem zcQ{i:Nat}(h1:xs[i]?=some x)(h2:ys[i]?=some y):(List.zipWith f xs ys)[i]?=some (f x y):=by
 rw[List.getElem?_zipWith,h1,h2]
theorem ul{t:TA}{xs ys:AG}(h:EvA K S κ t Γ [.list xs,.list ys]):EvI K S κ (iZip K t) Γ (List.zipWith (λx y=>.tuple [x,y]) xs ys):=λH0 F0 H F σ e R q =>
 h H0 F0 H F σ e _ λvs H1 F1 g1 p1=>by
  cases p1 with
  | cons p p1 =>
   cases p1 with
   | cons p' p1 =>
    cases p1;obtain⟨a,us,rfl,h1,h2⟩:=wS p;obtain⟨b,ws,rfl,h3,h4⟩:=wS p';have l1:=zr.length h2;have l2:=zr.length h4;have up:∀{F' H':Hp},Same F1 F'→Same F' H'→SqL K H' a us:=λs1 s2=>(s1.trans s2).seq h1.sq;have uq:∀{F' H':Hp},Same F1 F'→Same F' H'→SqL K H' b ws:=λs1 s2=>(s1.trans s2).seq h3.sq;refine⟨a,b,rfl,⟨us,up (.refl _) g1.le⟩,⟨ws,uq (.refl _) g1.le⟩,q _ H1 F1 g1 ⟨λi H' F' s1 s2 hi=>?_,λi H' F' x H'' s1 s2 sd hi y=>?_,λH' F' s1 s2=>?_⟩⟩
    ·rw[ξw]at hi;exact⟨us,us[i]'⋯,ws,ws[i]'⋯,up s1 s2,by simp,uq s1 s2,by simp⟩
    ·obtain⟨T,u,v,hT,rfl,rfl,y1,y2⟩:=y;obtain⟨d,hd,hp⟩:=zr.get' h2 (y1 us (up s1 s2));obtain⟨f,hf,hq⟩:=zr.get' h4 (y2 ws (uq s1 s2));have s3:Same F' (upd F' T (.tup [u,v])):=Same.new (s2.free hT) _;exact⟨.tuple [d,f],_,zcQ hd hf,.new s2 hT _,.tup (SqT.of zp) (.cons (yE (s1.trans s3) hp) (.cons (yE (s1.trans s3) hq) .nil))⟩
    ·refine⟨us,ws,up s1 s2,uq s1 s2,?_⟩
     rw[ξw];omega
theorem zbt(h:EvA K S κ t Γ [.list xs]):EvI K S κ (iRev K t) Γ xs.reverse:=λH0 F0 H F σ e R q =>
 h H0 F0 H F σ e _ λvs H1 F1 g1 p1=>by
  cases p1 with
  | cons p p1 =>
   cases p1;obtain⟨a,us,rfl,h1,h2⟩:=wS p;have l1:=zr.length h2;have up:∀{F' H':Hp},Same F1 F'→Same F' H'→SqL K H' a us:=λs1 s2=>(s1.trans s2).seq h1.sq;refine⟨a,us,rfl,up (.refl _) g1.le,q _ H1 F1 g1 ⟨λi H' F' s1 s2 hi=>?_,λi H' F' x H'' s1 s2 _ hi y=>?_,λH' F' s1 s2=>?_⟩⟩
   ·rw[ξx]at hi;exact⟨⋯,us,up s1 s2,rfl⟩
   ·obtain⟨rfl,y⟩:=y;rw[ξx]at hi;have q1:=y us (up s1 s2);obtain⟨d,hd,hp⟩:=zr.get' h2 q1;exact⟨d,F',by rw[List.getElem?_reverse hi,←l1]; exact hd,.refl s2,yE s1 hp⟩
   ·rw[ξx];exact⟨⋯,us,up s1 s2⟩
def t9(js:List (Option Nat))(Γ:Ctx):Ctx:=js.map λo=>match o with | none=>none | some j=>(Γ[j]?).join
theorem tR{i:Nat}(h:(t9 js Γ)[i]?=some (some d)):∃j,js[i]?=some (some j)∧Γ[j]?=some (some d):=by
 unfold t9 at h;rw[ζo]at h;cases e:js[i]? with
 | none=>rw[e]at h; cases h
 | some o =>
  rw[e]at h;cases o with
  | none=>cases h
  | some j =>
   refine⟨j,rfl,?_⟩
   have h':(Γ[j]?).join=some d:=ζr h;cases q:Γ[j]? with
   | none=>rw[q]at h'; cases h'
   | some o=>rw[q]at h'; exact congrArg some h'
theorem Z1{i j:Nat}(h:js[i]?=some (some j))(k:σ[j]?=some (some v)):(capt js σ)[i]?=some (some v):=by
 unfold capt;rw[ζo,h];show some ((σ[j]?).join)=_;rw[k]; rfl
theorem DEnv.capt{H0 F0 H F:Hp}{σ:St}{js:List (Option Nat)}(e:DEnv K S H0 F0 H F σ Γ)(hj:∀i j k:Nat,js[i]?=some (some k)→js[j]?=some (some k)→i=j):DEnv K S H0 F0 H F (L2.capt js σ) (t9 js Γ):=by
 refine⟨e.gr,e.l0,e.sd,e.s0,by unfold L2.capt t9; simp,λi d h=>?_,λi j x y v w a h1 h2 h3 h4 o1 o2=>?_⟩
 ·obtain⟨j,e1,e2⟩:=tR h;obtain⟨v,e3,e4⟩:=e.has j d e2;exact⟨v,Z1 e1 e3,e4⟩
 ·obtain⟨m,e1,e2⟩:=tR h1;obtain⟨n,e3,e4⟩:=tR h2;obtain⟨v1,q1,_⟩:=e.has m x e2;obtain⟨v2,q2,_⟩:=e.has n y e4;have c1:=Z1 (σ:=σ) e1 q1;have c2:=Z1 (σ:=σ) e3 q2;rw[h3]at c1;rw[h4]at c2;cases c1;cases c2;have:=e.ne m n x y v w a e2 e4 q1 q2 o1 o2;subst this;exact hj i j m e1 e3
theorem zbd(p:AD→Bool)(f:AD→AD)(hi:EvI K S κ' wi Γ ds)(hjs:∀i∈is,js[i]?=some none)(hj:∀i j k:Nat,js[i]?=some (some k)→js[j]?=some (some k)→i=j)
  (hz:ds.length≤sizeLine) (hb:∀d∈ds,ExG K S κ' g is d (t9 js Γ) λΓ'=>EvT K S tt Γ' (p d)∧(p d=true→EvE K S κ te Γ' (f d))):EvO K S κ (ux js wi g tt te) Γ ((ds.filter p).map f):=λH0 F0 H F σ e Q q =>
 hi H0 F0 H F σ e _ λJ H1 F1 g1 I1=>by
  intro D hD;have sdm:∀{H2 F2:Hp},Gr H1 F1 H2 F2→∀a,S.has H0 a→∃o,H2 a=some o:=λg2 a c=>let⟨o,z⟩:=(e.mono g1).sd a c; ⟨o,g2.h _ _ z⟩;refine⟨λi m ys H2=>m=ds.length - i∧i≤ds.length∧∃F2,Gr H1 F1 H2 F2∧H2 D=some (.lst ys)∧F2 D=none∧zr K κ S H0 F2 ys (((ds.take i).filter p).map f),⟨_,rfl,ξn _,F1,.newO g1.le hD _,zp,g1.le.free hD,.nil⟩,?_⟩
  rintro i m ys H2 ⟨rfl,hi,F2,g2,hl,fl,k2⟩;by_cases hlt:i < ds.length
  ·refine .inr ⟨I1.go i H2 F2 g2.f g2.le hlt,λzs H3=>i + 1≤ds.length∧∃F2,Gr H1 F1 H3 F2∧H3 D=some (.lst zs)∧F2 D=none∧zr K κ S H0 F2 zs (((ds.take (i + 1)).filter p).map f),λzs H3 h3=>⟨ds.length - (i + 1),⋯,rfl,h3⟩,λx H3 y=>?_⟩;obtain⟨d,F3,hd,g3,p3⟩:=I1.yld i H2 F2 x H3 g2.f g2.le (sdm g2) hlt y;have hl3:=g3.h _ _ hl;have fl3:=g3.ap _ _ hl fl;have E3:=((e.mono g1).mono (g2.trans g3)).capt hj;refine hb d (ζf hd) H0 F0 H3 F3 _ x E3 p3 _ λΓ' σ' H4 F4 hΓ g4 E4 len4 out4=>?_;obtain⟨ht,he⟩:=hΓ;have hl4:=g4.h _ _ hl3;have fl4:=g4.ap _ _ hl3 fl3;have tk:ds.take (i + 1)=ds.take i ++ [d]:=by rw[List.take_add_one,hd]; rfl
   refine⟨⟨len4.symm,λj v hv=>?_⟩,ht H0 F0 H4 F4 σ' E4 _ λH5 F5 g5=>?_⟩
   ·by_cases hjj:j∈is
    ·have:=hjs j hjj;unfold L2.capt at hv;rw[ζo,this]at hv;cases hv
    ·rw[out4 j hjj]; exact hv
   have hl5:=g5.h _ _ hl4;have fl5:=g5.ap _ _ hl4 fl4;cases hpd:p d with
   | false =>
    refine iteF ⟨hlt,F5,g2.trans ((g3.trans g4).trans g5),hl5,fl5,?_⟩;rw[tk,ζW,ζy];simp only[List.filter_cons,hpd,List.filter_nil];simpa using zF ((g3.trans g4).trans g5).f k2
   | true =>
    refine iteT (he hpd H0 F0 H5 F5 σ' (E4.mono g5) _ λv H6 F6 g6 p6=>?_);have hl6:=g6.h _ _ hl5;have fl6:=g6.ap _ _ hl5 fl5;have gg:=(g3.trans g4).trans (g5.trans g6);have G6:=g2.trans gg;refine⟨hl6,?_,hlt,F6,⟨λb u z=>?_,G6.f,λb u z=>?_,G6.ap⟩,zp,fl6,?_⟩
    ·have h1:=zr.length k2;rw[ζa]at h1;have h2:=ζP p (ds.take i);rw[ζJ]at h2;omega
    ·rw[zC (zN z hD)]; exact G6.h _ _ z
    ·rw[zC (by rintro rfl; rw[fl6]at z; cases z)]; exact G6.le _ _ z
    ·rw[tk,ζW,ζy];simp only[List.filter_cons,hpd,List.filter_nil,if_true,List.map_cons,List.map_nil];exact zr.append (zF gg.f k2) (.cons p6 .nil)
  ·have ei:i=ds.length:=by omega
   subst ei;rw[ζ3]at k2;exact .inl ⟨I1.stop H2 F2 g2.f g2.le,q D ys H2 F2 (g1.trans g2) (g1.h.free hD) hl fl k2⟩
structure Post where
 nx:Ctx→Prop
 rt:AD→Prop
 bk:Ctx→Prop:=λ_=>False
 ct:Ctx→Prop:=λ_=>False
 kr:Bool:=false
structure Into(K:ζc)(S:Sx)(H0 F0 B:Hp)(P:Post)(D:Ends):Prop where
 nx:∀Γ' σ' H' F',P.nx Γ'→Same B F'→DEnv K S H0 F0 H' F' σ' Γ'→D.nx σ' H'
 rt:∀d v H' F',P.rt d→Gr H0 F0 H' F'→Rp K P.kr .fresh H0 F' v d→D.rt v H'
 bk:∀Γ' σ' H' F',P.bk Γ'→Same B F'→DEnv K S H0 F0 H' F' σ' Γ'→D.bk σ' H'
 ct:∀Γ' σ' H' F',P.ct Γ'→Same B F'→DEnv K S H0 F0 H' F' σ' Γ'→D.ct σ' H'
def zfN(S:Sx)(B:Hp):Prop:=∀T,S=.spoil T→∀a xs,B a=some (.lst xs)→¬T a
def ExT(K:ζc)(S S':Sx)(t:TS)(Γ:Ctx)(P:Post):Prop:=∀(H0 F0 H F:Hp) (σ:St) (B:Hp),DEnv K S H0 F0 H F σ Γ→Same B F→(S'=S∨zfN S B)→∀D:Ends,Into K S' H0 F0 B P D→t D σ H
abbrev ExS(K:ζc)(S:Sx)(t:TS)(Γ:Ctx)(P:Post):Prop:=ExT K S S t Γ P
variable {S':Sx}
variable {P:Post}
theorem yj(h:P.nx Γ):ExS K S Wj Γ P:=λH0 F0 H F σ B e b _ D I=>I.nx Γ σ H F h b e
theorem yr(N:Ctx→Prop)(h1:ExT K S S t Γ { P with nx:=N,bk:=λ_=>False,ct:=λ_=>False })(h2:∀Γ',N Γ'→ExT K S S' u Γ' P):ExT K S S' (tSeq t u) Γ P:=λH0 F0 H F σ B e b v D I =>
 h1 H0 F0 H F σ B e b (.inl rfl) { D with nx:=u D } ⟨λΓ' σ' H' F' n s e'=>h2 Γ' n H0 F0 H' F' σ' B e' s v D I,I.rt,λ_ _ _ _ z=>z.elim,λ_ _ _ _ z=>z.elim⟩
theorem Qc(h:¬S.has H0 a):¬Sx.has .fresh H0 a:=by
 cases S with
 | fresh=>exact h
 | spoil T=>exact λc=>h (.inl c)
theorem zae(hk:(S=S∧κ=kr)∨kr=false)(p:Rp K κ S H0 F v d):Rp K kr .fresh H0 F v d:=by
 rcases hk with⟨_,rfl⟩ | rfl
 ·cases κ with
  | false=>exact uf (xa p)
  | true=>exact wR (κ:=true) (κ':=true) (λa xs z=>⟨z.1,Qc z.2⟩) (λ_ _ z=>z) p
 ·exact uf (xa p)
theorem zR(κ:Bool)(h:EvE K S κ te Γ d)(hr:P.rt d)(hk:(S=S∧κ=P.kr)∨P.kr=false):ExT K S S' (tRet te) Γ P:=λH0 F0 H F σ B e b _ D I=>h H0 F0 H F σ e _ λv H' F' g p=>I.rt d v H' F' hr (e.gr.trans g) (zae hk p)
theorem YL(i:Nat)(h:Γ[i]?=some (some (.ow κ ds)))(k:ExT K S S' t (Γ.set i (some (.fz κ (.list ds)))) P):ExT K S S' t Γ P:=λH0 F0 H F σ B e b v D I=>by
 obtain⟨F',s,e'⟩:=e.freeze h;exact k H0 F0 H F' σ B e' (b.trans s) v D I
theorem zcX(h:Γ[i]?=some (some (.ow κ ds)))(hr:P.rt (.list ds))(hk:(S=S∧κ=P.kr)∨P.kr=false):ExT K S S' (tRet (tVar i)) Γ P :=
 YL i h (zR κ (VZ (by rw[ζu (ζh.mp h).1])) hr hk)
theorem zbb(h:EvE K S κ te Γ d)(k:P.nx (Γ.set i (some (.fz κ d)))):ExS K S (tAsg te (yG i)) Γ P:=λH0 F0 H F σ B e b _ D I =>
 h H0 F0 H F σ e _ λv H' F' g p=>I.nx _ _ H' F' k (b.trans g.f) ((e.mono g).setF p)
theorem U5(h:EvO K S κ te Γ ds)(k:P.nx (Γ.set i (some (.ow κ ds)))):ExS K S (tAsg te (yG i)) Γ P:=λH0 F0 H F σ B e b _ D I =>
 h H0 F0 H F σ e _ λa vs H' F' g n p f q=>I.nx _ _ H' F' k (b.trans g.f) ((e.mono g).set (x:=.ow κ ds) ⟨a,vs,rfl,⟨p,f,e.gr.h.free n,e.out n⟩,q⟩ λc oc j y w hj z hw o=>by
  cases(show V.ref a=.ref c from oc);obtain⟨v,q1,q2⟩:=e.has j y z;rw[hw]at q1;cases q1;obtain⟨us,w1⟩:=q2.owns (o.back q2 λ_ _ z=>g.h _ _ z.h);have:=w1.h;rw[n]at this; cases this)
theorem zeK(h:EvE K S κ te Γ d)(hg:ExG K S κ g js d Γ P.nx):ExS K S (tAsg te g) Γ P:=λH0 F0 H F σ B e b _ D I =>
 h H0 F0 H F σ e _ λv H1 F1 g1 p1=>hg H0 F0 H1 F1 σ v (e.mono g1) p1 _ λΓ' σ' H' F' n g2 e' _ _=>I.nx Γ' σ' H' F' n (b.trans (g1.f.trans g2.f)) e'
theorem zcY(h:EvE K S κ te Γ d)(k:P.nx Γ):ExS K S (x6 te) Γ P:=λH0 F0 H F σ B e b _ D I =>
 h H0 F0 H F σ e _ λv H' F' g p=>I.nx _ _ H' F' k (b.trans g.f) (e.mono g)
theorem YM(h:Γ[i]?=some (some (.ow κ ds)))(he:EvE K S κ te Γ d)(hz:ds.length < sizeLine)(k:P.nx (Γ.set i (some (.ow κ (ds ++ [d]))))):ExS K S (x6 (tBM K "list" vP (tVar i) (zX te tNil))) Γ P:=λH0 F0 H F σ B e b _ D I=>by
 obtain⟨v0,q1,a,vs,rfl,w,q5⟩:=e.has i _ h;refine⟨_,q1,.inl ⟨rfl,_,SqL.of w.h⟩,he H0 F0 H F σ e _ λv H' F' g p=>?_⟩
 have k':=zF g.f q5;refine⟨a,vs,v,rfl,rfl,g.h _ _ w.h,by rw[zr.length q5]; exact hz,?_⟩
 exact I.nx _ _ _ F' k (b.trans g.f) ((e.mono g).put (y:=.ow κ (ds ++ [d])) h q1 (show Owns H' (.ref a) (.ow κ ds) a from rfl) ⟨a,_,rfl,⟨zp,(w.mono g).f,w.n,w.s⟩,zr.append k' (.cons p .nil)⟩ λ_ z=>z)
theorem ZS(h:Γ[i]?=some (some (.ow κ ds)))(he:EvE K S κ te Γ d)(hi:EvE K S false ti Γ (.int m))(hm:ixN ds.length m=some j)(k:P.nx (Γ.set i (some (.ow κ (ds.set j d))))):
  ExS K S (tAsg te (gSub (tVar i) ti Uy)) Γ P:=λH0 F0 H F σ B e b _ D I=>by
 obtain⟨v0,q1,a,vs,rfl,w,q5⟩:=e.has i _ h;refine he H0 F0 H F σ e _ λv H1 F1 g1 p1=>⟨_,q1,hi H0 F0 H1 F1 σ (e.mono g1) _ λw' H2 F2 g2 p2=>?_⟩
 cases yw p2;have k':=zF (g1.trans g2).f q5;refine⟨a,vs,m,j,rfl,rfl,(g1.trans g2).h _ _ w.h,by rw[zr.length q5]; exact hm,?_⟩
 exact I.nx _ _ _ F2 k (b.trans (g1.trans g2).f) ((e.mono (g1.trans g2)).put (y:=.ow κ (ds.set j d)) h q1 (show Owns H2 (.ref a) (.ow κ ds) a from rfl) ⟨a,_,rfl,⟨zp,(w.mono (g1.trans g2)).f,w.n,w.s⟩,zr.set (yE g2.f p1) _ k'⟩ λ_ z=>z)
theorem wK(hc:EvT K S c Γ b)(h1:b=true→ExT K S S' t Γ P)(h2:b=false→ExT K S S' u Γ P):ExT K S S' (tIfS c t u) Γ P:=λH0 F0 H F σ B e bb v D I =>
 hc H0 F0 H F σ e _ λH' F' g=>by
  cases b with
  | true=>exact iteT (h1 rfl H0 F0 H' F' σ B (e.mono g) (bb.trans g.f) v D I)
  | false=>exact iteF (h2 rfl H0 F0 H' F' σ B (e.mono g) (bb.trans g.f) v D I)
theorem tO(κ:Bool)(Iv:Nat→Ctx→Prop)(hi:EvI K S κ wi Γ ds)(h0:Iv 0 Γ)
  (hs:∀i d Γ',ds[i]?=some d→Iv i Γ'→∃js,ExG K S κ g js d Γ' λΓ''=>ExS K S tb Γ'' { nx:=Iv (i + 1),rt:=P.rt,bk:=P.nx,ct:=Iv (i + 1),kr:=P.kr }) (hd:∀Γ',Iv ds.length Γ'→P.nx Γ'):ExS K S (tFor wi g tb) Γ P:=λH0 F0 H F σ B e b _ D I =>
 hi H0 F0 H F σ e _ λJ H1 F1 g1 I1=>by
  refine⟨λi m σ2 H2=>m=ds.length - i∧i≤ds.length∧∃Γ2 F2,Iv i Γ2∧Same F1 F2∧DEnv K S H0 F0 H2 F2 σ2 Γ2,⟨_,rfl,ξn _,Γ,F1,h0,.refl _,e.mono g1⟩,?_⟩
  rintro i m σ2 H2 ⟨rfl,hi,Γ2,F2,v2,s2,e2⟩;have b1:Same B F1:=b.trans g1.f;by_cases hlt:i < ds.length
  ·refine .inr ⟨I1.go i H2 F2 s2 e2.le hlt,λσ3 H3=>i + 1≤ds.length∧∃Γ3 F3,Iv (i + 1) Γ3∧Same F1 F3∧DEnv K S H0 F0 H3 F3 σ3 Γ3,λσ3 H3 h3=>⟨_,⋯,rfl,h3⟩,λx H3 y=>?_⟩;obtain⟨d,F3,hd,g3,p3⟩:=I1.yld i H2 F2 x H3 s2 e2.le e2.sd hlt y;obtain⟨js,hg⟩:=hs i d Γ2 hd v2;refine hg H0 F0 H3 F3 σ2 x (e2.mono g3) p3 _ λΓ' σ' H4 F4 k4 g4 e4 _ _=>?_;have s4:Same F1 F4:=s2.trans (g3.f.trans g4.f);exact k4 H0 F0 H4 F4 σ' F1 e4 s4 (.inl rfl) _ ⟨λΓ5 σ5 H5 F5 n s5 e5=>⟨hlt,Γ5,F5,n,s5,e5⟩,I.rt,λΓ5 σ5 H5 F5 n s5 e5=>I.nx Γ5 σ5 H5 F5 n (b1.trans s5) e5,λΓ5 σ5 H5 F5 n s5 e5=>⟨hlt,Γ5,F5,n,s5,e5⟩⟩
  ·have ei:i=ds.length:=by omega
   subst ei;exact .inl ⟨I1.stop H2 F2 s2 e2.le,I.nx Γ2 σ2 H2 F2 (hd Γ2 v2) (b1.trans s2) e2⟩
theorem wJ(Iv:Nat→Ctx→Prop)(m0:Nat)(h0:Iv m0 Γ)
  (hs:∀m Γ',Iv m Γ'→∃b,EvT K S c Γ' b∧(b=true→ExS K S tb Γ' { nx:=λΓ''=>∃m',m' < m∧Iv m' Γ'',rt:=P.rt,bk:=P.nx,ct:=λΓ''=>∃m',m' < m∧Iv m' Γ'',kr:=P.kr })∧(b=false→P.nx Γ')):ExS K S (QU c tb) Γ P:=λH0 F0 H F σ B e bb _ D I=>by
 refine⟨λm σ2 H2=>∃Γ2 F2,Iv m Γ2∧Same B F2∧DEnv K S H0 F0 H2 F2 σ2 Γ2,⟨m0,Γ,F,h0,bb,e⟩,?_⟩
 rintro m σ2 H2 ⟨Γ2,F2,v2,s2,e2⟩;obtain⟨b,hc,h1,h2⟩:=hs m Γ2 v2;refine hc H0 F0 H2 F2 σ2 e2 _ λH3 F3 g3=>?_;have s3:=s2.trans g3.f;cases b with
 | true =>
  refine iteT ⟨λσ4 H4=>∃m',m' < m∧∃Γ4 F4,Iv m' Γ4∧Same B F4∧DEnv K S H0 F0 H4 F4 σ4 Γ4,λσ4 H4 ⟨m',hm,h⟩=>⟨m',hm,h⟩,?_⟩;exact h1 rfl H0 F0 H3 F3 σ2 B (e2.mono g3) s3 (.inl rfl) _ ⟨λΓ5 σ5 H5 F5 ⟨m',hm,n⟩ s5 e5=>⟨m',hm,Γ5,F5,n,s5,e5⟩,I.rt,λΓ5 σ5 H5 F5 n s5 e5=>I.nx Γ5 σ5 H5 F5 n s5 e5,λΓ5 σ5 H5 F5 ⟨m',hm,n⟩ s5 e5=>⟨m',hm,Γ5,F5,n,s5,e5⟩⟩
 | false=>exact iteF (I.nx Γ2 σ2 H3 F3 (h2 rfl) s3 (e2.mono g3))
def vo(n:Nat)(ds:AG):Ctx:=ds.map (λd=>some (.fz false d)) ++ List.replicate (n - ds.length) none
theorem x4(le:Same F H)(k:zT K F vs ds):DEnv K .fresh H F H F (L2.yI N vs) (vo N.length ds):=by
 have l:=zT.length k;have no:∀(i:Nat) (x:DV),(vo N.length ds)[i]?=some (some x)→∃d,x=.fz false d∧ds[i]?=some d:=λi x h=>by
  unfold vo at h;by_cases hi:i < ds.length
  ·rw[List.getElem?_append_left (by simpa using hi),List.getElem?_map]at h;rw[ζd hi]at h ⊢;have h':some (DV.fz false ds[i])=some x:=ζr h;exact⟨_,(ζr h').symm,rfl⟩
  ·rw[List.getElem?_append_right (by simpa using Nat.le_of_not_lt hi)]at h;rw[List.getElem?_replicate]at h;split at h <;> cases h
 refine⟨.refl le,le,λa c=>?_,λT z=>(nomatch z),by unfold L2.yI vo; simp[l],λi x h=>?_,λi j x y v w a h _ _ _ o=>?_⟩
 ·cases q:H a with
  | none=>exact absurd q c
  | some o=>exact⟨o,rfl⟩
 ·obtain⟨d',e,h'⟩:=no i _ h;cases e;obtain⟨v,h1,h2⟩:=zT.get k h';refine⟨v,?_,uf h2⟩
  unfold L2.yI;have hi:=(ζh.mp h1).1;rw[List.getElem?_append_left (by simpa using hi),List.getElem?_map,h1];rfl
 ·obtain⟨d',e,_⟩:=no i _ h;cases e;exact o.elim
theorem Q7(hΓ:vo N.length ds=Γ)(h:ExS K .fresh t Γ { nx:=λ_=>d=.none,rt:=λx=>x=d,kr:=κ })(le:Same F H)(k:zT K F vs ds)
  (q:∀v H' F',Gr H F H' F'→Rp K κ .fresh H F' v d→Q v H'):t { nx:=λ_ H'=>Q .non H',rt:=Q } (L2.yI N vs) H:=by
 subst hΓ;refine h H F H F (L2.yI N vs) F (x4 le k) (.refl _) (.inl rfl) _ ⟨λΓ' σ' H' F' n _ e=>?_,λd' v H' F' e g p=>?_,λ_ _ _ _ z=>z.elim,λ_ _ _ _ z=>z.elim⟩
 ·have n':d=.none:=n;subst n';exact q .non H' F' e.gr .non
 ·have e':d'=d:=e;subst e';exact q v H' F' g p
theorem zI(h:∀ds d,pre ds d→ds.length=n)(s:spD K κ pre vs H Q E):vs.length=n:=by
 obtain⟨F,ds,d,_,k,p,_⟩:=s;rw[zT.length k];exact h ds d p
def zdF:Option HO→Bool
 | some (.lst _)=>true
 | _=>false
open Classical in
noncomputable def drop(T:Addr→Prop)(F:Hp):Hp:=λa=>if T a∧zdF (F a)=true then none else F a
theorem yL:drop T F a=some o↔F a=some o∧¬(T a∧zdF (some o)=true):=by
 unfold drop;constructor
 ·intro h;split at h
  ·cases h
  ·rename_i c; rw[h]at c; exact⟨h,c⟩
 ·rintro⟨h,c⟩;rw[h,if_neg c]
end
inductive SetC:Ctx→Nat→Option DV→Ctx→Prop
 | zero {a x:Option DV} {l:Ctx}:SetC (a :: l) 0 x (x :: l)
 | succ {a x:Option DV} {l l':Ctx} {i:Nat}:SetC l i x l'→SetC (a :: l) (i + 1) x (a :: l')
theorem SetC.eq(h:SetC Γ i x Γ'):Γ.set i x=Γ':=by
 induction h with
 | zero=>rfl
 | succ _ ih=>rw[List.set_cons_succ,ih]
inductive GetC:Ctx→Nat→DV→Prop
 | zero {x:DV} {l:Ctx}:GetC (some x :: l) 0 x
 | succ {a:Option DV} {x:DV} {l:Ctx} {i:Nat}:GetC l i x→GetC (a :: l) (i + 1) x
theorem GetC.eq(h:GetC Γ i x):Γ[i]?=some (some x):=by
 induction h with
 | zero=>rfl
 | succ _ ih=>rw[List.getElem?_cons_succ,ih]
inductive x5:List (Option Nat)→Ctx→Ctx→Prop
 | nil {Γ:Ctx}:x5 [] Γ []
 | no {js:List (Option Nat)} {Γ Γ':Ctx}:x5 js Γ Γ'→x5 (none :: js) Γ (none :: Γ')
 | got {js:List (Option Nat)} {Γ Γ':Ctx} {j:Nat} {x:DV}:GetC Γ j x→x5 js Γ Γ'→x5 (some j :: js) Γ (some x :: Γ')
theorem x5.eq(h:x5 js Γ Γ'):t9 js Γ=Γ':=by
 induction h with
 | nil=>rfl
 | no _ ih =>
  unfold t9 at ih ⊢;rw[ζH,ih]
 | got g _ ih =>
  unfold t9 at ih ⊢;rw[ζH,ih];show(Option.join _ :: _)=_;rw[g.eq];rfl
section
variable {K:ζc}{S S':Sx}{κ κ':Bool}{Γ Γ' Γ'':Ctx}{P:Post}
theorem evv(h:GetC Γ i (.fz κ' d))(hk:κ=true→κ'=true):EvE K S κ (tVar i) Γ d:=(VZ h.eq).weak hk
theorem evi(h:GetC Γ i (.fz κ' d))(hk:imm d=true):EvE K S κ (tVar i) Γ d:=(VZ h.eq).imm hk
theorem EvL.weak(h:EvL K S κ' t Γ ds)(hk:κ=true→κ'=true):EvL K S κ t Γ ds:=λH0 F0 H F σ e Q q=>h H0 F0 H F σ e Q λa vs H' F' g p k=>q a vs H' F' g p (by
 cases κ with
 | false=>exact uZ (zM k)
 | true=>rw[hk rfl]at k; exact k)
theorem evw(h:GetC Γ i (.ow κ' ds))(hk:κ=true→κ'=true):EvL K S κ (tVar i) Γ ds:=(zc0 h.eq).weak hk
theorem exs(κ:Bool)(h:EvE K S κ te Γ d)(e:SetC Γ i (some (.fz κ d)) Γ')(k:ExT K S S' u Γ' P):ExT K S S' (tSeq (tAsg te (yG i)) u) Γ P:=yr (·=Γ') (zbb h e.eq) λ_ z=>z ▸ k
theorem exs1(κ:Bool)(h:EvE K S κ te Γ d)(e:SetC Γ i (some (.fz κ d)) Γ')(k:P.nx Γ'):ExS K S (tAsg te (yG i)) Γ P:=zbb h (e.eq ▸ k)
theorem exo(κ:Bool)(h:EvO K S κ te Γ ds)(e:SetC Γ i (some (.ow κ ds)) Γ')(k:ExT K S S' u Γ' P):ExT K S S' (tSeq (tAsg te (yG i)) u) Γ P:=yr (·=Γ') (U5 h e.eq) λ_ z=>z ▸ k
theorem exo1(κ:Bool)(h:EvO K S κ te Γ ds)(e:SetC Γ i (some (.ow κ ds)) Γ')(k:P.nx Γ'):ExS K S (tAsg te (yG i)) Γ P:=U5 h (e.eq ▸ k)
theorem exa(h:GetC Γ i (.ow κ ds))(he:EvE K S κ te Γ d)(e:SetC Γ i (some (.ow κ (ds ++ [d]))) Γ')(hz:ds.length < sizeLine)(k:ExT K S S' u Γ' P):ExT K S S' (tSeq (x6 (tBM K "list" vP (tVar i) (zX te tNil))) u) Γ P:=yr (·=Γ') (YM h.eq he hz e.eq) λ_ z=>z ▸ k
theorem exa1(h:GetC Γ i (.ow κ ds))(he:EvE K S κ te Γ d)(e:SetC Γ i (some (.ow κ (ds ++ [d]))) Γ')(hz:ds.length < sizeLine)(k:P.nx Γ'):ExS K S (x6 (tBM K "list" vP (tVar i) (zX te tNil))) Γ P:=YM h.eq he hz (e.eq ▸ k)
theorem exi(h:GetC Γ i (.ow κ ds))(he:EvE K S κ te Γ d)(hi:EvE K S false ti Γ (.int m))(hm:ixN ds.length m=some j)(e:SetC Γ i (some (.ow κ (ds.set j d))) Γ')(k:ExT K S S' u Γ' P):ExT K S S' (tSeq (tAsg te (gSub (tVar i) ti Uy)) u) Γ P:=yr (·=Γ') (ZS h.eq he hi hm e.eq) λ_ z=>z ▸ k
theorem exi1(h:GetC Γ i (.ow κ ds))(he:EvE K S κ te Γ d)(hi:EvE K S false ti Γ (.int m))(hm:ixN ds.length m=some j)(e:SetC Γ i (some (.ow κ (ds.set j d))) Γ')(k:P.nx Γ'):ExS K S (tAsg te (gSub (tVar i) ti Uy)) Γ P:=ZS h.eq he hi hm (e.eq ▸ k)
theorem exfz(i:Nat)(h:GetC Γ i (.ow κ ds))(e:SetC Γ i (some (.fz κ (.list ds))) Γ')(k:ExT K S S' t Γ' P):ExT K S S' t Γ P:=YL i h.eq (by rw[e.eq]; exact k)
theorem egn(e:SetC Γ i (some (.fz κ d)) Γ')(h:k Γ'):ExG K S κ (yG i) [i] d Γ k:=zc8 (by rw[e.eq]; exact h)
theorem egt(e1:SetC Γ i (some (.fz κ x)) Γ')(e2:SetC Γ' j (some (.fz κ y)) Γ'')(h:k Γ''):ExG K S κ (gTup K 2 (t8 (yG i) (t8 (yG j) gNil))) [i,j] (.tuple [x,y]) Γ k:=zeY (by rw[e1.eq,e2.eq]; exact h)
theorem exro(h:GetC Γ i (.ow κ ds))(hr:P.rt (.list ds))(hk:(S=S∧κ=P.kr)∨P.kr=false):ExT K S S' (tRet (tVar i)) Γ P:=zcX h.eq hr hk
theorem exif(N:Ctx→Prop)(hc:EvT K S c Γ b)(h1:b=true→ExS K S t Γ { P with nx:=N,bk:=λ_=>False,ct:=λ_=>False })(h2:b=false→ExS K S u Γ { P with nx:=N,bk:=λ_=>False,ct:=λ_=>False })(k:∀Γ',N Γ'→ExT K S S' v Γ' P):ExT K S S' (tSeq (tIfS c t u) v) Γ P:=yr N (wK hc h1 h2) k
theorem U4(hc:EvT K S c Γ b)(h1:b=true→ExT K S S' (tSeq t v) Γ P)(h2:b=false→ExT K S S' (tSeq u v) Γ P):ExT K S S' (tSeq (tIfS c t u) v) Γ P:=λH0 F0 H F σ B e bb vv D I=>by
 refine hc H0 F0 H F σ e _ λH' F' g=>?_;cases b with
 | true=>exact iteT (h1 rfl H0 F0 H' F' σ B (e.mono g) (bb.trans g.f) vv D I)
 | false=>exact iteF (h2 rfl H0 F0 H' F' σ B (e.mono g) (bb.trans g.f) vv D I)
theorem exn(k:ExT K S S' v Γ P):ExT K S S' (tSeq Wj v) Γ P:=yr (·=Γ) (yj rfl) λ_ z=>z ▸ k
theorem uW(hc:EvT K S c Γ b)(hb:b=false)(k:ExT K S S' v Γ P):ExT K S S' (tSeq (tIfS c t Wj) v) Γ P:=U4 hc (λh=>by rw[hb]at h; cases h) λ_=>exn k
theorem yK(κ:Bool)(Iv:Nat→Ctx→Prop)(hi:EvI K S κ wi Γ ds)(h0:Iv 0 Γ)
  (hs:∀i d Γ',ds[i]?=some d→Iv i Γ'→∃js,ExG K S κ g js d Γ' λΓ''=>ExS K S tb Γ'' { nx:=Iv (i + 1),rt:=P.rt,bk:=Iv ds.length,ct:=Iv (i + 1),kr:=P.kr }) (hd:∀Γ',Iv ds.length Γ'→ExT K S S' u Γ' P):ExT K S S' (tSeq (tFor wi g tb) u) Γ P:=yr (Iv ds.length) (tO κ Iv hi h0 hs λ_ h=>h) hd
theorem exrs(κ:Bool)(h:EvE K S κ te Γ d)(hr:P.rt d)(hk:(S=S∧κ=P.kr)∨P.kr=false):ExT K S S' (tSeq (tRet te) v) Γ P:=yr (λ_=>False) (zR κ h hr hk) λ_ z=>z.elim
theorem vX(κ':Bool)(p:AD→Bool)(f:AD→AD)(hi:EvI K S κ' wi Γ ds)(hc:x5 js Γ Γc)(hjs:(is.all λi=>js[i]? == some none)=true)
  (hj:(js.filterMap id).Nodup) (hz:ds.length≤sizeLine) (hb:∀d∈ds,ExG K S κ' g is d Γc λΓ'=>EvT K S tt Γ' (p d)∧(p d=true→EvE K S κ te Γ' (f d))):EvO K S κ (ux js wi g tt te) Γ ((ds.filter p).map f):=by
 refine zbd p f hi (λi hi=>?_) ?_ hz (by rw[hc.eq]; exact hb)
 ·have:=ξJ.mp hjs i hi;simpa using this
 ·intro i j k h1 h2;clear hc hjs hi hb;induction js generalizing i j with
  | nil=>simp at h1
  | cons o js ih =>
   cases o with
   | none =>
    cases i with
    | zero=>simp at h1
    | succ i =>
     cases j with
     | zero=>simp at h2
     | succ j=>rw[ih (by simpa using hj) i j (by simpa using h1) (by simpa using h2)]
   | some m =>
    have hj':(m :: js.filterMap id).Nodup:=by simpa using hj
    have hm:=(ζ5.mp hj').1;cases i with
    | zero =>
     cases j with
     | zero=>rfl
     | succ j =>
      have e1:m=k:=by simpa using h1
      subst e1;have h2':js[j]?=some (some m):=by simpa using h2
      exact absurd (show m∈js.filterMap id from ξU.mpr ⟨some m,ζf h2',rfl⟩) hm
    | succ i =>
     cases j with
     | zero =>
      have e1:m=k:=by simpa using h2
      subst e1;have h2':js[i]?=some (some m):=by simpa using h1
      exact absurd (show m∈js.filterMap id from ξU.mpr ⟨some m,ζf h2',rfl⟩) hm
     | succ j=>rw[ih (List.nodup_cons.mp hj').2 i j (by simpa using h1) (by simpa using h2)]
theorem vW(κ':Bool)(f:AD→AD)(hi:EvI K S κ' wi Γ ds)(hc:x5 js Γ Γc)(hjs:(is.all λi=>js[i]? == some none)=true)
  (hj:(js.filterMap id).Nodup) (hz:ds.length≤sizeLine) (hb:∀d∈ds,ExG K S κ' g is d Γc λΓ'=>EvE K S κ te Γ' (f d)):EvO K S κ (ux js wi g tYes te) Γ (ds.map f):=by
 have h:=vX (K:=K) (S:=S) (κ:=κ) (g:=g) (tt:=tYes) (te:=te) (is:=is) κ' (λ_=>true) f hi hc hjs hj hz λd hd H0 F0 H F σ v e p Q q=>hb d hd H0 F0 H F σ v e p Q λΓ' σ' H' F' k=>q Γ' σ' H' F' ⟨zbo,λ_=>k⟩
 rwa [List.filter_eq_self.mpr (λ_ _=>rfl)]at h
end
inductive xg:Nat→AG→Ctx→Prop
 | z:xg 0 [] []
 | no {n:Nat} {Γ:Ctx}:xg n [] Γ→xg (n + 1) [] (none :: Γ)
 | got {n:Nat} {d:AD} {ds:AG} {Γ:Ctx}:xg n ds Γ→xg (n + 1) (d :: ds) (some (.fz false d) :: Γ)
theorem xg.eq(h:xg n ds Γ):vo n ds=Γ:=by
 induction h with
 | z=>rfl
 | @no n Γ _ ih =>
  rw[←ih];unfold vo;simp[List.replicate_succ]
 | @got n d ds Γ _ ih =>
  rw[←ih];unfold vo;simp
theorem zcd(le:Same F H)(k:zT K F vs ds)(q:∀v H' F',Gr H F H' F'→Rp K κ .fresh H F' v d→Q v H')(hn:N.length=n)(hΓ:xg n ds Γ)
  (h:ExS K .fresh t Γ { nx:=λ_=>d=.none,rt:=λx=>x=d,kr:=κ }):t { nx:=λ_ H'=>Q .non H',rt:=Q } (L2.yI N vs) H:=Q7 (hn ▸ hΓ.eq) h le k q
section
variable {K:ζc}{S:Sx}{κ:Bool}{Γ:Ctx}
end
theorem asm{p:Prop}(h:p):p:=h
theorem atI0:atI (a :: l) 0=some a:=by
 unfold atI ixN;simp
theorem atI1:atI (a :: b :: l) 1=some b:=by
 unfold atI ixN;have h:(1:Int) < ((a :: b :: l).length:Int):=by simp; omega
 rw[if_pos #[2],if_pos h];rfl
theorem zey(h:PySem.W.kitOne K t c=some b):PySem.W.kitOne K t c=some b:=h
end PD
namespace L2
open PySem PySem.Spec PyProof.Rows
section
variable {X:Cx}{K:ζc}
theorem zJ(hK:X.K=K)(hl:PE X l tl):PI X tg l (U1 K tl):=by subst hK; exact zcp hl
theorem wZ(hK:X.K=K)(hg:Gl X "zip")(hm:X.mg "zip" = none)(ha:PA X [a,b] ta)(he:starEach (a :: [b]) X.env=(false,eval a X.env) :: starEach [b] X.env:=by rfl)
  (hpl:(backTo pos (starEach [b] X.env)).any (·.1)=false:=by rfl):PI X (.Tuple es k tpos) (.Call (.Name "zip" p) [a,b] [] pos) (iZip K ta):=by subst hK; exact zeb hg hm ha he hpl
theorem UJ(hK:X.K=K)(hg:Gl X "reversed")(hm:X.mg "reversed" = none)(ha:PA X [a] ta)(he:starEach (a :: []) X.env=(false,eval a X.env) :: starEach [] X.env:=by rfl):PI X tg (.Call (.Name "reversed" p) [a] [] pos) (iRev K ta):=by
 subst hK; exact zec hg hm ha he
variable {o e:Expr}{es:List Expr}{to:TE}{t:TA}{name:Str}{apos cpos:Pos}{T id:String}{r:V→List V→Hp→VK→Prop}
theorem Xt(hK:X.K=K)(pa:PlainAttrs T)(slot:Slot T name id)(hty:typeOf (.builtin id)=pure (.type "method_descriptor"))(hm:MtR X id r)(ho:PE X o to)
  (hbase:attributeBase o name X.env (eval o X.env)=eval o X.env:=by rfl) (hline:(apos.endLine == cpos.line)=true:=by rfl):PE X (.Call (.Attribute o name apos) [] [] cpos) (tBM0 K T r to):=by subst hK; exact zeh pa slot hty hm ho hbase hline
theorem yo(hK:X.K=K)(pa:PlainAttrs T)(slot:Slot T name id)(hty:typeOf (.builtin id)=pure (.type "method_descriptor"))(hm:MtR X id r)(ho:PE X o to)(ha:PA X (e :: es) t)
  (hbase:attributeBase o name X.env (eval o X.env)=eval o X.env:=by rfl)
  (hfew:((backTo cpos (starEach (e :: es) X.env)).all (λx=>!x.1) && (backToKw cpos (keywordEach [] X.env)).all (λx=>x.1.isSome)
   && decide ((e :: es).length + ([]:List Keyword).length + (if([]:List Keyword).isEmpty then 0 else 1) < 30))=true:=by rfl)
  (hline:(apos.endLine == cpos.line)=true:=by rfl) (hs:starEach (e :: es) X.env=(false,eval e X.env) :: starEach es X.env:=by rfl) (hplain:(backTo cpos (starEach es X.env)).any (·.1)=false:=by rfl):PE X (.Call (.Attribute o name apos) (e :: es) [] cpos) (tBM K T r to t):=by subst hK; exact zfo pa slot hty hm ho ha hbase hfew hline hs hplain
end
end L2
namespace PD
open PySem L2
abbrev il(ns:AE):AD:=.list (ns.map .int)
def optD:Option Int→AD
 | none=>.none
 | some i=>.int i
abbrev vl(vw:List (Option Int)):AD:=.list (vw.map optD)
abbrev lls(ws:AH):AD:=.list (ws.map il)
theorem wI(ns:AE):∀d∈ns.map PyData.int,imm d=true:=λd hd=>by
 obtain⟨n,_,rfl⟩:=ζn.mp hd;rfl
theorem W4(ns:List (Option Int)):∀d∈ns.map optD,imm d=true:=λd hd=>by
 obtain⟨n,_,rfl⟩:=ζn.mp hd;cases n <;> rfl
section
variable {K:ζc}{S:Sx}{κ:Bool}{Γ:Ctx}
theorem zbg{t:TE}{ns:AE}(h:EvE K S false t Γ (.list (ns.map .int))):EvL K S κ t Γ (ns.map .int):=h.toL.imm (wI ns)
theorem zbf{t:TE}{ns:List (Option Int)}(h:EvE K S false t Γ (.list (ns.map optD))):EvL K S κ t Γ (ns.map optD):=h.toL.imm (W4 ns)
end
theorem yP{α:Type}{g:α→AD}{ns:List α}{i:Nat}{d:AD}(h:(ns.map g)[i]?=some d):∃n,ns[i]?=some n∧d=g n:=by
 rw[ζo]at h;cases e:ns[i]? with
 | none=>rw[e]at h; cases h
 | some n=>rw[e]at h; exact⟨n,rfl,(ζr h).symm⟩
theorem tM{α β:Type}{g:α→AD}{h:β→AD}{xs:List α}{ys:List β}{i:Nat}{d:AD}(q:(List.zipWith (λx y=>PyData.tuple [x,y]) (xs.map g) (ys.map h))[i]?=some d):∃x y,xs[i]?=some x∧ys[i]?=some y∧d=.tuple [g x,h y]:=by
 rw[List.getElem?_zipWith,ζo,ζo]at q;cases e1:xs[i]? with
 | none=>rw[e1]at q; cases q
 | some x =>
  cases e2:ys[i]? with
  | none=>rw[e1,e2]at q; cases q
  | some y=>rw[e1,e2]at q; exact⟨x,y,rfl,rfl,(ζr q).symm⟩
theorem xB(h0:-(2 ^ 64) < j)(h1:j < 2 ^ 64):IntMulOk i j:=.of_right (intBits_le_64 h0 h1)
theorem yB{α:Type}{g:α→AD}{xs:List α}{i:Nat}{x:α}(h:xs[i]?=some x):atI (xs.map g) (i:Int)=some (g x):=tj (by rw[ζo,h]; rfl)
theorem vU{n i:Nat}(h:i < n):ixN n (i:Int)=some i:=by
 unfold ixN;rw[if_pos ⋯,if_pos ⋯];simp
theorem yT(h:((List.range n).map λk:Nat=>PyData.int (k:Int))[i]?=some d):i < n∧d=.int i:=by
 rw[ζo]at h;by_cases hi:i < n
 ·rw[ξ5 hi]at h;exact⟨hi,(ζr h).symm⟩
 ·rw[List.getElem?_eq_none (by simp; omega)]at h;cases h
theorem yS(n:Nat):((List.range n).map λk:Nat=>PyData.int (k:Int)).length=n:=by rw[ζa,ζv]
theorem vq(n:Nat):(List.replicate n [PyData.none]).flatten=(List.replicate n (none:Option Int)).map optD:=by
 induction n with
 | zero=>rfl
 | succ n ih=>rw[ξd,ξP,ih,ξd]; rfl
end PD
namespace L2
open PySem PySem.Spec PyProof.Rows
structure Vq(P:Program)(w:World)(K:ζc)(mg:AO)(base:Heap)(CX:CXT)(a:Addr)(ps:AJ)(k:Nat)(sp:Sp):Prop where
 ex:∃fd,FnOk P w K mg base CX k a fd ps sp∧PySem.W.keepIn K (.ref a)=true∧wM K fd ps []
theorem zt.at{P:Program}{w:World}{K:ζc}{mg:AO}{base:Heap}{CX:CXT}{x:Str}{ps:AJ}{k:Nat}{sp:Sp}(C:zt P w K mg base CX x ps k sp){a:Addr}(h:mg x=some (.ref a)):Vq P w K mg base CX a ps k sp:=by
 obtain⟨f,fd,F,hm,hk,hb⟩:=C.ex;rw[h]at hm;cases hm;exact⟨fd,F,hk,hb⟩
section
variable {X:Cx}{CX:CXT}{k:Nat}{ps:AJ}{sp:Sp}{E:XK}{x:Str}{p pos:Pos}{e:Expr}{es:List Expr}{t:TA}
def tFn(i:Nat)(a:Addr)(sp:Sp)(E:XK)(t:TA):TE:=λσ H Q=>σ[i]?=some (some (.ref a))∧t σ H λvs H1=>sp vs H1 Q E
theorem zef(i:Nat)(C:Vq X.prog X.w X.K X.mg X.base CX a ps k sp)(hr:Room k X.A)(hx:Z7 CX X E)(ha:PA X (e :: es) t)
  (hN:X.N[i]?=some x:=by rfl) (hv:Vis X.env.scope x:=by first | exact Or.inl rfl | exact Or.inr (.inl rfl) | exact Or.inr (.inr rfl)) (hd:(x == ("__debug__" : Str))=false:=by decide) (hcd:(x == ("__classdict__" : Str))=false:=by decide)
  (he:starEach (e :: es) X.env=(false,eval e X.env) :: starEach es X.env:=by rfl) (hpl:(backTo pos (starEach es X.env)).any (·.1)=false:=by rfl) :
  PE X (.Call (.Name x p) (e :: es) [] pos) (tFn i a sp E t):=by
 intro pins s σ H Q I h;obtain⟨hs,h⟩:=h;obtain⟨fd,F,hk,hb⟩:=C.ex;refine wpAny_Call_Name_kw (thn (VI (X:=X) (i:=i) (pos:=p) hN hv hd hcd pins s σ H (λv H'=>v=.ref a∧H'=H) I ⟨_,hs,rfl,rfl⟩) λu s1 ⟨v,H',I1,r1,ev,eH⟩=>?_);subst ev eH;cases(show u=Value.ref a from r1);refine PySem.W.callWith_K (h₀:=X.base) I1.ok.mod.kin hk (thn (ha pos pins s1 σ _ _ I1 h) λus s2 ⟨vs,H1,I2,r,q⟩=>⟨I2.kIn,?_⟩) he hpl;exact Vy F hr hb .nil hx I2 r (by rw[ζQ]; exact q)
end
end L2
namespace PD
open PySem L2
section
variable {K:ζc}{S S':Sx}{κ:Bool}{Γ:Ctx}{P:Post}
theorem zeT(hf:GetC Γ i (.fn a))(h:EvA K S false t Γ ds)(hp:pre ds d):EvE K S κ (tFn i a (spD K true pre) E t) Γ d:=λH0 F0 H F σ e Q q=>by
 obtain⟨v,hv,ev⟩:=e.has i _ hf.eq;cases(show v=.ref a from ev);refine⟨hv,h H0 F0 H F σ e _ λvs H1 F1 g1 p1=>⟨F1,ds,d,g1.le,zM p1,hp,λv H2 F2 g2 p2=>q v H2 F2 (g1.trans g2) (vN (κ:=true) (λ_=>rfl) (wR (κ:=true) (κ':=true) (S':=S) (H0':=H0) (λa xs z=>⟨z.1,λc=>?_⟩) (λ_ _ z=>z) p2))⟩⟩
 obtain⟨u,hu⟩:=(e.mono g1).sd a c;exact z.2 (by show H1 a≠none; rw[hu]; simp)
def spF(K:ζc)(mg:AO)(x:Str)(pre:AG→AD→Prop):Sp:=λvs H Q _=>∃F ds d us a,vs=us ++ [.ref a]∧mg x=some (.ref a)∧Same F H∧zT K F us ds∧pre ds d∧∀v H' F',Gr H F H' F'→Rp K true .fresh H F' v d→Q v H'
theorem zbY(h:∀ds d,pre ds d→ds.length=n)(s:spF K mg x pre vs H Q E):vs.length=n + 1:=by
 obtain⟨F,ds,d,us,a,rfl,_,_,k,p,_⟩:=s;rw[ζg,zT.length k,h ds d p];rfl
theorem Qn(h1:EvE K S false t1 Γ d1)(h2:EvE K S false t2 Γ d2)(h3:EvE K S false t3 Γ d3)(hm:mg x=some (.ref a))(hp:pre [d1,d2,d3] d):
  EvE K S κ (vm (spF K mg x pre) [] E (zX t1 (zX t2 (zX t3 (zX (tC (.ref a)) tNil))))) Γ d:=λH0 F0 H F σ e Q q =>
 h1 H0 F0 H F σ e _ λv1 H1 F1 g1 p1=>h2 H0 F0 H1 F1 σ (e.mono g1) _ λv2 H2 F2 g2 p2=>h3 H0 F0 H2 F2 σ ((e.mono g1).mono g2) _ λv3 H3 F3 g3 p3=>by
  have e3:=((e.mono g1).mono g2).mono g3;refine⟨F3,[d1,d2,d3],d,[v1,v2,v3],a,rfl,hm,g3.le,.cons (xa (yE (g2.f.trans g3.f) p1)) (.cons (xa (yE g3.f p2)) (.cons (xa p3) .nil)),hp,λv H4 F4 g4 p4=>q v H4 F4 (((g1.trans g2).trans g3).trans g4) (vN (κ:=true) (λ_=>rfl) (wR (κ:=true) (κ':=true) (S':=S) (H0':=H0) (λa xs z=>⟨z.1,λc=>?_⟩) (λ_ _ z=>z) p4))⟩
  obtain⟨u,hu⟩:=e3.sd a c;exact z.2 (by show H3 a≠none; rw[hu]; simp)
theorem zcc(le:Same F H)(k:zT K F vs ds)(q:∀v H' F',Gr H F H' F'→Rp K κ .fresh H F' v d→Q v H')(hn:N.length=n)(hl:vs.length < n)(hΓ:xg n ds Γ)(hs:SetC Γ ds.length (some (.fn a)) Γ')
  (h:ExS K .fresh t Γ' { nx:=λ_=>d=.none,rt:=λx=>x=d,kr:=κ }):t { nx:=λ_ H'=>Q .non H',rt:=Q } (L2.yI N (vs ++ [.ref a])) H:=by
 have l:=zT.length k;have e0:=x4 (N:=N) le k;rw[hn,hΓ.eq]at e0;have e1:=e0.set (i:=ds.length) (v:=.ref a) (x:=.fn a) rfl λ_ z=>z.elim;rw[hs.eq]at e1;have es:(L2.yI N vs).set ds.length (some (.ref a))=L2.yI N (vs ++ [.ref a]):=by
  unfold L2.yI;rw[←l,List.set_append_right _ _ (by simp),List.length_map,Nat.sub_self];obtain⟨m,hm⟩:∃m,N.length - vs.length=m + 1:=⟨N.length - vs.length - 1,⋯⟩
  rw[hm,ξd,List.set_cons_zero,ζy,ζg];have:N.length - (vs.length + [V.ref a].length)=m:=by show N.length - (vs.length + 1)=m; omega
  rw[this];simp
 rw[es]at e1;refine h H F H F _ F e1 (.refl _) (.inl rfl) _ ⟨λΓ' σ' H' F' n _ e=>?_,λd' v H' F' e g p=>?_,λ_ _ _ _ z=>z.elim,λ_ _ _ _ z=>z.elim⟩
 ·have n':d=.none:=n;subst n';exact q .non H' F' e.gr .non
 ·have e':d'=d:=e;subst e';exact q v H' F' g p
end
end PD
namespace Sx2
open Sh Wd
theorem Zi(h:Low a b):1≤b:=h.pos
def tot(xs:AM):Int×Int:=xs.foldl (λx y=>pl x.1 x.2 y.1 y.2) (0,1)
def smT:AM→Int×Int→Int×Int
 | [],x=>x
 | y :: r,x=>smT r (x.1 * y.2 + y.1 * x.2,x.2 * y.2)
def sm(xs:AM):Int×Int:=smT xs (0,1)
theorem Zv:∀(xs:AM) (y x:Int×Int),smT (xs ++ [y]) x=((smT xs x).1 * y.2 + y.1 * (smT xs x).2,(smT xs x).2 * y.2)
 | [],_,_=>rfl
 | _ :: r,y,x=>Zv r y _
theorem Wi(xs:AM)(y:Int×Int):tot (xs ++ [y])=pl (tot xs).1 (tot xs).2 y.1 y.2:=by
 unfold tot;rw[ξG];rfl
structure YX(x X:Int×Int):Prop where
 low:Low x.1 x.2
 pos:1≤X.2
 eq:x.1 * X.2=X.1 * x.2
theorem Vt{x X y:Int×Int}(h:YX x X)(hy:Low y.1 y.2):YX (pl x.1 x.2 y.1 y.2) (X.1 * y.2 + y.1 * X.2,X.2 * y.2):=by
 obtain⟨t,b⟩:=x;obtain⟨T,B⟩:=X;obtain⟨c,d⟩:=y;obtain⟨lo,po,e⟩:=h;have hl:=VG lo hy;have b1:=Zi lo;have d1:=Zi hy;refine⟨hl.1,?_,?_⟩
 ·exact Int.le_trans #[2] (Int.mul_le_mul po d1 #[2] (by exact Int.le_trans #[2] po))
 ·have h2:=hl.2;generalize pl t b c d=z at h2;obtain⟨u,v⟩:=z;have e':t * B=T * b:=e;have h2':u * (b * d)=(t * d + b * c) * v:=h2;show u * (B * d)=(T * d + c * B) * v;have hb:b≠0:=by have:1≤b:=b1; omega
  refine Int.eq_of_mul_eq_mul_left hb ?_
  calc b * (u * (B * d))=B * (u * (b * d)):=by simp only[Int.mul_comm,Int.mul_left_comm,Int.mul_assoc]
   _=B * ((t * d + b * c) * v):=by rw[h2']
   _=(t * B) * (d * v) + b * (c * (B * v)):=by rw[Int.add_mul,Int.mul_add]; simp only[Int.mul_comm,Int.mul_left_comm,Int.mul_assoc]
   _=(T * b) * (d * v) + b * (c * (B * v)):=by rw[e']
   _=b * ((T * d + c * B) * v):=by rw[Int.add_mul,Int.mul_add]; simp only[Int.mul_comm,Int.mul_left_comm,Int.mul_assoc]
theorem zfd:∀(xs:AM),(∀x∈xs,Low x.1 x.2)→YX (tot xs) (sm xs):=by
 have key:∀(n:Nat) (xs:AM),xs.length=n→(∀x∈xs,Low x.1 x.2)→YX (tot xs) (sm xs):=by
  intro n;induction n with
  | zero =>
   intro xs h _;have:xs=[]:=ζU h;subst this;exact⟨⟨#[2],#[2]⟩,#[2],#[2]⟩
  | succ n ih =>
   intro xs h hx;obtain⟨t,s,rfl⟩:∃t s,xs=t ++ [s]:=⟨xs.dropLast,xs.getLast (by intro e; rw[e]at h; cases h),(ζ6 _).symm⟩
   have hl:t.length=n:=by rw[List.length_append]at h; simpa using h
   have ih':=ih t hl λx hx'=>hx x (ζS _ hx');rw[Wi];unfold sm;rw[Zv];exact Vt ih' (hx s (by simp))
 exact λxs=>key xs.length xs rfl
theorem YX.le(h:YX x X):x.2≤X.2∧x.1.natAbs≤X.1.natAbs:=by
 obtain⟨t,b⟩:=x;obtain⟨T,B⟩:=X;obtain⟨lo,po,e⟩:=h;have b1:1≤b:=Zi lo;have B1:1≤B:=po;have e':t * B=T * b:=e;have co:Int.gcd t b=1:=lo.co;have hd:b ∣ B:=by
  have h1:b.natAbs ∣ t.natAbs * B.natAbs:=⟨T.natAbs,by rw[←ξg,e',ξg,Nat.mul_comm]⟩
  have h2:Nat.Coprime b.natAbs t.natAbs:=by
   have:Nat.gcd t.natAbs b.natAbs=1:=co;exact Nat.Coprime.symm this
  exact Int.natAbs_dvd_natAbs.mp (h2.dvd_of_dvd_mul_left h1)
 have hle:b≤B:=Int.le_of_dvd ⋯ hd;refine⟨hle,?_⟩
 show t.natAbs≤T.natAbs;have e2:t.natAbs * B.natAbs=T.natAbs * b.natAbs:=by rw[←ξg,←ξg,e']
 have h3:b.natAbs≤B.natAbs:=by omega
 have h4:0 < B.natAbs:=by omega
 refine Nat.le_of_mul_le_mul_right ?_ h4;rw[e2];exact ζ1 _ h3
def pk(ss:AE)(ks:AF):AE:=ks.map λk=>ss.getD k 0
def fil(vw:List (Option Int))(ks:AF)(ws:AE):List (Option Int):=(ks.zip ws).foldl (λv x=>v.set x.1 (some x.2)) vw
theorem vb:∀(ks:AF) (ws:AE) (vw:List (Option Int)),(fil vw ks ws).length=vw.length
 | [],_,_=>rfl
 | _ :: _,[],_=>rfl
 | k :: r,w :: e,vw=>by
  show(fil (vw.set k (some w)) r e).length=_;rw[vb r e,ξ9]
theorem Zk:∀(ks:AF) (ws:AE) (vw:List (Option Int)) (j:Nat),j∉ks→(fil vw ks ws)[j]?=vw[j]?
 | [],_,_,_,_=>rfl
 | _ :: _,[],_,_,_=>rfl
 | k :: r,w :: e,vw,j,h=>by
  show(fil (vw.set k (some w)) r e)[j]?=_;rw[Zk r e _ j λz=>h (ζp _ z),ζz (λz=>h (by rw[z]; exact ζi))]
theorem tN:∀(ks:AF) (ws:AE) (vw:List (Option Int)) (m j:Nat) (v:Int),ks.Nodup→ks[m]?=some j→ws[m]?=some v→j < vw.length→(fil vw ks ws)[j]?=some (some v)
 | [],_,_,m,_,_,_,h,_,_=>by simp at h
 | _ :: _,[],_,m,_,_,_,_,h,_=>by simp at h
 | k :: r,w :: e,vw,0,j,v,hn,h1,h2,h3=>by
  have e1:k=j:=by simpa using h1
  have e2:w=v:=by simpa using h2
  subst e1 e2;show(fil (vw.set k (some w)) r e)[k]?=_;rw[Zk r e _ k (ζ5.mp hn).1,ζu h3]
 | k :: r,w :: e,vw,m + 1,j,v,hn,h1,h2,h3=>by
  show(fil (vw.set k (some w)) r e)[j]?=_;exact tN r e _ m j v (List.nodup_cons.mp hn).2 (by simpa using h1) (by simpa using h2) (by simpa using h3)
def mr(k:Nat)(w:AE)(v:Int):AF→Nat→AE
 | [],_=>[]
 | j :: r,c=>if j=k then v :: mr k w v r c else w.getD c 0 :: mr k w v r (c + 1)
theorem zaJ(k:Nat)(w:AE)(v:Int):∀(xs:AF) (c:Nat),(mr k w v xs c).length=xs.length
 | [],_=>rfl
 | x :: r,c=>by
  show(if x=k then v :: mr k w v r c else w.getD c 0 :: mr k w v r (c + 1)).length=r.length + 1;split <;> simp[zaJ k w v r]
theorem zcn(hn:ks.Nodup)(hk:∀j∈ks,j < n)(hw:w.length=(ks.filter λx=>x≠k).length):
  (ks.map λj=>((fil (fil (List.replicate n none) (ks.filter λx=>x≠k) w) [k] [v]).getD j none).getD 0)=mr k w v ks 0:=by
 have key:∀(suf pre:AF),pre ++ suf=ks→(suf.map λj=>((fil (fil (List.replicate n none) (ks.filter λx=>x≠k) w) [k] [v]).getD j none).getD 0)=mr k w v suf (pre.filter λx=>x≠k).length:=by
  intro suf;induction suf with
  | nil=>intro _ _; rfl
  | cons j r ih =>
   intro pre e;have ih':=ih (pre ++ [j]) (by rw[ξY]; exact e);have hjm:j∈ks:=by rw[←e]; simp
   have hj:=hk j hjm;rw[ζH,ih'];show _=if j=k then v :: mr k w v r _ else w.getD _ 0 :: mr k w v r _
   have l1:(fil (List.replicate n none) (ks.filter λx=>x≠k) w).length=n:=by rw[vb,ζT]
   by_cases h:j=k
   ·subst h;rw[if_pos rfl];have e1:(fil (fil (List.replicate n none) (ks.filter λx=>x≠j) w) [j] [v])[j]?=some (some v):=tN [j] [v] _ 0 j v (by simp) rfl rfl (by rw[l1]; exact hj);rw[ζb,e1,ζW];simp
   ·rw[if_neg h];have hp:(pre.filter λx=>x≠k).length < w.length:=by
     rw[hw,←e,ζW,ζg,List.filter_cons];simp[h]
    have e2:(ks.filter λx=>x≠k)[(pre.filter λx=>x≠k).length]?=some j:=by
     rw[←e,ζW,ξl (ζj _),ξ6,List.filter_cons];simp[h]
    have e3:(fil (List.replicate n none) (ks.filter λx=>x≠k) w)[j]?=some (some (w.getD (pre.filter λx=>x≠k).length 0)) :=
     tN _ _ _ _ j _ (hn.filter _) e2 (by rw[ζb,ζd hp]; rfl) (by rw[ζT]; exact hj)
    have e1:(fil (fil (List.replicate n none) (ks.filter λx=>x≠k) w) [k] [v])[j]?=some (some (w.getD (pre.filter λx=>x≠k).length 0)):=by
     rw[Zk [k] [v] _ j (by simpa using h)];exact e3
    rw[ζb,e1,ζW];simp[h]
 exact key ks [] rfl
theorem QD{n:Nat}{k:Nat}{v:Int}{w:AE}{ks:AF}(hn:ks.Nodup)(hk:∀j∈ks,j < n)(hw:w.length=(ks.filter λx=>x≠k).length){j:Nat}(hj:j∈ks):
  (fil (fil (List.replicate n none) (ks.filter λx=>x≠k) w) [k] [v]).getD j none≠none:=by
 have l1:(fil (List.replicate n none) (ks.filter λx=>x≠k) w).length=n:=by rw[vb,ζT]
 rw[ζb];by_cases h:j=k
 ·subst h;rw[tN [j] [v] _ 0 j v (by simp) rfl rfl (by rw[l1]; exact hk j hj)];simp
 ·rw[Zk [k] [v] _ j (by simpa using h)];obtain⟨m,hm⟩:=List.mem_iff_getElem?.mp (List.mem_filter.mpr ⟨hj,by simpa using h⟩:j∈ks.filter λx=>decide (x≠k));have hml:=(ζh.mp hm).1;rw[tN _ _ _ m j (w[m]'⋯) (hn.filter _) hm (ζd ⋯) (by rw[ζT]; exact hk j hj)];simp
theorem Yr:∀(ss ws:AE) (a A:Int),ss.length=ws.length→(∀(i:Nat) s v,ss[i]?=some s→ws[i]?=some v→0≤v∧v < s)→0≤a→a < A→0≤(ss.zip ws).foldl (λa x=>a * x.1 + x.2) a∧(ss.zip ws).foldl (λa x=>a * x.1 + x.2) a < A * prod ss
 | [],[],a,A,_,_,h0,h1=>⟨h0,by show a < A * 1; omega⟩
 | [],_ :: _,_,_,h,_,_,_=>by cases h
 | _ :: _,[],_,_,h,_,_,_=>by cases h
 | s :: r,v :: e,a,A,h,hr,h0,h1=>by
  have hv:=hr 0 s v rfl rfl;have g0:0≤a * s:=Int.mul_nonneg h0 ⋯;have g1:(a + 1) * s≤A * s:=ξR ⋯ ⋯;rw[Int.add_mul,Int.one_mul]at g1;have ih:=Yr r e (a * s + v) (A * s) (by simpa using h) (λi s' v' h1 h2=>hr (i + 1) s' v' (by simpa using h1) (by simpa using h2)) ⋯ ⋯;rw[ξz]at ih;exact ih
theorem tE(h:ss.length=ws.length)(hr:∀(i:Nat) s v,ss[i]?=some s→ws[i]?=some v→0≤v∧v < s):0≤rkF ss ws∧rkF ss ws < prod ss:=by
 have:=Yr ss ws 0 1 h hr #[2] #[2];rw[Int.one_mul]at this;exact this
theorem Td:∀(ss:AE) (p:Int),(∀s∈ss,0 < s)→∀(i:Nat) s v,ss[i]?=some s→(digs ss p)[i]?=some v→0≤v∧v < s
 | [],_,_,_,_,_,h,_=>by simp at h
 | s :: r,p,h,0,s',v,h1,h2=>by
  have e1:s=s':=by simpa using h1
  have e2:p % s=v:=by simpa[digs]using h2
  subst e1 e2;have hs:=h s ζi;exact⟨ζY _ ⋯,ζR _ hs⟩
 | s :: r,p,h,i + 1,s',v,h1,h2=>Td r (p / s) (λx hx=>h x (List.mem_cons_of_mem _ hx)) i s' v (by simpa using h1) (by simpa[digs]using h2)
theorem QE(h:∀s∈ss,0 < s)(hw:w∈wds ss):∀(i:Nat) s v,ss[i]?=some s→w[i]?=some v→0≤v∧v < s:=by
 intro i s v h1 h2;unfold wds at hw;obtain⟨j,_,rfl⟩:=ζn.mp hw;have hi:=(ζh.mp h1).1;have hl:(digs ss.reverse j).length=ss.length:=by rw[u6,ξx]
 unfold wld at h2;rw[List.getElem?_reverse ⋯]at h2;refine Td ss.reverse j (λx hx=>h x (List.mem_reverse.mp hx)) (ss.length - 1 - i) s v ?_ (by rw[hl]at h2; exact h2);rw[List.getElem?_reverse ⋯,show ss.length - 1 - (ss.length - 1 - i)=i by omega];exact h1
theorem zaK{ss:AE}{k:Nat}{w:AE}{v:Int}(hv:0≤v∧v < ss.getD k 0):∀(suf:AF) (c:Nat),(∀(m j:Nat),(suf.filter λx=>x≠k)[m]?=some j→0≤w.getD (c + m) 0∧w.getD (c + m) 0 < ss.getD j 0)→∀(i:Nat) j u,suf[i]?=some j→(mr k w v suf c)[i]?=some u→0≤u∧u < ss.getD j 0
 | [],_,_,_,_,_,h,_=>by simp at h
 | x :: r,c,hw,i,j,u,h1,h2=>by
  unfold mr at h2;by_cases hx:x=k
  ·rw[if_pos hx]at h2;have hw':∀(m j:Nat),(r.filter λx=>x≠k)[m]?=some j→0≤w.getD (c + m) 0∧w.getD (c + m) 0 < ss.getD j 0:=λm j hm=>hw m j (by rw[List.filter_cons]; simp[hx]; simpa using hm);cases i with
   | zero =>
    have e1:x=j:=by simpa using h1
    have e2:v=u:=by simpa using h2
    subst e1 e2 hx;exact hv
   | succ i=>exact zaK hv r c hw' i j u (by simpa using h1) (by simpa using h2)
  ·rw[if_neg hx]at h2;have hw0:=hw 0 x (by rw[List.filter_cons]; simp[hx]);have hw':∀(m j:Nat),(r.filter λx=>x≠k)[m]?=some j→0≤w.getD (c + 1 + m) 0∧w.getD (c + 1 + m) 0 < ss.getD j 0:=λm j hm=>by
    have:=hw (m + 1) j (by rw[List.filter_cons]; simp[hx]; simpa using hm);rw[show c + (m + 1)=c + 1 + m by omega]at this;exact this
   cases i with
   | zero =>
    have e1:x=j:=by simpa using h1
    have e2:w.getD c 0=u:=by simpa using h2
    subst e1 e2;exact hw0
   | succ i=>exact zaK hv r (c + 1) hw' i j u (by simpa using h1) (by simpa using h2)
theorem zau(hs:∀s∈pk ss (ks.filter λx=>x≠k),0 < s)(hw:w∈wds (pk ss (ks.filter λx=>x≠k)))(hv:0≤v∧v < ss.getD k 0):0≤rkF (pk ss ks) (mr k w v ks 0)∧rkF (pk ss ks) (mr k w v ks 0) < prod (pk ss ks):=by
 refine tE (by unfold pk; rw[List.length_map,zaJ]) λi s u h1 h2=>?_;unfold pk at h1;rw[ζo]at h1;cases e:ks[i]? with
 | none=>rw[e]at h1; cases h1
 | some j =>
  rw[e]at h1;have e1:ss.getD j 0=s:=ζr h1;rw[←e1];refine zaK hv ks 0 (λm j' hm=>?_) i j u e h2;rw[Nat.zero_add];have hml:=(ζh.mp hm).1;have hwl:w.length=(ks.filter λx=>x≠k).length:=by
   unfold wds at hw;obtain⟨j,_,rfl⟩:=ζn.mp hw;rw[YY];unfold pk;rw[ζa]
  have:=QE hs hw m (ss.getD j' 0) (w.getD m 0) (by unfold pk; rw[List.getElem?_map,hm]; rfl) (by rw[List.getD_eq_getElem?_getD,List.getElem?_eq_getElem ⋯]; rfl);exact this
theorem YZ(s:Int)(h:0 < s):wds [s]=(rng s.toNat).map λv=>[v]:=by
 have:=uu (ss:=[]) (s:=s) (λx hx=>by cases hx) h;rw[List.nil_append]at this;rw[this,zbN];unfold grow;simp
end Sx2
namespace PD
open PySem L2
section
variable {K:ζc}{S S':Sx}{κ:Bool}{Γ:Ctx}{P:Post}
end
theorem xt{α:Type}{g:α→AD}(h:∀x,PyData.canLay0 (g x)=true):∀xs:List α,PyData.canLayAll0 (xs.map g)=true
 | []=>rfl
 | x :: r=>by
  show(PyData.canLay0 (g x) && PyData.canLayAll0 (r.map g))=true;rw[h,xt h r];rfl
theorem yU{α:Type}{g:α→AD}{n:Nat}(h:∀x,PyData.depth (g x)≤n):∀xs:List α,PyData.depthAll (xs.map g)≤n
 | []=>ξn _
 | x :: r=>by
  show max (PyData.depth (g x)) (PyData.depthAll (r.map g))≤n;have:=yU h r;have:=h x;omega
theorem tD(h1:PyData.canLay0 d=true)(h2:PyData.depth d≤50):SeqAt.shaped d=true:=by
 unfold SeqAt.shaped;rw[h1];simp;omega
end PD
namespace L2
open PySem PySem.Spec PyProof.Rows
def srt(ns:AE):AE:=ns.mergeSort λa b=>decide (a≤b)
theorem tY:∀{a b:AE},a.Perm b→a.Pairwise (·≤·)→b.Pairwise (·≤·)→a=b
 | [],b,p,_,_=>p.nil_eq
 | x :: r,[],p,_,_=>absurd p.length_eq (by simp)
 | x :: r,y :: t,p,h1,h2=>by
  have a1:=ξK.mp h1;have a2:=ξK.mp h2;have hx:x∈y :: t:=p.mem_iff.mp ζi;have hy:y∈x :: r:=p.mem_iff.mpr ζi;have e:x=y:=by
   rcases ζC.mp hx with e | hx
   ·exact e
   ·rcases ζC.mp hy with e | hy
    ·exact e.symm
    ·have:=a2.1 x hx;have:=a1.1 y hy;omega
  subst e;rw[tY p.cons_inv a1.2 a2.2]
theorem wy(ns:AE):(srt ns).Perm ns:=List.mergeSort_perm ns _
theorem uh(ns:AE):(srt ns).Pairwise (·≤·):=by
 have:=List.pairwise_mergeSort (le:=λa b:Int=>decide (a≤b)) (λa b c h1 h2=>by simp at *; omega) (λa b=>by simp; omega) ns;exact this.imp λh=>by simpa using h
theorem Zu(p:a.Perm ns)(h:a.Pairwise (·≤·)):a=srt ns:=tY (p.trans (wy ns).symm) h (uh ns)
section
variable {X:Cx}{K:ζc}
theorem wO:∀{ns:AE} {us:AK},IntsAre us ns→Vals (ns.map V.int) us
 | _,_,.nil=>.nil
 | _,_,.cons _ t r=>.cons ⟨t,rfl⟩ (wO r)
def Xo(K:ζc):List V→Hp→VK→Prop:=λxs H Q=>∃p ns,xs=[.ref p]∧SqL K H p (ns.map V.int)∧ns.length < 64∧∀l,H l=none→Q (.ref l) (upd H l (.lst ((srt ns).map V.int)))
theorem Vj:y8 X (.builtin "sorted") (Xo X.K):=by
 intro pins s σ H xs us Q I r h;obtain⟨p,ns,rfl,hq,h64,q⟩:=h;obtain⟨u,rfl,rx⟩:=vk r;cases rx;obtain⟨its,r',pl,hz⟩:=I.list hq;have hl:=r'.length;rw[ζa]at hl hz;refine sorted_ints (vs:=its) pl.isList (w9 r') ⋯ λout ns' a1 a2 a3=>?_;have e:=Zu a2 a3;subst e;obtain⟨c,hc⟩:=sortedAll_at s.heap its out;exact⟨.ref (s.heap.objs.size + 1),_,I.laid (t':=s.toks) (λ_ _=>sortedAll_old) (Nat.le_succ _) (show yA X.prog X.w _ _ _ (.lst ((srt ns).map V.int))from⟨by rw[List.length_map,(wy ns).length_eq]; exact hz,out.toList,c,wO a1,by simpa using hc⟩),rfl,q _ (I.hok.fresh (Nat.le_succ _))⟩
theorem xx(hK:X.K=K):y8 X (.builtin "sorted") (Xo K):=by subst hK; exact Vj
def low(d:AD):Bool:=d.canLay0 && decide (d.depth≤50)
open Classical in
noncomputable def eqU2(h:Heap)(d:AD)(y:Value):Bool:=decide (∃dy as,Reads h y dy as∧low dy=true∧PyData.eqv dy d=true)
theorem XH(h:low d=true):d.canLay0=true:=(Bool.and_eq_true_iff.mp h).1
theorem T6(h:low d=true):d.depth≤50:=of_decide_eq_true (Bool.and_eq_true_iff.mp h).2
open Classical in
theorem Tb(r:Reads h y dy as)(l:low dy=true):eqU2 h d y=PyData.eqv dy d:=by
 unfold eqU2;cases e:PyData.eqv dy d with
 | true=>apply decide_eq_true; exact⟨dy,as,r,l,e⟩
 | false =>
  apply decide_eq_false;rintro⟨dz,bs,r2,l2,e2⟩;rw[SeqAt.Reads.unique dy dz y as bs (XH l) r r2]at e;rw[e]at e2;cases e2
theorem Vo:∀{us:AK} {ds:AG} {as:List Addr},ReadsAll h us ds as→(∀e∈ds,low e=true)→us.any (eqU2 h d)=ds.any (PyData.eqv · d)
 | _,_,_,.nil,_=>rfl
 | _,_,_,.cons r t,l=>by rw[ξM,ξM,Tb r (l _ ζi),Vo t λe he=>l e (ζp _ he)]
theorem YB:∀{us:AK} {ds:AG} {as:List Addr},ReadsAll h us ds as→∀u∈us,∃d∈ds,∃bs,Reads h u d bs
 | _,_,_,.nil,_,hu=>by cases hu
 | _,_,_,.cons r t,u,hu=>by
  rcases ζC.mp hu with rfl | hu
  ·exact⟨_,ζi,_,r⟩
  ·obtain⟨d,hd,bs,q⟩:=YB t u hu;exact⟨d,ζp _ hd,bs,q⟩
def rInD(K:ζc)(neg:Bool):R2:=λx y H Q=>∃p xs d ds,y=.ref p∧SqL K H p xs∧Dp K H x d∧zT K H xs ds∧low d=true∧(∀e∈ds,low e=true)∧Q (.bl (if neg then !ds.any (PyData.eqv · d)else ds.any (PyData.eqv · d))) H
theorem zeo(hu:X.A.units + 64 < cLine):OpR X (compareOp .In) (rInD X.K false):=by
 intro pins s σ H x y v u Q I rx ry h;obtain⟨p,xs,d,ds,rfl,hq,h1,h2,l1,l2,q⟩:=h;cases ry;obtain⟨its,r,pl,hz⟩:=I.list hq;obtain⟨as,ra⟩:=h1.reads I rx;obtain⟨bs,rb⟩:=zT.reads I h2 r;refine SeqAt.in_listAt (eqU2 s.heap d) pl.isList (λw hw=>?_) ⟨.bl _,H,I,rfl,?_⟩
 ·obtain⟨dw,hd,cs,rc⟩:=YB rb w (by simpa using hw);rw[Tb rc (l2 dw hd)];exact SeqAt.eqAt_reads dw d _ s w v cs as rc ra (XH (l2 dw hd)) (XH l1) (by have:=T6 l1; have:=Nat.min_le_right dw.depth d.depth; show X.A.units + 1 + _ < _; omega)
 ·rw[show its.toArray.any (eqU2 s.heap d)=its.any (eqU2 s.heap d)by simp,Vo rb l2];exact q
theorem zcu(hK:X.K=K)(hu:X.A.units + 64 < cLine):OpR X (compareOp .In) (rInD K false):=by subst hK; exact zeo hu
def VB(K:ζc):V→List V→Hp→VK→Prop:=λx vs H Q=>∃l,∃ns:AE,∃k,x=.ref l∧vs=[.int k]∧SqL K H l (ns.map V.int)∧k∈ns∧Q (.int (ns.idxOf k:Nat)) H
theorem zaH:MtM X "list.index" (VB X.K):=by
 intro pins s σ H x vs v us Q I rx rv h;obtain⟨l,ns,k,rfl,rfl,hq,hk,q⟩:=h;cases rx;obtain⟨u,rfl,ru⟩:=rv.one;obtain⟨t,rfl⟩:=ru;obtain⟨its,r,pl,hz⟩:=I.list hq;have hl:=r.length;have hi:=w9 r;have hj:ns.idxOf k < ns.length:=ζV.mpr hk;rw[ζa]at hl hz;have hb:sizeLine < 2 ^ 62:=by decide
 obtain⟨⟨c,dd,dt,sl⟩,ho,hc,n,hd⟩:=pl.isList;simp only at hc hd;subst hc hd
 refine call_meets F.slot_list_index ⟨_,ho,rfl⟩ F.entry_list_index (F.args_list_index_2 _ _) (SeqAt.list_indexAt l its.toArray n dd sl (.int k t) (isInt k) (ns.idxOf k) (by rw[ζO]; omega) ⋯ ?_ λm hm lt=>?_)
  ⟨ho,λy hy=>(eq_isInt k t hi y (by simpa using hy)).at _ _,.int _,H,I.tok _,⟨_,rfl⟩,q⟩
 ·show isInt k its[ns.idxOf k]=true;rw[isInt_at k hi (ns.idxOf k) ⋯ hj];simp
 ·show isInt k its[m]=false;rw[ζO]at hm;rw[isInt_at k hi m hm ⋯];exact ne_of_lt_idxOf lt ⋯
theorem YA(hK:X.K=K):MtM X "list.index" (VB K):=by subst hK; exact zaH
def Xp:V→List V→Hp→VK→Prop:=λx vs H Q=>∃l xs j y,x=.ref l∧vs=[.int j,y]∧H l=some (.lst xs)∧0≤j∧j≤(xs.length:Int)∧xs.length < sizeLine∧Q .non (upd H l (.lst (xs.take j.toNat ++ y :: xs.drop j.toNat)))
theorem T5:MtM X "list.insert" Xp:=by
 intro pins s σ H x vs v us Q I rx rv h;obtain⟨l,xs,j,y,rfl,rfl,hH,h0,hj,hz,q⟩:=h;cases rx;cases rv with
 | cons ru rv' =>
  obtain⟨t,rfl⟩:=ru;obtain⟨u,rfl,ry⟩:=Vals.one rv';obtain⟨z,its,n,r,hl,e⟩:=I.lstM hH;have hb:sizeLine < 2 ^ 62:=by decide
  have hf:Builtin.List.listFitsIndex j=true:=fitsIndex_both ⋯ ⋯;have hs:its.toArray.size≤sizeLine:=by rw[ζO]; omega
  have e1:¬(j < 0):=by omega
  have e2:min j.toNat its.length=j.toNat:=by omega
  refine call_meets F.slot_list_insert ⟨_,e,rfl⟩ F.entry_list_insert (F.args_list_insert_3 _ _ _) (AutoSeq1.list_insert_list_int_val_1 l its.toArray n j t u (by rw[hf]; decide) hs) ⟨e,?_⟩;refine⟨.non,_,I.lset (its':=its.take j.toNat ++ u :: its.drop j.toNat) hH e ?_ ((r.take j.toNat).append (.cons ry (r.drop j.toNat))) ?_,rfl,q⟩
  ·simp only[e1,if_false,List.size_toArray,e2];apply Array.toList_inj.mp;simp;exact ζB (by rw[ζ8]; exact ζj _)
  ·rw[ζg,ζ9,ζJ,ζ8];omega
end
end L2
namespace PD
open PySem L2
section
variable {K:ζc}{S S':Sx}{κ κ':Bool}{Γ Γ' Γ'':Ctx}{P:Post}
theorem wT(ns:AE):zr K κ S H0 F (ns.map V.int) (ns.map .int):=xD (wI ns) (ZX ns)
theorem xZ(h:EvL K S false ta Γ (ns.map .int))(h64:ns.length < 64):EvO K S κ (tCB (Xo K) (zX ta tNil)) Γ ((srt ns).map .int):=λH0 F0 H F σ e Q q =>
 h H0 F0 H F σ e _ λa vs H1 F1 g1 p1 k1=>by
  cases yb (zM k1);exact⟨a,ns,rfl,p1,h64,λp hp=>q p _ _ F1 (g1.trans (.newO g1.le hp _)) (g1.h.free hp) zp (g1.le.free hp) (wT _)⟩
theorem Vd{ta tb:TE}{ns:AE}{k:Int}(ha:EvL K S false ta Γ (ns.map .int))(hb:EvE K S false tb Γ (.int k))(hk:k∈ns):EvE K S κ (tBM K "list" (VB K) ta (zX tb tNil)) Γ (.int (ns.idxOf k:Nat)):=λH0 F0 H F σ e Q q =>
 ha H0 F0 H F σ e _ λa vs H1 F1 g1 p1 k1=>⟨.inl ⟨rfl,_,p1⟩,hb H0 F0 H1 F1 σ (e.mono g1) _ λw H2 F2 g2 p2=>by
  cases yw p2;cases yb (zM k1);exact⟨a,ns,k,rfl,rfl,g2.h.seq p1,hk,q _ H2 F2 (g1.trans g2) (.int _)⟩⟩
theorem zeR(ha:EvE K S false ta Γ d)(hb:EvL K S false tb Γ ds)(l1:low d=true)(l2:∀e∈ds,low e=true):
  EvE K S κ (tOp (rInD K neg) ta tb) Γ (.bool (if neg then !ds.any (PyData.eqv · d)else ds.any (PyData.eqv · d))):=λH0 F0 H F σ e Q q =>
 ha H0 F0 H F σ e _ λv H1 F1 g1 p1=>hb H0 F0 H1 F1 σ (e.mono g1) _ λb ws H2 F2 g2 p2 k2 =>
  ⟨b,ws,d,ds,rfl,p2,xu (g1.le.trans g2.h) (xa p1),x0 g2.le (zM k2),l1,l2,q _ H2 F2 (g1.trans g2) (.bl _)⟩
theorem Qg(h:Γ[i]?=some (some (.ow κ ds)))(hi:EvE K S false ti Γ (.int m))(he:EvE K S κ te Γ d)(h0:0≤m)(h1:m≤ds.length)(hz:ds.length < sizeLine)(k:P.nx (Γ.set i (some (.ow κ (ds.take m.toNat ++ d :: ds.drop m.toNat))))):
  ExS K S (x6 (tBM K "list" Xp (tVar i) (zX ti (zX te tNil)))) Γ P:=λH0 F0 H F σ B e b _ D I=>by
 obtain⟨v0,q1,a,vs,rfl,w,q5⟩:=e.has i _ h;refine⟨_,q1,.inl ⟨rfl,_,SqL.of w.h⟩,hi H0 F0 H F σ e _ λv1 H1 F1 g1 p1=>he H0 F0 H1 F1 σ (e.mono g1) _ λv H' F' g2 p=>?_⟩
 cases yw p1;have g:=g1.trans g2;have k':=zF g.f q5;have hl:=zr.length q5;refine⟨a,vs,m,v,rfl,rfl,g.h _ _ w.h,h0,by rw[hl]; exact h1,by rw[hl]; exact hz,?_⟩
 exact I.nx _ _ _ F' k (b.trans g.f) ((e.mono g).put (y:=.ow κ (ds.take m.toNat ++ d :: ds.drop m.toNat)) h q1 (show Owns H' (.ref a) (.ow κ ds) a from rfl) ⟨a,_,rfl,⟨zp,(w.mono g).f,w.n,w.s⟩,zr.append (zr.take _ k') (.cons p (zr.drop _ k'))⟩ λ_ z=>z)
theorem exin(h:GetC Γ i (.ow κ ds))(hi:EvE K S false ti Γ (.int m))(he:EvE K S κ te Γ d)(h0:0≤m)(h1:m≤ds.length)(hz:ds.length < sizeLine)(e:SetC Γ i (some (.ow κ (ds.take m.toNat ++ d :: ds.drop m.toNat))) Γ')(k:P.nx Γ'):
  ExS K S (x6 (tBM K "list" Xp (tVar i) (zX ti (zX te tNil)))) Γ P:=Qg h.eq hi he h0 h1 hz (e.eq ▸ k)
theorem QN(z:SqT K F a xs):SqT K (drop T F) a xs:=by
 rcases z with(z | ⟨o,z⟩) | z
 ·exact .inl (.inl (yL.mpr ⟨z,λc=>nomatch c.2⟩))
 ·exact .inl (.inr ⟨o,yL.mpr ⟨z,λc=>nomatch c.2⟩⟩)
 ·exact .inr z
theorem YO(h:F a=some (.lst xs))(t:T a):drop T F a=none:=by
 cases q:drop T F a with
 | none=>rfl
 | some o =>
  obtain⟨q1,q2⟩:=yL.mp q;rw[h]at q1;cases q1;exact absurd ⟨t,rfl⟩ q2
end
end PD
namespace L2
open PySem PySem.Spec PyProof.Rows
section
variable {X:Cx}{K:ζc}
theorem Uk:∀{bs:List Bool} {us:AK},Vals (bs.map V.bl) us→us=bs.map Value.bool
 | [],_,.nil=>rfl
 | _ :: _,_,.cons r t=>by rw[Uk t,show _=Value.bool _ from r]; rfl
end
end L2
namespace PD
open PySem L2
section
variable {K:ζc}{S S':Sx}{κ κ':Bool}{Γ Γ' Γ'':Ctx}{P:Post}
theorem u5:∀{vs:List V} {bs:List Bool},zT K F vs (bs.map PyData.bool)→vs=bs.map V.bl
 | _,[],.nil=>rfl
 | _,_ :: _,.cons h t=>by rw[zbw h,u5 t]; rfl
theorem Wz:∀{vs:List V} {ds:AG},vs.length=ds.length→(∀(j:Nat) v d,vs[j]?=some v→ds[j]?=some d→Rp K κ S H0 F v d)→zr K κ S H0 F vs ds
 | [],[],_,_=>.nil
 | [],_ :: _,h,_=>by cases h
 | _ :: _,[],h,_=>by cases h
 | v :: vs,d :: ds,h,k=>.cons (k 0 v d rfl rfl) (Wz (by simpa using h) λj v' d' h1 h2=>k (j + 1) v' d' (by simpa using h1) (by simpa using h2))
theorem Yz:∀{l:List α},l.Nodup→∀{i j:Nat} {x:α},l[i]?=some x→l[j]?=some x→i=j
 | [],_,i,j,x,h,_=>by simp at h
 | y :: r,n,0,0,x,_,_=>rfl
 | y :: r,n,0,j + 1,x,h1,h2=>by
  have e:y=x:=by simpa using h1
  exact absurd (List.mem_of_getElem? (show r[j]?=some x by simpa using h2)) (e ▸ (List.nodup_cons.mp n).1)
 | y :: r,n,i + 1,0,x,h1,h2=>by
  have e:y=x:=by simpa using h2
  exact absurd (List.mem_of_getElem? (show r[i]?=some x by simpa using h1)) (e ▸ (List.nodup_cons.mp n).1)
 | y :: r,n,i + 1,j + 1,x,h1,h2=>by rw[Yz (List.nodup_cons.mp n).2 (show r[i]?=some x by simpa using h1) (show r[j]?=some x by simpa using h2)]
theorem VY(h:GetC Γ i (.o2 r dss))(hi:EvE K S false ti Γ (.int m))(hm:ixN dss.length m=some j)(hd:dss[j]?=some ds):EvL K S true (tOp (rIxL K) (tVar i) ti) Γ ds:=λH0 F0 H F σ e Q q=>by
 obtain⟨v0,q1,a,vs,⟨rfl,hid⟩,w,n1,n2,n3,hk⟩:=e.has i _ h.eq;refine⟨_,q1,hi H0 F0 H F σ e _ λw' H1 F1 g1 p1=>?_⟩
 cases yw p1;have hj:=(ζh.mp hd).1;have hx:vs[j]?=some (vs[j]'⋯):=ζd ⋯;obtain⟨b,us,ds',ex,ow,hd',kk⟩:=hk j _ hx;rw[hd]at hd';cases hd';have hat:atI vs m=some (.ref b):=by
  unfold atI;rw[n3,hm];show vs[j]?=_;rw[hx,ex]
 exact⟨a,vs,m,_,rfl,rfl,SqL.of (g1.h _ _ w.h),hat,q b us H1 F1 g1 (SqL.of (g1.h _ _ ow.h)) (zF g1.f kk)⟩
theorem ZT(h:GetC Γ i (.o2 r dss))(hi:EvE K S false ti Γ (.int m))(hm:ixN dss.length m=some j)(hd:dss[j]?=some ds)(he:EvE K S true te Γ d)(hz:ds.length < sizeLine)
  (es:SetC Γ i (some (.o2 r (dss.set j (ds ++ [d])))) Γ') (k:P.nx Γ'):ExS K S (x6 (tBM K "list" vP (tOp (rIxL K) (tVar i) ti) (zX te tNil))) Γ P:=λH0 F0 H F σ B e bb _ D I=>by
 obtain⟨v0,q1,a,vs,⟨rfl,hid⟩,w,n1,n2,n3,hk⟩:=e.has i _ h.eq;refine⟨_,q1,hi H0 F0 H F σ e _ λw' H1 F1 g1 p1=>?_⟩
 cases yw p1;have hj:=(ζh.mp hd).1;have hx:vs[j]?=some (vs[j]'⋯):=ζd ⋯;obtain⟨b,us,ds',ex,ow,hd',kk⟩:=hk j _ hx;rw[hd]at hd';cases hd';rw[ex]at hx;have hat:atI vs m=some (.ref b):=by
  unfold atI;rw[n3,hm];exact hx
 refine⟨a,vs,m,_,rfl,rfl,SqL.of (g1.h _ _ w.h),hat,.inl ⟨rfl,_,SqL.of (g1.h _ _ ow.h)⟩,he H0 F0 H1 F1 σ (e.mono g1) _ λv H2 F2 g2 p2=>?_⟩
 have g:=g1.trans g2;have ow2:=ow.mono g;have w2:=w.mono g;have nba:b≠a:=by rintro rfl; exact n1 (ζf hx)
 refine⟨b,us,v,rfl,rfl,ow2.h,by rw[zr.length kk]; exact hz,?_⟩
 obtain rfl:=es.eq;refine I.nx _ _ _ F2 k (bb.trans g.f) ((e.mono g).put (y:=.o2 r (dss.set j (ds ++ [d]))) h.eq q1 (show Owns H2 (.ref a) (.o2 r dss) b from .inr ⟨a,vs,rfl,w2.h,ζf hx⟩) ?_ ?_)
 ·refine⟨a,vs,⟨rfl,hid⟩,w2.other nba.symm,n1,n2,by rw[ξ9]; exact n3,λj' x hx'=>?_⟩
  by_cases hjj:j'=j
  ·subst hjj;rw[hx]at hx';cases hx';exact⟨b,us ++ [v],ds ++ [d],rfl,⟨zp,ow2.f,ow2.n,ow2.s⟩,by rw[ζu hj],zr.append (zF g.f kk) (.cons p2 .nil)⟩
  ·obtain⟨c,ws,ds',rfl,oc,hc,kc⟩:=hk j' x hx';have ncb:c≠b:=by
    rintro rfl;exact hjj (Yz n2 hx' hx)
   exact⟨c,ws,ds',rfl,(oc.mono g).other ncb,by rw[ζz (Ne.symm hjj)]; exact hc,zF g.f kc⟩
 ·rintro c (oc | ⟨p,xs,ep,hp,hm'⟩)
  ·exact .inl oc
  ·cases ep;rw[zC nba.symm,w2.h]at hp;cases hp;exact .inr ⟨a,vs,rfl,w2.h,hm'⟩
theorem HasV.frzG(h:HasV K S H0 H F v x)(s:Same F F')(n:∀c,Owns H v x c→F' c=none):HasV K S H0 H F' v x:=by
 cases x with
 | fz κ d=>exact yE s h
 | tn d=>obtain⟨T,eT,k⟩:=h; exact⟨T,eT,yE s k⟩
 | ow κ ds=>obtain⟨b,us,eb,wo,kk⟩:=h; exact⟨b,us,eb,⟨wo.h,n b eb,wo.n,wo.s⟩,zF s kk⟩
 | ox=>obtain⟨b,us,eb,wo⟩:=h; exact⟨b,us,eb,⟨wo.h,n b eb,wo.n,wo.s⟩⟩
 | o2 r dss =>
  obtain⟨b,us,eb,wo,n1,n2,l,k⟩:=h;refine⟨b,us,eb,⟨wo.h,n b (.inl eb.eq),wo.n,wo.s⟩,n1,n2,l,λj y hy=>?_⟩
  obtain⟨c,ws,ds,e2,o2,h2,k2⟩:=k j y hy;exact⟨c,ws,ds,e2,⟨o2.h,n c (.inr ⟨b,us,eb.eq,wo.h,by rw[←e2]; exact ζf hy⟩),o2.n,o2.s⟩,h2,zF s k2⟩
 | fn a=>exact h
 | xn φ=>obtain⟨b,e,k⟩:=h; exact⟨b,e,s _ _ k⟩
 | oa b κ ds=>obtain⟨eb,us,wo,kk⟩:=h; exact⟨eb,us,⟨wo.h,n b eb,wo.n,wo.s⟩,zF s kk⟩
 | xp φ=>obtain⟨F1,s1,k⟩:=h; exact⟨F1,s1.trans s,k⟩
 | od u=>obtain⟨b,eb,wo⟩:=h; exact⟨b,eb,⟨wo.h,n b eb,wo.n,wo.s⟩⟩
 | og ad ψ =>
  obtain⟨ok,w,p⟩:=h;refine⟨ok,λb z=>?_,ok.ps S H0 H H F F' v (λ_ _=>rfl) s p⟩
  obtain⟨o,y⟩:=w b z;exact⟨o,⟨y.h,n b z,y.n,y.s⟩⟩
open Classical in
noncomputable def frzF(F H:Hp)(a:Addr)(vs:List V):Hp:=λc=>if c=a∨V.ref c∈vs then H c else F c
theorem DEnv.frz2(e:DEnv K S H0 F0 H F σ Γ)(h:GetC Γ i (.o2 r dss))(es:SetC Γ i (some (.fz true (.list (dss.map .list)))) Γ'):
  ∃(Ff:Hp) (A:Addr→Prop),DEnv K S H0 F0 H Ff σ Γ'∧Same F Ff∧(∀c,A c→F c=none∧∃vs,Ff c=some (.lst vs))∧∀c,¬A c→Ff c=F c:=by
 have h':=h.eq;obtain⟨v0,q1,a,vs,⟨rfl,hid⟩,w,n1,n2,n3,hk⟩:=e.has i _ h';have inn:∀{c:Addr},(c=a∨V.ref c∈vs)→∃us,wL S H0 H F c us:=λ{c} hc=>by
  rcases hc with rfl | hc
  ·exact⟨_,w⟩
  ·obtain⟨j,hj⟩:=ξV.mp hc;obtain⟨b,us,ds,eb,ow,_⟩:=hk j _ hj;cases eb;exact⟨us,ow⟩
 have Fin:∀{c:Addr},(c=a∨V.ref c∈vs)→frzF F H a vs c=H c:=λhc=>if_pos hc;have Fout:∀{c:Addr},¬(c=a∨V.ref c∈vs)→frzF F H a vs c=F c:=λhc=>if_neg hc;have s:Same F (frzF F H a vs):=λc o hc=>by
  rw[Fout λz=>by obtain⟨us,ow⟩:=inn z; rw[ow.f]at hc; cases hc];exact hc
 have le:Same (frzF F H a vs) H:=λc o hc=>by
  by_cases z:c=a∨V.ref c∈vs
  ·rw[Fin z]at hc; exact hc
  ·rw[Fout z]at hc; exact e.le _ _ hc
 have li:=(ζh.mp h').1;have own:∀{c:Addr},(c=a∨V.ref c∈vs)→Owns H (.ref a) (.o2 r dss) c:=λ{c} hc=>by
  rcases hc with rfl | hc
  ·exact .inl rfl
  ·exact .inr ⟨a,vs,rfl,w.h,hc⟩
 obtain rfl:=es.eq;have hv:HasV K S H0 H (frzF F H a vs) (.ref a) (.fz true (.list (dss.map .list))):=by
  refine .lst ⟨by rw[Fin (.inl rfl)]; exact w.h,w.s⟩ (Wz (by rw[ζa]; exact n3) λj v d h1 h2=>?_);obtain⟨b,us,ds,rfl,ow,hd,kk⟩:=hk j v h1;rw[ζo,hd]at h2;cases h2;exact .lst ⟨by rw[Fin (.inr (ζf h1))]; exact ow.h,ow.s⟩ (zF s kk)
 have eF:DEnv K S H0 F0 H (frzF F H a vs) σ (Γ.set i (some (.fz true (.list (dss.map .list))))):=by
  refine⟨⟨e.gr.h,e.gr.f.trans s,le,λc o hc hn=>?_⟩,e.l0,e.sd,e.s0,by simp[e.len],λj f z=>?_,λj k' x1 y1 v1 w1 b g1 g2 g3 g4 o1 o2=>?_⟩
  ·rw[Fout λz=>by obtain⟨us,ow⟩:=inn z; rw[ow.n]at hc; cases hc];exact e.gr.ap c o hc hn
  ·by_cases hj:j=i
   ·subst hj;rw[ζu li]at z;cases z;exact⟨_,q1,hv⟩
   ·rw[ζz (Ne.symm hj)]at z;obtain⟨u,r1,r2⟩:=e.has j f z;refine⟨u,r1,r2.frzG s λc oc=>?_⟩
    by_cases zc:c=a∨V.ref c∈vs
    ·exact absurd (e.ne j i f _ u _ c z h' r1 q1 oc (own zc)) hj
    ·rw[Fout zc];obtain⟨us,wo⟩:=r2.owns oc;exact wo.f
  ·by_cases hj:j=i
   ·subst hj;rw[ζu li]at g1;cases g1;exact o1.elim
   ·by_cases hk':k'=i
    ·subst hk';rw[ζu li]at g2;cases g2;exact o2.elim
    ·rw[ζz (Ne.symm hj)]at g1;rw[ζz (Ne.symm hk')]at g2;exact e.ne j k' x1 y1 v1 w1 b g1 g2 g3 g4 o1 o2
 refine⟨_,λc=>c=a∨V.ref c∈vs,eF,s,λc hc=>?_,λc hc=>Fout hc⟩
 obtain⟨us,ow⟩:=inn hc;exact⟨ow.f,us,by rw[Fin hc]; exact ow.h⟩
theorem zfz(i:Nat)(h:GetC Γ i (.o2 r dss))(es:SetC Γ i (some (.fz true (.list (dss.map .list)))) Γ')(k:ExT K S S' t Γ' P):ExT K S S' t Γ P:=λH0 F0 H F σ B e bb vv D I=>by
 obtain⟨Ff,A,eF,s,_⟩:=e.frz2 h es;exact k H0 F0 H _ σ B eF (bb.trans s) vv D I
theorem W5(h:∀d∈ds,imm d=true)(k:zT K F vs ds):zr K κ S H0 (drop T F) vs ds :=
 xD h (zM (xT (κ:=true) (κ':=true) (S:=.spoil T) (S':=.fresh) (H0:=λ_=>none) (H0':=λ_=>none) (F:=F) (F':=drop T F) (λa xs z=>⟨yL.mpr ⟨z.1,λc=>z.2 (.inr c.1)⟩,λc=>z.2 (.inl c)⟩) (λ_ _ z=>QN z) (xD h k)))
theorem zbe(h:EvA K S false t Γ ds)(hp:pre ds (.list xs))(him:∀d∈xs,imm d=true):EvO K S κ (vm (spD K true pre) [] E t) Γ xs:=λH0 F0 H F σ e Q q =>
 h H0 F0 H F σ e _ λvs H1 F1 g1 p1=>⟨F1,ds,_,g1.le,by rw[ζQ]; exact zM p1,hp,λv H2 F2 g2 p2=>by
  obtain⟨a,us,rfl,hl,hk⟩:=wS p2;have h1:H1 a=none:=Classical.byContradiction λz=>hl.2 z;have g:=g1.trans g2;refine q a us H2 (drop (λc=>c=a) F2) ⟨g.h,λb o z=>yL.mpr ⟨g.f _ _ z,?_⟩,λb o z=>g.le _ _ (yL.mp z).1,λb o z n=>?_⟩ (g1.h.free h1) (g2.le _ _ hl.1) (YO hl.1 rfl) (W5 him (zM hk))
  ·rintro⟨rfl,_⟩;have:=e.le _ _ z;rw[g1.h.free h1]at this; cases this
  ·cases q':drop (λc=>c=a) F2 b with
   | none=>rfl
   | some o' =>
    have:=(yL.mp q').1;rw[g.ap _ _ z n]at this; cases this⟩
theorem thaw(e:DEnv K S H0 F0 H F σ Γ)(h:GetC Γ i (.ow κ ds))(es:SetC Γ i (some (.fz κ (.list ds))) Γf):
  ∃a Ff,DEnv K S H0 F0 H Ff σ Γf∧∀H' F',Gr H Ff H' F'→Gr H F H' (drop (λc=>c=a) F'):=by
 obtain⟨v,q1,a,vs,rfl,w,q5⟩:=e.has i _ h.eq;obtain⟨s,e'⟩:=e.froz (y:=.fz κ (.list ds)) h.eq q1 rfl w (.lst (LN.new w.s) (zF (Same.new w.f _) q5)) λ_ z=>z.elim;rw[es.eq]at e';refine⟨a,_,e',λH' F' g=>⟨g.h,λc o z=>yL.mpr ⟨g.f _ _ (s _ _ z),?_⟩,λc o z=>g.le _ _ (yL.mp z).1,λc o z n=>?_⟩⟩
 ·rintro⟨rfl,_⟩;rw[w.f]at z; cases z
 ·by_cases hc:c=a
  ·subst hc;exact YO (g.f _ _ zp) rfl
  ·cases q':drop (λc=>c=a) F' c with
   | none=>rfl
   | some o' =>
    have:=(yL.mp q').1;rw[g.ap _ _ z (by rw[zC hc]; exact n)]at this; cases this
theorem zc5(i:Nat)(h:GetC Γ i (.ow κ ds))(es:SetC Γ i (some (.fz κ (.list ds))) Γf)(k:EvT K S t Γf b):EvT K S t Γ b:=λH0 F0 H F σ e Q q=>by
 obtain⟨a,Ff,e',g⟩:=thaw e h es;exact k H0 F0 H Ff σ e' Q λH' F' g'=>q H' _ (g H' F' g')
theorem vD{α:Type}{js:List (Option Nat)}{Γc:Ctx}{wi:TI}{g:TG}{te:TE}{is:AF}{xs:List α}(κ':Bool)(u f:α→AD)(hu:∀x∈xs,∀y∈xs,u x=u y→f x=f y)(hi:EvI K S κ' wi Γ (xs.map u))(hc:x5 js Γ Γc)(hjs:(is.all λi=>js[i]? == some none)=true)
  (hj:(js.filterMap id).Nodup) (hz:xs.length≤sizeLine) (hb:∀x∈xs,ExG K S κ' g is (u x) Γc λΓ'=>EvE K S κ te Γ' (f x)):EvO K S κ (ux js wi g tYes te) Γ (xs.map f):=by
 classical
 let F:AD→AD:=λd=>if h:∃x,x∈xs∧u x=d then f h.choose else .none
 have hF:∀x∈xs,F (u x)=f x:=λx hx=>by
  have h:∃y,y∈xs∧u y=u x:=⟨x,hx,rfl⟩
  show(if h:∃y,y∈xs∧u y=u x then f h.choose else .none)=_;rw[dif_pos h];exact hu _ h.choose_spec.1 _ hx h.choose_spec.2
 refine EvO.eq (vW (κ:=κ) κ' F hi hc hjs hj (by rw[ζa]; exact hz) λd hd=>?_) ?_
 ·obtain⟨x,hx,rfl⟩:=ζn.mp hd;rw[hF x hx];exact hb x hx
 ·rw[ζx];exact ζs λx hx=>hF x hx
theorem zev:sizeLine < 2 ^ 62:=by decide
theorem zac:((List.range n).map f).length=n:=by rw[ζa,ζv]
end
section
variable {K:ζc}{S S':Sx}{κ κ':Bool}{Γ Γ' Γ'':Ctx}{P:Post}{E:XK}
theorem DEnv.putN(e:DEnv K S H0 F0 H F σ Γ)(h:Γ[i]?=some (some x))(ha:σ[i]?=some (some v))(ho:Owns H v x a)
  (k:HasV K S H0 (upd H a (.lst vs)) F v y) (ko:∀c,Owns (upd H a (.lst vs)) v y c→Owns H v x c∨c=b) (nb:∀(j:Nat) (f:DV) (u:V),Γ[j]?=some (some f)→σ[j]?=some (some u)→¬Owns H u f b):DEnv K S H0 F0 (upd H a (.lst vs)) F σ (Γ.set i (some y)):=by
 obtain⟨v',q1,q2⟩:=e.has i x h;rw[ha]at q1;cases q1;obtain⟨ws,w⟩:=q2.owns ho;have hs:Same F (upd H a (.lst vs)):=λb u z=>by
  have:b≠a:=by rintro rfl; rw[w.f]at z; cases z
  rw[zC this]; exact e.le _ _ z
 have li:=(ζh.mp h).1;have far:∀{j:Nat} {f:DV} {u:V},j≠i→Γ[j]?=some (some f)→σ[j]?=some (some u)→¬Owns H u f a:=λ{j f u} hj z r o=>hj (e.ne j i f x u v a z h r ha o ho);refine⟨⟨λb u z=>?_,e.gr.f,hs,e.gr.ap⟩,e.l0,λb c=>?_,e.s0,by simp[e.len],λj f z=>?_,λj k' x1 y1 v1 w1 c g1 g2 g3 g4 o1 o2=>?_⟩
 ·rw[zC (zN z w.n)]; exact e.gr.h _ _ z
 ·obtain⟨o,q⟩:=e.sd b c;by_cases hb:b=a
  ·subst hb; exact⟨_,zp⟩
  ·exact⟨o,by rw[zC hb]; exact q⟩
 ·by_cases hj:j=i
  ·subst hj;rw[ζu li]at z;cases z;exact⟨_,ha,k⟩
  ·rw[ζz (Ne.symm hj)]at z;obtain⟨u,r1,r2⟩:=e.has j f z;exact⟨u,r1,r2.other (far hj z r1)⟩
 ·have bk:∀{j:Nat} {f:DV} {u:V},(Γ.set i (some y))[j]?=some (some f)→σ[j]?=some (some u)→Owns (upd H a (.lst vs)) u f c→(∃g,Γ[j]?=some (some g)∧Owns H u g c)∨(j=i∧c=b):=λ{j f u} z r o=>by
   by_cases hj:j=i
   ·subst hj;rw[ζu li]at z;cases z;rw[ha]at r;cases r;rcases ko c o with o | o
    ·exact .inl ⟨x,h,o⟩
    ·exact .inr ⟨rfl,o⟩
   ·rw[ζz (Ne.symm hj)]at z;obtain⟨u',r1,r2⟩:=e.has j f z;rw[r]at r1;cases r1;exact .inl ⟨f,z,o.other r2 (far hj z r)⟩
  rcases bk g1 g3 o1 with⟨f1,z1,w1'⟩ | ⟨j1,c1⟩
  ·rcases bk g2 g4 o2 with⟨f2,z2,w2'⟩ | ⟨j2,c2⟩
   ·exact e.ne j k' f1 f2 v1 w1 c z1 z2 g3 g4 w1' w2'
   ·subst c2;exact absurd w1' (nb j f1 v1 z1 g3)
  ·rcases bk g2 g4 o2 with⟨f2,z2,w2'⟩ | ⟨j2,c2⟩
   ·subst c1;exact absurd w2' (nb k' f2 w1 z2 g4)
   ·rw[j1,j2]
theorem DEnv.newOwn(e:DEnv K S H0 F0 H F σ Γ)(g:Gr H F H' F')(hb:H b=none)(j:Nat)(f:DV)(u:V)(z:Γ[j]?=some (some f))(r:σ[j]?=some (some u)):¬Owns H' u f b:=λo=>by
 obtain⟨u',q1,q2⟩:=e.has j f z;rw[r]at q1;cases q1;obtain⟨us,w⟩:=q2.owns (o.back q2 λ_ _ z=>g.h _ _ z.h);have:=w.h;rw[hb]at this; cases this
theorem zfy(es:SetC Γ i (some (.o2 none [])) Γ')(k:ExT K S S' u Γ' P):ExT K S S' (tSeq (tAsg (tLst tNil) (yG i)) u) Γ P:=λH0 F0 H F σ B e bb vv D I=>by
 refine⟨ξn _,λp hp=>?_⟩
 have g:Gr H F (upd H p (.lst [])) F:=.newO e.le hp _;have e1:=(e.mono g).set (i:=i) (v:=.ref p) (x:=.o2 none []) ⟨p,[],⟨rfl,λ_ z=>nomatch z⟩,⟨zp,e.le.free hp,e.gr.h.free hp,e.out hp⟩,by simp,List.nodup_nil,rfl,λj x hx=>by simp at hx⟩ λc oc j y w hj z hw o=>by
  rcases oc with oc | ⟨q,xs,ep,hq,hm⟩
  ·cases oc;exact e.newOwn g hp j y w z hw o
  ·cases ep;rw[zp]at hq;cases hq;cases hm
 rw[es.eq]at e1;exact k H0 F0 _ F _ B e1 bb vv D I
theorem Qf(h:GetC Γ i (.o2 r dss))(he:EvO K S true te Γ ds)(hz:dss.length < sizeLine)(es:SetC Γ i (some (.o2 r (dss ++ [ds]))) Γ')(k:P.nx Γ'):
  ExS K S (x6 (tBM K "list" vP (tVar i) (zX te tNil))) Γ P:=λH0 F0 H F σ B e bb _ D I=>by
 obtain⟨v0,q1,a,vs,⟨rfl,hid⟩,w,n1,n2,n3,hk⟩:=e.has i _ h.eq;refine⟨_,q1,.inl ⟨rfl,_,SqL.of w.h⟩,he H0 F0 H F σ e _ λb us H1 F1 g hb hb1 fb kk=>?_⟩
 have w1:=w.mono g;have nab:b≠a:=by rintro rfl; have:=w.h; rw[hb]at this; cases this
 have nbv:V.ref b∉vs:=λhm=>by
  obtain⟨j,hj⟩:=ξV.mp hm;obtain⟨c,ws,ds',ec,oc,_⟩:=hk j _ hj;cases ec;have:=oc.h;rw[hb]at this; cases this
 refine⟨a,vs,.ref b,rfl,rfl,w1.h,by rw[n3]; exact hz,?_⟩
 obtain rfl:=es.eq;refine I.nx _ _ _ F1 k (bb.trans g.f) ((e.mono g).putN (b:=b) (y:=.o2 r (dss ++ [ds])) h.eq q1 (show Owns H1 (.ref a) (.o2 r dss) a from .inl rfl) ?_ ?_ λj f u z r'=>e.newOwn g hb j f u z r')
 ·refine⟨a,vs ++ [.ref b],⟨rfl,hid⟩,⟨zp,w1.f,w1.n,w1.s⟩,?_,?_,by rw[ζg,ζg,n3]; rfl,λj x hx=>?_⟩
  ·intro hm;rcases ζw.mp hm with hm | hm
   ·exact n1 hm
   ·have:V.ref a=.ref b:=by simpa using hm
    cases this;exact nab rfl
  ·refine List.nodup_append.mpr ⟨n2,by simp,λx hx y hy=>?_⟩;have:y=.ref b:=by simpa using hy
   rintro rfl;exact nbv (this ▸ hx)
  ·by_cases hj:j < vs.length
   ·rw[ξy hj]at hx;obtain⟨c,ws,ds',rfl,oc,hc,kc⟩:=hk j x hx;have nca:c≠a:=by rintro rfl; exact n1 (ζf hx)
    exact⟨c,ws,ds',rfl,(oc.mono g).other nca,by rw[ξy ⋯]; exact hc,zF g.f kc⟩
   ·rw[ξl ⋯]at hx;have hj':j - vs.length=0:=by
     have:=(ζh.mp hx).1;simp at this;omega
    rw[hj']at hx;cases(show some (V.ref b)=some x from hx);exact⟨b,us,ds,rfl,⟨by rw[zC nab]; exact hb1,fb,e.gr.h.free hb,e.out hb⟩,by rw[ξl ⋯,show j - dss.length=0 by omega]; rfl,kk⟩
 ·rintro c (oc | ⟨p,xs,ep,hp,hm⟩)
  ·exact .inl (.inl oc)
  ·cases ep;rw[zp]at hp;cases hp;rcases ζw.mp hm with hm | hm
   ·exact .inl (.inr ⟨a,vs,rfl,w1.h,hm⟩)
   ·right;have:V.ref c=.ref b:=by simpa using hm
    cases this;rfl
theorem Qk(h:GetC Γ i (.o2 r dss)):EvE K S κ (tCB (λxs H Q=>∃p ys,xs=[.ref p]∧(SqL K H p ys∨SqT K H p ys)∧Q (.int ys.length) H) (zX (tVar i) tNil)) Γ (.int dss.length):=λH0 F0 H F σ e Q q=>by
 obtain⟨v0,q1,a,vs,⟨rfl,_⟩,w,_,_,n3,_⟩:=e.has i _ h.eq;exact⟨_,q1,a,vs,rfl,.inl (SqL.of w.h),by rw[n3]; exact q _ H F (.refl e.le) (.int _)⟩
def ExM(K:ζc)(t:TS)(Γ:Ctx)(G:Hp→Hp→Hp→Hp→V→Prop):Prop:=∀(H0 F0 H F:Hp) (σ:St),DEnv K .fresh H0 F0 H F σ Γ→∀D:Ends,(∀v H' F',G H0 F0 H' F' v→D.rt v H')→t D σ H
theorem uV(N:Ctx→Prop)(h1:ExS K .fresh t Γ { nx:=N,rt:=λ_=>False })(h2:∀Γ',N Γ'→ExM K u Γ' G):ExM K (tSeq t u) Γ G:=λH0 F0 H F σ e D q =>
 h1 H0 F0 H F σ F e (.refl _) (.inl rfl) _ ⟨λΓ' σ' H' F' n _ e'=>h2 Γ' n H0 F0 H' F' σ' e' D q,λ_ _ _ _ z=>z.elim,λ_ _ _ _ z=>z.elim,λ_ _ _ _ z=>z.elim⟩
theorem zeJ(i:Nat)(h:GetC Γ i (.ow κ ds))(es:SetC Γ i (some (.fz κ (.list ds))) Γ')(k:ExM K t Γ' G):ExM K t Γ G:=λH0 F0 H F σ e D q=>by
 obtain⟨F',_,e'⟩:=e.freeze h.eq;rw[es.eq]at e';exact k H0 F0 H F' σ e' D q
abbrev X7(K:ζc)(dss:List AG):Hp→Hp→Hp→Hp→V→Prop:=λH0 F0 H F v=>Gr H0 F0 H F∧HasV K .fresh H0 H F v (.o2 none dss)
theorem Qe(h:GetC Γ i (.o2 r dss)):ExM K (tRet (tVar i)) Γ (X7 K dss):=λH0 F0 H F σ e D q=>by
 obtain⟨v,q1,a,vs,⟨rfl,_⟩,w⟩:=e.has i _ h.eq;exact⟨_,q1,q _ H F ⟨e.gr,a,vs,⟨rfl,λ_ z=>nomatch z⟩,w⟩⟩
def spO2(K:ζc)(pre:AG→List AG→Prop):Sp:=λvs H Q _=>∃F ds dss,Same F H∧zT K F vs ds∧pre ds dss∧∀v H' F',X7 K dss H F H' F' v→Q v H'
theorem Q1(h:∀ds dss,pre ds dss→ds.length=n)(s:spO2 K pre vs H Q E):vs.length=n:=by
 obtain⟨F,ds,dss,_,k,p,_⟩:=s;rw[zT.length k];exact h ds dss p
theorem zff(le:Same F H)(k:zT K F vs ds)(q:∀v H' F',G H F H' F' v→D.rt v H')(hn:N.length=n)(hΓ:xg n ds Γ)(h:ExM K t Γ G):t D (L2.yI N vs) H:=by
 have e:=x4 (N:=N) le k;rw[hn,hΓ.eq]at e;exact h H F H F _ e D q
theorem Qj(h:EvA K .fresh false ta Γ ds)(hp:pre ds dss)(es:SetC Γ i (some (.o2 none dss)) Γ')(k:ExT K .fresh S' u Γ' P):
  ExT K .fresh S' (tSeq (tAsg (vm (spO2 K pre) [] E ta) (yG i)) u) Γ P:=λH0 F0 H F σ B e bb vv D I =>
 h H0 F0 H F σ e _ λvs H1 F1 g1 p1=>⟨F1,ds,dss,g1.le,by rw[ζQ]; exact zM p1,hp,λv H2 F2 ⟨g2,a,ws,ida,w,n1,n2,n3,hk⟩=>by
  have e1:=e.mono g1;have up1:∀{b:Addr} {us:List V},wL .fresh H1 H2 F2 b us→wL .fresh H0 H2 F2 b us:=λ{b us} o=>⟨o.h,o.f,e1.gr.h.free o.n,λc=>c (e1.gr.h.free o.n)⟩
  have lnm:∀(b:Addr) (xs:List V),LN K true .fresh H1 F2 b xs→LN K true .fresh H0 F2 b xs:=λb xs z=>⟨z.1,λc=>by
   have hb1:H1 b=none:=Classical.byContradiction λz'=>z.2 z';exact c (e1.gr.h.free hb1)⟩
  have e2:=(e1.mono g2).set (i:=i) (v:=v) (x:=.o2 none dss) ⟨a,ws,ida,up1 w,n1,n2,n3,λj x hx=>by
   obtain⟨b,us,ds',ex,ow,hd,kk⟩:=hk j x hx;exact⟨b,us,ds',ex,up1 ow,hd,xT (κ:=true) (κ':=true) lnm (λ_ _ z=>z) kk⟩⟩ λc oc j y w' hj z hw o=>by
   have hc1:H1 c=none:=by
    rcases oc with oc | ⟨p,xs,ep,hq,hm⟩
    ·rw[ida.eq]at oc;cases oc;exact w.n
    ·rw[ida.eq]at ep;cases ep;rw[w.h]at hq;cases hq;obtain⟨j',hj'⟩:=ξV.mp hm;obtain⟨b,us,ds',eb,ow,_⟩:=hk j' _ hj';cases eb;exact ow.n
   exact e1.newOwn g2 hc1 j y w' z hw o
  rw[es.eq]at e2;exact k H0 F0 H2 F2 _ B e2 (bb.trans (g1.f.trans g2.f)) vv D I⟩
theorem HasV.cut(h:HasV K S H0 H F v x)(c:∀b,Owns H v x b→H' b=H b):HasV K S H0 H' F v x:=by
 cases x with
 | fz κ d=>exact h
 | tn d=>exact h
 | ow κ ds=>obtain⟨b,us,eb,wo,kk⟩:=h; exact⟨b,us,eb,⟨by rw[c b eb]; exact wo.h,wo.f,wo.n,wo.s⟩,kk⟩
 | ox=>obtain⟨b,us,eb,wo⟩:=h; exact⟨b,us,eb,⟨by rw[c b eb]; exact wo.h,wo.f,wo.n,wo.s⟩⟩
 | o2 r dss =>
  obtain⟨b,us,eb,wo,n1,n2,l,k⟩:=h;refine⟨b,us,eb,⟨by rw[c b (.inl eb.eq)]; exact wo.h,wo.f,wo.n,wo.s⟩,n1,n2,l,λj y hy=>?_⟩
  obtain⟨d,ws,ds,e2,o2,h2,k2⟩:=k j y hy;exact⟨d,ws,ds,e2,⟨by rw[c d (.inr ⟨b,us,eb.eq,wo.h,by rw[←e2]; exact ζf hy⟩)]; exact o2.h,o2.f,o2.n,o2.s⟩,h2,k2⟩
 | fn a=>exact h
 | xn o=>exact h
 | oa b κ ds=>obtain⟨eb,us,wo,kk⟩:=h; exact⟨eb,us,⟨by rw[c b eb]; exact wo.h,wo.f,wo.n,wo.s⟩,kk⟩
 | xp φ=>exact h
 | od u=>obtain⟨b,eb,wo⟩:=h; exact⟨b,eb,⟨by rw[c b eb]; exact wo.h,wo.f,wo.n,wo.s⟩⟩
 | og ad ψ =>
  obtain⟨ok,w,p⟩:=h;refine⟨ok,λb z=>?_,ok.ps S H0 H H' F F v c (.refl _) p⟩
  have z:=(ok.pl H H' v c b).mp z;obtain⟨o,y⟩:=w b z;exact⟨o,⟨by rw[c b z]; exact y.h,y.f,y.n,y.s⟩⟩
def spP2(K:ζc)(pre:AD→List AG→AD→AD→List AG→Prop):Sp:=λvs H Q _=>∃F H0 v0 a v2 d0 d2 dss d dss',vs=[v0,.ref a,v2]∧Same F H∧Same F H0∧Same H0 H∧Dp K F v0 d0∧Dp K F v2 d2∧
 HasV K .fresh H0 H F (.ref a) (.o2 (some a) dss)∧pre d0 dss d2 d dss'∧∀v H' F',Gr H0 F H' F'→Rp K true .fresh H0 F' v d→HasV K .fresh H0 H' F' (.ref a) (.o2 none dss')→Q v H'
abbrev tS(K:ζc)(a:Addr)(d:AD)(dss:List AG):Hp→Hp→Hp→Hp→V→Prop:=λH0 F0 H F v=>Gr H0 F0 H F∧Rp K true .fresh H0 F v d∧HasV K .fresh H0 H F (.ref a) (.o2 none dss)
theorem za9(h:EvE K .fresh true te Γ d)(hj:GetC Γ j (.o2 (some a) dss)):ExM K (tRet te) Γ (tS K a d dss):=λH0 F0 H F σ e D q =>
 h H0 F0 H F σ e _ λv H1 F1 g p=>by
  obtain⟨v',q1,a',vs,ida,w⟩:=(e.mono g).has j _ hj.eq;have:=ida.id a rfl;subst this;exact q v H1 F1 ⟨e.gr.trans g,p,a',vs,⟨rfl,λ_ z=>nomatch z⟩,w⟩
theorem zd0(le:Same F H)(l0:Same F H0)(hh:Same H0 H)(k0:Dp K F v0 d0)(k2:Dp K F v2 d2)(ko:HasV K .fresh H0 H F (.ref a) (.o2 (some a) dss))
  (q:∀v H' F',tS K a d dss' H0 F H' F' v→D.rt v H') (hn:N.length=n + 3) (h:ExM K t (some (.fz false d0) :: some (.o2 (some a) dss) :: some (.fz false d2) :: List.replicate n none) (tS K a d dss')):t D (L2.yI N [v0,.ref a,v2]) H:=by
 have no:∀(i:Nat) (x:DV),(some (.fz false d0) :: some (.o2 (some a) dss) :: some (.fz false d2) :: List.replicate n none:Ctx)[i]?=some (some x)→(i=0∧x=.fz false d0)∨(i=1∧x=.o2 (some a) dss)∨(i=2∧x=.fz false d2):=λi x z=>by
  match i with
  | 0=>left; exact⟨rfl,(ζr (ζr z)).symm⟩
  | 1=>right; left; exact⟨rfl,(ζr (ζr z)).symm⟩
  | 2=>right; right; exact⟨rfl,(ζr (ζr z)).symm⟩
  | i + 3 =>
   have z':(List.replicate n (none:Option DV))[i]?=some (some x):=z;rw[List.getElem?_replicate]at z';split at z' <;> cases z'
 refine h H0 F H F _ ⟨⟨hh,.refl _,le,λ_ _ _ z=>z⟩,l0,λb c=>?_,λT z=>(nomatch z),?_,λi x z=>?_,λi j x y v w b z1 z2 _ _ o1 o2=>?_⟩ D q
 ·cases z:H0 b with
  | none=>exact absurd z c
  | some o=>exact⟨o,hh _ _ z⟩
 ·unfold L2.yI;simp[hn]
 ·rcases no i x z with⟨rfl,rfl⟩ | ⟨rfl,rfl⟩ | ⟨rfl,rfl⟩
  ·exact⟨v0,rfl,uf k0⟩
  ·exact⟨.ref a,rfl,ko⟩
  ·exact⟨v2,rfl,uf k2⟩
 ·rcases no i x z1 with⟨rfl,rfl⟩ | ⟨rfl,rfl⟩ | ⟨rfl,rfl⟩
  ·exact o1.elim
  ·rcases no j y z2 with⟨rfl,rfl⟩ | ⟨rfl,rfl⟩ | ⟨rfl,rfl⟩
   ·exact o2.elim
   ·rfl
   ·exact o2.elim
  ·exact o1.elim
open Classical in
theorem Qi(h0:EvE K S false t0 Γ d0)(hj:GetC Γ j (.o2 none dss))(h2:EvE K S false t2 Γ d2)(hp:pre d0 dss d2 d dss')
  (im:∀ds∈dss,∀d∈ds,imm d=true) (im':∀ds∈dss',∀d∈ds,imm d=true) (es1:SetC Γ j (some (.o2 none dss')) Γ') (es2:SetC Γ' i (some (.fz true d)) Γ'') (k:ExT K S S' u Γ'' P) :
  ExT K S S' (tSeq (tAsg (vm (spP2 K pre) [] E (zX t0 (zX (tVar j) (zX t2 tNil)))) (yG i)) u) Γ P:=λH0 F0 H F σ B e bb vv D I =>
 h0 H0 F0 H F σ e _ λv0 H1 F1 g1 p1=>by
  obtain⟨vj,q1,_⟩:=e.has j _ hj.eq;refine⟨vj,q1,h2 H0 F0 H1 F1 σ (e.mono g1) _ λv2 H2 F2 g2 p2=>?_⟩
  have g:=g1.trans g2;have e2:=e.mono g;obtain⟨vj',q1',a,vs,ida,w,n1,n2,n3,hk⟩:=e2.has j _ hj.eq;rw[q1]at q1';cases q1';have eva:=ida.eq;subst eva;let A:Addr→Prop:=λc=>Owns H2 (.ref a) (.o2 none dss) c;let Hc:Hp:=λc=>if A c then none else H2 c
  have ownA:∀{c:Addr},A c→∃us,OwnO S H0 H2 F2 c us:=λ{c} hc=>HasV.owns (x:=.o2 none dss) ⟨a,vs,ida,w,n1,n2,n3,hk⟩ hc;have HcA:∀{c:Addr},A c→Hc c=none:=λhc=>if_pos hc;have HcN:∀{c:Addr},¬A c→Hc c=H2 c:=λhc=>if_neg hc;have cut:∀{c:Addr},Hc c=none→H0 c=none∧¬S.has H0 c:=λ{c} hc=>by
   by_cases z:A c
   ·obtain⟨us,o⟩:=ownA z;exact⟨o.n,o.s⟩
   ·rw[HcN z]at hc;exact⟨e2.gr.h.free hc,e2.out hc⟩
  have sub:Same Hc H2:=λc o hc=>by
   by_cases z:A c
   ·rw[HcA z]at hc; cases hc
   ·rw[HcN z]at hc; exact hc
  have subF:Same F2 Hc:=λc o hc=>by
   rw[HcN λz=>by obtain⟨us,ow⟩:=ownA z; rw[ow.f]at hc; cases hc];exact e2.le _ _ hc
  have ownC:∀{c:Addr} {us:List V},A c→wL S H0 H2 F2 c us→wL .fresh Hc H2 F2 c us:=λhc o=>⟨o.h,o.f,HcA hc,λz=>z (HcA hc)⟩
  refine⟨F2,Hc,v0,a,v2,d0,d2,dss,d,dss',by rw[ζQ],g2.le,subF,sub,xu g2.f (xa p1),xa p2,⟨a,vs,⟨rfl,λb z=>by cases z; rfl⟩,ownC (.inl rfl) w,n1,n2,n3,λm x hx=>?_⟩,hp,λv H3 F3 g3 p3 hv3=>?_⟩
  ·obtain⟨b,us,ds,ex,ow,hd,kk⟩:=hk m x hx;exact⟨b,us,ds,ex,ownC (.inr ⟨a,vs,rfl,w.h,by rw[←ex]; exact ζf hx⟩) ow,hd,xD (im ds (ζf hd)) (zM kk)⟩
  ·have up3:∀{c:Addr} {us:List V},wL .fresh Hc H3 F3 c us→wL S H0 H3 F3 c us:=λ{c us} o=>⟨o.h,o.f,(cut o.n).1,(cut o.n).2⟩
   have notA:∀{m:Nat} {y:DV} {x:V} {c:Addr},m≠j→Γ[m]?=some (some y)→σ[m]?=some (some x)→Owns H2 x y c→¬A c:=λ{m y x c} hm z r o hc=>hm (e2.ne m j y _ x _ c z hj.eq r q1 o hc);obtain⟨a3,vs3,ida3,w3,m1,m2,m3,hk3⟩:=hv3;have ea3:a3=a:=by have:=ida3.eq; cases this; rfl
   subst ea3;have lj:=(ζh.mp hj.eq).1;have hc0:∀{c:Addr} {o:HO},H0 c=some o→Hc c=some o:=λ{c o} hc=>by
    rw[HcN λz=>by obtain⟨us,ow⟩:=ownA z; rw[ow.n]at hc; cases hc];exact e2.gr.h _ _ hc
   have own3:∀{c:Addr},Owns H3 (.ref a3) (.o2 none dss') c→Hc c=none:=λ{c} hc=>by
    obtain⟨us,o⟩:=HasV.owns (K:=K) (S:=.fresh) (H0:=Hc) (F:=F3) (x:=.o2 none dss') ⟨a3,vs3,ida3,w3,m1,m2,m3,hk3⟩ hc;exact o.n
   have keep:∀{m:Nat} {y:DV} {x:V},m≠j→Γ[m]?=some (some y)→σ[m]?=some (some x)→HasV K S H0 H3 F3 x y∧∀c,Owns H3 x y c→Hc c≠none:=λ{m y x} hm z r=>by
    obtain⟨x',r1,r2⟩:=e2.has m y z;rw[r]at r1;cases r1;have hcut:=r2.cut (H':=Hc) λb o=>HcN (notA hm z r o);refine⟨hcut.mono g3,λc o=>?_⟩
    have o2:=o.back hcut λ_ _ q=>g3.h _ _ q.h;obtain⟨us,ow⟩:=hcut.owns o2;rw[ow.h];simp
   have e3:DEnv K S H0 F0 H3 F3 σ (Γ.set j (some (.o2 none dss'))):=by
    refine⟨⟨λc o hc=>g3.h _ _ (hc0 hc),e2.gr.f.trans g3.f,g3.le,λc o hc hn=>g3.ap c o (hc0 hc) (e2.gr.ap c o hc hn)⟩,e.l0,λc hc=>?_,e.s0,by simp[e.len],λm y z=>?_,λm n y1 y2 x1 x2 c z1 z2 r1 r2 o1 o2=>?_⟩
    ·obtain⟨o,q⟩:=e2.sd c hc;have nA:¬A c:=λz=>by obtain⟨us,ow⟩:=ownA z; exact ow.s hc
     exact⟨o,g3.h _ _ (by rw[HcN nA]; exact q)⟩
    ·by_cases hm:m=j
     ·subst hm;rw[ζu lj]at z;cases z;refine⟨_,q1,a3,vs3,⟨rfl,λ_ z=>nomatch z⟩,up3 w3,m1,m2,m3,λm' x hx=>?_⟩
      obtain⟨b,us,ds,ex,ow,hd,kk⟩:=hk3 m' x hx;exact⟨b,us,ds,ex,up3 ow,hd,xD (im' ds (ζf hd)) (zM kk)⟩
     ·rw[ζz (Ne.symm hm)]at z;obtain⟨x,r,_⟩:=e.has m y z;exact⟨x,r,(keep hm z r).1⟩
    ·by_cases hm:m=j
     ·by_cases hn:n=j
      ·rw[hm,hn]
      ·subst hm;rw[ζu lj]at z1;cases z1;rw[q1]at r1;cases r1;rw[ζz (Ne.symm hn)]at z2;exact absurd (own3 o1) ((keep hn z2 r2).2 c o2)
     ·rw[ζz (Ne.symm hm)]at z1;by_cases hn:n=j
      ·subst hn;rw[ζu lj]at z2;cases z2;rw[q1]at r2;cases r2;exact absurd (own3 o2) ((keep hm z1 r1).2 c o1)
      ·rw[ζz (Ne.symm hn)]at z2;obtain⟨x1',s1,s1'⟩:=e2.has m y1 z1;rw[r1]at s1;cases s1;obtain⟨x2',s2,s2'⟩:=e2.has n y2 z2;rw[r2]at s2;cases s2;have c1:=s1'.cut (H':=Hc) λb o=>HcN (notA hm z1 r1 o);have c2:=s2'.cut (H':=Hc) λb o=>HcN (notA hn z2 r2 o);have b1:=o1.back c1 λ_ _ q=>g3.h _ _ q.h;have b2:=o2.back c2 λ_ _ q=>g3.h _ _ q.h;exact e2.ne m n y1 y2 x1 x2 c z1 z2 r1 r2 (Owns.cut s1' (λb o=>HcN (notA hm z1 r1 o)) b1) (Owns.cut s2' (λb o=>HcN (notA hn z2 r2 o)) b2)
   rw[es1.eq]at e3;have pv:Rp K true S H0 F3 v d:=wR (κ:=true) (κ':=true) (S:=.fresh) (H0:=Hc) (F:=F3) (S':=S) (H0':=H0) (F':=F3) (λb xs z=>⟨z.1,(cut (Classical.byContradiction λq=>z.2 q)).2⟩) (λ_ _ z=>z) p3;have e4:=e3.setF (i:=i) pv;rw[es2.eq]at e4;exact k H0 F0 H3 F3 _ B e4 (bb.trans (g.f.trans g3.f)) vv D I
end
end PD
namespace L2
open PySem PySem.Spec PyProof.Rows
section
variable {X:Cx}
end
end L2
namespace PD
open PySem L2
section
variable {K:ζc}{S S':Sx}{κ κ':Bool}{Γ Γ' Γ'' Γ3:Ctx}{P:Post}
theorem eg3(e1:SetC Γ i (some (.fz κ x)) Γ')(e2:SetC Γ' j (some (.fz κ y)) Γ'')(e3:SetC Γ'' m (some (.fz κ z)) Γ3)(h:k Γ3):ExG K S κ (gTup K 3 (t8 (yG i) (t8 (yG j) (t8 (yG m) gNil)))) [i,j,m] (.tuple [x,y,z]) Γ k:=λH0 F0 H F σ v e p Q q=>by
 obtain rfl:=e1.eq;obtain rfl:=e2.eq;obtain rfl:=e3.eq;obtain⟨a,vs,rfl,h1,h2⟩:=Xn p;cases h2 with
 | cons px h2=>cases h2 with
  | cons py h2=>cases h2 with
   | cons pz h2 =>
    cases h2;refine⟨a,_,rfl,Same.seqT e.le h1,rfl,_,_,rfl,_,_,rfl,_,_,rfl,rfl,?_⟩
    refine q _ _ H F h (.refl e.le) (((e.setF px).setF py).setF pz) (by simp) λn hn=>?_;rw[List.getElem?_set_ne (by intro z; exact hn (by simp[z])),List.getElem?_set_ne (by intro z; exact hn (by simp[z])),List.getElem?_set_ne (by intro z; exact hn (by simp[z]))]
theorem zY{α:Type}{js:List (Option Nat)}{Γc:Ctx}{wi:TI}{g:TG}{tt:TT}{te:TE}{is:AF}{xs:List α}(κ':Bool)(u f:α→AD)(p:α→Bool)(hu:∀x∈xs,∀y∈xs,u x=u y→f x=f y∧p x=p y)(hi:EvI K S κ' wi Γ (xs.map u))(hc:x5 js Γ Γc)(hjs:(is.all λi=>js[i]? == some none)=true)
  (hj:(js.filterMap id).Nodup) (hz:xs.length≤sizeLine) (hb:∀x∈xs,ExG K S κ' g is (u x) Γc λΓ'=>EvT K S tt Γ' (p x)∧(p x=true→EvE K S κ te Γ' (f x))):EvO K S κ (ux js wi g tt te) Γ ((xs.filter p).map f):=by
 classical
 let F:AD→AD:=λd=>if h:∃x,x∈xs∧u x=d then f h.choose else .none
 let G:AD→Bool:=λd=>if h:∃x,x∈xs∧u x=d then p h.choose else false
 have ex:∀x∈xs,∃y,y∈xs∧u y=u x:=λx hx=>⟨x,hx,rfl⟩
 have hF:∀x∈xs,F (u x)=f x:=λx hx=>by
  show(if h:∃y,y∈xs∧u y=u x then f h.choose else .none)=_;rw[dif_pos (ex x hx)];exact(hu _ (ex x hx).choose_spec.1 _ hx (ex x hx).choose_spec.2).1
 have hG:∀x∈xs,G (u x)=p x:=λx hx=>by
  show(if h:∃y,y∈xs∧u y=u x then p h.choose else false)=_;rw[dif_pos (ex x hx)];exact(hu _ (ex x hx).choose_spec.1 _ hx (ex x hx).choose_spec.2).2
 refine EvO.eq (vX (κ:=κ) κ' G F hi hc hjs hj (by rw[ζa]; exact hz) λd hd=>?_) ?_
 ·obtain⟨x,hx,rfl⟩:=ζn.mp hd;rw[hF x hx,hG x hx];exact hb x hx
 ·rw[List.filter_map,ζx];have e1:xs.filter (G∘u)=xs.filter p:=ξH λx hx=>hG x hx;rw[e1];exact ζs λx hx=>hF x (ζl.mp hx).1
theorem YN{n:Nat}(f:Nat→AD)(p:Nat→Bool)(hi:EvA K S false ta Γ [.int n])(hn:n≤sizeLine)(hc:x5 js Γ Γc)(hjs:(is.all λi=>js[i]? == some none)=true)
  (hj:(js.filterMap id).Nodup) (hb:∀k:Nat,k < n→ExG K S true g is (.int k) Γc λΓ'=>EvT K S tt Γ' (p k)∧(p k=true→EvE K S κ te Γ' (f k))):EvO K S κ (ux js (za0 ta) g tt te) Γ (((List.range n).filter p).map f) :=
 zY true (λk:Nat=>.int (k:Int)) f p (λx _ y _ h=>by cases Int.ofNat.inj (PyData.int.inj h); exact⟨rfl,rfl⟩) (yQ (n:=(n:Int)) hi ⋯ (by have:=zev; omega)) hc hjs hj (by rw[ζv]; exact hn) λk hk=>hb k (ζG.mp hk)
end
end PD
namespace L2
open PySem PySem.Spec PyProof.Rows
section
variable {X:Cx}{K:ζc}
def dd(ns:AE):AE:=ns.foldl step_dedup []
theorem XS(ns:AE):firstMet (λi=>ns.getD i 0) ns.length=dd ns:=by
 unfold firstMet dd;congr 1;refine List.ext_getElem? λi=>?_;rw[ζo];by_cases h:i < ns.length
 ·rw[ξ5 h,ζd h];show some (ns.getD i 0)=_;rw[ζb,ζd h];rfl
 ·rw[ξr (by rw[ζv]; omega),ξr ⋯];rfl
theorem XY(ns:AE)(k:Int):dd (ns ++ [k])=step_dedup (dd ns) k:=by
 unfold dd;rw[ξG];rfl
theorem uo(ns:AE):∀k,k∈dd ns↔k∈ns:=by
 suffices h:∀n,∀k,k∈dd (ns.take n)↔k∈ns.take n by simpa using h ns.length
 intro n;induction n with
 | zero=>intro k; rfl
 | succ n ih =>
  intro k;by_cases hn:n < ns.length
  ·have e:ns.take (n + 1)=ns.take n ++ [ns[n]]:=by rw[List.take_succ,ζd hn]; rfl
   rw[e,XY];unfold step_dedup;split
   ·rename_i h;obtain⟨x,hx,ex⟩:=ξD.mp h;have:=eq_of_beq ex;subst this;rw[ih,ζw];refine⟨.inl,λz=>?_⟩
    rcases z with z | z
    ·exact z
    ·rw[ζk.mp z];exact(ih _).mp hx
   ·rw[ζw,ζw,ih]
  ·rw[ζB ⋯];have:=ih k;rw[ζB ⋯]at this;exact this
theorem XZ(ns:AE):(dd ns).length≤ns.length:=by
 have:=length_foldl_step_dedup_le ns ([]:AE);simpa[dd]using this
end
end L2
namespace PD
open PySem L2
section
variable {K:ζc}{S S':Sx}{κ κ':Bool}{Γ Γ' Γ'':Ctx}{P:Post}
def EvG(K:ζc)(S:Sx)(κ:Bool)(t:TE)(Γ:Ctx)(G:AD→Prop):Prop:=∀(H0 F0 H F:Hp) (σ:St),DEnv K S H0 F0 H F σ Γ→∀Q:VK,(∀d v H' F',G d→Gr H F H' F'→Rp K κ S H0 F' v d→Q v H')→t σ H Q
theorem EvI.eq(h:EvI K S κ wi Γ ds)(e:ds=ds'):EvI K S κ wi Γ ds':=e ▸ h
def spW(K:ζc)(κ:Bool)(pre:AG→(AD→Prop)→Prop):Sp:=λvs H Q _=>∃F ds G,Same F H∧zT K F vs ds∧pre ds G∧∀d v H' F',G d→Gr H F H' F'→Rp K κ .fresh H F' v d→Q v H'
theorem Ut(h:∀ds G,pre ds G→ds.length=n)(s:spW K κ pre vs H Q E):vs.length=n:=by
 obtain⟨F,ds,d,_,k,p,_⟩:=s;rw[zT.length k];exact h ds d p
theorem Vb(h:EvA K S false t Γ ds)(hp:pre ds G):EvG K S κ (vm (spW K true pre) [] E t) Γ G:=λH0 F0 H F σ e Q q =>
 h H0 F0 H F σ e _ λvs H1 F1 g1 p1=>⟨F1,ds,G,g1.le,by rw[ζQ]; exact zM p1,hp,λd v H2 F2 hd g2 p2=>q d v H2 F2 hd (g1.trans g2) (vN (κ:=true) (λ_=>rfl) (wR (κ:=true) (κ':=true) (S':=S) (H0':=H0) (λa xs z=>⟨z.1,λc=>by
  obtain⟨u,hu⟩:=(e.mono g1).sd a c;exact z.2 (by show H1 a≠none; rw[hu]; simp)⟩) (λ_ _ z=>z) p2))⟩
theorem exg{te:TE}{u:TS}{i:Nat}{G:AD→Prop}{Γ':AD→Ctx}(κ:Bool)(h:EvG K S κ te Γ G)(es:∀d,SetC Γ i (some (.fz κ d)) (Γ' d))(k:∀d,G d→ExT K S S' u (Γ' d) P):ExT K S S' (tSeq (tAsg te (yG i)) u) Γ P :=
 yr (λΓ1=>∃d,G d∧Γ1=Γ' d) (λH0 F0 H F σ B e b _ D I=>h H0 F0 H F σ e _ λd v H' F' hd g p=>I.nx _ _ H' F' ⟨d,hd,rfl⟩ (b.trans g.f) (by rw[←(es d).eq]; exact(e.mono g).setF p)) λΓ1 ⟨d,hd,z⟩=>z ▸ k d hd
theorem Wy(le:Same F H)(k:zT K F vs ds)(q:∀d v H' F',G d→Gr H F H' F'→Rp K κ .fresh H F' v d→Q v H')(hn:N.length=n)(hΓ:xg n ds Γ)
  (h:ExS K .fresh t Γ { nx:=λ_=>False,rt:=G,kr:=κ }):t { nx:=λ_ H'=>Q .non H',rt:=Q } (L2.yI N vs) H:=by
 have e:=x4 (N:=N) le k;rw[hn,hΓ.eq]at e;exact h H F H F _ F e (.refl _) (.inl rfl) _ ⟨λ_ _ _ _ z=>z.elim,λd v H' F' r g p=>q d v H' F' r g p,λ_ _ _ _ z=>z.elim,λ_ _ _ _ z=>z.elim⟩
end
end PD
namespace L2
open PySem
def Rise(xs:Array Nat):Prop:=xs.toList.Pairwise (· < ·)
theorem Rise.lt(r:Rise xs)(h:i < j)(hj:j < xs.size):xs[i]'⋯ < xs[j]:=by
 have:=List.pairwise_iff_getElem.mp r i j (by simp; omega) (by simpa using hj) h;simpa using this
theorem Z5(xs:Array Nat)(r:Rise xs)(j:Nat):∀(fuel lo hi:Nat),lo≤hi→hi≤xs.size→hi - lo≤fuel→
  (∀i (h:i < xs.size),i < lo→xs[i] < j)→(∀i (h:i < xs.size),hi≤i→j≤xs[i])→
  SetTable.below.go xs j fuel lo hi≤xs.size∧(∀i (h:i < xs.size),i < SetTable.below.go xs j fuel lo hi→xs[i] < j)∧∀i (h:i < xs.size),SetTable.below.go xs j fuel lo hi≤i→j≤xs[i]
 | 0,lo,hi,h1,h2,h3,a,b=>by
  have:lo=hi:=by omega
  subst this;exact⟨h2,a,b⟩
 | f + 1,lo,hi,h1,h2,h3,a,b=>by
  unfold SetTable.below.go;by_cases hl:lo < hi
  ·rw[if_pos hl];dsimp only;have hm:(lo + hi) / 2 < xs.size:=by omega
   have eg:xs.getD ((lo + hi) / 2) j=xs[(lo + hi) / 2]:=by simp[hm]
   rw[eg];by_cases hx:xs[(lo + hi) / 2] < j
   ·rw[if_pos hx];refine Z5 xs r j f _ _ ⋯ h2 ⋯ (λi hi' hlt=>?_) b;by_cases e:i=(lo + hi) / 2
    ·subst e; exact hx
    ·exact Nat.lt_trans (r.lt (show i < (lo + hi) / 2 by omega) hm) hx
   ·rw[if_neg hx];refine Z5 xs r j f _ _ ⋯ ⋯ ⋯ a λi hi' hle=>?_;by_cases e:i=(lo + hi) / 2
    ·subst e; omega
    ·have:=r.lt (show(lo + hi) / 2 < i by omega) hi';omega
  ·rw[if_neg hl];have:lo=hi:=by omega
   subst this;exact⟨h2,a,b⟩
theorem Z4(xs:Array Nat)(r:Rise xs)(j:Nat):SetTable.below xs j≤xs.size∧(∀i (h:i < xs.size),i < SetTable.below xs j→xs[i] < j)∧∀i (h:i < xs.size),SetTable.below xs j≤i→j≤xs[i] :=
 Z5 xs r j _ _ _ (ξn _) (ζj _) ⋯ (λ_ _ h=>by omega) λi h z=>by omega
theorem V9(r:Rise xs)(i:Nat)(h:i < xs.size):SetTable.below xs (xs[i] + 1)=i + 1:=by
 obtain⟨a,b,c⟩:=Z4 xs r (xs[i] + 1);have h1:¬SetTable.below xs (xs[i] + 1)≤i:=λz=>by have:=c i h z; omega
 have h2:¬i + 1 < SetTable.below xs (xs[i] + 1):=λz=>by
  have:=b (i + 1) ⋯ z;have:=r.lt (Nat.lt_succ_self i) (show i + 1 < xs.size by omega);simp only[Nat.succ_eq_add_one]at this;omega
 omega
theorem V8(r:Rise xs):SetTable.below xs 0=0:=by
 obtain⟨a,b,c⟩:=Z4 xs r 0;by_cases h:SetTable.below xs 0=0
 ·exact h
 ·have:=b 0 ⋯ ⋯; omega
structure TOk(b:Bool)(t:SetTable):Prop where
 led:t.led=b
 rise:Rise t.place
 dum:t.dummies=#[]
theorem TOk.fresh:TOk b (.fresh f m b):=⟨rfl,List.Pairwise.nil,rfl⟩
theorem TOk.plain{b c:Bool}(h:TOk b t):TOk b { t with plain:=c }:=⟨h.led,h.rise,h.dum⟩
theorem TOk.standIn(h:TOk b t)(n:Nat):TOk b (t.standIn n):=⟨h.led,by
 show(Array.range n).toList.Pairwise (· < ·);rw[Array.toList_range];exact ξT,rfl⟩
theorem TOk.orStandIn(h:TOk b t)(n:Nat):TOk b (t.orStandIn n):=by
 unfold SetTable.orStandIn;split
 ·exact h
 ·exact h.standIn n
theorem U2(j:Nat):SetTable.has #[] j=false:=rfl
theorem zb1{t:SetTable}{j:Nat}(h:t.slot j=.empty):t.place[SetTable.below t.place j]?≠some j:=by
 intro z;unfold SetTable.slot at h;simp[z]at h
theorem tW(ht:TOk b t):∀(n:Nat) (p:SetTable.Probe) {j:Nat} {d:Option Nat},p.dummy=none→SetTable.probe.go t g h n p=some (.empty j d)→d=none∧t.slot j=.empty
 | 0,p,j,d,_,e=>by cases e
 | n + 1,p,j,d,hp,e=>by
  unfold SetTable.probe.go at e;split at e
  ·rename_i hs;injection e with e;injection e with e1 e2;subst e1;exact⟨e2 ▸ hp,hs⟩
  ·rename_i hs;exfalso;unfold SetTable.slot at hs;rw[ht.dum]at hs;simp only[U2]at hs;split at hs <;> simp at hs
  ·split at e
   ·cases e
   ·refine tW ht n _ ?_ e;unfold SetTable.advance;split
    ·exact hp
    ·exact hp
theorem zd6{b:Bool}{t:SetTable}(h:TOk b t){j:Nat}(hj:t.slot j=.empty):TOk b (t.put j).1:=by
 refine⟨h.led,?_,by show(if SetTable.has t.dummies j=true then _ else _)=_; rw[h.dum,U2]; rfl⟩
 have hn:=zb1 hj;obtain⟨a,b,c⟩:=Z4 t.place h.rise j;show(SetTable.insertAt t.place (SetTable.below t.place j) j).toList.Pairwise (· < ·);generalize SetTable.below t.place j=p at *;rw[SetTable.toList_insertAt,List.pairwise_append];have hr:t.place.toList.Pairwise (· < ·):=h.rise;refine⟨hr.sublist (ξX _ _),?_,?_⟩
 ·rw[ξK];refine⟨λx hx=>?_,hr.sublist (List.drop_sublist _ _)⟩
  obtain⟨i,hi,rfl⟩:=ξF.mp hx;rw[ζ8,ζM]at hi;rw[List.getElem_drop,Array.getElem_toList];have:=c (p + i) ⋯ ⋯;by_cases z:i=0
  ·subst z;have h2:t.place[p]≠j:=λq=>hn (by rw[ξh ⋯,q]);simp only[Nat.add_zero]at this ⊢;omega
  ·have h3:=h.rise.lt (show p < p + i by omega) (show p + i < t.place.size by omega);have h4:=c p ⋯ (ζj _);omega
 ·intro x hx y hy;obtain⟨i,hi,rfl⟩:=ξF.mp hx;rw[ζJ,ζM]at hi;rw[List.getElem_take,Array.getElem_toList];have h1:=b i ⋯ ⋯;rcases ζC.mp hy with rfl | hy
  ·exact h1
  ·obtain⟨k,hk,rfl⟩:=ξF.mp hy;rw[ζ8,ζM]at hk;rw[List.getElem_drop,Array.getElem_toList];have:=c (p + k) ⋯ ⋯;omega
theorem T7(h:TOk b t)(es:Array (Int×Value))(k:Int)(x:Value):TOk b (layNew t es k x).2.1:=by
 unfold layNew;split
 ·rename_i slot wd e;unfold SetTable.freeSlot at e;split at e
  ·rename_i j d e2;obtain⟨rfl,hs⟩:=tW h _ _ rfl e2;injection e with e;injection e with e3 _;have e3:j=slot:=e3;subst e3;exact(zd6 h hs).orStandIn _
  ·cases e
 ·exact h.standIn _
theorem WC(h:TOk b t)(es:Array (Int×Value))(n:Nat):TOk b (relayAll t es n).2.1:=by
 unfold relayAll;split
 ·rename_i t' order e;dsimp only;split
  ·unfold SetTable.relaid SetTable.laid at e;simp only[Option.bind_eq_bind]at e;obtain⟨ow,_,e⟩:=Option.bind_eq_some_iff.mp e;injection e with e;injection e with e1 e2;subst e1;refine⟨h.led,?_,rfl⟩
   show List.Pairwise (· < ·) _;dsimp only;rw[List.pairwise_map,List.pairwise_filterMap];refine ξT.imp λ{i j} hij x hx y hy=>?_;obtain⟨u,_,rfl⟩:=ξi.mp hx;obtain⟨u',_,rfl⟩:=ξi.mp hy;exact hij
  ·exact h.standIn _
 ·exact h.standIn _
theorem xX(next:Nat→Nat)(xs:Array α):(pickOrder next xs).toList.Perm xs.toList:=by
 suffices h:∀(n k:Nat) (l:List α) (out:Array α),l.length=n→(pickOrder.go next n k l out).toList.Perm (out.toList ++ l)by
  have:=h xs.size 0 xs.toList #[] (by simp);simpa[pickOrder]using this
 intro n;induction n with
 | zero =>
  intro k l out hl;have:l=[]:=ξe.mp hl;subst this;simp[pickOrder.go]
 | succ n ih =>
  intro k l out hl;unfold pickOrder.go;have hm:next k % l.length < l.length:=Nat.mod_lt _ ⋯
  rw[ζd hm];dsimp only;refine(ih _ _ _ (by rw[List.length_eraseIdx_of_lt hm]; omega)).trans ?_;rw[Array.toList_push,ξY];refine List.Perm.append_left _ ?_;have e:l=l.take (next k % l.length) ++ l[next k % l.length] :: l.drop (next k % l.length + 1):=by
   rw[←ξp hm,ζ0]
  conv=>rhs; rw[e]
  rw[List.eraseIdx_eq_take_drop_succ,List.singleton_append];exact ξ2.symm
end L2
namespace L2
open PySem PySem.Spec PyProof.Rows
def IsE(e:Int×Value):Prop:=∃k t,e=(hashInt k,.int k t)
def kOf(e:Int×Value):Int:=match e.2 with | .int k _=>k | _=>0
def SetI(b:Bool)(a:Addr)(l:AE)(h:Heap):Prop :=
 ∃o es ep t,h.get? a=some o∧o.ExactSet∧o.data=.set es ep t∧(∀e∈es.toList,IsE e)∧(es.toList.map kOf).Perm l∧es.size < scanBound∧t.fits es.size=true∧TOk b t
section
variable {prog:Program}{w:World}{A:Around}{E:AN}{s:Shared}{b:Bool}{a:Addr}{l:AE}
theorem SetI.at(x:SetI b a l h)(e:∀o,h.get? a=some o→h'.get? a=some o):SetI b a l h' :=
 let⟨o,es,ep,t,ho,r⟩:=x
 ⟨o,es,ep,t,e o ho,r⟩
theorem IsE.elems(h:∀e∈es,IsE e):ElemsOf (intKind prog w) es:=λe he=>by
 obtain⟨k,t,rfl⟩:=h e he;exact⟨⟨k,intKind_is _ _ k t,rfl⟩,rfl⟩
theorem IsE.is(h:IsE e)(k:Int):(intKind prog w).is k e.2=true↔kOf e=k:=by
 obtain⟨j,t,rfl⟩:=h;constructor
 ·intro z;exact((intKind prog w).inj _ _ _ z (intKind_is _ _ j t)).symm
 ·intro z;have z:j=k:=z;subst z;exact intKind_is _ _ j t
theorem IsE.ints:∀{es:List (Int×Value)},(∀e∈es,IsE e)→IntsAre (es.map (·.2)) (es.map kOf)
 | [],_=>.nil
 | e :: es,h=>by
  obtain⟨k,t,rfl⟩:=h e (.head _);exact .cons k t (IsE.ints λx hx=>h x (.tail _ hx))
theorem vn{o:Obj}{es:Array (Int×Value)}{ep:Nat}{t:SetTable}{h:Heap}(ho:h.get? a=some o)(hd:o.data=.set es ep t)(es':Array (Int×Value))(t':SetTable):
  (h.update a (Obj.putSet es' t')).get? a=some { o with data:=.set es' (ep + 1) t' }:=by
 have q:=ξm (Obj.putSet es' t') ho (by rw[putSet_of _ _ hd]; rfl)
 rwa [putSet_of _ _ hd]at q
theorem zdo{g:Bool→Sem Unit}(hg:∀(c:Bool) (s₁:Shared) (R:Unit→Shared→Prop),R () s₁→wpAny (model prog w) A (g c) R E s₁)
  {o:Obj} {es:Array (Int×Value)} {ep:Nat} {t:SetTable} (ho:s.heap.get? a=some o) (hex:o.ExactSet) (hd:o.data=.set es ep t)
  {es1:Array (Int×Value)} {t2:SetTable} (he:∀e∈es1.toList,IsE e) (hp:(es1.toList.map kOf).Perm l) (hz:es1.size < scanBound) (hf:t2.fits es1.size=true) (ht:TOk b t2) {wd:Bool} {R:Option Bool→Shared→Prop}
  (k:∀h',Heap.SameBut a s.heap h'→SetI b a l h'→R (some true) { s with heap:=h' }) :
  wpAny (model prog w) A (do
   storeSet a es1 t2
   if(!wd && t2.tooFull)=true then do
    g (relayAll t2 es1 (SetTable.grown es1.size)).2.2; storeSet a (relayAll t2 es1 (SetTable.grown es1.size)).1 (relayAll t2 es1 (SetTable.grown es1.size)).2.1; pure (some true)
   else pure (some true)) R E s:=by
 refine AA (wpAny_storeSet_of ho hd ?_ (fits_of_scanBound hz));have g1:=vn ho hd es1 t2;have u1:=Heap.SameBut.update s.heap a (Obj.putSet es1 t2);split
 ·have hr:=relayAll_perm t2 es1 (SetTable.grown es1.size);have hq:=relayAll_fits t2 es1 (SetTable.grown es1.size);have hk:=WC ht es1 (SetTable.grown es1.size);generalize relayAll t2 es1 (SetTable.grown es1.size)=Z at hr hq hk ⊢;obtain⟨es2,t3,gv⟩:=Z;dsimp only at hr hq hk ⊢;have z2:es2.size=es1.size:=by have:=hr.length_eq; simpa using this
  refine AA (hg _ _ _ ?_);refine AA (wpAny_storeSet_of g1 rfl ?_ (fits_of_scanBound (by rw[z2]; exact hz)));exact AB (k _ (u1.trans (Heap.SameBut.update _ a _)) ⟨_,es2,_,t3,vn g1 rfl es2 t3,hex,rfl,λe x=>he e (hr.mem_iff.mp x),(hr.map kOf).trans hp,by rw[z2]; exact hz,hq,hk⟩)
 ·exact AB (k _ u1 ⟨_,es1,_,t2,g1,hex,rfl,he,hp,hz,hf,ht⟩)
theorem addI{k:Int}{tk:Tok}{Q:Bool→Shared→Prop}(hS:SetI b a l s.heap)(hl:l.length + 1 < scanBound)
  (h:∀(r:Bool) h',Heap.SameBut a s.heap h'→SetI b a (step_dedup l k) h'→Q r { s with heap:=h' }) :
  wpAny (model prog w) A (setAddHashed a (.int k tk) (hashInt k)) Q E s:=by
 obtain⟨o,es,ep,t,ho,hex,hd,hE,hp,hz,hf,ht⟩:=hS;have hel:ElemsOf (intKind prog w) es.toList:=IsE.elems hE;have hn:es.size=l.length:=by have:=hp.length_eq; simpa using this
 have hm:∀k',k'∈l↔∃e∈es.toList,(intKind prog w).is k' e.2=true:=λk'=>by
  rw[←hp.mem_iff,ζn];exact⟨λ⟨e,x,y⟩=>⟨e,x,((hE e x).is k').mpr y⟩,λ⟨e,x,y⟩=>⟨e,x,((hE e x).is k').mp y⟩⟩
 unfold setAddHashed setAddHashedIn;refine wpAny_holding (AA (wpAny_setState_of ho hd hf ?_));dsimp only;rw[byScan_of (knd:=intKind prog w) (x:=.int k tk) rfl hz hel];simp only[↓reduceIte];unfold setAddByScan;refine AA (AA (wpAny_rule ?_));refine AA (wpAny_setScan_of (knd:=intKind prog w) (k:=k) (intKind_is _ _ k tk) ho hd hf hel ?_);cases hr:List.findIdx? (λe=>(intKind prog w).is k e.2) es.toList with
 | some j =>
  dsimp only;obtain⟨hj,hpj,_⟩:=List.findIdx?_eq_some_iff_getElem.mp hr;have hk:k∈l:=(hm k).mpr ⟨es.toList[j],ξa hj,hpj⟩;have e1:step_dedup l k=l:=by unfold step_dedup; rw[if_pos (List.any_eq_true.mpr ⟨k,hk,by simp⟩)]
  have q:=h false s.heap (Heap.SameBut.refl a s.heap) (e1.symm ▸ ⟨o,es,ep,t,ho,hex,hd,hE,hp,hz,hf,ht⟩);exact AB (AB q)
 | none =>
  dsimp only;have hk:k∉l:=λz=>by
   obtain⟨e,he,hpe⟩:=(hm k).mp z;have q:=List.findIdx?_eq_none_iff.mp hr e he;rw[hpe]at q; cases q
  have e1:step_dedup l k=l ++ [k]:=by
   unfold step_dedup;refine if_neg λz=>?_;obtain⟨x,hx,ex⟩:=ξD.mp z;exact hk (eq_of_beq ex ▸ hx)
  have hgw:∀(c:Bool) {s₁:Shared} {R:Unit→Shared→Prop},R () s₁→wpAny (model prog w) A (match c with | true=>rule "set.scan.the-table-gave-way" | false=>pure ()) R E s₁:=λc s₁ R q=>by
   cases c
   ·exact AB q
   ·exact wpAny_rule q
  have hperm:=layNew_perm t es (hashInt k) (.int k tk);have hfits:=layNew_fits t es (hashInt k) (.int k tk);have hok:=T7 ht es (hashInt k) (.int k tk);show wpAny _ _ (let(es,t,wasDummy,gave):=layNew t es (hashInt k) (.int k tk); _) _ _ _;generalize layNew t es (hashInt k) (.int k tk)=Z at hperm hfits hok ⊢;obtain⟨es1,t1,wd,gv⟩:=Z;dsimp only at hperm hfits hok ⊢;rw[Array.toList_push]at hperm;have hE1:∀e∈es1.toList,IsE e:=λe he=>by
   rcases ζw.mp (hperm.mem_iff.mp he)with z | z
   ·exact hE e z
   ·rw[ζk.mp z]; exact⟨k,tk,rfl⟩
  have hp1:(es1.toList.map kOf).Perm (l ++ [k]):=by
   refine(hperm.map kOf).trans ?_;rw[ζy];exact hp.append_right _
  have hz1:es1.size < scanBound:=by
   have q:=hp1.length_eq;rw[ζa,ζM,ζg]at q;have:es1.size=l.length + 1:=q;omega
  refine AA (hgw _ ?_);have kk:∀h',Heap.SameBut a s.heap h'→SetI b a (l ++ [k]) h'→Q true { s with heap:=h' }:=λh' u v=>h true h' u (e1.symm ▸ v);split
  ·refine AA ?_;rw[hashByValue_scannable 8 (x:=.int k tk) rfl];refine AB ?_;refine zdo ?_ ho hex hd hE1 hp1 hz1 ?_ ?_ λh' u v=>AB (kk h' u v)
   ·exact λc s₁ R q=>hgw c q
   ·split
    ·exact hfits
    ·exact SetTable.fits_plain_off hfits
   ·split
    ·exact hok
    ·exact hok.plain
  ·refine AA (AB ?_);simp only[↓reduceIte];refine zdo ?_ ho hex hd hE1 hp1 hz1 hfits hok λh' u v=>AB (kk h' u v);exact λc s₁ R q=>hgw c q
end
theorem yv:Slot "set_iterator" "__next__" "set_iterator.__next__" := .of (owner := "set_iterator") (n := "__next__")
 (by rw[typeLookup_type,builtinLookup_eq_fast]; kernel_rfl) (by decide +kernel) (by decide +kernel)
 (by decide +kernel) (by first | exact .inl (by decide +kernel) | exact .inr (by decide +kernel))
 (by rw[isSubtype_type]; kernel_rfl)
theorem wP:Slot "set_iterator" "__iter__" "set_iterator.__iter__" := .of (owner := "set_iterator") (n := "__iter__")
 (by rw[typeLookup_type,builtinLookup_eq_fast]; kernel_rfl) (by decide +kernel) (by decide +kernel)
 (by decide +kernel) (by first | exact .inl (by decide +kernel) | exact .inr (by decide +kernel))
 (by rw[isSubtype_type]; kernel_rfl)
theorem wc:entryFor table "set_iterator.__next__" = some Builtin.«set_iterator.__next__»:=entryFor_of_tree (by kernel_rfl)
theorem uA:entryFor table "set_iterator.__iter__" = some Builtin.«dict_keyiterator.__iter__»:=entryFor_alias (id' := "dict_keyiterator.__iter__") (by kernel_rfl) rfl (by decide +kernel) (by kernel_rfl)
theorem Vv:entryFor table "set.__iter__" = some Builtin.«frozenset.__iter__»:=entryFor_alias (id' := "frozenset.__iter__") (by kernel_rfl) rfl (by decide +kernel) (by kernel_rfl)
theorem wQ(a:Value):argsOk "set_iterator.__next__" ⟨[a],[]⟩:=by
 unfold argsOk
 kernel_rfl
theorem tU(a:Value):argsOk "set_iterator.__iter__" ⟨[a],[]⟩:=by
 unfold argsOk
 kernel_rfl
def ItO(first:Value)(i:Nat)(a:Addr)(n ep:Nat):Obj:={ cls:=.type "set_iterator", data:=.fields #[first,.int i 0,.ref a,.int n 0,.int ep 0] }
section
variable {prog:Program}{w:World}{A:Around}{E:AN}{s:Shared}{b:Bool}{a I:Addr}{l:AE}
theorem zde(hn:n≠0)(h:∀i,i < n→∀d,Q i { s with drawn:=d }):wpAny (model prog w) A (choose src n) Q E s :=
 λ_ _ _=>⟨hn,h _ (Nat.mod_lt _ (Nat.pos_of_ne_zero hn)) _⟩
theorem zdK:∀(n:Nat) (xs:List α) (s:Shared) {Q:List α→Shared→Prop},xs.length=n→(∀ys d,ys.Perm xs→Q ys { s with drawn:=d })→wpAny (model prog w) A (drawOrder n xs) Q E s
 | 0,xs,s,Q,hl,h=>by
  have:xs=[]:=ξe.mp hl;subst this;unfold drawOrder;exact AB (h [] s.drawn .nil)
 | n + 1,[],s,Q,hl,h=>by cases hl
 | n + 1,x :: xs,s,Q,hl,h=>by
  unfold drawOrder;refine AA (zde (by simp) λi hi d=>?_);rw[ζd hi];dsimp only;refine AA (zdK n _ _ (by rw[List.length_eraseIdx_of_lt hi]; omega) λys d' hp=>AB (h _ d' ?_));have e:(x :: xs)=(x :: xs).take i ++ (x :: xs)[i] :: (x :: xs).drop (i + 1):=by
   rw[←ξp hi,ζ0]
  rw[List.eraseIdx_eq_take_drop_succ]at hp;refine(hp.cons _).trans ?_
  conv=>rhs; rw[e]
  exact ξ2.symm
theorem zfr{first x:Value}{slot i n ep nx:Nat}{Q:Option Value→Shared→Prop}(hI:s.heap.get? I=some (ItO (.int slot 0) i a n ep))
  (ho:s.heap.get? a=some o) (hd:o.data=.set es ep t) (hf:t.fits es.size=true) (hn:es.size=n)
  (hN:∀(A:Around) (E:AN) (R:Option (Value×Nat)→Shared→Prop),R (some (x,nx)) s→wpAny (model prog w) A (setNext a slot i ep) R E s)
  (hQ:∀h',h'.get? I=some (ItO (.int nx 0) (i + 1) a n ep)→Heap.SameBut I s.heap h'→Q (some x) { s with heap:=h' }):wpAny (model prog w) A (pyNext (.ref I)) Q E s:=by
 have hT:s.TypeIs (.ref I) "set_iterator" := ⟨_,hI,rfl⟩
 unfold pyNext;refine AA (wpAny_attempt (wpAny_callSpecial?_slot (name:=Str.ofString "__next__") hT yv (wpAny_call_entry yv hT wc ?_ (wQ _))));unfold Builtin.«set_iterator.__next__»;refine AA (AB ?_);refine AA (wpAny_fieldsOf hI rfl ?_);refine AA (wpAny_setEntries_of ho hd hf ?_);rw[if_neg (by rw[hn]; simp)];dsimp only;refine AA (m:=setNext a _ _ _) ?_;rw[ζI,ζI,ζI];refine hN _ _ _ ?_;dsimp only;have g1:(s.heap.update I (Obj.mapFields (·.setIfInBounds 0 (rawInt nx)))).get? I=some (ItO (.int nx 0) i a n ep):=ξm _ hI rfl;refine AA (wpAny_setField hI rfl (ξ0 _) ?_);have g2:((s.heap.update I (Obj.mapFields (·.setIfInBounds 0 (rawInt nx)))).update I (Obj.mapFields (·.setIfInBounds 1 (rawInt ((i:Int) + 1))))).get? I=some (ItO (.int nx 0) (i + 1) a n ep):=ξm _ g1 rfl;refine AA (wpAny_setField (s:={ s with heap:=_ }) g1 rfl (ξ1 (ξ0 _)) ?_);exact AB ⟨_,rfl,AB (hQ _ g2 ((Heap.SameBut.update ..).trans (Heap.SameBut.update ..)))⟩
theorem zdu{Q:Option Value→Shared→Prop}(hh:A.handled=none)(k:∀h',Heap.ExtBut I h h'→Q none { s with heap:=h' }):
  wpAny (model prog w) A.in1 (newExc (.type "StopIteration") [] >>= λe=>(raiseNew e:Sem Fin)) (λfin s'=>∃r,fin=.done (.ret r)∧False) (λe s'=>∃T,s'.TypeIs e T∧T = "StopIteration"∧Q none s') { s with heap:=h }:=by
 refine AA ?_;simp only[newExc,newTuple];refine AA (wpAny_newObj_type (hd:=by size_fits) (AA (m:=firstArgMember _ _) ?_));refine wpAny_of_eq (a:=Value.none) (by first | rfl | (simp only[firstArgMember]; rfl)) (wpAny_newObj_type (hd:=by size_fits) ?_);simp only[raiseNew];have h0:A.in1.handled=none:=hh;apply AA;apply wpAny_handled;rw[h0];exact AA (AB (wpAny_throw ⟨_,⟨_,ζt _ rfl,rfl⟩,rfl,k _ (((show Heap.ExtBut I h h from λ_ _ _ z=>z).push _).push _)⟩))
theorem endI{first:Value}{slot i n ep:Nat}{Q:Option Value→Shared→Prop}(hh:A.handled=none)(hI:s.heap.get? I=some (ItO (.int slot 0) i a n ep))
  (ho:s.heap.get? a=some o) (hd:o.data=.set es ep t) (hf:t.fits es.size=true) (hn:es.size=n)
  (hN:∀(A:Around) (E:AN) (R:Option (Value×Nat)→Shared→Prop),R none s→wpAny (model prog w) A (setNext a slot i ep) R E s)
  (hQ:∀h',Heap.ExtBut I s.heap h'→Q none { s with heap:=h' }):wpAny (model prog w) A (pyNext (.ref I)) Q E s:=by
 have hT:s.TypeIs (.ref I) "set_iterator" := ⟨_,hI,rfl⟩
 unfold pyNext;refine AA (wpAny_attempt (wpAny_callSpecial?_slot (name:=Str.ofString "__next__") hT yv (wpAny_call_entry yv hT wc ?_ (wQ _))));unfold Builtin.«set_iterator.__next__»;refine AA (AB ?_);refine AA (wpAny_fieldsOf hI rfl ?_);refine AA (wpAny_setEntries_of ho hd hf ?_);rw[if_neg (by rw[hn]; simp)];dsimp only;refine AA (m:=setNext a _ _ _) ?_;rw[ζI,ζI,ζI];refine hN _ _ _ ?_;dsimp only;refine AA (wpAny_setField hI rfl (ξ1 (ξ1 (ξ0 _))) ?_);refine wpAny_mono (zdu (I:=I) (s:=s) hh λh' u=>hQ h' λc o' n' z=>u c o' n' ((Heap.SameBut.update ..).extBut c o' n' z)) (λ_ _ z=>?_) λe s' z=>?_
 ·obtain⟨_,_,z⟩:=z; exact z.elim
 ·obtain⟨T,x1,rfl,x2⟩:=z;exact AA (wpAny_isInstance (T := "StopIteration") (b:=true) x1 isSubtype_stop (AB x2))
theorem zeH(hb:w.params.followText "set-order" = true)
  (ho:s.heap.get? a=some o) (hd:o.data=.set es ep t) (hf:t.fits es.size=true)
  (k:R (((pickOrder (w.params.setOrder a ep) es).toList.map (·.2))[i]?.map λx=>(x,0)) s):wpAny (model prog w) A (setNext a 0 i ep) R E s:=by
 unfold setNext;refine AA (wpAny_setState_of ho hd hf ?_);dsimp only;unfold setsByText;refine AA (AA (wpAny_askSetting (AB ?_)));rw[show(model prog w).w.params.followText "set-order" = true from hb];simp only[↓reduceIte];rw[if_neg (by simp)];unfold setWalk;refine AA (AA (wpAny_setState_of ho hd hf ?_));dsimp only;unfold setsByText;refine AA (AA (wpAny_askSetting (AB ?_)));rw[show(model prog w).w.params.followText "set-order" = true from hb];simp only[↓reduceIte];refine AA (wpAny_askSetting (AB (AB ?_)));rw[ζo,Option.map_map,ξj]at k;exact k
def slP(t:SetTable):Nat→Nat
 | 0=>0
 | j + 1=>t.place.getD j 0 + 1
theorem Tw(ht:TOk c t)(hi:i≤t.place.size):SetTable.below t.place (slP t i)=i:=by
 cases i with
 | zero=>exact V8 ht.rise
 | succ j =>
  have:t.place.getD j 0=t.place[j]:=by simp[show j < t.place.size by omega]
  show SetTable.below t.place (t.place.getD j 0 + 1)=_;rw[this];exact V9 ht.rise j ⋯
theorem zcP(hb:w.params.followText "set-order" = false)
  (ho:s.heap.get? a=some o) (hd:o.data=.set es ep t) (hf:t.fits es.size=true) (ht:TOk true t) (hp:(!t.plain && decide (es.size > 1))=false) (hi:i≤es.size)
  (k:R ((es.toList.map (·.2))[i]?.map λx=>(x,slP t (i + 1))) s):wpAny (model prog w) A (setNext a (slP t i) i ep) R E s:=by
 have hz:t.place.size=es.size:=by
  simp only[SetTable.fits,Bool.and_eq_true,beq_iff_eq]at hf;exact hf.1
 unfold setNext;refine AA (wpAny_setState_of ho hd hf ?_);dsimp only;unfold setsByText;refine AA (AA (wpAny_askSetting (AB ?_)));rw[show(model prog w).w.params.followText "set-order" = false from hb];simp only[Bool.false_eq_true,↓reduceIte];split
 ·rename_i z;exact absurd (hp.symm.trans z) #[2]
 refine AA (wpAny_of_eq (a:=()) ?_ ?_)
 ·show(if(!t.led && !es.isEmpty)=true then _ else _)=_;rw[ht.led];rfl
 rw[Tw ht ⋯];refine AB ?_;rw[ζo,ξj]at k;by_cases hl:i < es.size
 ·rw[ξh hl]at k ⊢;rw[ξh ⋯];have:slP t (i + 1)=t.place[i]'⋯ + 1:=by
   show t.place.getD i 0 + 1=_;simp[show i < t.place.size by omega]
  rw[this]at k;exact k
 ·rw[Array.getElem?_eq_none ⋯]at k ⊢;exact k
theorem QF{ep:Nat}{o:Obj}{es:Array (Int×Value)}{t:SetTable}{us:AK}{sl:Nat→Nat}(hd:o.data=.set es ep t)(hf:t.fits es.size=true)(hu:us.length=es.size)(hne:I≠a)
  (hN:∀(i:Nat) (s:Shared) (A:Around) (E:AN) (R:Option (Value×Nat)→Shared→Prop),s.heap.get? a=some o→i≤es.size→R (us[i]?.map λx=>(x,sl (i + 1))) s→wpAny (model prog w) A (setNext a (sl i) i ep) R E s)
  (hh:A.handled=none):WalksS prog w A I [I,a] [I] (λx y=>y=x) es.size (λi v=>us[i]?=some v) (λi s=>s.heap.get? I=some (ItO (.int (sl i) 0) i a es.size ep)∧s.heap.get? a=some o) where
 sub:=λc hc=>by rw[ζk.mp hc]; exact .head _
 grefl:=λ_=>rfl
 gtrans:=λ_ _ _ x y=>y.trans x
 frame:=λi s h' tk st _ hk=>⟨hk I (.head _) _ st.1,hk a (.tail _ (.head _)) _ st.2⟩
 item:=λi s Q E hi st hQ=>by
  refine zfr (first:=.none) (x:=us[i]'⋯) (nx:=sl (i + 1)) st.1 st.2 hd hf rfl (λA E R r=>hN i s A E R st.2 ⋯ (by rw[ζd ⋯]; exact r)) λh' g u=>?_;refine hQ _ _ (ζd ⋯) ⟨g,u.extBut a _ (Ne.symm hne) st.2⟩ ⟨λc o' hc z=>u.extBut c o' (λq=>hc (by rw[q]; exact .head _)) z,rfl,rfl,rfl,ζj _⟩
 done:=λs Q E st hQ=>by
  refine endI (first:=.none) hh st.1 st.2 hd hf rfl (λA E R r=>hN es.size s A E R st.2 (ζj _) (by rw[ξr ⋯]; exact r)) λh' u=>?_;exact hQ _ ⟨λc o' hc z=>u c o' (λq=>hc (by rw[q]; exact .head _)) z,rfl,rfl,rfl,ζj _⟩
 self:=λi s Q E st hQ=>by
  have hT:s.TypeIs (.ref I) "set_iterator" := ⟨_,st.1,rfl⟩
  refine wpAny_pyIter_slot hT wP (wpAny_call_entry wP hT uA ?_ (tU _));show wpAny _ _ (ret (.ref I)) _ _ s;exact AB ⟨_,rfl, "set_iterator", _,hT,yv.lookup,hQ⟩
end
section
variable {prog:Program}{w:World}{A:Around}{E:AN}{s:Shared}{b:Bool}{a I T:Addr}{l:AE}
theorem zfs{i n ep p:Nat}{m:Nat}{Q:Option Value→Shared→Prop}(hI:s.heap.get? I=some (ItO (.ref T) i a n ep))
  (hT:s.heap.get? T=some oT) (hx:oT.data=.seq xs m) (hp:xs[i]?=some (.int p 0)) (he:(es.toList.map (·.2))[p]?=some x)
  (ho:s.heap.get? a=some o) (hd:o.data=.set es ep t) (hf:t.fits es.size=true) (hn:es.size=n)
  (hQ:∀h',h'.get? I=some (ItO (.ref T) (i + 1) a n ep)→Heap.SameBut I s.heap h'→Q (some x) { s with heap:=h' }):wpAny (model prog w) A (pyNext (.ref I)) Q E s:=by
 have hT':s.TypeIs (.ref I) "set_iterator" := ⟨_,hI,rfl⟩
 unfold pyNext;refine AA (wpAny_attempt (wpAny_callSpecial?_slot (name:=Str.ofString "__next__") hT' yv (wpAny_call_entry yv hT' wc ?_ (wQ _))));unfold Builtin.«set_iterator.__next__»;refine AA (AB ?_);refine AA (wpAny_fieldsOf hI rfl ?_);refine AA (wpAny_setEntries_of ho hd hf ?_);rw[if_neg (by rw[hn]; simp)];dsimp only;refine AA (wpAny_seqItems hT hx ?_);dsimp only;rw[ζI,hp];dsimp only;rw[ζI,ζI];refine AA ?_;unfold setNextDrawn;refine AA (wpAny_setState_of ho hd hf ?_);dsimp only;rw[if_neg (by simp)];rw[ζo,ξj]at he;obtain⟨e,q1,q2⟩:=ξi.mp he;rw[q1];obtain⟨e1,e2⟩:=e;have q2:e2=x:=q2;subst q2;refine AB ?_;have g2:(s.heap.update I (Obj.mapFields (·.setIfInBounds 1 (rawInt ((i:Int) + 1))))).get? I=some (ItO (.ref T) (i + 1) a n ep):=ξm _ hI rfl;refine AA (wpAny_setField hI rfl (ξ1 (ξ0 _)) ?_);exact AB ⟨_,rfl,AB (hQ _ g2 (Heap.SameBut.update ..))⟩
theorem endD{i n ep:Nat}{m:Nat}{Q:Option Value→Shared→Prop}(hh:A.handled=none)(hI:s.heap.get? I=some (ItO (.ref T) i a n ep))
  (hT:s.heap.get? T=some oT) (hx:oT.data=.seq xs m) (hp:xs[i]?=none)
  (ho:s.heap.get? a=some o) (hd:o.data=.set es ep t) (hf:t.fits es.size=true) (hn:es.size=n)
  (hQ:∀h',Heap.ExtBut I s.heap h'→Q none { s with heap:=h' }):wpAny (model prog w) A (pyNext (.ref I)) Q E s:=by
 have hT':s.TypeIs (.ref I) "set_iterator" := ⟨_,hI,rfl⟩
 unfold pyNext;refine AA (wpAny_attempt (wpAny_callSpecial?_slot (name:=Str.ofString "__next__") hT' yv (wpAny_call_entry yv hT' wc ?_ (wQ _))));unfold Builtin.«set_iterator.__next__»;refine AA (AB ?_);refine AA (wpAny_fieldsOf hI rfl ?_);refine AA (wpAny_setEntries_of ho hd hf ?_);rw[if_neg (by rw[hn]; simp)];dsimp only;refine AA (wpAny_seqItems hT hx ?_);dsimp only;rw[ζI,hp];dsimp only;have g1:(s.heap.update I (Obj.mapFields (·.setIfInBounds 0 (rawInt 0)))).get? I=some (ItO (.int 0 0) i a n ep):=ξm _ hI rfl;refine AA (wpAny_setField hI rfl (ξ0 _) ?_);refine AA (wpAny_setField (s:={ s with heap:=_ }) g1 rfl (ξ1 (ξ1 (ξ0 _))) ?_);refine wpAny_mono (zdu (I:=I) (s:=s) hh λh' u=>hQ h' λc o' n' z=>u c o' n' ((Heap.SameBut.update ..).extBut c o' n' ((Heap.SameBut.update ..).extBut c o' n' z))) (λ_ _ z=>?_) λe s' z=>?_
 ·obtain⟨_,_,z⟩:=z; exact z.elim
 ·obtain⟨T,x1,rfl,x2⟩:=z;exact AA (wpAny_isInstance (T := "StopIteration") (b:=true) x1 isSubtype_stop (AB x2))
theorem zfa{ep m:Nat}{o oT:Obj}{es:Array (Int×Value)}{t:SetTable}{us:AK}{js:AF}(hd:o.data=.set es ep t)(hf:t.fits es.size=true)(hne:I≠a)(hnT:I≠T)
  (hx:oT.data=.seq ((js.map λ(j:Nat)=>rawInt j).toArray) m) (hjs:js.length=es.size) (hus:us=js.filterMap λj=>(es.toList.map (·.2))[j]?) (hlt:∀j∈js,j < es.size)
  (hh:A.handled=none):WalksS prog w A I [I,a,T] [I] (λx y=>y=x) es.size (λi v=>us[i]?=some v) (λi s=>s.heap.get? I=some (ItO (.ref T) i a es.size ep)∧s.heap.get? a=some o∧s.heap.get? T=some oT) where
 sub:=λc hc=>by rw[ζk.mp hc]; exact .head _
 grefl:=λ_=>rfl
 gtrans:=λ_ _ _ x y=>y.trans x
 frame:=λi s h' tk st _ hk=>⟨hk I (.head _) _ st.1,hk a (.tail _ (.head _)) _ st.2.1,hk T (.tail _ (.tail _ (.head _))) _ st.2.2⟩
 item:=λi s Q E hi st hQ=>by
  have hj:i < js.length:=by omega
  have hz:js[i] < es.size:=hlt _ (ξa hj);have hz':js[i] < (es.toList.map (·.2)).length:=by rw[ζa,ζM]; exact hz
  have hm:us=js.map λj=>(es.toList.map (·.2)).getD j .none:=by
   rw[hus];have:∀(js:AF),(∀j∈js,j < es.size)→(js.filterMap λj=>(es.toList.map (·.2))[j]?)=js.map λj=>(es.toList.map (·.2)).getD j .none:=by
    intro js;induction js with
    | nil=>intro _; rfl
    | cons j r ih =>
     intro h;have h1:j < (es.toList.map (·.2)).length:=by rw[ζa,ζM]; exact h j (.head _)
     rw[List.filterMap_cons_some (b:=(es.toList.map (·.2))[j]) (ζd h1),ζH,ih λk hk=>h k (.tail _ hk),ζb,ζd h1];rfl
   exact this js hlt
  have hu:us[i]?=some ((es.toList.map (·.2))[js[i]]):=by
   rw[hm,ζo,ζd hj];show some ((es.toList.map (·.2)).getD js[i] .none)=_;rw[ζb,ζd hz'];rfl
  refine zfs (p:=js[i]) (x:=(es.toList.map (·.2))[js[i]]) st.1 st.2.2 hx ?_ (ζd hz') st.2.1 hd hf rfl λh' g u=>?_
  ·simp[List.getElem?_map,List.getElem?_eq_getElem hj,rawInt]
  ·exact hQ _ _ hu ⟨g,u.extBut a _ (Ne.symm hne) st.2.1,u.extBut T _ (Ne.symm hnT) st.2.2⟩ ⟨λc o' hc z=>u.extBut c o' (λq=>hc (by rw[q]; exact .head _)) z,rfl,rfl,rfl,ζj _⟩
 done:=λs Q E st hQ=>by
  refine endD hh st.1 st.2.2 hx ?_ st.2.1 hd hf rfl λh' u=>?_
  ·simp[hjs]
  ·exact hQ _ ⟨λc o' hc z=>u c o' (λq=>hc (by rw[q]; exact .head _)) z,rfl,rfl,rfl,ζj _⟩
 self:=λi s Q E st hQ=>by
  have hT:s.TypeIs (.ref I) "set_iterator" := ⟨_,st.1,rfl⟩
  refine wpAny_pyIter_slot hT wP (wpAny_call_entry wP hT uA ?_ (tU _));show wpAny _ _ (ret (.ref I)) _ _ s;exact AB ⟨_,rfl, "set_iterator", _,hT,yv.lookup,hQ⟩
theorem YF(p:us.Perm vs):∀{ns:AE},IntsAre vs ns→∃ms,IntsAre us ms∧ms.Perm ns:=by
 have key:∀{vs:AK} {ns:AE},IntsAre vs ns→(∀v∈vs,∃k t,v=.int k t)∧ns=vs.map λv=>kOf (0,v):=λ{vs ns} h=>by
  induction h with
  | nil=>exact⟨λ_ z=>(nomatch z),rfl⟩
  | cons n t _ ih =>
   refine⟨λv hv=>?_,?_⟩
   ·rcases ζC.mp hv with rfl | hv
    ·exact⟨n,t,rfl⟩
    ·exact ih.1 v hv
   ·rw[ζH,←ih.2]; rfl
 have back:∀us:AK,(∀v∈us,∃k t,v=.int k t)→IntsAre us (us.map λv=>kOf (0,v)):=λus=>by
  induction us with
  | nil=>exact λ_=>.nil
  | cons v r ih =>
   intro h;obtain⟨k,t,rfl⟩:=h v (.head _);exact .cons k t (ih λx hx=>h x (.tail _ hx))
 intro ns h;obtain⟨h1,rfl⟩:=key h;exact⟨_,back us λv hv=>h1 v (p.mem_iff.mp hv),p.map _⟩
theorem zfv(hb:w.params.followText "set-order" = b)(hS:SetI (!b) a l s.heap)
  (k:∀(us:AK) (ns:AE) (I:Addr) (fp:List Addr) (St:Nat→Shared→Prop) (h':Heap) (d:Drawn),IntsAre us ns→ns.Perm l→us.length < scanBound→(∀c o,s.heap.get? c=some o→h'.get? c=some o)→s.heap.objs.size≤I→(∀c∈fp,c=a∨s.heap.objs.size≤c)→
   (∀A:Around,A.handled=none→WalksS prog w A I fp [I] (λx y=>y=x) us.length (λi v=>us[i]?=some v) St)→St 0 { s with heap:=h',drawn:=d }→Q (.ref I) { s with heap:=h',drawn:=d }) :
  wpAny (model prog w) A (pyIter (.ref a)) Q E s:=by
 obtain⟨o,es,ep,t,ho,hex,hd,hE,hp,hz,hf,ht⟩:=hS;have hT:s.TypeIs (.ref a) "set" := ⟨o,ho,hex.1⟩
 have ha:a < s.heap.objs.size:=ζm ho;have hi0:IntsAre (es.toList.map (·.2)) (es.toList.map kOf):=IsE.ints hE;refine wpAny_pyIter_slot hT F.slot_set_iter (wpAny_call_entry F.slot_set_iter hT Vv ?_ (F.args_set_iter_1 _));unfold Builtin.«frozenset.__iter__» Builtin.Frozenset.slot0;refine AA (AA (AB ?_));unfold Builtin.Frozenset.addrOf Builtin.Frozenset.sizeOf;refine AB ?_;refine AA (AA (wpAny_setEntries_of ho hd hf (AB ?_)));unfold setDrawn;refine AA (AA (wpAny_setState_of ho hd hf ?_));dsimp only;unfold setsByText;refine AA (AA (wpAny_askSetting (AB (AB ?_))))
 have fin:∀(first:Value) (hp1:Heap) (d:Drawn) (o1:hp1.get? a=some o),(∀v s',s'={ s with heap:=hp1.push (ItO first 0 a es.size ep),drawn:=d }→v=.ref hp1.objs.size→Q v s')→
   wpAny (model prog w) A.in1 (do
    let __do_lift←setEpoch a;let __do_lift←newFields "set_iterator" [first,rawInt 0,Value.ref a,rawInt ↑es.size,rawInt ↑__do_lift]
    ret __do_lift) (λfin s'=>∃v,fin=Fin.done (Flow.ret v)∧∃T' r,s'.TypeIs v T'∧typeLookup (Value.type T') (Str.ofString "__next__")=pure (some r)∧Q v s') E { s with heap:=hp1,drawn:=d }:=λfirst hp1 d o1 q=>by
  refine AA (wpAny_setEpoch_of o1 hd hf ?_);refine AA (wpAny_newObj_type (hd:=by size_fits) (AB ⟨_,rfl, "set_iterator", _,⟨_,ζt _ rfl,rfl⟩,yv.lookup,q _ _ rfl rfl⟩))
 cases b with
 | true =>
  rw[show(model prog w).w.params.followText "set-order" = true from hb];simp only[Bool.not_true,Bool.false_and,Bool.false_eq_true,↓reduceIte];refine AA (AB (fin (rawInt 0) s.heap s.drawn ho ?_));rintro _ _ rfl rfl;have pm:=xX (w.params.setOrder a ep) es;obtain⟨ms,im,pp⟩:=YF (pm.map (·.2)) hi0;have hu:((pickOrder (w.params.setOrder a ep) es).toList.map (·.2)).length=es.size:=by rw[(pm.map _).length_eq,ζa,ζM]
  refine k _ ms s.heap.objs.size [s.heap.objs.size,a] (λi s'=>s'.heap.get? s.heap.objs.size=some (ItO (.int ((λ_=>0) i:Nat) 0) i a es.size ep)∧s'.heap.get? a=some o) _ s.drawn im (pp.trans hp) (by rw[hu]; exact hz)
   (λc o' z=>ζe _ z) (ζj _) (λc hc=>?_) (λA' h'=>by rw[hu]; exact QF (sl:=λ_=>0) hd hf hu (ξv ha) (λi s' A'' E' R z _ r=>zeH hb z hd hf r) h') ⟨ζt _ rfl,ζe _ ho⟩
  rcases ζC.mp hc with rfl | hc
  ·exact .inr (ζj _)
  ·exact .inl (ζk.mp hc)
 | false =>
  rw[show(model prog w).w.params.followText "set-order" = false from hb];simp only[Bool.not_false,Bool.true_and];split
  ·rename_i hdr;refine AA (zdK es.size _ _ ζv λjs d hj=>?_);refine AA (wpAny_newTuple ?_ (by rw[ζa,hj.length_eq,ζv]; exact fits_of_scanBound hz));refine fin _ _ d (ζe _ ho) ?_;rintro _ _ rfl rfl;have hlt:∀j∈js,j < es.size:=λj z=>ζG.mp (hj.mem_iff.mp z);have pm:(js.filterMap λj=>(es.toList.map (·.2))[j]?).Perm (es.toList.map (·.2)):=by
    refine(hj.filterMap _).trans ?_;have q:=filterMap_getElem?_range (es.toList.map (·.2)).toArray;simp only[List.size_toArray,List.length_map,Array.length_toList,List.getElem?_toArray]at q;rw[q]
   obtain⟨ms,im,pp⟩:=YF pm hi0;have hu:(js.filterMap λj=>(es.toList.map (·.2))[j]?).length=es.size:=by rw[pm.length_eq,ζa,ζM]
   have z1:(s.heap.push { cls:=.type "tuple", data:=.seq (js.map λ(i:Nat)=>rawInt i).toArray }).objs.size=s.heap.objs.size + 1:=ξQ _ _
   refine k _ ms _ [_,a,s.heap.objs.size] (λi s'=>s'.heap.get? _=some (ItO (.ref s.heap.objs.size) i a es.size ep)∧s'.heap.get? a=some o∧s'.heap.get? s.heap.objs.size=some { cls:=.type "tuple", data:=.seq (js.map λ(i:Nat)=>rawInt i).toArray }) _ d im (pp.trans hp) (by rw[hu]; exact hz)
    (λc o' z=>ζe _ (ζe _ z)) (by rw[z1]; exact Nat.le_succ _) (λc hc=>?_) (λA' h'=>by rw[hu]; exact zfa hd hf (by rw[z1]; exact ξv (Nat.lt_succ_of_lt ha)) (by rw[z1]; exact Nat.succ_ne_self _) rfl (by rw[hj.length_eq,ζv]) rfl hlt h')
    ⟨ζt _ rfl,ζe _ (ζe _ ho),ζe _ (ζt _ rfl)⟩
   rcases ζC.mp hc with rfl | hc
   ·exact .inr (by rw[z1]; omega)
   ·rcases ζC.mp hc with rfl | hc
    ·exact .inl rfl
    ·exact .inr (by rw[ζk.mp hc]; exact ζj _)
  ·rename_i hdr;have hdr:(!t.plain && decide (es.size > 1))=false:=by
    cases q:(!t.plain && decide (es.size > 1))with
    | false=>rfl
    | true=>exact absurd q hdr
   refine AA (AB (fin (rawInt 0) s.heap s.drawn ho ?_));rintro _ _ rfl rfl;have hu:(es.toList.map (·.2)).length=es.size:=by rw[ζa,ζM]
   refine k _ _ s.heap.objs.size [s.heap.objs.size,a] (λi s'=>s'.heap.get? s.heap.objs.size=some (ItO (.int (slP t i) 0) i a es.size ep)∧s'.heap.get? a=some o) _ s.drawn hi0 hp (by rw[hu]; exact hz)
    (λc o' z=>ζe _ z) (ζj _) (λc hc=>?_) (λA' h'=>by rw[hu]; exact QF (sl:=slP t) hd hf hu (ξv ha) (λi s' A'' E' R z hi r=>zcP hb z hd hf ht hdr hi r) h') ⟨ζt _ rfl,ζe _ ho⟩
   rcases ζC.mp hc with rfl | hc
   ·exact .inr (ζj _)
   ·exact .inl (ζk.mp hc)
end
theorem Y7:typeLookup (.type "set") "__len__" = pure (some (.builtin "set.__len__")):=by
 rw[typeLookup_type,builtinLookup_eq_fast]
 kernel_rfl
section
variable {prog:Program}{w:World}{A:Around}{E:AN}{s:Shared}{b:Bool}{a I T:Addr}{l:AE}
theorem wiT[Decidable c](hc:c)(h:wpAny (model prog w) A x Q E s):wpAny (model prog w) A (if c then x else y) Q E s:=by
 rw[if_pos hc];exact h
theorem zbF(hh:A.handled=none)(hb:w.params.followText "set-order" = b)(hS:SetI (!b) a l s.heap)
  (k:∀(us:AK) (ns:AE) (h':Heap) (d:Drawn) (tk:Nat),IntsAre us ns→ns.Perm l→(∀c o,s.heap.get? c=some o→h'.get? c=some o)→s.heap.objs.size≤h'.objs.size→Q us { s with heap:=h',drawn:=d,toks:=tk }) :
  wpAny (model prog w) A (collect (.ref a)) Q E s:=by
 obtain⟨oa,_,_,_,hoa,hxa,_⟩:=id hS;have ha:a < s.heap.objs.size:=ζm hoa;unfold collect;refine AA (wpAny_runValue (codeAny_builtin F.entry_proto_collect ?_));rw[Around.under_plainId F.plain_proto_collect _];show wpAny _ A.in1 (newList [] >>= λl=>again (.builtin "list.__iadd__" ⟨[l,.ref a],[]⟩)) _ _ s;refine AA (wpAny_newObj_type (AB ⟨plainId_quiet F.plain_list_iadd _,codeAny_builtin F.entry_list_iadd ?_⟩));rw[Around.under_plainId F.plain_list_iadd _];have hL:(s.heap.push { cls:=.type "list", data:=.seq ([]:AK).toArray }).get? s.heap.objs.size=some { cls:=.type "list", data:=.seq ([]:AK).toArray }:=ζt _ rfl;have z1:(s.heap.push { cls:=.type "list", data:=.seq ([]:AK).toArray }).objs.size=s.heap.objs.size + 1:=ξQ _ _;have hS1:SetI (!b) a l (s.heap.push { cls:=.type "list", data:=.seq ([]:AK).toArray }):=hS.at λo z=>ζe _ z;have hT1:Shared.TypeIs { s with heap:=s.heap.push { cls:=.type "list", data:=.seq ([]:AK).toArray } } (.ref a) "set" := ⟨oa,ζe _ hoa,hxa.1⟩
 show wpAny _ A.in1 (Builtin.List.listExtendWith (.ref s.heap.objs.size) (.ref a) (.ref s.heap.objs.size)) _ _ _;unfold Builtin.List.listExtendWith;refine AA (wpAny_typeOf hT1 ?_);have h1:Builtin.List.listSameRef (.ref s.heap.objs.size) (.ref a)=false:=by simp[Builtin.List.listSameRef,Nat.ne_of_gt ha]
 rw[if_neg (by rw[h1]; decide)];refine AA (zfv hb hS1 λus ns I fp St h2 d hi hp hz hk hIz hfp W st=>?_);refine AA (wpAny_holding ?_);unfold Builtin.List.listLengthHint;have hT2:Shared.TypeIs { s with heap:=h2,drawn:=d } (.ref a) "set" := ⟨oa,hk _ _ (ζe _ hoa),hxa.1⟩
 refine AA (wpAny_specialOf hT2 Y7 ?_);dsimp only;rw[show splitId "set.__len__" = some ("set","__len__")from by decide +kernel];dsimp only;refine AA (wpAny_isInstance (b:=true) hT2 (by rw[isSubtype_type]; kernel_rfl) ?_);rw[if_neg #[2]];refine wiT (by decide +kernel) ?_;refine AA (wpAny_typeOf hT2 (AB ?_));refine wiT (by decide +kernel) ?_;refine AA (wpAny_rule ?_);have hLf:s.heap.objs.size∉fp:=λz=>by
  rcases hfp _ z with q | q
  ·exact ξv ha q
  ·have q:(s.heap.push { cls:=.type "list", data:=.seq ([]:AK).toArray }).objs.size≤s.heap.objs.size:=q;rw[z1]at q;exact Nat.not_succ_le_self _ q
 have hS2:=hk _ _ hL;refine AA ?_;show wpAny _ A.in1 (updateSeq s.heap.objs.size (·.push .none) >>= λ_=>updateSeq s.heap.objs.size (·.pop)) _ _ _;refine AA (wpAny_updateSeq (s:={ s with heap:=h2,drawn:=d }) hS2 rfl ?_);have hS3:=ξm (Obj.mapSeq (·.push Value.none)) hS2 rfl;refine wpAny_updateSeq (s:={ s with heap:=_,drawn:=d }) hS3 rfl ?_;have hS4:=ξm (Obj.mapSeq (·.pop)) hS3 rfl
 have oth:∀c o,c≠s.heap.objs.size→h2.get? c=some o→((h2.update s.heap.objs.size (Obj.mapSeq (·.push Value.none))).update s.heap.objs.size (Obj.mapSeq (·.pop))).get? c=some o :=
  λc o n z=>(Heap.get?_update_other _ _ (Ne.symm n)).trans ((Heap.get?_update_other _ _ (Ne.symm n)).trans z)
 have hA:A.in1.handled=none:=hh;have W1:=W A.in1 hA
 refine AB ⟨plainId_quiet F.plain_extend_loop _,codeAny_extend_loopS W1 (fits_of_scanBound hz) _ hLf _ us.length 0 _ _ _ rfl (ξn _)
  (W1.frame 0 { s with heap:=h2,drawn:=d } _ s.toks st (ζj _) λc hc o z=>oth c o (λq=>hLf (q ▸ hc)) z) hS4 (ItemsOf.nil _) λs' acc c' hm hS' ha'=>?_⟩
 show wpAny _ A (load s.heap.objs.size >>= _) _ _ s';refine AA (wpAny_load hS' (AB ?_));have e:acc.toList=us:=by
  refine List.ext_getElem? λi=>?_;rw[ξj];by_cases hi':i < acc.size
  ·rw[ξh hi'];exact(ha'.2 i _ (ξh hi')).symm
  ·rw[Array.getElem?_eq_none ⋯,ξr (by have:=ha'.1; omega)]
 rw[e];obtain⟨hx,gx,dx,tx,ox⟩:=s';have eg:gx=s.gens:=hm.gens;have ed:dx=d:=hm.drawn;have eo:ox=s.os:=hm.os;subst eg; subst ed; subst eo;refine k us ns hx dx tx hi hp (λc o z=>?_) (Nat.le_of_lt (ζm hS'));have c1:c < s.heap.objs.size:=ζm z;refine hm.heap c o (λq=>?_) (oth c o (ζL c1) (hk _ _ (ζe _ z)));rcases ζC.mp q with q | q
 ·exact ζL c1 q
 ·have q:=ζk.mp q;subst q;have y:(s.heap.push { cls:=.type "list", data:=.seq ([]:AK).toArray }).objs.size≤c:=hIz;rw[z1]at y;exact Nat.not_lt.mpr (Nat.le_of_succ_le y) c1
theorem zbZ(hh:A.handled=none)(hb:w.params.followText "set-order" = b)(hS:SetI (!b) a l s.heap)(h64:l.length < 64)
  (k:∀(out:Array Value) (ns:AE) (c:Addr) (e:Nat) (h':Heap) (d:Drawn) (tk:Nat),IntsAre out.toList ns→ns.Perm l→ns.Pairwise (·≤·)→(∀c o,s.heap.get? c=some o→h'.get? c=some o)→s.heap.objs.size≤c→h'.get? c=some (seqObj "list" out e)→
   Q (.ref c) { s with heap:=h',drawn:=d,toks:=tk }):wpAny (model prog w) A (call (.builtin "sorted") [.ref a]) Q E s:=by
 refine Calls.call_function_entry kind_sorted plain_sorted entry_sorted (args_sorted1 _) ?_;unfold Builtin.«sorted»;refine AA (m:=checkCount "sorted" 1 1 _) (AB ?_);refine AA (zbF (A:=A.in1) hh hb hS λus ns h2 d tk hi hp hk le=>?_);have hz:us.length=l.length:=by rw[IntsAre.length hi,hp.length_eq]
 refine AA (wpAny_newList ?_ (by have:=fits_of_scanBound (n:=us.length) (by unfold scanBound; omega); exact this));have hL:(h2.push (seqObj "list" us.toArray 0)).get? h2.objs.size=some (seqObj "list" us.toArray 0):=ζt _ rfl;have hsz:(h2.push (seqObj "list" us.toArray 0)).objs.size=h2.objs.size + 1:=ξQ _ _;refine AA (wpAny_holding (wpAny_call_entry (s:={ s with heap:=h2.push (seqObj "list" us.toArray 0),drawn:=d,toks:=tk }) slot_list_sort ⟨_,hL,rfl⟩ entry_list_sort (list_sort_tree hL hi ⋯ λout ns' a1 a2 a3=>⟨_,rfl,?_⟩) (args_list_sort _)));obtain⟨e,he⟩:=sortedHeap_at (out:=out) hL;refine AB ⟨_,rfl,k out ns' h2.objs.size e _ d tk a1 (a2.trans hp) a3 (λc o z=>?_) le he⟩;have z2:=hk c o z;rw[sortedHeap_old (ζL (ζm z2)) (by rw[hsz]; exact Nat.lt_succ_of_lt (ζm z2))];exact ζe _ z2
theorem zbQ{R:Result→Shared→Prop}{fp wr:List Addr}{G:Array GenState→Array GenState→Prop}{n:Nat}{P:Nat→Value→Prop}{St:Nat→Shared→Prop}(W:WalksS prog w A.in1 I fp wr G n P St)(S:Addr)(hSf:S∉fp)
  (val:Nat→Int) (hval:∀i v,P i v→∃t,v=.int (val i) t) (hz:n + 1 < scanBound) :
  ∀(k i:Nat) (s:Shared),n - i=k→i≤n→St i s→SetI b S (firstMet val i) s.heap→(∀s',Moved (S :: wr) G s s'→SetI b S (firstMet val n) s'.heap→R (.ok (.ret .none)) s')→
   codeAny (model prog w) A (.builtin "set.update.loop" ⟨[.ref S,.ref I],[]⟩) R s:=by
 have hSw:S∉wr:=λh=>hSf (W.sub _ h);have sb:∀c∈wr,c∈S :: wr:=λc=>ζp _;intro k;induction k with
 | zero =>
  intro i s hk hi st hS hR;obtain rfl:i=n:=by omega
  refine codeAny_builtin F.entry_set_update_loop ?_;rw[Around.under_plainId F.plain_set_update_loop _];show wpAny _ A.in1 (pyNext (.ref I) >>= _) _ _ s;refine AA (W.done s _ _ st λs' hm=>AB (hR s' (hm.mono sb) (hS.at λo z=>hm.heap S o hSw z)))
 | succ k ih =>
  intro i s hk hi st hS hR;have hlt:i < n:=by omega
  refine codeAny_builtin F.entry_set_update_loop ?_;rw[Around.under_plainId F.plain_set_update_loop _];show wpAny _ A.in1 (pyNext (.ref I) >>= _) _ _ s;refine AA (W.item i s _ _ hlt st λv s' hP st' hm=>?_);obtain⟨t,rfl⟩:=hval i v hP;have hS':SetI b S (firstMet val i) s'.heap:=hS.at λo z=>hm.heap S o hSw z;show wpAny _ A.in1 (holding [Value.int (val i) t] (setAdd S (.int (val i) t)) >>= _) _ _ s';refine AA (wpAny_holding ?_);unfold setAdd;refine wpAny_holding (AA ((intKind prog w).pyHash (k:=val i) (intKind_is _ _ _ _) ?_));have room:(firstMet val i).length + 1 < scanBound:=by have:=firstMet_length_le val i; omega
  refine addI (s:={ s' with toks:=s'.toks + 1 }) hS' room λr h' u hS2=>?_;rw[←firstMet_succ]at hS2;refine AB ⟨plainId_quiet F.plain_set_update_loop _,ih (i + 1) _ ⋯ hlt (W.frame _ s' _ _ st' (Nat.le_succ _) λc hc o z=>?_) hS2 λs'' hm'' hS''=>?_⟩
  ·rw[u.2 c λq:c=S=>hSf (by rw[←q]; exact hc)]; exact z
  ·refine hR s'' (Moved.trans W.gtrans ((hm.mono sb).then_heap (Nat.le_succ _) λc o hc z=>?_) hm'') hS'';rw[u.2 c λq:c=S=>hc (by rw[q]; exact .head _)]; exact z
theorem newI(x:Value)(hb:w.params.followText "set-order" = b)
  (h:Q₁ (.ref s.heap.objs.size) { s with heap:=s.heap.push { cls:=.type "set", dict:=none,data:=.set #[] 0 (.fresh 0 0 (!b)) } }) :
  codeAny (model prog w) A (.call (.builtin "set.__new__") ⟨[.type "set", x],[]⟩) (wants Q₁ E) s:=by
 refine codeAny_of_tree ?_;show wpAny _ A.in1 (do checkBuiltinCall "set.__new__" ⟨[.type "set", x],[]⟩; again (.builtin "set.__new__" ⟨[.type "set", x],[]⟩)) _ _ s;refine AA (wpAny_of_eq (F.newCall_set_1 x) (AB ⟨plainId_quiet F.plain_set_new _,codeAny_builtin F.entry_set_new ?_⟩));rw[Around.under_plainId F.plain_set_new _];unfold Builtin.«set.__new__» Builtin.Frozenset.newClass;have hsub:=sub_set_self;obtain⟨hp,g,d,tk,os⟩:=s;dsimp only
 wp_walk
 refine wpAny_askSetting (AB ?_);dsimp only;simp only[newObj];refine AA (wpAny_alloc (AB (AB ?_)));rw[show(model prog w).w.params.followText "set-order" = b from hb];exact h
set_option maxHeartbeats 3200000 in
theorem zdY(hh:A.handled=none)(hb:w.params.followText "set-order" = b)(hl:s.heap.IsList L items)(hi:IntsAre items.toList ns)(hz:items.size + 1 < scanBound)
  (k:∀(h':Heap) (tk:Nat),SetI (!b) s.heap.objs.size (firstMet (λi=>ns.getD i 0) items.size) h'→(∀c o,s.heap.get? c=some o→h'.get? c=some o)→Q (.ref s.heap.objs.size) { s with heap:=h',toks:=tk }) :
  wpAny (model prog w) A (call (.type "set") [.ref L]) Q E s:=by
 obtain⟨c,tl,hmro⟩:=F.called_set.mro;have hmade:=F.called_set.made;have hsub:=F.called_set.sub;refine wpAny_call (codeAny_of_tree ?_);show wpAny _ _ (callAny (.type "set") _) _ _ _;refine AB ⟨Code.quiet_builtin _ (by decide +kernel),codeAny_builtin F.entry_type_call ?_⟩;rw[Around.under_plain (weight_type_call_type "set" [.ref L] []) rfl];have h1:=F.called_set.notType;have h2:=F.called_set.canCreate;have hct:=F.typeCall_set_1 (.ref L)
 repeat (any_goals (first | assumption | wp_step))
 refine codeAny_mono (newI (.ref L) (E:=E) hb (Q₁:=λx s₁=>x=.ref s.heap.objs.size∧s₁={ s with heap:=s.heap.push { cls:=.type "set", dict:=none,data:=.set #[] 0 (.fresh 0 0 (!b)) } }) ⟨rfl,rfl⟩) λr s₁ hr=>?_;cases r with
 | error e=>exact hr
 | ok fl =>
  cases fl with
  | ret obj =>
   obtain⟨rfl,rfl⟩:=hr;generalize ho0:({ cls:=.type "set", dict:=none,data:=.set #[] 0 (.fresh 0 0 (!b)) }:Obj)=o0;have hS:(s.heap.push o0).get? s.heap.objs.size=some o0:=ζt _ (by rw[←ho0]; rfl);have hS0:SetI (!b) s.heap.objs.size [] (s.heap.push o0):=⟨o0,#[],0,_,hS,by rw[←ho0]; exact⟨rfl,rfl,rfl⟩,by rw[←ho0],(λe z=>by simp at z),.nil,#[2],by rfl,TOk.fresh⟩
   have hT:Shared.TypeIs { s with heap:=s.heap.push o0 } (.ref s.heap.objs.size) "set" := ⟨_,hS,by rw[←ho0]⟩
   have hli:=F.called_set.init.lookup;have hbi:=F.called_set.init.bind (.ref s.heap.objs.size)
   repeat (any_goals (first | assumption | wp_step))
   refine codeAny_mono (codeAny_call_builtin (R:=wants (λr s₂=>r=.none∧∃h' tk,s₂={ s with heap:=h',toks:=tk }∧SetI (!b) s.heap.objs.size (firstMet (λi=>ns.getD i 0) items.size) h'∧
     (∀c o,s.heap.get? c=some o→h'.get? c=some o)) E) F.called_set.init.plain F.entry_set_init (check_set_init_1 hT ?_)) λr₂ s₂ hr₂=>?_
   ·obtain⟨ol,hol,hcl,nl,hdl⟩:=hl;obtain⟨oc,od,odt,osl⟩:=ol;simp only at hcl hdl;subst hcl; subst hdl;have hol':(s.heap.push o0).get? L=some { cls:=.type "list", dict:=od,data:=.seq items nl,slots:=osl }:=ζe _ hol;have e1:=F.sub_list_set;have e2:=F.sub_list_frozenset;have hne:(Value.type "list" == Value.type "dict")=false:=by decide
    have hl1:(s.heap.push o0).IsList L items:=⟨_,hol',rfl,nl,rfl⟩
    have hz0:(s.heap.push o0).objs.size=s.heap.objs.size + 1:=ξQ _ _;subst ho0;unfold Builtin.«set.__init__» noKeywords Builtin.Frozenset.updateFrom;generalize hPI:pyIter=PI
    wp_walk
    subst hPI;refine wpAny_pyIter_list hl1 ?_;refine AA (wpAny_runValue ?_);have hlS:L < s.heap.objs.size:=ζm hol;have hh3:A.in1.in1.in1.handled=none:=hh;have hneI:L≠(s.heap.push { cls:=.type "set", dict:=none,data:=.set #[] 0 (.fresh 0 0 (!b)) }).objs.size:=by rw[hz0]; exact ζL (Nat.lt_succ_of_lt hlS)
    have hSf:s.heap.objs.size∉[(s.heap.push { cls:=.type "set", dict:=none,data:=.set #[] 0 (.fresh 0 0 (!b)) }).objs.size,L]:=by
     rw[hz0];intro z;rcases ζC.mp z with z | z
     ·exact ζL (Nat.lt_succ_self _) z
     ·exact ξv hlS (ζk.mp z)
    have hval:∀(i:Nat) (v:Value),items[i]?=some v→∃t,v=.int ((λi=>ns.getD i 0) i) t:=λi v hv=>IntsAre.int_at hi i v (by rw[ξj]; exact hv);refine zbQ (b:=!b) ((Walks.list hh3 _ L hneI items).toS) s.heap.objs.size hSf (λi=>ns.getD i 0) hval hz (items.size - 0) 0 _ ⋯ (ξn _) ⟨⟨_,ζt _ rfl,rfl,rfl⟩,(hl1.push _)⟩ ?hS0 ?hR
    case hS0=>exact hS0.at λo z=>ζe _ z
    case hR =>
     intro s' hm hS';obtain⟨h',g',d',tk',os'⟩:=s';have eg:g'=s.gens:=hm.gens;have ed:d'=s.drawn:=hm.drawn;have eo:os'=s.os:=hm.os;subst eg; subst ed; subst eo;show wpAny _ _ _ _ _ _;refine AB ?_;show wpAny _ _ (ret Value.none) _ _ _;refine AB ⟨rfl,h',tk',rfl,hS',λc o z=>?_⟩;have hc:c < s.heap.objs.size:=ζm z;refine hm.heap c o (λq=>?_) (ζe _ (ζe _ z));rcases ζC.mp q with q | q
     ·exact ζL hc q
     ·have q:=ζk.mp q;rw[hz0]at q;exact ζL (Nat.lt_succ_of_lt hc) q
   ·cases r₂ with
    | error e=>exact hr₂
    | ok fl₂ =>
     cases fl₂ with
     | ret r =>
      obtain⟨rfl,h',tk,rfl,hS',hk'⟩:=hr₂
      repeat (any_goals (first | assumption | wp_step))
      exact k _ _ hS' hk'
     | _=>exact hr₂.elim
  | _=>exact hr.elim
end
section
variable {X:Cx}{K:ζc}{b:Bool}
def SetB(b:Bool)(a:Addr)(l:AE):HO:=.ext (SetI (!b) a l)
theorem Y9(x:SetI (!b) a l h):yA P w H h a (SetB b a l) :=
 ⟨x,(let⟨o,_,_,_,ho,_⟩:=x; ⟨o,ho⟩),λ_ _ x1 k=>x1.at k⟩
def WF(K:ζc)(b:Bool):List V→Hp→VK→Prop:=λxs H Q=>∃p ns,xs=[.ref p]∧SqL K H p (ns.map V.int)∧ns.length < 4000∧∀l,H l=none→Q (.ref l) (upd H l (SetB b l (dd ns)))
theorem vY(hK:X.K=K)(hc:X.calm=true)(hb:X.w.params.followText "set-order" = b):y8 X (.type "set") (WF K b):=by
 subst hK;intro pins s σ H xs us Q I r h;obtain⟨p,ns,rfl,hq,hz,q⟩:=h;obtain⟨u,rfl,rx⟩:=vk r;cases rx;obtain⟨its,r',pl,hy⟩:=I.list hq;have hl:=r'.length;rw[ζa]at hl hy;refine zdY (ns:=ns) (I.ok.hd hc) hb pl.isList (by simpa using w9 r') (by rw[List.size_toArray]; unfold scanBound; omega) λh' tk hS hk=>?_;have z2:its.toArray.size=ns.length:=by rw[ζO,hl]
 rw[z2,XS]at hS;exact⟨.ref s.heap.objs.size,_,I.laid (t':=tk) hk (ζj _) (Y9 hS),rfl,q _ (I.hok.fresh (ζj _))⟩
def WE(b:Bool):List V→Hp→VK→Prop:=λxs H Q=>∃p l,xs=[.ref p]∧H p=some (SetB b p l)∧l.length < 64∧∀c,H c=none→Q (.ref c) (upd H c (.lst ((srt l).map V.int)))
theorem X2(hc:X.calm=true)(hb:X.w.params.followText "set-order" = b):y8 X (.builtin "sorted") (WE b):=by
 intro pins s σ H xs us Q I r h;obtain⟨p,l,rfl,hH,h64,q⟩:=h;obtain⟨u,rfl,rx⟩:=vk r;cases rx;have hS:SetI (!b) p l s.heap:=(I.hok p _ hH).1;refine zbZ (I.ok.hd hc) hb hS h64 λout ns c e h' d tk a1 a2 a3 hk hle he=>?_;have e1:=Zu a2 a3;subst e1;have I1:Inv X pins σ (upd H c (.lst ((srt l).map V.int))) { s with heap:=h',toks:=tk }:=I.laid (t':=tk) hk hle (show yA X.prog X.w _ _ _ (.lst ((srt l).map V.int))from⟨by rw[List.length_map,(wy l).length_eq,sizeLine_eq]; omega,out.toList,e,wO a1,by simpa using he⟩);have I2:=I1.call (ch:=[]) (h':=h') (g':=s.gens) (d':=d) (t':=tk) Un.refl I1.hok I1.bare (λ_ z=>nomatch z);exact⟨.ref c,_,I2,rfl,q _ (I.hok.fresh hle)⟩
def zdx(b:Bool):List V→Hp→VK→Prop:=λxs H Q=>∃p l,xs=[.ref p]∧H p=some (SetB b p l)∧Q (.int l.length) H
theorem Qv:y8 X (.builtin "len") (zdx b):=by
 intro pins s σ H xs us Q I r h;obtain⟨p,l,rfl,hH,q⟩:=h;obtain⟨u,rfl,rx⟩:=vk r;cases rx;obtain⟨o,es,ep,t,ho,hex,hd,_,hp,hz,hf,_⟩:SetI (!b) p l s.heap:=(I.hok p _ hH).1;have e:es.size=l.length:=by have:=hp.length_eq; simpa using this
 exact PySem.call_len_set ho hex hd hf (by unfold scanBound at hz; omega) ⟨.int l.length,H,I.tok _,⟨_,by rw[e]⟩,q⟩
end
end L2
namespace PD
open PySem L2
section
variable {K:ζc}{S S':Sx}{κ κ' b:Bool}{Γ Γ' Γ'':Ctx}{P:Post}
end
end PD
namespace L2
open PySem
def lcg(x:Nat):Nat:=5 * x + 1
def lcgN:Nat→Nat→Nat
 | 0,x=>x
 | n + 1,x=>lcgN n (lcg x)
theorem ZQ:∀(m n x:Nat),lcgN (m + n) x=lcgN n (lcgN m x)
 | 0,n,x=>by rw[Nat.zero_add]; rfl
 | m + 1,n,x=>by rw[Nat.succ_add]; exact ZQ m n (lcg x)
theorem UV:∀k:Nat,∃u:Nat,u % 2=1∧∀x,lcgN (2 ^ k) x=x + 2 ^ k * u * (4 * x + 1)
 | 0=>⟨1,rfl,λx=>by show lcg x=_; unfold lcg; omega⟩
 | k + 1=>by
  obtain⟨u,hu,h⟩:=UV k;refine⟨u * (1 + 2 * (2 ^ k * u)),by rw[Nat.mul_mod,hu]; omega,λx=>?_⟩
  have e:2 ^ (k + 1)=2 ^ k + 2 ^ k:=by rw[ξ7]; omega
  rw[e,ZQ,h,h];generalize 2 ^ k=m;have e1:(m + m) * (u * (1 + 2 * (m * u))) * (4 * x + 1)=m * u * (4 * x + 1) * (2 + 4 * (m * u)):=by
   have a1:(m + m) * (u * (1 + 2 * (m * u)))=m * u * (2 + 4 * (m * u)):=by
    rw[←ξW,Nat.add_mul,←Nat.two_mul,ξW 2,Nat.mul_left_comm,Nat.mul_add 2];congr 1;omega
   rw[a1,Nat.mul_right_comm]
  rw[e1];generalize hy:m * u * (4 * x + 1)=y;have e2:m * u * (4 * (x + y) + 1)=y + 4 * (m * u) * y:=by
   have:m * u * (4 * (x + y) + 1)=m * u * (4 * x + 1) + m * u * (4 * y):=by rw[←Nat.mul_add]; congr 1; omega
   rw[this,hy];congr 1
   ac_nf
  rw[e2];have:y * (2 + 4 * (m * u))=2 * y + 4 * (m * u) * y:=by
   rw[Nat.mul_add];congr 1
   ·omega
   ·ac_nf
  omega
theorem UW:∀(k x y:Nat),∃n,n < 2 ^ k∧lcgN n x % 2 ^ k=y % 2 ^ k
 | 0,x,y=>⟨0,#[2],by rw[Nat.pow_zero,Nat.mod_one,Nat.mod_one]⟩
 | k + 1,x,y=>by
  obtain⟨n,hn,h⟩:=UW k x y;have e:2 ^ (k + 1)=2 ^ k * 2:=ξ7 ..;by_cases c:lcgN n x % 2 ^ (k + 1)=y % 2 ^ (k + 1)
  ·exact⟨n,by rw[e]; omega,c⟩
  ·refine⟨n + 2 ^ k,by rw[e]; omega,?_⟩
   obtain⟨u,hu,hz⟩:=UV k;rw[ZQ,hz];generalize lcgN n x=z at h c;obtain⟨v,hv⟩:∃v,u * (4 * z + 1)=2 * v + 1:=⟨u * (4 * z + 1) / 2,by
    have:u * (4 * z + 1) % 2=1:=by rw[Nat.mul_mod,hu]; omega
    omega⟩
   rw[ξW,hv];have e3:z + 2 ^ k * (2 * v + 1)=z + 2 ^ k + 2 ^ (k + 1) * v:=by
    rw[e,Nat.mul_add,Nat.mul_one,←ξW];omega
   rw[e3,Nat.add_mul_mod_self_left];have p:0 < 2 ^ k:=Nat.pos_of_ne_zero (by simp);rw[e,Nat.mod_mul,Nat.mod_mul,h]at c;rw[e,Nat.mod_mul,Nat.mod_mul,Nat.add_mod_right,Nat.add_div_right _ p,h];have d:¬z / 2 ^ k % 2=y / 2 ^ k % 2:=λw=>c (by rw[w]);have:(z / 2 ^ k).succ % 2=y / 2 ^ k % 2:=by omega
   rw[this]
def wx(mask:Nat):Nat→Nat×Nat→Nat×Nat
 | 0,p=>p
 | n + 1,p=>wx mask n (SetTable.leap mask p.1 p.2)
theorem Zq(mask:Nat):∀(n i:Nat),i < mask + 1→wx mask n (i,0)=(lcgN n i % (mask + 1),0)
 | 0,i,h=>by show(i,0)=_; rw[show lcgN 0 i=i from rfl,Nat.mod_eq_of_lt h]
 | n + 1,i,h=>by
  show wx mask n ((i * 5 + 1 + 0 / 32) % (mask + 1),0 / 32)=_;rw[Nat.zero_div,Nat.add_zero,Zq mask n _ (Nat.mod_lt _ (Nat.succ_pos _))];have:∀(n x:Nat),lcgN n (x % (mask + 1)) % (mask + 1)=lcgN n x % (mask + 1):=by
   intro n;induction n with
   | zero=>intro x; exact Nat.mod_mod _ _
   | succ n ih =>
    intro x;show lcgN n (lcg (x % (mask + 1))) % _=lcgN n (lcg x) % _;rw[←ih (lcg (x % (mask + 1))),←ih (lcg x)];congr 2;unfold lcg;rw[Nat.add_mod,Nat.mul_mod,Nat.mod_mod,←Nat.mul_mod,←Nat.add_mod]
  rw[this,show i * 5 + 1=lcg i by unfold lcg; omega];rfl
theorem Yl(mask:Nat):∀(m n:Nat) (p:Nat×Nat),wx mask (m + n) p=wx mask n (wx mask m p)
 | 0,n,p=>by rw[Nat.zero_add]; rfl
 | m + 1,n,p=>by rw[Nat.succ_add]; exact Yl mask m n _
theorem Yk(mask:Nat):∀(n i p:Nat),(wx mask n (i,p)).2=p / 32 ^ n
 | 0,i,p=>by rw[Nat.pow_zero,Nat.div_one]; rfl
 | n + 1,i,p=>by
  show(wx mask n ((i * 5 + 1 + p / 32) % (mask + 1),p / 32)).2=_;rw[Yk mask n,Nat.div_div_eq_div_mul,ξ7,Nat.mul_comm 32]
theorem Wf(mask:Nat):∀(n:Nat) (p:Nat×Nat),p.1 < mask + 1→(wx mask n p).1 < mask + 1
 | 0,p,h=>h
 | n + 1,p,h=>Wf mask n _ (Nat.mod_lt _ (Nat.succ_pos _))
theorem Tq(hm:mask + 1=2 ^ k)(hi:i < mask + 1)(hp:p < 2 ^ 64)(hj:j < mask + 1):∃n,n < SetTable.turns mask∧(wx mask n (i,p)).1=j:=by
 have z:(wx mask 13 (i,p)).2=0:=by
  rw[Yk];exact Nat.div_eq_of_lt (Nat.lt_trans hp #[2])
 have l:=Wf mask 13 (i,p) hi;generalize hw:wx mask 13 (i,p)=q at z l;obtain⟨i',p'⟩:=q;have z:p'=0:=z;subst z;obtain⟨n,hn,h⟩:=UW k i' j;refine⟨13 + n,by unfold SetTable.turns; omega,?_⟩
 rw[Yl,hw,Zq mask n i' l,hm,h,←hm,Nat.mod_eq_of_lt hj]
theorem za2(h:Int):SetTable.bits h < 2 ^ 64:=by
 unfold SetTable.bits;have h1:=ζY h (show(2 ^ 64:Int)≠0 by decide);have h2:=ζR h (show(0:Int) < 2 ^ 64 by decide);omega
theorem U3(hz:owner.size=mask + 1):∀(fuel i p:Nat),i < mask + 1→(∃n,n < fuel∧owner.getD (wx mask n (i,p)).1 (some 0)=none)→∃j,SetTable.layClean.free mask owner fuel i p=some j∧owner[j]?=some none
 | 0,i,p,_,⟨n,h,_⟩=>absurd h (Nat.not_lt_zero _)
 | fuel + 1,i,p,hi,⟨n,hn,h⟩=>by
  unfold SetTable.layClean.free;have good:∀x,(owner.getD x (some 0)).isNone=true→owner[x]?=some none:=λx hx=>by
   rw[Array.getD_eq_getD_getElem?]at hx;cases e:owner[x]? with
   | none=>rw[e]at hx; cases hx
   | some o =>
    rw[e]at hx;have:o=none:=Option.isNone_iff_eq_none.mp hx;rw[this]
  split
  ·rename_i k hk;exact⟨i + k,rfl,good _ (List.find?_some (p:=λk=>(owner.getD (i + k) (some 0)).isNone) hk)⟩
  ·rename_i hk;dsimp only;cases n with
   | zero =>
    have h0:=List.find?_eq_none.mp hk 0 (List.mem_range.mpr (by unfold SetTable.runEnd; split <;> omega));have h:owner.getD i (some 0)=none:=h;rw[Nat.add_zero,h]at h0;exact absurd rfl h0
   | succ n=>exact U3 hz fuel _ _ (Nat.mod_lt _ (Nat.succ_pos _)) ⟨n,⋯,h⟩
def x9(o:Array (Option Nat)):AF:=o.toList.filterMap id
theorem Tv(h:o[j]?=some none):(x9 (o.setIfInBounds j (some k))).Perm (k :: x9 o):=by
 unfold x9;have hj:j < o.size:=(Array.getElem?_eq_some_iff.mp h).1;rw[Array.toList_setIfInBounds];have hl:o.toList[j]?=some none:=by rw[ξj]; exact h
 have hj':j < o.toList.length:=by rw[ζM]; exact hj
 have e1:o.toList.set j (some k)=o.toList.take j ++ some k :: o.toList.drop (j + 1):=List.set_eq_take_append_cons_drop .. ▸ by rw[if_pos hj']
 have e2:o.toList=o.toList.take j ++ none :: o.toList.drop (j + 1):=by
  have:o.toList[j]=none:=by have:=ζd hj'; rw[hl]at this; exact(ζr this).symm
  rw[←this,←ξp hj',ζ0]
 rw[e1,List.filterMap_append,List.filterMap_cons_some (f:=id) (a:=some k) (b:=k) rfl]
 conv=>rhs; rw[e2,List.filterMap_append,List.filterMap_cons_none (f:=id) (a:=none) rfl]
 exact ξ2
theorem Qd(h:(x9 o).length < o.size):∃j,j < o.size∧o[j]?=some none:=by
 refine Classical.byContradiction λz=>?_;have all:∀x∈o.toList,x≠none:=λx hx e=>by
  obtain⟨j,hj,ej⟩:=ξF.mp hx;rw[ζM]at hj;refine z ⟨j,hj,?_⟩;rw[ξh hj,←Array.getElem_toList,ej,e]
 have:∀l:List (Option Nat),(∀x∈l,x≠none)→(l.filterMap id).length=l.length:=λl=>by
  induction l with
  | nil=>intro _; rfl
  | cons x r ih =>
   intro hx;cases e:x with
   | none=>exact absurd e (hx x (.head _))
   | some v=>rw[List.filterMap_cons_some (f:=id) (a:=some v) (b:=v) rfl,ζ9,ζ9,ih λy hy=>hx y (.tail _ hy)]
 have e:=this o.toList all;unfold x9 at h;rw[e,ζM]at h;exact ξq _ h
def Zj(mask:Nat)(acc:Option (Array (Option Nat)×Nat))(h:Int):Option (Array (Option Nat)×Nat):=do
 let(owner,k)←acc;let j←SetTable.layClean.free mask owner (SetTable.turns mask) (SetTable.bits h % (mask + 1)) (SetTable.bits h)
 pure (owner.setIfInBounds j (some k),k + 1)
theorem UX(hm:mask + 1=2 ^ k):∀(hs:AE) (o:Array (Option Nat)) (n:Nat),o.size=mask + 1→(x9 o).length=n→n + hs.length≤mask→∃o',hs.foldl (Zj mask) (some (o,n))=some (o',n + hs.length)∧o'.size=mask + 1∧(x9 o').Perm (x9 o ++ (List.range hs.length).map (n + ·))
 | [],o,n,h1,h2,h3=>⟨o,rfl,h1,by simp⟩
 | h :: hs,o,n,h1,h2,h3=>by
  rw[ζ9]at h3;obtain⟨j0,hj0,ej0⟩:=Qd (o:=o) ⋯;have hi:SetTable.bits h % (mask + 1) < mask + 1:=Nat.mod_lt _ (Nat.succ_pos _);obtain⟨m,hm1,hm2⟩:=Tq hm hi (za2 h) (j:=j0) ⋯;obtain⟨j,ej,oj⟩:=U3 h1 (SetTable.turns mask) _ (SetTable.bits h) hi ⟨m,hm1,by rw[hm2,Array.getD_eq_getD_getElem?,ej0]; rfl⟩;have st:Zj mask (some (o,n)) h=some (o.setIfInBounds j (some n),n + 1):=by
   unfold Zj;simp only[Option.bind_eq_bind,Option.bind_some,ej];rfl
  have pm:=Tv (k:=n) oj;obtain⟨o',e1,e2,e3⟩:=UX hm hs (o.setIfInBounds j (some n)) (n + 1) (by rw[Array.size_setIfInBounds]; exact h1) (by rw[pm.length_eq,ζ9,h2]) ⋯;refine⟨o',by rw[List.foldl_cons,st,e1,ζ9]; congr 2; omega,e2,e3.trans ?_⟩
  refine(pm.append_right _).trans ?_;rw[ζ9,List.range_succ_eq_map,ζH,ζx];refine(ξ2 (l₁:=x9 o)).symm.trans ?_;rw[Nat.add_zero];refine List.Perm.append_left _ (List.Perm.cons _ ?_);have:((λx=>n + x)∘Nat.succ)=λx=>n + 1 + x:=by funext x; show n + (x + 1)=_; omega
  rw[this]
theorem UY(hm:mask + 1=2 ^ k)(f m:Nat)(led plain:Bool)(hs:Array Int)(hz:hs.size≤mask):∃t order,SetTable.laid mask f m led plain hs=some (t,order)∧TOk led t∧t.mask=mask∧t.plain=plain∧order.toList.Perm (List.range hs.size)∧t.place.size=hs.size:=by
 obtain⟨o,e1,e2,e3⟩:=UX hm hs.toList (Array.replicate (mask + 1) none) 0 (by simp) (by unfold x9; rw[Array.toList_replicate]; simp) (by rw[Array.length_toList]; omega);have lc:SetTable.layClean mask hs=some o:=by
  unfold SetTable.layClean;rw[←Array.foldl_toList];have:(List.foldl (Zj mask) (some (Array.replicate (mask + 1) none,0)) hs.toList).map (·.1)=some o:=by rw[e1]; rfl
  exact this
 have e4:(x9 o).Perm (List.range hs.size):=by
  refine e3.trans ?_;unfold x9;rw[Array.toList_replicate,ζM];simp
 have key:((List.range (mask + 1)).filterMap λj=>(o.getD j none).map (j,·)).map (·.2)=x9 o:=by
  rw[List.map_filterMap];unfold x9;have:o.toList=(List.range (mask + 1)).map λj=>o.getD j none:=by
   refine List.ext_getElem? λi=>?_;rw[ξj,ζo];by_cases hi:i < mask + 1
   ·rw[ξ5 hi,ξh ⋯];show _=some (o.getD i none);rw[Array.getD_eq_getD_getElem?,ξh ⋯];rfl
   ·rw[Array.getElem?_eq_none ⋯,ξr (by rw[ζv]; omega)];rfl
  rw[this,List.filterMap_map];refine congrArg (λf=>List.filterMap f (List.range (mask + 1))) (funext λj=>?_);show Option.map _ (Option.map _ (o.getD j none))=o.getD j none;cases o.getD j none <;> rfl
 refine⟨_,_,by unfold SetTable.laid; rw[lc]; rfl,⟨rfl,?_,rfl⟩,rfl,rfl,?_,?_⟩
 ·show List.Pairwise (· < ·) _;dsimp only;rw[List.pairwise_map,List.pairwise_filterMap];refine ξT.imp λ{i j} hij x hx y hy=>?_;obtain⟨u,_,rfl⟩:=ξi.mp hx;obtain⟨u',_,rfl⟩:=ξi.mp hy;exact hij
 ·show(((List.range (mask + 1)).filterMap λj=>(o.getD j none).map (j,·)).map (·.2)).Perm _;rw[key];exact e4
 ·show(((List.range (mask + 1)).filterMap λj=>(o.getD j none).map (j,·)).map (·.1)).toArray.size=_;rw[ζO,ζa,←ζa (f:=(·.2)),key,e4.length_eq,ζv]
theorem uz:∀(fuel k n:Nat),2 ^ k≤2 * n + 8→n < 2 ^ (k + fuel)→∃j,SetTable.sizeAbove.go n fuel (2 ^ k)=2 ^ j∧n < 2 ^ j∧2 ^ j≤2 * n + 8
 | 0,k,n,h1,h2=>⟨k,rfl,h2,h1⟩
 | fuel + 1,k,n,h1,h2=>by
  unfold SetTable.sizeAbove.go;by_cases h:2 ^ k≤n
  ·rw[if_pos h,show 2 ^ k * 2=2 ^ (k + 1)from(ξ7 ..).symm];exact uz fuel (k + 1) n (by rw[ξ7]; omega) (by rw[show k + 1 + fuel=k + (fuel + 1)by omega]; exact h2)
  ·rw[if_neg h];exact⟨k,rfl,⋯,h1⟩
theorem Y6(h:n < 100000):∃j,SetTable.sizeAbove n=2 ^ j∧n < 2 ^ j∧2 ^ j≤2 * n + 8:=by
 have:=uz 64 3 n ⋯ (Nat.lt_trans h #[2]);exact this
end L2
namespace L2
open PySem PySem.Spec PyProof.Rows
theorem Wn:entryFor table "set.__or__" = some Builtin.«frozenset.__or__»:=entryFor_alias (id' := "frozenset.__or__") (by kernel_rfl) rfl (by decide +kernel) (by kernel_rfl)
theorem Y8:entryFor table "set.__and__" = some Builtin.«frozenset.__and__»:=entryFor_alias (id' := "frozenset.__and__") (by kernel_rfl) rfl (by decide +kernel) (by kernel_rfl)
theorem uD{order:Array Nat}{es:Array (Int×Value)}(h:order.toList.Perm (List.range es.size)):(order.filterMap (es[·]?)).toList.Perm es.toList:=by
 rw[Array.toList_filterMap];exact(h.filterMap _).trans (by rw[filterMap_getElem?_range])
def xE(b:Bool)(m:Nat)(a:Addr)(h:Heap):Prop:=∃o ep t,h.get? a=some o∧o.ExactSet∧o.data=.set #[] ep t∧TOk b t∧t.place=#[]∧(∃k,t.mask + 1=2 ^ k)∧m≤t.mask
theorem xE.fits(h:TOk b t)(e:t.place=#[]):t.fits (#[]:Array (Int×Value)).size=true:=by
 unfold SetTable.fits SetTable.fill;rw[e,h.dum];simp
theorem xE.set(x:xE b m a h):SetI b a [] h:=by
 obtain⟨o,ep,t,ho,hx,hd,ht,hp,_⟩:=x;exact⟨o,#[],ep,t,ho,hx,hd,(λe z=>by simp at z),.nil,#[2],xE.fits ht hp,ht⟩
section
variable {prog:Program}{w:World}{A:Around}{E:AN}{s:Shared}{b:Bool}{a r o:Addr}{l l1 l2:AE}{m:Nat}
theorem zaf(hS:SetI b a l s.heap)(hw:l.length≤wanted)(h1:wanted < 100000)
  (k:∀h',Heap.SameBut a s.heap h'→SetI b a l h'→(l=[]→xE b wanted a h')→Q () { s with heap:=h' }):wpAny (model prog w) A (setRelay a wanted) Q E s:=by
 obtain⟨ob,es,ep,t,ho,hex,hd,hE,hp,hz,hf,ht⟩:=hS;obtain⟨j,ej,j1,j2⟩:=Y6 h1;have hn:es.size=l.length:=by have:=hp.length_eq; simpa using this
 unfold setRelay;refine AA (wpAny_setState_of ho hd hf ?_);dsimp only;rw[if_neg (by rw[ej,sizeLine_eq]; omega)];have m1:SetTable.sizeAbove wanted - 1 + 1=2 ^ j:=by rw[ej]; omega
 obtain⟨t',order,e1,e2,e3,e4,e5,e6⟩:=UY m1 t.finger (t.movedTo (SetTable.sizeAbove wanted - 1)) t.led t.plain (es.map (·.1)) (by rw[Array.size_map,ej]; omega);rw[Array.size_map]at e5 e6;have er:t.relaid (es.map (·.1)) wanted=some (t',order):=e1;have pm:=uD e5;have sz:(order.filterMap (es[·]?)).size=es.size:=by rw[←ζM,pm.length_eq,ζM]
 rw[ht.led]at e2;rw[er];refine AA ?_;show wpAny _ _ (ite ((order.filterMap (es[·]?)).size != es.size) _ _) _ _ _;rw[if_neg (by rw[sz]; simp)];refine AB ?_;have ft:t'.fits (order.filterMap (es[·]?)).size=true:=by
  unfold SetTable.fits SetTable.fill;rw[e2.dum,e6,sz,e3];simp;rw[ej];omega
 refine wpAny_storeSet_of ho hd ?_ (fits_of_scanBound (by rw[sz]; exact hz));refine k _ (Heap.SameBut.update ..) ⟨_,_,_,_,vn ho hd _ _,hex,rfl,λe x=>hE e (pm.mem_iff.mp x),(pm.map kOf).trans hp,by rw[sz]; exact hz,ft,e2⟩ λhl=>?_;have z0:es.size=0:=by rw[hn,hl]; rfl
 have ee:order.filterMap (es[·]?)=#[]:=Array.eq_empty_of_size_eq_zero (by rw[sz]; exact z0);have g:=vn ho hd (order.filterMap (es[·]?)) t';exact⟨{ ob with data:=.set (order.filterMap (es[·]?)) (ep + 1) t' },ep + 1,t',g,hex,by show Data.set _ _ _=_; rw[ee],e2,Array.eq_empty_of_size_eq_zero (by rw[e6]; exact z0),⟨j,by rw[e3]; exact m1⟩,by rw[e3,ej]; omega⟩
theorem zfg(hS:SetI b a l s.heap)(hw:l.length + more < 4000)
  (k:∀h',Heap.SameBut a s.heap h'→SetI b a l h'→Q () { s with heap:=h' }):wpAny (model prog w) A (setRoomFor a more) Q E s:=by
 obtain⟨ob,es,ep,t,ho,hex,hd,hE,hp,hz,hf,ht⟩:=id hS;have hn:es.size=l.length:=by have:=hp.length_eq; simpa using this
 have hpz:t.place.size=es.size:=by
  simp only[SetTable.fits,Bool.and_eq_true,beq_iff_eq]at hf;exact hf.1
 unfold setRoomFor;refine AA (wpAny_setState_of ho hd hf ?_);dsimp only;cases e:t.roomFor more with
 | none=>exact AB (k s.heap (Heap.SameBut.refl a s.heap) hS)
 | some wanted =>
  have:wanted=(t.place.size + more) * 2:=by
   unfold SetTable.roomFor at e;split at e
   ·exact(ζr e).symm
   ·cases e
  exact zaf hS ⋯ ⋯ λh' u v _=>k h' u v
theorem zfh(hS:xE b 7 a s.heap)(hw:more < 4000)
  (k:∀h',Heap.SameBut a s.heap h'→xE b more a h'→Q () { s with heap:=h' }):wpAny (model prog w) A (setRoomFor a more) Q E s:=by
 obtain⟨ob,ep,t,ho,hex,hd,ht,hp,hk,hm⟩:=id hS;unfold setRoomFor;refine AA (wpAny_setState_of ho hd (xE.fits ht hp) ?_);dsimp only;cases e:t.roomFor more with
 | none =>
  refine AB (k s.heap (Heap.SameBut.refl a s.heap) ⟨ob,ep,t,ho,hex,hd,ht,hp,hk,?_⟩);unfold SetTable.roomFor at e;split at e
  ·cases e
  ·rename_i q;unfold SetTable.fill at q;rw[hp,ht.dum]at q;simp at q;omega
 | some wanted =>
  have:wanted=(t.place.size + more) * 2:=by
   unfold SetTable.roomFor at e;split at e
   ·exact(ζr e).symm
   ·cases e
  rw[hp]at this;have this:wanted=(0 + more) * 2:=this;exact zaf hS.set (ξn _) ⋯ λh' u v f=>k h' u (by
   obtain⟨o',ep',t',y1,y2,y3,y4,y5,y6,y7⟩:=f rfl;exact⟨o',ep',t',y1,y2,y3,y4,y5,y6,⋯⟩)
theorem zaN(hF:xE b 7 r s.heap)(hO:SetI b o l s.heap)(hne:r≠o)(hl:l.length < 4000)
  (k:∀h',Heap.SameBut r s.heap h'→SetI b r l h'→(l=[]→xE b 7 r h')→Q () { s with heap:=h' }):wpAny (model prog w) A (setMerge r o each) Q E s:=by
 obtain⟨ob,es,ep,t,ho,hex,hd,hE,hp,hz,hf,ht⟩:=id hO;have hn:es.size=l.length:=by have:=hp.length_eq; simpa using this
 unfold setMerge;rw[if_neg (by simpa using hne)];refine AA (wpAny_setState_of ho hd hf ?_);dsimp only;by_cases em:es.isEmpty=true
 ·rw[if_pos em];have l0:l=[]:=List.eq_nil_of_length_eq_zero (by rw[←hn]; simpa using em);exact AB (k s.heap (Heap.SameBut.refl _ _) (l0 ▸ hF.set) λ_=>hF)
 rw[if_neg em];have lnz:l≠[]:=λz=>em (by rw[z]at hn; simpa using hn);refine AA (zfh hF (more:=es.size) ⋯ λh1 u1 f1=>?_);obtain⟨o1,ep1,t1,g1,x1,d1,k1,p1,⟨j,hj⟩,m1⟩:=f1;refine AA (wpAny_setState_of (s:={ s with heap:=h1 }) g1 d1 (xE.fits k1 p1) ?_);dsimp only;have fill0:t1.fill=0:=by unfold SetTable.fill; rw[p1,k1.dum]; rfl
 have hE':∀e∈es.toList,IsE e:=hE;unfold SetTable.road;rw[if_neg (by rw[fill0]; simp)];by_cases c:(t1.mask == t.mask && t.dummies.isEmpty)=true
 ·rw[if_pos c];dsimp only;refine wpAny_storeSet_of (s:={ s with heap:=h1 }) g1 d1 ?_ (fits_of_scanBound hz);refine k _ (u1.trans (Heap.SameBut.update ..)) ⟨_,es,_,_,vn g1 d1 _ _,x1,rfl,hE,hp,hz,hf,⟨?_,ht.rise,ht.dum⟩⟩ λz=>absurd z lnz;show(t1.led && t.led)=b;rw[k1.led,ht.led,Bool.and_self]
 ·rw[if_neg c];dsimp only;obtain⟨t',order,e1,e2,e3,e4,e5,e6⟩:=UY hj t1.finger t1.moves (t1.led && t.led) (t1.plain && t.plain) (es.map (·.1)) (by rw[Array.size_map]; exact m1);rw[Array.size_map]at e5 e6;have pm:=uD e5;have sz:(order.filterMap (es[·]?)).size=es.size:=by rw[←ζM,pm.length_eq,ζM]
  rw[k1.led,ht.led,Bool.and_self]at e1 e2;rw[k1.led,ht.led,Bool.and_self,e1];refine AA ?_;show wpAny _ _ (ite ((order.filterMap (es[·]?)).size != es.size) _ _) _ _ _;rw[if_neg (by rw[sz]; simp)];refine AB ?_;have ft:t'.fits (order.filterMap (es[·]?)).size=true:=by
   unfold SetTable.fits SetTable.fill;rw[e2.dum,e6,sz,e3];simp;omega
  refine wpAny_storeSet_of (s:={ s with heap:=h1 }) g1 d1 ?_ (fits_of_scanBound (by rw[sz]; exact hz));exact k _ (u1.trans (Heap.SameBut.update ..)) ⟨_,_,_,_,vn g1 d1 _ _,x1,rfl,λe x=>hE e (pm.mem_iff.mp x),(pm.map kOf).trans hp,by rw[sz]; exact hz,ft,e2⟩ λz=>absurd z lnz
end
section
variable {prog:Program}{w:World}{A:Around}{E:AN}{s:Shared}{bt:Bool}{a r o:Addr}{l l1 l2:AE}{m:Nat}
theorem UP(hb:w.params.followText "set-order" = bt)
  (k:∀ob,xE (!bt) 7 s.heap.objs.size (s.heap.push ob)→Q (.ref s.heap.objs.size) { s with heap:=s.heap.push ob }):wpAny (model prog w) A (newSet (.type "set")) Q E s:=by
 unfold newSet setsByText;refine AA (AA (wpAny_askSetting (AB ?_)));rw[show(model prog w).w.params.followText "set-order" = bt from hb];dsimp only;simp only[newObj];exact AA (wpAny_alloc (AB (k _ ⟨_,0,_,ζt _ rfl,⟨rfl,rfl,rfl⟩,rfl,TOk.fresh,rfl,⟨3,rfl⟩,ζj _⟩)))
theorem zam(h:∀a∈sets,∃b l,SetI b a l s.heap)(k:Q true s):wpAny (model prog w) A (setsQuiet sets) Q E s:=by
 unfold setsQuiet;refine AA (wpAny_forIn_list _ (λrest r s'=>r.1=none∧s'=s∧∀a∈rest,∃b l,SetI b a l s.heap) _ ?_ ?_ _ _ ⟨rfl,rfl,h⟩)
 ·rintro x rest ⟨r1,r2⟩ s' ⟨e1,rfl,hr⟩;obtain⟨b,l,ob,es,ep,t,ho,hex,hd,hE,hp,hz,hf,ht⟩:=hr x (.head _);refine AA (wpAny_setEntries_of ho hd hf ?_);refine AA (wpAny_forIn_array' _ (λrest r s''=>r.1=none∧s''=s'∧∀e∈rest,IsE e) _ ?_ ?_ _ _ ⟨rfl,rfl,hE⟩)
  ·rintro e rest2 ⟨q1,q2⟩ s'' ⟨e2,rfl,h2⟩;obtain⟨k',t',rfl⟩:=h2 e (.head _);exact AB ⟨rfl,rfl,λy hy=>h2 y (.tail _ hy)⟩
  ·rintro⟨q1,q2⟩ s'' ⟨e2,rfl,_⟩;have e2:q1=none:=e2;subst e2;exact AB ⟨rfl,rfl,λy hy=>hr y (.tail _ hy)⟩
 ·rintro⟨r1,r2⟩ s' ⟨e1,rfl,_⟩;have e1:r1=none:=e1;subst e1;exact AB k
theorem ze9(hb:w.params.followText "set-order" = bt)(hR:SetI (!bt) r l1 s.heap)(hO:SetI (!bt) o l2 s.heap)(hne:r≠o)
  (k:∀(ws:Array (Int×Value)) h',(∀e∈ws.toList,IsE e)→(ws.toList.map kOf).Perm l2→Heap.SameBut r s.heap h'→SetI (!bt) r l1 h'→Q ws { s with heap:=h' }):wpAny (model prog w) A (setWalkUnseen o [r] (some r)) Q E s:=by
 obtain⟨ob,es,ep,t,ho,hex,hd,hE,hp,hz,hf,ht⟩:=id hO;have ks:∀ws:Array (Int×Value),ws.toList.Perm es.toList→Q ws s:=λws pm=>k ws s.heap (λe x=>hE e (pm.mem_iff.mp x)) ((pm.map kOf).trans hp) (Heap.SameBut.refl _ _) hR;unfold setWalkUnseen;refine AA (wpAny_setState_of ho hd hf ?_);dsimp only;unfold setsByText;refine AA (AA (wpAny_askSetting (AB ?_)));rw[show(model prog w).w.params.followText "set-order" = bt from hb];cases bt with
 | true =>
  simp only[Bool.true_or,↓reduceIte];unfold setWalk;refine AA (wpAny_setState_of ho hd hf ?_);dsimp only;unfold setsByText;refine AA (AA (wpAny_askSetting (AB ?_)));rw[show(model prog w).w.params.followText "set-order" = true from hb];simp only[↓reduceIte];exact AA (wpAny_askSetting (AB (ks _ (xX _ _))))
 | false =>
  have led:t.led=true:=ht.led;by_cases c:(false || (t.led && t.plain) || decide (es.size≤1))=true
  ·rw[if_pos c];unfold setWalk;refine AA (wpAny_setState_of ho hd hf ?_);dsimp only;unfold setsByText;refine AA (AA (wpAny_askSetting (AB ?_)));rw[show(model prog w).w.params.followText "set-order" = false from hb];simp only[Bool.false_eq_true,↓reduceIte];split
   ·rename_i z;have z:(!t.plain && decide (es.size > 1))=true:=z;rw[led]at c;simp at c z
    exact absurd z.2 (by rcases c with c | c
                         ·rw[c]at z; exact absurd z.1 #[2]
                         ·omega)
   ·refine AA (wpAny_of_eq (a:=()) ?_ ?_)
    ·show(if(!t.led && decide (es.size > 1))=true then _ else _)=_;rw[led];rfl
    ·exact AB (ks es (.refl _))
  ·rw[if_neg c];refine AA (zam (λx hx=>?_) ?_)
   ·rcases ζC.mp hx with rfl | hx
    ·exact⟨_,_,hO⟩
    ·rw[ζk.mp hx]; exact⟨_,_,hR⟩
   rw[if_neg #[2]];refine AA (wpAny_rule ?_);obtain⟨ob1,es1,ep1,t1,ho1,hex1,hd1,hE1,hp1,hz1,hf1,ht1⟩:=id hR;refine AA (wpAny_setState_of ho1 hd1 hf1 ?_);dsimp only;split
   ·refine AA (wpAny_storeSet_of ho1 hd1 ?_ (fits_of_scanBound hz1));refine AB (k es _ hE hp (Heap.SameBut.update ..) ⟨_,es1,_,_,vn ho1 hd1 _ _,hex1,rfl,hE1,hp1,hz1,hf1,⟨?_,ht1.rise,ht1.dum⟩⟩);show(t1.led && t.led)=_;rw[ht1.led,led];rfl
   ·exact AB (ks es (.refl _))
theorem zeu(hb:w.params.followText "set-order" = bt)(hR:SetI (!bt) r l1 s.heap)(hO:SetI (!bt) o l2 s.heap)(hne:r≠o)(h1:l1≠[])(hl:l1.length + l2.length < 2000)
  (he:∀(s':Shared) (Q':Unit→Shared→Prop),s'.heap.get? o=s.heap.get? o→Q' () s'→wpAny (model prog w) A each Q' E s')
  (k:∀h' l3,Heap.SameBut r s.heap h'→SetI (!bt) r l3 h'→(∀x,x∈l3↔x∈l1∨x∈l2)→(l1.Nodup→l3.Nodup)→l3.length≤l1.length + l2.length→Q () { s with heap:=h' }):wpAny (model prog w) A (setMerge r o each) Q E s:=by
 obtain⟨ob,es,ep,t,ho,hex,hd,hE,hp,hz,hf,ht⟩:=id hO;have hn:es.size=l2.length:=by have:=hp.length_eq; simpa using this
 unfold setMerge;rw[if_neg (by simpa using hne)];refine AA (wpAny_setState_of ho hd hf ?_);dsimp only;by_cases em:es.isEmpty=true
 ·rw[if_pos em];have l0:l2=[]:=List.eq_nil_of_length_eq_zero (by rw[←hn]; simpa using em);subst l0;exact AB (k s.heap l1 (Heap.SameBut.refl _ _) hR (λx=>by simp) id ⋯)
 rw[if_neg em];refine AA (zfg hR (more:=es.size) ⋯ λh1' u1 f1=>?_);obtain⟨o1,es1,ep1,t1,g1,x1,d1,hE1,hp1,hz1,hf1,k1⟩:=id f1;have hn1:es1.size=l1.length:=by have:=hp1.length_eq; simpa using this
 refine AA (wpAny_setState_of (s:={ s with heap:=h1' }) g1 d1 hf1 ?_);dsimp only;have fill0:t1.fill≠0:=by
  have:t1.place.size=es1.size:=by
   simp only[SetTable.fits,Bool.and_eq_true,beq_iff_eq]at hf1;exact hf1.1
  unfold SetTable.fill;have:0 < l1.length:=List.length_pos_iff.mpr h1;omega
 unfold SetTable.road;rw[if_pos (by simpa using fill0)];dsimp only;have hO1:SetI (!bt) o l2 h1':=hO.at λob' z=>by rw[u1.2 o (Ne.symm hne)]; exact z
 refine AA (ze9 (s:={ s with heap:=h1' }) hb f1 hO1 hne λws h2 wE wp u2 f2=>?_);refine AA (wpAny_forIn_array' _ (λrest _ s'=>∃l h',s'={ s with heap:=h' }∧Heap.SameBut r s.heap h'∧SetI (!bt) r l h'∧(∀e∈rest,IsE e)∧(∀x,(x∈l∨x∈rest.map kOf)↔x∈l1∨x∈l2)∧(l1.Nodup→l.Nodup)∧l.length + rest.length≤l1.length + l2.length) _ ?_ ?_ _ _ ⟨l1,h2,rfl,u1.trans u2,f2,wE,λx=>by rw[wp.mem_iff],id,by have:=wp.length_eq; rw[ζa]at this; omega⟩)
 ·rintro e rest _ s' ⟨l,h',rfl,u,f,hE',hm,hnd,hlen⟩;obtain⟨kk,tk,rfl⟩:=hE' e (.head _);rw[ζ9]at hlen;have oo:h'.get? o=s.heap.get? o:=u.2 o (Ne.symm hne);refine AA (wpAny_holding (addI (s:={ s with heap:=h' }) f (by unfold scanBound; omega) λrr h3 u3 f3=>?_));have oo3:h3.get? o=s.heap.get? o:=(u3.2 o (Ne.symm hne)).trans oo;refine AA (he _ _ oo3 ?_);refine AA (wpAny_setState_of (s:={ s with heap:=h3 }) (oo3.trans ho) hd hf ?_);dsimp only;rw[if_neg (by simp)];refine AB ⟨step_dedup l kk,h3,rfl,u.trans u3,f3,λy hy=>hE' y (.tail _ hy),λx=>?_,λz=>?_,?_⟩
  ·rw[←hm x,ζH];show _↔_∨x∈kk :: _;unfold step_dedup;split
   ·rename_i q;obtain⟨y,hy,ey⟩:=ξD.mp q;have ey:=eq_of_beq ey;subst ey;constructor
    ·rintro(z | z)
     ·exact .inl z
     ·exact .inr (.tail _ z)
    ·rintro(z | z)
     ·exact .inl z
     ·rcases ζC.mp z with rfl | z
      ·exact .inl hy
      ·exact .inr z
   ·rw[ζw,ζk,ζC];constructor
    ·rintro((z | z) | z)
     ·exact .inl z
     ·exact .inr (.inl z)
     ·exact .inr (.inr z)
    ·rintro(z | z | z)
     ·exact .inl (.inl z)
     ·exact .inl (.inr z)
     ·exact .inr z
  ·have nd:=hnd z;unfold step_dedup;split
   ·exact nd
   ·rename_i q;rw[ζ4];refine⟨nd,by simp,λx hx y hy=>?_⟩
    rw[ζk.mp hy];rintro rfl;exact q (List.any_eq_true.mpr ⟨_,hx,by simp⟩)
  ·unfold step_dedup;split
   ·omega
   ·rw[ζg];show _ + 1 + _≤_;omega
 ·rintro _ s' ⟨l,h',rfl,u,f,_,hm,hnd,hlen⟩;exact AB (k h' l u f (λx=>by rw[←hm x]; simp) hnd (by simpa using hlen))
end
section
variable {prog:Program}{w:World}{A:Around}{E:AN}{s:Shared}{bt:Bool}{a r o p q:Addr}{l l1 l2:AE}{m:Nat}
theorem vZ{h:Heap}(hS:SetI b a l s.heap)(k:Q true s):wpAny (model prog w) A (Builtin.Frozenset.isAnySet (.ref a)) Q E s:=by
 obtain⟨ob,_,_,_,ho,hx,_⟩:=hS;unfold Builtin.Frozenset.isAnySet;refine AA (wpAny_isInstance (b:=true) ⟨ob,ho,hx.1⟩ sub_set_self (AB k))
theorem zfH(hb:w.params.followText "set-order" = bt)(hS:SetI (!bt) a l s.heap)(hl:l.length < 4000)
  (k:∀h',SetI (!bt) s.heap.objs.size l h'→(∀c ob,s.heap.get? c=some ob→h'.get? c=some ob)→(l=[]→xE (!bt) 7 s.heap.objs.size h')→Q (.ref s.heap.objs.size) { s with heap:=h' }):wpAny (model prog w) A (Builtin.Frozenset.copyOf a) Q E s:=by
 obtain⟨ob,_,_,_,ho,hx,_⟩:=id hS;have ha:a < s.heap.objs.size:=ζm ho;unfold Builtin.Frozenset.copyOf Builtin.Frozenset.baseOf;refine AA (AA (wpAny_isInstance (b:=true) ⟨ob,ho,hx.1⟩ sub_set_self (AB ?_)));simp only[↓reduceIte];refine AA (UP hb λo1 f1=>?_);unfold Builtin.Frozenset.addrOf;refine AA (AB ?_);have hS1:SetI (!bt) a l (s.heap.push o1):=hS.at λ_ z=>ζe _ z;refine AA (zaN (s:={ s with heap:=s.heap.push o1 }) f1 hS1 (ξv ha) hl λh' u f ff=>AB (k h' f (λc ob' z=>?_) ff));rw[u.2 c (ζL (ζm z))];exact ζe _ z
theorem orI(hb:w.params.followText "set-order" = bt)(hP:SetI (!bt) p l1 s.heap)(hR:SetI (!bt) q l2 s.heap)(hne:p≠q)(hl:l1.length + l2.length < 2000)
  (k:∀h' l3,SetI (!bt) s.heap.objs.size l3 h'→(∀c ob,s.heap.get? c=some ob→h'.get? c=some ob)→(∀x,x∈l3↔x∈l1∨x∈l2)→(l1.Nodup→l2.Nodup→l3.Nodup)→l3.length≤l1.length + l2.length→Q (.ref s.heap.objs.size) { s with heap:=h' }) :
  wpAny (model prog w) A (binaryOp .BitOr (.ref p) (.ref q)) Q E s:=by
 obtain⟨op,_,_,_,hop,hxp,_⟩:=id hP;obtain⟨oq,_,_,_,hoq,hxq,_⟩:=id hR;have hp:p < s.heap.objs.size:=ζm hop;have hq:q < s.heap.objs.size:=ζm hoq;have hT:s.TypeIs (.ref p) "set" := ⟨op,hop,hxp.1⟩
 refine wpAny_binaryOp_same hT ⟨oq,hoq,hxq.1⟩ F.fills_set_or F.slot_set_or (wpAny_call_entry F.slot_set_or hT Wn ?_ (F.args_set_or_2 _ _));unfold Builtin.«frozenset.__or__»
 show wpAny _ _ (do
  if !(←Builtin.Frozenset.isAnySet (.ref p) <&&> Builtin.Frozenset.isAnySet (.ref q))then rule s!"frozenset.{"__or__"}.declined"; return←ret .notImplemented
  ret (←(do
   let result←Builtin.Frozenset.copyOf p
   if Value.ref q != .ref p then holding [result] (Builtin.Frozenset.updateFrom s!"frozenset.{"__or__"}" (←Builtin.Frozenset.addrOf result) (.ref q))
   return result))) _ _ _
 refine AA (AA (vZ (h:=s.heap) hP ?_));simp only[↓reduceIte];refine vZ (h:=s.heap) hR ?_;simp only[Bool.not_true,Bool.false_eq_true,↓reduceIte];refine AA (AA (zfH hb hP ⋯ λh1 f1 k1 ff=>?_));rw[if_pos (by simpa using Ne.symm hne)];refine AA (AB (AA (wpAny_holding ?_)));have hR1:SetI (!bt) q l2 h1:=hR.at λ_ z=>k1 _ _ z;have neq:s.heap.objs.size≠q:=ξv hq;have fin:∀h' l3,Heap.SameBut s.heap.objs.size h1 h'→SetI (!bt) s.heap.objs.size l3 h'→(∀x,x∈l3↔x∈l1∨x∈l2)→(l1.Nodup→l2.Nodup→l3.Nodup)→l3.length≤l1.length + l2.length→Q (.ref s.heap.objs.size) { s with heap:=h' }:=λh' l3 u f a b c =>
  k h' l3 f (λc ob z=>by rw[u.2 c (ζL (ζm z))]; exact k1 c ob z) a b c
 unfold Builtin.Frozenset.updateFrom;refine AA (vZ (s:={ s with heap:=h1 }) (h:=s.heap) hR1 ?_);simp only[↓reduceIte];unfold Builtin.Frozenset.addrOf Builtin.Frozenset.merge;refine AA (AB ?_);obtain⟨ob2,es2,ep2,t2,ho2,hx2,hd2,hE2,hp2,hz2,hf2,ht2⟩:=id hR1;refine AA (wpAny_setEpoch_of (s:={ s with heap:=h1 }) ho2 hd2 hf2 ?_);by_cases e1:l1=[]
 ·subst e1;refine zaN (s:={ s with heap:=h1 }) (ff rfl) hR1 neq ⋯ λh' u f _=>?_;exact AB (AB ⟨_,rfl,by simp,fin h' l2 u f (λx=>by simp) (λ_ x=>x) (by simp)⟩)
 ·refine zeu (s:={ s with heap:=h1 }) hb f1 hR1 neq e1 hl (λs' Q' eo qq=>?_) λh' l3 u f a1 a2 a3=>?_
  ·unfold Builtin.Frozenset.unchanged;refine AA (wpAny_setEpoch_of (eo.trans ho2) hd2 hf2 ?_);rw[if_neg (by simp)];exact AB qq
  ·exact AB (AB ⟨_,rfl,by simp,fin h' l3 u f a1 (λx _=>a2 x) a3⟩)
end
section
variable {X:Cx}{K:ζc}{b:Bool}
def rOrB(b:Bool):R2:=λx y H Q=>∃p q l1 l2,x=.ref p∧y=.ref q∧p≠q∧H p=some (SetB b p l1)∧H q=some (SetB b q l2)∧l1.length + l2.length < 2000∧
 ∀c l3,H c=none→(∀k,k∈l3↔k∈l1∨k∈l2)→(l1.Nodup→l2.Nodup→l3.Nodup)→l3.length≤l1.length + l2.length→Q (.ref c) (upd H c (SetB b c l3))
theorem zek(hc:X.calm=true)(hb:X.w.params.followText "set-order" = b):OpR X (binaryOp .BitOr) (rOrB b):=by
 intro pins s σ H x y v u Q I rx ry h;obtain⟨p,q,l1,l2,rfl,rfl,hne,hp,hq,hz,k⟩:=h;cases rx;cases ry;exact orI hb (I.hok p _ hp).1 (I.hok q _ hq).1 hne hz λh' l3 f kk a1 a2 a3=>⟨.ref s.heap.objs.size,_,I.laid (t':=s.toks) kk (ζj _) (Y9 f),rfl,k _ l3 (I.hok.fresh (ζj _)) a1 a2 a3⟩
theorem YQ(ns:AE):(dd ns).Nodup:=by
 suffices z:∀n,(dd (ns.take n)).Nodup by simpa using z ns.length
 intro n;induction n with
 | zero=>exact ξZ
 | succ n ih =>
  by_cases hn:n < ns.length
  ·have e:ns.take (n + 1)=ns.take n ++ [ns[n]]:=by rw[List.take_succ,ζd hn]; rfl
   rw[e,XY];unfold step_dedup;split
   ·exact ih
   ·rename_i h;rw[ζ4];refine⟨ih,by simp,λx hx y hy=>?_⟩
    rw[ζk.mp hy];rintro rfl;exact h (List.any_eq_true.mpr ⟨_,hx,by simp⟩)
  ·have e1:ns.take (n + 1)=ns.take n:=by rw[ζB ⋯,ζB ⋯]
   rw[e1];exact ih
theorem QZ(h:a.Perm c):srt a=srt c:=Zu ((wy a).trans h) (uh a)
theorem zfF(h:∀k,k∈l↔k∈dd ns∨k∈dd ms)(nd:l.Nodup):srt l=srt (dd (ns ++ ms)):=by
 refine QZ ?_;rw[ξc nd (YQ _)];intro a;rw[h a,uo,uo,uo,ζw]
end
end L2
namespace PD
open PySem L2
section
variable {K:ζc}{S S':Sx}{κ κ' b:Bool}{Γ Γ' Γ'':Ctx}{P:Post}
theorem XT(h1:EvL K S false ta Γ (ns.map .int))(h2:EvL K S false tc Γ (ms.map .int))(hz:ns.length + ms.length < 64):
  EvO K S κ (tCB (WE b) (zX (tOp (rOrB b) (tCB (WF K b) (zX ta tNil)) (tCB (WF K b) (zX tc tNil))) tNil)) Γ ((srt (dd (ns ++ ms))).map .int):=λH0 F0 H F σ e Q q =>
 h1 H0 F0 H F σ e _ λa vs H1 F1 g1 p1 k1=>by
  cases yb (zM k1);refine⟨a,ns,rfl,p1,⋯,λp hp=>?_⟩
  have g2:=g1.trans (.newO g1.le hp (SetB b p (dd ns)));refine h2 H0 F0 _ F1 σ (e.mono g2) _ λc ws H3 F3 g3 p3 k3=>?_;cases yb (zM k3);refine⟨c,ms,rfl,p3,⋯,λr hr=>?_⟩
  have g4:=(g2.trans g3).trans (.newO g3.le hr (SetB b r (dd ms)));have hpH:H3 p=some (SetB b p (dd ns)):=g3.h _ _ zp;have hne:p≠r:=λz=>by rw[z,hr]at hpH; cases hpH
  have d1:=XZ ns;have d2:=XZ ms;refine⟨p,r,dd ns,dd ms,rfl,rfl,hne,by rw[zC hne]; exact hpH,zp,⋯,λt l3 ht m3 n3 z3=>?_⟩
  have g5:=g4.trans (.newO g4.le ht (SetB b t l3));refine⟨t,l3,rfl,zp,⋯,λf hf=>?_⟩
  rw[zfF m3 (n3 (YQ ns) (YQ ms))];exact q f _ _ F3 (g5.trans (.newO g5.le hf _)) (g5.h.free hf) zp (g5.le.free hf) (wT _)
end
end PD
namespace El
open Wd Sh Sx2
abbrev Asg:=Nat→Int
def upd(a:Asg)(k:Nat)(v:Int):Asg:=λj=>if j=k then v else a j
theorem zp:upd a k v k=v:=if_pos rfl
theorem zC(h:j≠k):upd a k v j=a j:=if_neg h
theorem QG(h:k≠j):upd (upd a k v) j u=upd (upd a j u) k v:=by
 funext i;unfold upd;by_cases h1:i=j
 ·have h2:i≠k:=λz=>h (z ▸ h1);rw[if_pos h1,if_neg h2,if_pos h1]
 ·rw[if_neg h1,if_neg h1]
def vr(ss:AE)(k:Nat):AE:=rng (ss.getD k 0).toNat
theorem zaQ(h1:Low x y)(h2:Low u v)(h:x * v=u * y):(x,y)=(u,v):=by
 have p1:=h1.pos;have p2:=h2.pos;have c1:Nat.Coprime y.natAbs x.natAbs:=by have:=h1.co; rw[Int.gcd_comm]at this; exact this
 have c2:Nat.Coprime v.natAbs u.natAbs:=by have:=h2.co; rw[Int.gcd_comm]at this; exact this
 have hn:x.natAbs * v.natAbs=u.natAbs * y.natAbs:=by rw[←ξg,h,ξg]
 have d1:y.natAbs ∣ v.natAbs:=c1.dvd_of_dvd_mul_left (hn ▸ Nat.dvd_mul_left ..);have d2:v.natAbs ∣ y.natAbs:=c2.dvd_of_dvd_mul_left (hn ▸ Nat.dvd_mul_left ..);have e:=Nat.dvd_antisymm d1 d2;have e':y=v:=by omega
 subst e';have:x=u:=Int.eq_of_mul_eq_mul_right ⋯ h;rw[this]
theorem UQ(h:Low x y)(hb:0 < b)(e:x * b=a * y):(x,y)=mk a b:=by
 have hc:=zaM (a:=a) hb;have hl:=zet (a:=a) hb;refine zaQ h hl ?_;have:x * (mk a b).2 * b=(mk a b).1 * y * b:=by
  calc x * (mk a b).2 * b=x * b * (mk a b).2:=by rw[ξz,ξb (mk a b).2,←ξz]
   _=a * y * (mk a b).2:=by rw[e]
   _=a * (mk a b).2 * y:=by rw[ξz,ξb y,←ξz]
   _=(mk a b).1 * b * y:=by rw[hc]
   _=(mk a b).1 * y * b:=by rw[ξz,ξb b,←ξz]
 exact Int.eq_of_mul_eq_mul_right ⋯ this
theorem zab(h:ss.length=ws.length)(s v:Int):rkF (ss ++ [s]) (ws ++ [v])=rkF ss ws * s + v:=by
 unfold rkF;rw[List.zip_append h,ξG];rfl
theorem Ui:∀(n:Nat) (ss w:AE),ss.length=n→w.length=n→(∀(i:Nat) s v,ss[i]?=some s→w[i]?=some v→0≤v∧v < s)→wld ss (rkF ss w)=w
 | 0,ss,w,h1,h2,_=>by
  rw[ζU h1,ζU h2];rfl
 | n + 1,ss,w,h1,h2,hr=>by
  rcases List.eq_nil_or_concat ss with e | ⟨ss',s,e⟩
  ·rw[e]at h1; cases h1
  rcases List.eq_nil_or_concat w with e' | ⟨w',v,e'⟩
  ·rw[e']at h2; cases h2
  subst e e';rw[List.concat_eq_append]at *;rw[List.concat_eq_append]at *;have l1:ss'.length=n:=by rw[ζg]at h1; exact Nat.succ.inj h1
  have l2:w'.length=n:=by rw[ζg]at h2; exact Nat.succ.inj h2
  have hv:=hr n s v (by rw[ξl ⋯,l1,ξ6]; rfl) (by rw[ξl ⋯,l2,ξ6]; rfl);have ih:=Ui n ss' w' l1 l2 λi s v z1 z2=>hr i s v (by
   have:=(ζh.mp z1).1;rw[ξy this]; exact z1) (by
   have:=(ζh.mp z2).1;rw[ξy this]; exact z2)
  rw[zab (l1.trans l2.symm),Wb];have e1:(rkF ss' w' * s + v) / s=rkF ss' w':=by
   rw[Int.add_comm,Int.add_mul_ediv_right _ _ ⋯,Int.ediv_eq_zero_of_lt hv.1 hv.2,Int.zero_add]
  have e2:(rkF ss' w' * s + v) % s=v:=by
   rw[Int.add_comm,Int.add_mul_emod_self_right,Int.emod_eq_of_lt hv.1 hv.2]
  rw[e1,e2,ih]
def asg:AF→AE→Asg
 | k :: r,v :: w=>upd (asg r w) k v
 | _,_=>λ_=>0
theorem xz:∀(ks:AF) (w:AE) (j:Nat),j∈ks→asg ks w j=w.getD (ks.idxOf j) 0
 | [],_,_,h=>by cases h
 | k :: r,[],j,_=>by simp[asg]
 | k :: r,v :: w,j,h=>by
  show upd (asg r w) k v j=_;by_cases e:j=k
  ·subst e;rw[zp,List.idxOf_cons_self];rfl
  ·rw[zC e,List.idxOf_cons,show(k == j)=false from beq_eq_false_iff_ne.mpr λz=>e z.symm,cond_false,xz r w j ((ζC.mp h).resolve_left e)];rfl
theorem zdg(a:Asg)(h:j∈ks):asg ks (ks.map a) j=a j:=by
 have hi:ks.idxOf j < ks.length:=ζV.mpr h;rw[xz _ _ _ h,ζb,ζo,ζd hi,ξL hi];rfl
def unF(n:Nat)(ks1 ks2:AF):AF:=(List.range n).filter λj=>decide (j∈ks1 ++ ks2)
theorem xU:j∈unF n ks1 ks2↔j < n∧(j∈ks1∨j∈ks2):=by
 unfold unF;rw[ζl,ζG];simp
theorem QH(n:Nat)(ks1 ks2:AF):(unF n ks1 ks2).Nodup:=List.nodup_range.sublist ζK
def oth(ks:AF)(k:Nat):AF:=ks.filter λx=>x≠k
theorem xG:j∈oth ks k↔j∈ks∧j≠k:=by
 unfold oth;rw[ζl];simp
end El
namespace PD
open PySem L2
section
variable {K:ζc}{S S':Sx}{κ κ':Bool}{Γ Γ' Γ'':Ctx}{P:Post}{E:XK}{C:Addr}
theorem zcZ(h:GetC Γ i (.ow κ ds))(es:SetC Γ i (some (.ow κ [])) Γ')(k:P.nx Γ'):ExS K S (x6 (tBM0 K "list" VC (tVar i))) Γ P:=λH0 F0 H F σ B e b _ D I=>by
 have h:=h.eq;obtain⟨v0,q1,a,vs,rfl,w,q5⟩:=e.has i _ h;refine⟨_,q1,.inl ⟨rfl,_,SqL.of w.h⟩,a,vs,rfl,rfl,w.h,?_⟩
 have:=e.put (vs:=[]) (y:=.ow κ []) h q1 (show Owns H (.ref a) (.ow κ ds) a from rfl) ⟨a,_,rfl,⟨zp,w.f,w.n,w.s⟩,.nil⟩ λ_ z=>z;rw[es.eq]at this;exact I.nx _ _ _ F k b this
end
section
variable {K:ζc}{S S':Sx}{κ κ':Bool}{Γ Γ' Γ'':Ctx}{P:Post}
theorem cutT(g:α→AD)(xs:List α)(k:Nat):cutD (xs.map g) none (some (k:Int))=(xs.take k).map g:=by
 unfold cutD;rw[HT.Zf];show((xs.map g).drop 0).take (min k (xs.map g).length - 0)=_;rw[List.drop_zero,Nat.sub_zero,ζa,←List.map_take];congr 1;rcases Nat.le_total k xs.length with h | h
 ·rw[ξ8 h]
 ·rw[Nat.min_eq_right h,ζB (ζj _),ζB h]
theorem cutH(g:α→AD)(xs:List α)(k:Nat):cutD (xs.map g) (some (k:Int)) none=(xs.drop k).map g:=by
 unfold cutD;rw[HT.Zf];show((xs.map g).drop (min k (xs.map g).length)).take ((xs.map g).length - min k (xs.map g).length)=_;rw[ζB (by rw[ζ8]; exact ζj _),ζa,←List.map_drop];congr 1;rcases Nat.le_total k xs.length with h | h
 ·rw[ξ8 h]
 ·rw[Nat.min_eq_right h,List.drop_of_length_le (ζj _),List.drop_of_length_le h]
theorem zbq:∀(a b:AE),PyData.eqv (.list (a.map .int)) (.list (b.map .int))=decide (a=b)
 | [],[]=>rfl
 | [],_ :: _=>rfl
 | _ :: _,[]=>rfl
 | x :: a,y :: b=>by
  have ih:=zbq a b;have e:PyData.eqv (.list ((x :: a).map .int)) (.list ((y :: b).map .int))=((x == y) && PyData.eqv (.list (a.map .int)) (.list (b.map .int))):=by
   simp[PyData.eqv,PyData.eqvAll]
  rw[e,ih];by_cases h:x=y
  ·subst h; simp
  ·have:(x == y)=false:=by simpa using h
   rw[this];simp[h]
theorem zc2(ha:EvE K S false ta Γ (.int i))(hb:EvE K S false tb Γ (.int j)):EvE K S κ (tCB (λxs H Q=>∃i j,xs=[.int i,.int j]∧Q (.int (if j < i then j else i)) H) (zX ta (zX tb tNil))) Γ (.int (if j < i then j else i)):=λH0 F0 H F σ e Q q =>
 ha H0 F0 H F σ e _ λv H1 F1 g1 p1=>hb H0 F0 H1 F1 σ (e.mono g1) _ λw H2 F2 g2 p2=>by
  cases yw p1;cases yw p2;exact⟨i,j,rfl,q _ H2 F2 (g1.trans g2) (.int _)⟩
theorem zfA(h:GetC Γ i (.ow κ ds))(es:SetC Γ i (some (.ow κ [])) Γ')(k:ExT K S S' u Γ' P):ExT K S S' (tSeq (x6 (tBM0 K "list" VC (tVar i))) u) Γ P:=yr (·=Γ') (zcZ h es rfl) λ_ z=>z ▸ k
end
end PD
namespace L2
open PySem PySem.Spec PyProof.Rows
section
variable {prog:Program}{w:World}{A:Around}{E:AN}{s:Shared}{b bt:Bool}{a r o p q:Addr}{l l1 l2:AE}
theorem zfx(hS:SetI b a l s.heap)(h:∀x:Option Nat,(x.isSome=true↔k∈l)→Q x s):wpAny (model prog w) A (setFind a (.int k tk) (hashInt k)) Q E s:=by
 obtain⟨ob,es,ep,t,ho,hex,hd,hE,hp,hz,hf,ht⟩:=hS;have hel:ElemsOf (intKind prog w) es.toList:=IsE.elems hE;have hm:k∈l↔∃e∈es.toList,(intKind prog w).is k e.2=true:=by
  rw[←hp.mem_iff,ζn];exact⟨λ⟨e,x,y⟩=>⟨e,x,((hE e x).is k).mpr y⟩,λ⟨e,x,y⟩=>⟨e,x,((hE e x).is k).mp y⟩⟩
 unfold setFind setFindIn;refine AA (wpAny_setState_of ho hd hf ?_);dsimp only;rw[byScan_of (knd:=intKind prog w) (x:=.int k tk) rfl hz hel];simp only[↓reduceIte];refine AA (wpAny_rule ?_);refine AA (wpAny_setScan_of (knd:=intKind prog w) (k:=k) (intKind_is _ _ k tk) ho hd hf hel ?_);cases hr:List.findIdx? (λe=>(intKind prog w).is k e.2) es.toList with
 | none =>
  dsimp only;refine AB (h none ⟨λz=>(by cases z),λz=>?_⟩);obtain⟨e,he,hpe⟩:=hm.mp z;have q:=List.findIdx?_eq_none_iff.mp hr e he;rw[hpe]at q; cases q
 | some j =>
  dsimp only;obtain⟨hj,hpj,_⟩:=List.findIdx?_eq_some_iff_getElem.mp hr;exact AB (h (some (0 + j)) ⟨λ_=>hm.mpr ⟨es.toList[j],ξa hj,hpj⟩,λ_=>rfl⟩)
theorem zfb(hb:w.params.followText "set-order" = bt)(hR:SetI (!bt) r l1 s.heap)(hO:SetI (!bt) o l2 s.heap)(hA:∀x∈also,∃c l,SetI c x l s.heap)
  (k:∀(ws:Array (Int×Value)) h',(∀e∈ws.toList,IsE e)→(ws.toList.map kOf).Perm l2→Heap.SameBut r s.heap h'→SetI (!bt) r l1 h'→Q ws { s with heap:=h' }):wpAny (model prog w) A (setWalkUnseen o also (some r)) Q E s:=by
 obtain⟨ob,es,ep,t,ho,hex,hd,hE,hp,hz,hf,ht⟩:=id hO;have ks:∀ws:Array (Int×Value),ws.toList.Perm es.toList→Q ws s:=λws pm=>k ws s.heap (λe x=>hE e (pm.mem_iff.mp x)) ((pm.map kOf).trans hp) (Heap.SameBut.refl _ _) hR;unfold setWalkUnseen;refine AA (wpAny_setState_of ho hd hf ?_);dsimp only;unfold setsByText;refine AA (AA (wpAny_askSetting (AB ?_)));rw[show(model prog w).w.params.followText "set-order" = bt from hb];cases bt with
 | true =>
  simp only[Bool.true_or,↓reduceIte];unfold setWalk;refine AA (wpAny_setState_of ho hd hf ?_);dsimp only;unfold setsByText;refine AA (AA (wpAny_askSetting (AB ?_)));rw[show(model prog w).w.params.followText "set-order" = true from hb];simp only[↓reduceIte];exact AA (wpAny_askSetting (AB (ks _ (xX _ _))))
 | false =>
  have led:t.led=true:=ht.led;by_cases c:(false || (t.led && t.plain) || decide (es.size≤1))=true
  ·rw[if_pos c];unfold setWalk;refine AA (wpAny_setState_of ho hd hf ?_);dsimp only;unfold setsByText;refine AA (AA (wpAny_askSetting (AB ?_)));rw[show(model prog w).w.params.followText "set-order" = false from hb];simp only[Bool.false_eq_true,↓reduceIte];split
   ·rename_i z;have z:(!t.plain && decide (es.size > 1))=true:=z;rw[led]at c;simp at c z;have y:¬1 < es.size:=by
     rcases c with c | c
     ·rw[c]at z;exact absurd z.1 #[2]
     ·omega
    exact absurd z.2 y
   ·refine AA (wpAny_of_eq (a:=()) ?_ ?_)
    ·show(if(!t.led && decide (es.size > 1))=true then _ else _)=_;rw[led];rfl
    ·exact AB (ks es (.refl _))
  ·rw[if_neg c];refine AA (zam (λx hx=>?_) ?_)
   ·rcases ζC.mp hx with rfl | hx
    ·exact⟨_,_,hO⟩
    ·exact hA x hx
   rw[if_neg #[2]];refine AA (wpAny_rule ?_);obtain⟨ob1,es1,ep1,t1,ho1,hex1,hd1,hE1,hp1,hz1,hf1,ht1⟩:=id hR;refine AA (wpAny_setState_of ho1 hd1 hf1 ?_);dsimp only;split
   ·refine AA (wpAny_storeSet_of ho1 hd1 ?_ (fits_of_scanBound hz1));refine AB (k es _ hE hp (Heap.SameBut.update ..) ⟨_,es1,_,_,vn ho1 hd1 _ _,hex1,rfl,hE1,hp1,hz1,hf1,⟨?_,ht1.rise,ht1.dum⟩⟩);show(t1.led && t.led)=_;rw[ht1.led,led];rfl
   ·exact AB (ks es (.refl _))
theorem zdv(hS:SetI b a l s.heap)(k:Q l.length s):wpAny (model prog w) A (Builtin.Frozenset.sizeOf a) Q E s:=by
 obtain⟨ob,es,ep,t,ho,hex,hd,hE,hp,hz,hf,ht⟩:=hS;have hn:es.size=l.length:=by have:=hp.length_eq; simpa using this
 unfold Builtin.Frozenset.sizeOf;refine AA (wpAny_setEntries_of ho hd hf (AB ?_));rw[hn];exact k
theorem zc9(nd:l.Nodup):(step_dedup l k).Nodup∧(∀x,x∈step_dedup l k↔x∈l∨x=k)∧(step_dedup l k).length≤l.length + 1:=by
 unfold step_dedup;split
 ·rename_i z;obtain⟨y,hy,ey⟩:=ξD.mp z;have ey:=eq_of_beq ey;subst ey;exact⟨nd,λx=>⟨.inl,λz=>z.elim id λz=>z ▸ hy⟩,⋯⟩
 ·rename_i z;refine⟨?_,λx=>by rw[ζw,ζk],by rw[ζg]; exact ζj _⟩
  rw[ζ4];refine⟨nd,by simp,λx hx y hy=>?_⟩
  rw[ζk.mp hy];rintro rfl;exact z (List.any_eq_true.mpr ⟨_,hx,by simp⟩)
theorem andI(hb:w.params.followText "set-order" = bt)(hP:SetI (!bt) p l1 s.heap)(hR:SetI (!bt) q l2 s.heap)(hne:p≠q)(hl:l1.length + l2.length < 2000)
  (k:∀h' l3,SetI (!bt) s.heap.objs.size l3 h'→(∀c ob,s.heap.get? c=some ob→h'.get? c=some ob)→(∀x,x∈l3↔x∈l1∧x∈l2)→l3.Nodup→l3.length≤l1.length + l2.length→Q (.ref s.heap.objs.size) { s with heap:=h' }) :
  wpAny (model prog w) A (binaryOp .BitAnd (.ref p) (.ref q)) Q E s:=by
 obtain⟨op,_,_,_,hop,hxp,_⟩:=id hP;obtain⟨oq,_,_,_,hoq,hxq,_⟩:=id hR;have hp:p < s.heap.objs.size:=ζm hop;have hq:q < s.heap.objs.size:=ζm hoq;have hT:s.TypeIs (.ref p) "set" := ⟨op,hop,hxp.1⟩
 refine wpAny_binaryOp_same hT ⟨oq,hoq,hxq.1⟩ F.fills_set_and F.slot_set_and (wpAny_call_entry F.slot_set_and hT Y8 ?_ (F.args_set_and_2 _ _));unfold Builtin.«frozenset.__and__»
 show wpAny _ _ (do
  if !(←Builtin.Frozenset.isAnySet (.ref p) <&&> Builtin.Frozenset.isAnySet (.ref q))then rule s!"frozenset.{"__and__"}.declined"; return←ret .notImplemented
  ret (←Builtin.Frozenset.intersection s!"frozenset.{"__and__"}" p (.ref q))) _ _ _
 refine AA (AA (vZ (h:=s.heap) hP ?_));show wpAny _ _ (Builtin.Frozenset.isAnySet (Value.ref q)) _ _ _;refine vZ (h:=s.heap) hR ?_;simp only[Bool.not_true,Bool.false_eq_true,↓reduceIte];refine AA ?_;unfold Builtin.Frozenset.intersection;rw[if_neg (by simpa using Ne.symm hne)];unfold Builtin.Frozenset.baseOf;refine AA (AA (wpAny_isInstance (b:=true) ⟨op,hop,hxp.1⟩ sub_set_self (AB ?_)));simp only[↓reduceIte];refine AA (UP hb λo1 f1=>?_);unfold Builtin.Frozenset.addrOf;refine AA (AB ?_);have up:∀c ob,s.heap.get? c=some ob→(s.heap.push o1).get? c=some ob:=λc ob z=>ζe _ z;have hP1:SetI (!bt) p l1 (s.heap.push o1):=hP.at λ_ z=>up _ _ z;have hR1:SetI (!bt) q l2 (s.heap.push o1):=hR.at λ_ z=>up _ _ z;refine AA (wpAny_holding ?_);refine AA (vZ (s:={ s with heap:=s.heap.push o1 }) (h:=s.heap) hR1 ?_);rw[if_pos rfl];refine AA (AB ?_);refine AA (zdv (s:={ s with heap:=s.heap.push o1 }) hR1 ?_);refine AA (zdv (s:={ s with heap:=s.heap.push o1 }) hP1 ?_);obtain⟨⟨ak,wk⟩,ep,la,lw,hA,hW,na,nw,hiff,hlw⟩:∃pr:Addr×Addr,(if l2.length > l1.length then(q,p)else(p,q))=pr∧∃la lw,SetI (!bt) pr.1 la (s.heap.push o1)∧SetI (!bt) pr.2 lw (s.heap.push o1)∧s.heap.objs.size≠pr.1∧s.heap.objs.size≠pr.2∧(∀x,x∈la∧x∈lw↔x∈l1∧x∈l2)∧lw.length≤l1.length + l2.length:=by
  by_cases c:l2.length > l1.length
  ·exact⟨_,if_pos c,l2,l1,hR1,hP1,ξv hq,ξv hp,λx=>And.comm,⋯⟩
  ·exact⟨_,if_neg c,l1,l2,hP1,hR1,ξv hp,ξv hq,λx=>Iff.rfl,⋯⟩
 rw[ep];dsimp only at hA hW na nw ⊢;obtain⟨ob2,es2,ep2,t2,ho2,hx2,hd2,hE2,hp2,hz2,hf2,ht2⟩:=id hW;refine AA (wpAny_setEpoch_of (s:={ s with heap:=s.heap.push o1 }) ho2 hd2 hf2 ?_);refine AA (zfb (s:={ s with heap:=s.heap.push o1 }) hb f1.set hW (λx hx=>?_) λws h2 wE wp u2 f2=>?_)
 ·rcases ζC.mp hx with rfl | hx
  ·exact⟨_,_,hA⟩
  ·rw[ζk.mp hx]; exact⟨_,_,f1.set⟩
 refine AA (wpAny_forIn_array' _ (λrest _ s'=>∃l h',s'={ s with heap:=h' }∧Heap.SameBut s.heap.objs.size (s.heap.push o1) h'∧SetI (!bt) s.heap.objs.size l h'∧(∀e∈rest,IsE e)∧(∀x,(x∈l∨(x∈la∧x∈rest.map kOf))↔x∈la∧x∈lw)∧l.Nodup∧l.length + rest.length≤lw.length) _ ?_ ?_ _ _ ⟨[],h2,rfl,u2,f2,wE,λx=>by rw[wp.mem_iff]; simp,List.nodup_nil,by have:=wp.length_eq; rw[List.length_map]at this; simpa using Nat.le_of_eq this⟩)
 ·rintro e rest _ s' ⟨l,h',rfl,u,f,hE',hm,hnd,hlen⟩;obtain⟨kk,tk,rfl⟩:=hE' e (.head _);rw[ζ9]at hlen;have hA':SetI (!bt) ak la h':=hA.at λob z=>by rw[u.2 ak (Ne.symm na)]; exact z
  have un:∀(h3:Heap) (Q':Unit→Shared→Prop),Heap.SameBut s.heap.objs.size h' h3→Q' () { s with heap:=h3 }→wpAny (model prog w) A.in1 (Builtin.Frozenset.unchanged s!"frozenset.{"__and__"}" wk ep2) Q' E { s with heap:=h3 }:=λh3 Q' u3 qq=>by
   unfold Builtin.Frozenset.unchanged;refine AA (wpAny_setEpoch_of (s:={ s with heap:=h3 }) ?_ hd2 hf2 ?_)
   ·show h3.get? wk=some ob2;rw[u3.2 wk (Ne.symm nw),u.2 wk (Ne.symm nw)];exact ho2
   ·rw[if_neg (by simp)];exact AB qq
  refine AA (wpAny_holding (AA (zfx (s:={ s with heap:=h' }) hA' λx hx=>?_)));by_cases c:x.isSome=true
  ·rw[if_pos c];refine AA (addI (s:={ s with heap:=h' }) f (by unfold scanBound; omega) λrr h3 u3 f3=>AB ?_);refine AA (un h3 _ u3 (AB ?_));obtain⟨d1,d2,d3⟩:=zc9 (k:=kk) hnd;refine⟨_,h3,rfl,u.trans u3,f3,λy hy=>hE' y (.tail _ hy),λy=>?_,d1,⋯⟩
   rw[←hm y,d2 y,ζH];show _↔_∨(_∧y∈kk :: _);rw[ζC];have ka:=hx.mp c;constructor
   ·rintro((z | rfl) | z)
    ·exact .inl z
    ·exact .inr ⟨ka,.inl rfl⟩
    ·exact .inr ⟨z.1,.inr z.2⟩
   ·rintro(z | ⟨z1,z | z⟩)
    ·exact .inl (.inl z)
    ·exact .inl (.inr z)
    ·exact .inr ⟨z1,z⟩
  ·rw[if_neg c];refine AB (AA (un h' _ (Heap.SameBut.refl _ _) (AB ?_)));refine⟨l,h',rfl,u,f,λy hy=>hE' y (.tail _ hy),λy=>?_,hnd,⋯⟩
   rw[←hm y,ζH];show _↔_∨(_∧y∈kk :: _);rw[ζC];have ka:kk∉la:=λz=>c (hx.mpr z);constructor
   ·rintro(z | z)
    ·exact .inl z
    ·exact .inr ⟨z.1,.inr z.2⟩
   ·rintro(z | ⟨z1,rfl | z⟩)
    ·exact .inl z
    ·exact absurd z1 ka
    ·exact .inr ⟨z1,z⟩
 ·rintro _ s' ⟨l,h',rfl,u,f,_,hm,hnd,hlen⟩;refine AB (AB ?_);exact AB ⟨_,rfl,by simp,k h' l f (λc ob z=>by rw[u.2 c (Nat.ne_of_lt (Heap.lt_size z))]; exact up c ob z) (λx=>by rw[←hiff x,←hm x]; simp) hnd (by simp at hlen; omega)⟩
end
section
variable {X:Cx}{K:ζc}{b:Bool}
def zdy(b:Bool):R2:=λx y H Q=>∃p q l1 l2,x=.ref p∧y=.ref q∧p≠q∧H p=some (SetB b p l1)∧H q=some (SetB b q l2)∧l1.length + l2.length < 2000∧
 ∀c l3,H c=none→(∀k,k∈l3↔k∈l1∧k∈l2)→l3.Nodup→l3.length≤l1.length + l2.length→Q (.ref c) (upd H c (SetB b c l3))
theorem zcy(hc:X.calm=true)(hb:X.w.params.followText "set-order" = b):OpR X (binaryOp .BitAnd) (zdy b):=by
 intro pins s σ H x y v u Q I rx ry h;obtain⟨p,q,l1,l2,rfl,rfl,hne,hp,hq,hz,k⟩:=h;cases rx;cases ry;exact andI hb (I.hok p _ hp).1 (I.hok q _ hq).1 hne hz λh' l3 f kk a1 a2 a3=>⟨.ref s.heap.objs.size,_,I.laid (t':=s.toks) kk (ζj _) (Y9 f),rfl,k _ l3 (I.hok.fresh (ζj _)) a1 a2 a3⟩
end
end L2
namespace PD
open PySem L2
section
variable {K:ζc}{S S':Sx}{κ κ' b:Bool}{Γ Γ' Γ'':Ctx}{P:Post}
theorem Ql{ta tc:TE}{ns ms:AE}(h1:EvL K S false ta Γ (ns.map .int))(h2:EvL K S false tc Γ (ms.map .int))(hz:ns.length + ms.length < 2000):
  EvE K S κ (tCB (zdx b) (zX (tOp (zdy b) (tCB (WF K b) (zX ta tNil)) (tCB (WF K b) (zX tc tNil))) tNil)) Γ (.int ((dd ns).filter λk=>decide (k∈ms)).length):=λH0 F0 H F σ e Q q =>
 h1 H0 F0 H F σ e _ λa vs H1 F1 g1 p1 k1=>by
  cases yb (zM k1);refine⟨a,ns,rfl,p1,⋯,λp hp=>?_⟩
  have g2:=g1.trans (.newO g1.le hp (SetB b p (dd ns)));refine h2 H0 F0 _ F1 σ (e.mono g2) _ λc ws H3 F3 g3 p3 k3=>?_;cases yb (zM k3);refine⟨c,ms,rfl,p3,⋯,λr hr=>?_⟩
  have g4:=(g2.trans g3).trans (.newO g3.le hr (SetB b r (dd ms)));have hpH:H3 p=some (SetB b p (dd ns)):=g3.h _ _ zp;have hne:p≠r:=λz=>by rw[z,hr]at hpH; cases hpH
  have d1:=XZ ns;have d2:=XZ ms;refine⟨p,r,dd ns,dd ms,rfl,rfl,hne,by rw[zC hne]; exact hpH,zp,⋯,λt l3 ht m3 n3 z3=>?_⟩
  have g5:=g4.trans (.newO g4.le ht (SetB b t l3));have el:l3.length=((dd ns).filter λk=>decide (k∈ms)).length:=by
   refine List.Perm.length_eq ?_;rw[ξc n3 ((YQ ns).sublist ζK)];intro k;rw[m3 k,ζl,uo ms k,decide_eq_true_eq]
  refine⟨t,l3,rfl,zp,?_⟩
  rw[el];exact q _ _ F3 g5 (.int _)
theorem zaO(ns ms:AE):decide (((((dd ns).filter λk=>decide (k∈ms)).length:Nat):Int) > 0)=ns.any λk=>decide (k∈ms):=by
 rw[Bool.eq_iff_iff,decide_eq_true_eq,ξD];constructor
 ·intro h;obtain⟨k,hk⟩:=List.exists_mem_of_length_pos (l:=(dd ns).filter λk=>decide (k∈ms)) ⋯;obtain⟨h1,h2⟩:=ζl.mp hk;exact⟨k,(uo ns k).mp h1,h2⟩
 ·rintro⟨k,h1,h2⟩;have hk:k∈(dd ns).filter λk=>decide (k∈ms):=ζl.mpr ⟨(uo ns k).mpr h1,h2⟩;have:=List.length_pos_of_mem hk;omega
end
end PD
namespace L2
open PySem PySem.Spec PyProof.Rows
section
variable {X:Cx}{K:ζc}
theorem Vals.ofGet:∀(xs:List V) (us:AK),xs.length=us.length→(∀(i:Nat) x u,xs[i]?=some x→us[i]?=some u→RelV x u)→Vals xs us
 | [],[],_,_=>.nil
 | [],_ :: _,h,_=>by cases h
 | _ :: _,[],h,_=>by cases h
 | x :: xs,u :: us,h,k=>.cons (k 0 x u rfl rfl) (Vals.ofGet xs us (Nat.succ.inj h) λi y v h1 h2=>k (i + 1) y v h1 h2)
def zdw:List V→Hp→VK→Prop:=λxs H Q=>∃n:Int,xs=[.int n]∧∀l,H l=none→Q (.ref l) (upd H l (.rng 0 n))
theorem Qt:y8 X (.type "range") zdw:=by
 intro pins s σ H xs us Q I r h;obtain⟨n,rfl,q⟩:=h;obtain⟨u,rfl,rx⟩:=vk r;obtain⟨t,rfl⟩:=rx;exact call_range_1 ⟨.ref s.heap.objs.size,_,I.laid (t':=s.toks + 1 + 1) (λb u e=>ζe _ e) (ζj _) (show yA X.prog X.w _ _ _ (.rng 0 n)from⟨_,_,_,ζt _ rfl⟩),rfl,q _ (I.hok.fresh (ζj _))⟩
def WG:List V→Hp→VK→Prop:=λxs H Q=>∃(p:Addr) (n:Nat),xs=[.ref p]∧H p=some (.rng 0 n)∧n≤1000000∧∀l,H l=none→Q (.ref l) (upd H l (.lst ((List.range n).map λi:Nat=>V.int (i:Int))))
theorem X4(hc:X.calm=true):y8 X (.type "list") WG:=by
 intro pins s σ H xs us Q I r h;obtain⟨p,n,rfl,hp,hn,q⟩:=h;obtain⟨u,rfl,rx⟩:=vk r;cases rx;obtain⟨t,u,v,ho⟩:∃t u v,s.heap.get? p=some { cls:=.type "range", data:=.fields #[.int 0 t,.int n u,.int 1 v] }:=I.hok p _ hp;have rs:Builtin.Range.rangeSize 0 n 1=(n:Int):=by
  unfold Builtin.Range.rangeSize;simp;omega
 refine call_list_range (n:=n) (I.ok.hd hc) ho ?_ ?_ ⋯ λh' tk acc' c' hk hS hacc=>?_
 ·exact small_one ⋯ ⋯ ⋯ ⋯
 ·exact rs
 ·have hl:acc'.toList.length=n:=by rw[ζM]; exact hacc.1
  refine⟨.ref s.heap.objs.size,_,I.laid (t':=tk) hk (ζj _) (show yA X.prog X.w _ h' _ (.lst ((List.range n).map λi:Nat=>V.int (i:Int)))from⟨by rw[ζa,ζv,sizeLine_eq]; omega,acc'.toList,c',Vals.ofGet _ _ (by rw[ζa,ζv,hl]) λi x u h1 h2=>?_,hS⟩),rfl,q _ (I.hok.fresh (ζj _))⟩
  have hi:i < n:=by
   have:=(ζh.mp h2).1;omega
  rw[ζo,ξ5 hi]at h1;cases h1;obtain⟨t',rfl⟩:=hacc.2 i u (by rw[←ξj]; exact h2);exact⟨t',by rw[Int.mul_one,Int.zero_add]⟩
end
end L2
namespace PD
open PySem L2
section
variable {K:ζc}{S S':Sx}{κ κ':Bool}{Γ Γ' Γ'':Ctx}{P:Post}
theorem Va{n:Nat}(h:EvE K S false ta Γ (.int (n:Int)))(hn:n≤1000000):EvO K S κ (tCB WG (zX (tCB zdw (zX ta tNil)) tNil)) Γ ((List.range n).map λi:Nat=>.int (i:Int)):=λH0 F0 H F σ e Q q =>
 h H0 F0 H F σ e _ λv H1 F1 g1 p1=>by
  cases yw p1;refine⟨n,rfl,λp hp=>⟨p,n,rfl,zp,hn,λl hl=>?_⟩⟩
  have g2:=g1.trans (.newO g1.le hp (.rng 0 n));have hr:zr K κ S H0 F1 ((List.range n).map λi:Nat=>V.int (i:Int)) ((List.range n).map λi:Nat=>.int (i:Int)):=by
   have:=wT (K:=K) (κ:=κ) (S:=S) (H0:=H0) (F:=F1) ((List.range n).map λi:Nat=>(i:Int));rw[ζx,ζx]at this;exact this
  exact q l _ _ F1 (g2.trans (.newO g2.le hl _)) (g2.h.free hl) zp (g2.le.free hl) hr
end
end PD
namespace L2
open PySem PySem.Spec PyProof.Rows
section
variable {X:Cx}{K:ζc}
def rm(k:Int)(ns:AE):AE:=ns.take (ns.idxOf k) ++ ns.drop (ns.idxOf k + 1)
def Uz:V→List V→Hp→VK→Prop:=λx vs H Q=>∃l,∃ns:AE,∃k,x=.ref l∧vs=[.int k]∧H l=some (.lst (ns.map V.int))∧k∈ns∧Q .non (upd H l (.lst ((rm k ns).map V.int)))
theorem T4:MtM X "list.remove" Uz:=by
 intro pins s σ H x vs v us Q I rx rv h;obtain⟨l,ns,k,rfl,rfl,hH,hk,q⟩:=h;cases rx;obtain⟨u,rfl,ru⟩:=rv.one;obtain⟨t,rfl⟩:=ru;obtain⟨z,its,n,r,hl,e⟩:=I.lstM hH;have hi:=w9 r;have hj:ns.idxOf k < ns.length:=ζV.mpr hk;have hl':=r.length;rw[ζa]at hl' z;refine call_meets F.slot_list_remove ⟨_,e,rfl⟩ F.entry_list_remove (F.args_list_remove_2 _ _) (MeetsSeq.list_remove l its.toArray n (.int k t) (isInt k) (λy hy=>eq_isInt k t hi y (by simpa using hy)) (ns.idxOf k) (by rw[List.size_toArray]; omega) ?_ (λm hm lt=>?_) (by rw[List.size_toArray]; omega)) ⟨e,?_⟩
 ·show isInt k its[ns.idxOf k]=true;rw[isInt_at k hi (ns.idxOf k) ⋯ hj];simp
 ·show isInt k its[m]=false;rw[ζO]at hm;rw[isInt_at k hi m hm ⋯];exact ne_of_lt_idxOf lt ⋯
 ·refine⟨.non,_,I.lset (its':=its.take (ns.idxOf k) ++ its.drop (ns.idxOf k + 1)) hH e ?_ (by unfold rm; rw[List.map_append,List.map_take,List.map_drop]; exact(r.take _).append (r.drop _)) ?_,rfl,q⟩
  ·apply Array.toList_inj.mp;rw[List.eraseIdxIfInBounds_toArray,List.eraseIdx_eq_take_drop_succ]
  ·unfold rm;rw[ζa,ζg,ζJ,ζ8];omega
end
end L2
namespace PD
open PySem L2
section
variable {K:ζc}{S S':Sx}{κ κ':Bool}{Γ Γ' Γ'':Ctx}{P:Post}
theorem exrm(h:GetC Γ i (.ow κ (ns.map .int)))(he:EvE K S false te Γ (.int k))(hk:k∈ns)(es:SetC Γ i (some (.ow κ ((rm k ns).map .int))) Γ')(kk:P.nx Γ'):
  ExS K S (x6 (tBM K "list" Uz (tVar i) (zX te tNil))) Γ P:=λH0 F0 H F σ B e b _ D I=>by
 have h:=h.eq;obtain⟨v0,q1,a,vs,rfl,w,q5⟩:=e.has i _ h;refine⟨_,q1,.inl ⟨rfl,_,SqL.of w.h⟩,he H0 F0 H F σ e _ λv1 H1 F1 g1 p1=>?_⟩
 cases yw p1;cases yb (zM q5);refine⟨a,ns,k,rfl,rfl,g1.h _ _ w.h,hk,?_⟩
 have:=(e.mono g1).put (vs:=(rm k ns).map V.int) (y:=.ow κ ((rm k ns).map .int)) h q1 (show Owns H1 (.ref a) (.ow κ (ns.map .int)) a from rfl) ⟨a,_,rfl,⟨zp,(w.mono g1).f,w.n,w.s⟩,wT _⟩ λ_ z=>z;rw[es.eq]at this;exact I.nx _ _ _ F1 kk (b.trans g1.f) this
end
end PD
namespace L2
open PySem PySem.Spec PyProof.Rows PySem.W
abbrev knw(o:Obj):HO:=.frz o (.ext λ_=>True)
theorem XQ(e:h.get? a=some o):yA P w H h a (knw o):=⟨e,trivial,⟨o,e⟩,λ_ _ _ _=>trivial⟩
def zfM(H:Hp)(c:Addr)(v:V):Prop:=∃o u,H c=some (knw o)∧o.data=.cell (some u)∧RelV v u
def Vp(H:Hp)(c:Addr)(q:Str):Prop:=∃o fs t,H c=some (knw o)∧o.data=.fields fs∧fs[1]?=some (.str q t)
structure vJ(x:Str)(ys:AJ)(sc:Scope):Prop where
 kind:sc.kind=.function
 co:sc.isCoroutine=false
 gen:sc.isGenerator=false
 nd:(x :: ys).Nodup
 par:sc.names.lookup x=some .local
 nocell:∀y∈sc.names,y.2≠.cell
 fre:∀y,sc.names.lookup y=some .free→y∈ys
 isf:∀y∈ys,sc.names.lookup y=some .free
def cxL(P:Program)(w:World)(K:ζc)(mg:AO)(base:Heap)(N:AJ)(qual:Str)(scope:Scope)(f:Addr)(cd:Value)(cl:List (Str×Addr))(A:Around)(outer:List Env)(s:Shared)(H:Hp):Cx where
 prog:=P
 w:=w
 K:=K
 mg:=mg
 base:=base
 A:=A.deeper (envX qual scope s.heap.objs.size f cd cl)
 N:=N
 s₀:=s
 H₀:=H
 env:=envX qual scope s.heap.objs.size f cd cl
 outer:=outer
 stack:=envX qual scope s.heap.objs.size f cd cl :: outer
 ex:=[]
 calm:=true
 fn:=λ_=>false
 pn:=[]
 xe:=λ_ _=>False
structure Z8(H:Hp)(ys:AJ)(va:Str→V)(cl:List (Str×Addr)):Prop where
 has:∀y∈ys,∃c,cl.lookup y=some c
 cel:∀y c,cl.lookup y=some c→y∈ys∧zfM H c (va y)
 inj:∀y z c,cl.lookup y=some c→cl.lookup z=some c→y=z
section
variable {P:Program}{w:World}{K:ζc}{mg:AO}{base:Heap}{x:Str}{ys:AJ}{va:Str→V}{qual:Str}{scope:Scope}{f:Addr}{cd:Value}{cl:List (Str×Addr)}{A:Around}{outer:List Env}{s:Shared}{H:Hp}
theorem zcN{tk:Nat}(S:vJ x ys scope)(hd:A.handled=none)(e0:Env0 P w K mg base A outer s H)(rv:RelV v u)(C:Z8 H ys va cl)
  (hns:h1.Ns s.heap.objs.size λy=>[(x,u)].reverse.lookup y) (hk:∀b o,s.heap.get? b=some o→h1.get? b=some o) :
  Inv (cxL P w K mg base (x :: ys) qual scope f cd cl A outer s H) [] (some v :: ys.map λy=>some (va y)) H { s with heap:=h1,toks:=tk }:=by
 have noA:∀b:Addr,b∉(cxL P w K mg base (x :: ys) qual scope f cd cl A outer s H).ex:=λb z=>absurd (show b∈([]:List Addr)from z) (by simp);have cel:∀y c,cl.lookup y=some c→∃u',RelV (va y) u'∧h1.IsCell c (some u'):=λy c e=>by
  obtain⟨o,u',e1,e2,e3⟩:=(C.cel y c e).2;exact⟨u',e3,o,hk _ _ (e0.hok _ _ e1).1,e2⟩
 refine⟨⟨e0.mod,S.kind,rfl,rfl,ζj _,λy z c h1 h2=>C.inj y z c h1 h2,λy hy=>?_,(λy c z _=>by cases z),λ_=>hd,Around.frames_deeper e0.frames,.inr ⟨rfl,rfl⟩,λb z=>absurd z (noA b),e0.bs,e0.bsz,λb _ _=>noA b,λb z=>absurd z (noA b),e0.funs,e0.frf,e0.tb⟩,
  rfl,e0.bare,Un.kept hk,⟨_,hns,λi y v' q1 q2 q3=>?_⟩,λy c e=>?_,e0.hok.fresh (Nat.le_refl _),λy c e=>?_,λp hp=>absurd (show p∈([]:AL)from hp) (by simp),e0.hok.kept hk,?_⟩
 ·have hy:scope.names.lookup y=some .cell∨scope.names.lookup y=some .free:=hy;rcases hy with hy | hy
  ·exact absurd rfl (S.nocell _ (PySem.mem_of_lookup hy))
  ·exact C.has y (S.fre y hy)
 ·have q1:(x :: ys)[i]?=some y:=q1;cases i with
  | zero =>
   have e1:x=y:=by simpa using q1
   have e2:v=v':=by simpa using q2
   subst e1 e2;exact⟨u,rv,.inl ⟨S.par,by show List.lookup x [(x,u)]=_; simp⟩⟩
  | succ i =>
   have q1:ys[i]?=some y:=by simpa using q1
   have q2:(ys.map λy=>some (va y))[i]?=some (some v'):=by simpa using q2
   rw[ζo,q1]at q2;have e2:va y=v':=by simpa using q2
   subst e2;have my:=ζf q1;obtain⟨c,hc⟩:=C.has y my;obtain⟨u',r',z⟩:=cel y c hc;exact⟨u',r',.inr ⟨.inr (S.isf y my),c,hc,z⟩⟩
 ·obtain⟨u',_,z⟩:=cel y c e;exact⟨_,z⟩
 ·obtain⟨o,_,e1,_⟩:=(C.cel y c e).2;exact .inr ⟨rfl,o,_,e1⟩
 ·show _=(x :: ys).length;simp
theorem zex(S:vJ x ys scope)(len:∀vs H Q E,sp vs H Q E→vs.length=1)
  (hsp:∀vs H Q E,sp vs H Q E→H f=some (knw (kla_obj "<lambda>" qual params body scope cl pm c' ctv))∧Vp H c' qual∧Z8 H ys va cl)
  (hbody:∀(A:Around) (outer:List Env) (s:Shared) (H:Hp) (v:V) (Q:VK) (E:XK),Room k (A.deeper (envX qual scope s.heap.objs.size f (.ref c') cl))→sp [v] H Q E→
   ∃te,PE (cxL P w K mg base (x :: ys) qual scope f (.ref c') cl A outer s H) body te∧te (some v :: ys.map λy=>some (va y)) H Q) :
  FnOk P w K mg base CX0 (k + 1) f (kla_fn "<lambda>" qual params body scope cl pm (.ref c') ctv) [x] sp:=by
 refine⟨λvs H Q E h=>len vs H Q E h,λA outer s H args us vs Q E hr e0 hb r hq=>?_⟩
 have hl:=len _ _ _ _ hq;obtain⟨v,rfl⟩:∃v,vs=[v]:=by
  match vs,hl with
  | [v],_=>exact⟨v,rfl⟩
 obtain⟨u,rfl,rv⟩:=r.one;obtain⟨hf,⟨oc,fcs,t,hc,d1,d2⟩,C⟩:=hsp _ _ _ _ hq;have lim:s.heap.NoLimit:=e0.mod.nolimit.keeps λb o e=>(e0.bs b o e).1;refine kla_callFunE hr.depth (e0.hok _ _ hf).1 rfl S.co S.gen rfl ⟨c',oc,fcs,t,rfl,(e0.hok _ _ hc).1,d1,d2⟩ (hb _ _ _ _ ?_);refine wpAny_newFunctionEnv S.nocell (λy hy=>?_) (λh₁ hns hsb=>⟨lim.fresh _ hsb,?_⟩) S.kind
 ·have e:y=(x,u):=by simpa using hy
  rw[e];exact S.par
 show codeAny _ _ (.expr body (envX qual scope s.heap.objs.size f (.ref c') cl)) _ _;have hk₁:∀b o,s.heap.get? b=some o→h₁.get? b=some o:=λb o e=>hsb.extBut b o (ζL (ζm e)) (ζe _ e);obtain⟨te,ht,hq'⟩:=hbody A outer s H v Q E (hr.deeper _) hq;refine kla_codeExpr (wpAny_mono (ht [] _ _ H _ (zcN S hr.hd e0 rv C hns hk₁) hq') (λu' s' hs=>?_) λe s' z=>False.elim z);obtain⟨v',H',J,rv',q⟩:=hs;exact⟨v',H',J.os,J.bare,J.base,J.hok,rv',q⟩
end
theorem Ua:∀(l:AK),TriplesOk l→codeAmong p (l ++ [rawInt i,rawInt j,c])=some v→codeAmong p l=some v∨v=c:=by
 intro l
 fun_induction TriplesOk l with
 | case1 =>
  intro _ h;simp only[List.nil_append,codeAmong,rawInt]at h;split at h
  ·cases h; exact .inr rfl
  ·cases h
 | case2 a t b u x rest ih =>
  intro ht h;simp only[List.cons_append,codeAmong]at h ⊢;split at h
  ·rename_i hc;rw[if_pos hc];exact .inl h
  ·rename_i hc;rw[if_neg hc];exact ih ht h
 | case3 l h1 h2=>intro h; exact h.elim
def zbL(H H':Hp):Prop:=∀b,H' b=H b∨H b=none∧∃o,H' b=some (knw o)
section
variable {X:Cx}{pins:AL}{σ:St}{H:Hp}{s:Shared}
theorem Inv.tb(I:Inv X pins σ H s):TbOk X.K H:=I.ok.tb.un I.base
theorem zaU(I:Inv X pins σ H s)
  (hcode:X.env.code=.ref c) (hhd:codeHdIn X.K c P=true) (htab:(P,q)∈yu X.K) (hq:X.env.qual ++ "<lambda>" = q) (hcl:closureFor lsc X.env=pure clos) (hdef:defaultsOf params X.env=([],[]))
  (h:∀s' H' f c' pm ctv,Inv X pins σ H' s'→zbL H H'→H f=none→H' f=some (knw (kla_obj "<lambda>" q params body lsc clos pm c' ctv))→Vp H' c' q→Q (.ref f) s') :
  wpAny (model X.prog X.w) X.A (eval (.Lambda params body lsc lpos) X.env) Q E s:=by
 obtain⟨t,more,hP⟩:=I.tb (P,q) htab;obtain⟨vs,hPo,ht,hcs⟩:=I.hok P _ hP;have tag:tagQ (#[.str q t] ++ more)=q:=by
  have e0:(#[Value.str q t] ++ more)[0]?=some (.str q t):=by rw[Array.getElem?_append_left (by simp)]; rfl
  unfold tagQ;rw[e0]
 have hd:CodeHd s.heap c P:=codeHd_of_K I.kIn hhd;have hns:s.heap.Ns mainGlobals X.mg:=I.mod.glob.keeps I.bk;have neP:∀{b:Addr},H b=none→b≠P:=λn z=>by rw[z,hP]at n; cases n
 have hbt:s.heap.BuiltinsAt X.mg P:=by
  obtain⟨bm,ob,b1,b2,b3,b4,b5,b6⟩:=I.mod.bm;obtain⟨b3',n⟩:=I.bs bm ob b3;refine⟨bm,ob,b1,b2,λz=>?_,neP n,b3',b4,b5,b6⟩
  obtain⟨o,es,ep,e,d,_⟩:=hns;rw[z,e]at b3'; cases b3'; rw[d]at b6; cases b6
 have hgP:mainGlobals≠P:=λz=>by
  obtain⟨o,es,ep,e,d,_⟩:=hns;rw[z,hPo]at e; cases e; cases d
 refine kla_eval hdef ?_;rw[hq];cases hc:codeAmong lpos vs.toList with
 | some cv =>
  obtain⟨c',oc,fs,t',rfl,k1,k2,k3⟩:=hcs lpos cv hc;rw[tag]at k3;refine kla_makeFunctionHit hcl I.ok.glob hns hcode hd hPo ht hc hbt λctv h' tk hk hsz=>?_;have fr:H h'.objs.size=none:=I.hok.fresh hsz;have ob:(h'.push (kla_obj "<lambda>" q params body lsc clos ((X.mg "__name__").getD .none) c' ctv)).get? h'.objs.size=some _:=ζt _ rfl;refine h _ (upd H h'.objs.size (knw (kla_obj "<lambda>" q params body lsc clos ((X.mg "__name__").getD .none) c' ctv))) h'.objs.size c' ((X.mg "__name__").getD .none) ctv (I.laid (t':=tk) (λb u e=>ζe _ (hk b u e)) hsz (XQ ob)) (λb=>?_) fr zp ⟨oc,fs,t',by rw[zC (zN k1 fr)]; exact k1,k2,k3⟩;by_cases e:b=h'.objs.size
  ·subst e; exact .inr ⟨fr,_,zp⟩
  ·exact .inl (zC e)
 | none =>
  refine kla_makeFunction hcl I.ok.glob hns hcode hd hPo ht hc hgP hbt λc' ctv h' tk hx hge hlt hrec htb=>?_;obtain⟨c2,oc,fs,t',e2,hoc,k2,k3⟩:=hrec;cases e2;let fo:=kla_obj "<lambda>" q params body lsc clos ((X.mg "__name__").getD .none) c' ctv;let H1:Hp:=upd (upd H c' (knw oc)) h'.objs.size (knw fo);have frc:H c'=none:=I.hok.fresh hge;have frf:H h'.objs.size=none:=I.hok.fresh (Nat.le_of_lt (ξs hge hlt));have ncf:c'≠h'.objs.size:=ζL hlt;have at0:∀b,b≠c'→b≠h'.objs.size→H1 b=H b:=λb n1 n2=>by show upd _ _ _ b=_; rw[zC n2,zC n1]
  have atc:H1 c'=some (knw oc):=by show upd _ _ _ c'=_; rw[zC ncf,zp]
  have atf:H1 h'.objs.size=some (knw fo):=zp;have keep1:∀{b:Addr} {u:HO},H b=some u→H1 b=some u:=λ{b u} e=>by rw[at0 b (zN e frc) (zN e frf)]; exact e
  have ho:∀b o,b≠P→s.heap.get? b=some o→(h'.push fo).get? b=some o:=λb o n e=>ζe _ (hx b o n e);have lt:∀{b:Addr} {o:Obj},s.heap.get? b=some o→b≠c'∧b≠h'.objs.size:=λ{b o} e=>by
   have l:=ζm e;exact⟨ζL (ζA l hge),ζL (ζA l (Nat.le_of_lt (ξs hge hlt)))⟩
  have un:Un X.fs [] H H1 s.heap (h'.push fo):=by
   refine⟨λb o e n _ _=>ho b o (neP n) e,λb o e n _ _=>⟨o.slots,ho b o (neP n) e⟩,λb o e n _=>by rw[at0 b (lt e).1 (lt e).2]; exact n,λb o e _=>?_,λb xs e=>keep1 e,λb o u e=>keep1 e,λb ps e=>⟨#[],by rw[keep1 e]; simp⟩⟩
   by_cases z:b=P
   ·subst z; exact⟨_,ζe _ htb⟩
   ·exact⟨o,ho b o z e⟩
  have hok:HOk X.prog X.w H1 (h'.push fo):=λb u e=>by
   by_cases z1:b=h'.objs.size
   ·subst z1;rw[atf]at e; cases e;exact XQ (ζt _ rfl)
   ·by_cases z2:b=c'
    ·subst z2;rw[atc]at e; cases e;exact XQ (ζe _ hoc)
    ·rw[at0 b z2 z1]at e;by_cases z3:b=P
     ·subst z3;rw[hP]at e; cases e;refine⟨vs ++ #[rawInt lpos.line,rawInt lpos.col,.ref c'],ζe _ htb,?_,λp v z=>?_⟩
      ·rw[Array.toList_append];exact TriplesOk_snoc _ _ _ _ ht
      ·rw[Array.toList_append]at z;rcases Ua _ ht z with y | y
       ·obtain⟨b1,o1,fs1,t1,y1,y2,y3,y4⟩:=hcs p v y;exact⟨b1,o1,fs1,t1,y1,keep1 y2,y3,y4⟩
       ·exact⟨c',oc,fs,t',y,atc,k2,by rw[tag]; exact k3⟩
     ·refine(I.hok b u e).stay (λd v hd' y=>ho d v ?_ y) (λd y=>keep1 y) (λd xs y=>keep1 y) λd o' u' y _=>keep1 y;rcases hd' with rfl | hd'
      ·exact z3
      ·intro y; rw[y,hP]at hd'; cases hd'
  refine h _ H1 h'.objs.size c' ((X.mg "__name__").getD .none) ctv (I.un (t':=tk) un hok) (λb=>?_) frf atf ⟨oc,fs,t',atc,k2,k3⟩;by_cases z1:b=h'.objs.size
  ·subst z1; exact .inr ⟨frf,_,atf⟩
  ·by_cases z2:b=c'
   ·subst z2; exact .inr ⟨frc,_,atc⟩
   ·exact .inl (at0 b z2 z1)
end
def tGL(te:TE)(params:Arguments)(body:Expr)(lsc:Scope)(q:Str)(caps:List (Str×Nat))(sp:Sp):TE:=λσ H Q=>te σ H λv1 H1=>∃va:Str→V,(∀p∈caps,σ[p.2]?=some (some (va p.1)))∧
 ∀(cl:List (Str×Addr)) (f c':Addr) (pm ctv:Value) (H2:Hp),zbL H1 H2→H1 f=none→H2 f=some (knw (kla_obj "<lambda>" q params body lsc cl pm c' ctv))→Vp H2 c' q→Z8 H2 (caps.map (·.1)) va cl→
  sp [v1,.ref f] H2 (λv H3=>∀H4:Hp,(∀b,H4 b=H3 b∨H4 b=none∧H1 b=none∧∃o,H2 b=some (knw o))→Q v H4) E0
section
variable {X:Cx}{k:Nat}{ps:AJ}{sp:Sp}{g:Str}{p cpos lpos:Pos}{e:Expr}{te:TE}{params:Arguments}{body:Expr}{lsc:Scope}{q:Str}{c P:Addr}{clos:List (Str×Addr)}{caps:List (Str×Nat)}
theorem VL(C:zt X.prog X.w X.K X.mg X.base CX0 g ps k sp)(hr:Room k X.A)(hg:Gl X g)(he:PE X e te)(hcode:X.env.code=.ref c)(hhd:codeHdIn X.K c P=true)(htab:(P,q)∈yu X.K)(hq:X.env.qual ++ "<lambda>" = q)
  (hcl:closureFor lsc X.env=pure clos) (hdef:defaultsOf params X.env=([],[])) (hN:∀p∈caps,X.N[p.2]?=some p.1∧X.env.scope.names.lookup p.1=some .cell) (hk1:∀p∈clos,p.1∈caps.map (·.1)∧X.env.cells.lookup p.1=some p.2) (hk2:∀p∈caps,(clos.lookup p.1).isSome=true) (hfn:∀y,X.fn y=true)
  (hdb:(g == ("__debug__" : Str))=false:=by decide) (hs1:starEach [e,.Lambda params body lsc lpos] X.env=(false,eval e X.env) :: starEach [.Lambda params body lsc lpos] X.env:=by rfl) (hpl:(backTo cpos (starEach [.Lambda params body lsc lpos] X.env)).any (·.1)=false:=by rfl) :
  PE X (.Call (.Name g p) [e,.Lambda params body lsc lpos] [] cpos) (tGL te params body lsc q caps sp):=by
 intro pins s σ H Q I h;obtain⟨f0,fd,F,hm,hk,hb⟩:=C.ex;refine wpAny_Call_Name_kw (XO I hg hm ?_ hdb);refine callWith_K (h₀:=X.base) I.ok.mod.kin hk ?_ hs1 hpl;rw[hs1];show wpAny _ _ (spliced ((false,eval e X.env) :: backTo cpos (starEach [.Lambda params body lsc lpos] X.env))) _ _ s;refine Calls.spliced_cons (thn (he pins s σ H _ I h) λu1 s1 ⟨v1,H1,I1,r1,va,hva,hsp⟩=>?_);show wpAny _ _ (spliced ((false,eval (.Lambda params body lsc lpos) X.env) :: backTo cpos (starEach [] X.env))) _ _ s1;refine Calls.spliced_cons (zaU I1 hcode hhd htab hq hcl hdef λs2 Ha f c' pm ctv I2 up frf hf hcd=>?_);refine Calls.spliced_nil ?_;refine⟨I2.kIn,?_⟩
 have cel:∀y b,(y,b)∈clos→Ha b=none∧X.env.cells.lookup y=some b∧y∈caps.map (·.1)∧∃o u,s2.heap.get? b=some o∧o.data=.cell (some u)∧RelV (va y) u:=λy b hy=>by
  obtain⟨m1,m2⟩:=hk1 (y,b) hy;obtain⟨pp,hp,e1⟩:=ζn.mp m1;have e1:pp.1=y:=e1;have n:=hN pp hp;have vv:=hva pp hp;rw[e1]at n vv;have fr:Ha b=none:=(I2.freeC y b m2).elim (λz=>z) λz=>by rw[hfn y]at z; cases z.1
  obtain⟨m,hn,hl⟩:=id I2.loc;obtain⟨u,ru,lk⟩:=hl pp.2 y (va y) n.1 vv (.inr (.inl n.2));refine⟨fr,m2,m1,?_⟩
  rcases lk with⟨z,_⟩ | ⟨_,b2,z2,o,z3,z4⟩
  ·have z':X.env.scope.names.lookup y=some .local:=z;rw[n.2]at z'; cases z'
  ·rw[m2]at z2; cases z2;exact⟨o,u,z3,z4,ru⟩
 let cs:List Addr:=clos.map (·.2);have inC:∀{b:Addr},b∈cs→∃y,(y,b)∈clos:=λ{b} hb=>by
  obtain⟨⟨y,b'⟩,h1,h2⟩:=ζn.mp hb;have:b'=b:=h2;subst this;exact⟨y,h1⟩
 have frC:∀{b:Addr},b∈cs→Ha b=none:=λhb=>let⟨y,hy⟩:=inC hb; (cel y _ hy).1;let H2:Hp:=λb=>if b∈cs then(s2.heap.get? b).map knw else Ha b
 have h2n:∀{b:Addr},b∉cs→H2 b=Ha b:=λhb=>if_neg hb;have h2c:∀{b:Addr},b∈cs→∃y o u,(y,b)∈clos∧s2.heap.get? b=some o∧H2 b=some (knw o)∧o.data=.cell (some u)∧RelV (va y) u:=λ{b} hb=>by
  obtain⟨y,hy⟩:=inC hb;obtain⟨_,_,_,o,u,z1,z2,z3⟩:=cel y b hy;exact⟨y,o,u,hy,z1,by show(if b∈cs then _ else _)=_; rw[if_pos hb,z1]; rfl,z2,z3⟩
 have nC:∀{b:Addr} {x:HO},Ha b=some x→b∉cs:=λ{b x} hx hb=>by rw[frC hb]at hx; cases hx
 have keep2:∀{b:Addr} {x:HO},Ha b=some x→H2 b=some x:=λhx=>by rw[h2n (nC hx)]; exact hx
 have hok2:HOk X.prog X.w H2 s2.heap:=λb x hx=>by
  by_cases hb:b∈cs
  ·obtain⟨_,o,u,_,z1,z2,_⟩:=h2c hb;rw[z2]at hx; cases hx;exact XQ z1
  ·rw[h2n hb]at hx;exact(I2.hok b x hx).stay (λ_ _ _ z=>z) (λ_ z=>keep2 z) (λ_ _ z=>keep2 z) λ_ _ _ z _=>keep2 z
 have big:∀{b:Addr},b∈cs→X.s₀.heap.objs.size≤b∧b≠X.env.locals:=λ{b} hb=>by
  obtain⟨y,hy⟩:=inC hb;obtain⟨_,m2,_⟩:=cel y b hy;exact⟨I2.ok.cab y b (hfn y) m2,I2.cne y b m2⟩
 have e0:Env0 X.prog X.w X.K X.mg X.base X.A X.stack s2 H2:=by
  have e:=I2.env0;refine⟨e.frames,e.mod,λb o z=>⟨(e.bs b o z).1,?_⟩,e.bsz,e.funs,λb hb=>?_,hok2,e.bare,λp hp=>?_⟩
  ·rw[h2n λhb=>absurd (ζA (ζm (I2.ok.bs b o z).1) (big hb).1) (ξq _)];exact(e.bs b o z).2
  ·rw[h2n λhc=>?_]
   ·exact e.frf b hb
   ·rcases ζC.mp (I2.stkSub b hb)with z | z
    ·exact(big hc).2 z
    ·obtain⟨_,o,ho,_⟩:=I2.ok.funs.mem z;exact absurd (ζA (ζm ho) (big hc).1) (ξq _)
  ·obtain⟨t,m,z⟩:=e.tb p hp;exact⟨t,m,keep2 z⟩
 have kup:zbL H1 H2:=λb=>by
  by_cases hb:b∈cs
  ·obtain⟨_,o,_,_,_,z2,_⟩:=h2c hb;refine .inr ⟨?_,o,z2⟩;rcases up b with z | ⟨z,_⟩
   ·rw[←z]; exact frC hb
   ·exact z
  ·rw[h2n hb]; exact up b
 have lkm:∀{y:Str} {b:Addr},clos.lookup y=some b→(y,b)∈clos:=λe=>PySem.mem_of_lookup e;have clo:Z8 H2 (caps.map (·.1)) va clos:=by
  refine⟨λy hy=>?_,λy b hy=>?_,λy z b hy hz=>?_⟩
  ·obtain⟨pp,hp,e1⟩:=ζn.mp hy;have e1:pp.1=y:=e1;have:=hk2 pp hp;rw[e1]at this;exact ξO.mp this
  ·obtain⟨_,_,m1,o,u,z1,z2,z3⟩:=cel y b (lkm hy);have hb:b∈cs:=ζn.mpr ⟨(y,b),lkm hy,rfl⟩;refine⟨m1,o,u,?_,z2,z3⟩
   show(if b∈cs then _ else _)=_;rw[if_pos hb,z1]; rfl
  ·exact I2.ok.inj y z b (cel y b (lkm hy)).2.1 (cel z b (lkm hz)).2.1
 have cod2:Vp H2 c' q:=let⟨o,fs,t,z1,z2,z3⟩:=hcd; ⟨o,fs,t,keep2 z1,z2,z3⟩;have sq:=hsp clos f c' pm ctv H2 kup frf (keep2 hf) cod2 clo;have hl:[u1,Value.ref f].length=ps.length:=F.len _ _ _ _ sq;have bt:=hb s2 [u1,.ref f] I2.kIn (by rw[ζQ]; exact hl);rw[ζQ]at bt;refine wpAny_call (codeAny_mono (F.run X.A X.stack s2 H2 ⟨[u1,.ref f],[]⟩ [u1,.ref f] [v1,.ref f] _ _ hr e0 bt (.cons r1 (.cons rfl .nil)) sq) λrs s3 hq3=>?_);cases rs with
 | error e'=>exact False.elim hq3
 | ok fl =>
  cases fl with
  | next=>exact False.elim hq3
  | brk=>exact False.elim hq3
  | cont=>exact False.elim hq3
  | ret u =>
   obtain⟨v,H3,os,bare,un,hok3,rv,q3⟩:=hq3;let H4:Hp:=λb=>if b∈cs then none else H3 b
   have h4n:∀{b:Addr},b∉cs→H4 b=H3 b:=λhb=>if_neg hb;have h3c:∀{b:Addr},b∈cs→∃o u',s2.heap.get? b=some o∧H3 b=some (knw o)∧o.data=.cell (some u'):=λ{b} hb=>by
    obtain⟨_,o,u',_,z1,z2,z3,_⟩:=h2c hb;exact⟨o,u',z1,un.frzs _ _ _ z2,z3⟩
   have un4:Un (frs X.stack) [] Ha H4 s2.heap s3.heap:=by
    refine⟨λb o z n hb _=>?_,λb o z n hb _=>?_,λb o z n _=>?_,λb o z hx=>un.there b o z hx,λb xs z=>?_,λb o u z=>?_,λb ps' z=>?_⟩
    ·by_cases hc:b∈cs
     ·obtain⟨o',_,y1,y2,_⟩:=h3c hc;rw[z]at y1; cases y1;exact(hok3 b _ y2).1
     ·exact un.keep b o z (by rw[h2n hc]; exact n) hb (by simp)
    ·by_cases hc:b∈cs
     ·obtain⟨o',_,y1,y2,_⟩:=h3c hc;rw[z]at y1; cases y1;exact⟨o.slots,(hok3 b _ y2).1⟩
     ·exact un.slot b o z (by rw[h2n hc]; exact n) hb (by simp)
    ·by_cases hc:b∈cs
     ·exact if_pos hc
     ·rw[h4n hc]; exact un.free b o z (by rw[h2n hc]; exact n) (by simp)
    ·rw[h4n (nC z)]; exact un.tups b xs (keep2 z)
    ·rw[h4n (nC z)]; exact un.frzs b o u (keep2 z)
    ·obtain⟨m,y⟩:=un.tbls b ps' (keep2 z);exact⟨m,by rw[h4n (nC z)]; exact y⟩
   have hok4:HOk X.prog X.w H4 s3.heap:=λb x hx=>by
    have hb:b∉cs:=λhc=>by rw[show H4 b=none from if_pos hc]at hx; cases hx
    rw[h4n hb]at hx;have nc3:∀{d:Addr} {y:HO},H3 d=some y→(∀o u,y≠.frz o u)→d∉cs:=λ{d y} hd' hn hc=>by
     obtain⟨o,_,_,z,_⟩:=h3c hc;rw[hd']at z; cases z;exact hn _ _ rfl
    refine(hok3 b x hx).stay (λ_ _ _ z=>z) (λd z=>?_) (λd xs z=>?_) λd o' u' z nd=>?_
    ·rw[h4n (nc3 z λ_ _ y=>by cases y)]; exact z
    ·rw[h4n (nc3 z λ_ _ y=>by cases y)]; exact z
    ·rw[h4n λhc=>by
      obtain⟨o,u2,_,y,y2⟩:=h3c hc;rw[z]at y; cases y;exact nd _ y2]
     exact z
   refine⟨v,H4,I2.call' os un4 hok4 bare (ch:=[]) (λ_ z=>nomatch z),rv,q3 H4 λb=>?_⟩
   by_cases hc:b∈cs
   ·obtain⟨_,o,_,_,_,z2,_⟩:=h2c hc;refine .inr ⟨if_pos hc,?_,o,z2⟩;rcases up b with z | ⟨z,_⟩
    ·rw[←z]; exact frC hc
    ·exact z
   ·exact .inl (h4n hc)
end
def tFnL(i:Nat)(a:Addr)(sp:Sp)(t:TA):TE:=λσ H Q=>σ[i]?=some (some (.ref a))∧t σ H λvs H1=>(∃nm q params body lsc cl pm c' ctv,H1 a=some (knw (kla_obj nm q params body lsc cl pm c' ctv)))∧sp vs H1 Q E0
section
variable {X:Cx}{k:Nat}{ps:AJ}{sp:Sp}{x:Str}{p pos:Pos}{e:Expr}{es:List Expr}{t:TA}
theorem zeg(i:Nat)(F:FnOk X.prog X.w X.K X.mg X.base CX0 k a fd ps sp)(hb:wM X.K fd ps [])(hr:Room k X.A)(ha:PA X (e :: es) t)
  (hN:X.N[i]?=some x:=by rfl) (hv:Vis X.env.scope x:=by first | exact Or.inl rfl | exact Or.inr (.inl rfl) | exact Or.inr (.inr rfl)) (hd:(x == ("__debug__" : Str))=false:=by decide) (hcd:(x == ("__classdict__" : Str))=false:=by decide)
  (he:starEach (e :: es) X.env=(false,eval e X.env) :: starEach es X.env:=by rfl) (hpl:(backTo pos (starEach es X.env)).any (·.1)=false:=by rfl) :
  PE X (.Call (.Name x p) (e :: es) [] pos) (tFnL i a sp t):=by
 intro pins s σ H Q I h;obtain⟨hs,h⟩:=h;refine wpAny_Call_Name_kw (thn (VI (X:=X) (i:=i) (pos:=p) hN hv hd hcd pins s σ H (λv H'=>v=.ref a∧H'=H) I ⟨_,hs,rfl,rfl⟩) λu s1 ⟨v,H',I1,r1,ev,eH⟩=>?_);subst ev eH;cases(show u=Value.ref a from r1)
 have key:wpAny (model X.prog X.w) X.A (spliced (backTo pos (starEach (e :: es) X.env))) (λus s2=>(∃nm q params body lsc cl pm c' ctv,s2.heap.get? a=some (kla_obj nm q params body lsc cl pm c' ctv))∧wpAny (model X.prog X.w) X.A (call (.ref a) ([] ++ us)) (EP X pins σ Q) X.xe s2) X.xe s1 :=
  thn (ha pos pins s1 σ _ _ I1 h) λus s2 ⟨vs,H1,I2,r,⟨nm,q,params,body,lsc,cl,pm,c',ctv,ho⟩,hq⟩=>⟨⟨nm,q,params,body,lsc,cl,pm,c',ctv,(I2.hok _ _ ho).1⟩,Vy F hr hb .nil zaB I2 r (by rw[ζQ]; exact hq)⟩
 rw[he]at key ⊢;refine callWith_of (P:=λh=>∃nm q params body lsc cl pm c' ctv,h.get? a=some (kla_obj nm q params body lsc cl pm c' ctv)) (by show((false || (backTo pos (starEach es X.env)).any (·.1)) || false)=false; rw[hpl]; rfl) (λh ⟨nm,q,params,body,lsc,cl,pm,c',ctv,ho⟩=>⟨.frame,.inl rfl,(Looks.ld (part:=none) ho).andThen .now⟩) (Calls.evalArgs_plain key)
end
end L2
namespace PD
open PySem L2 PySem.W
section
variable {P:Program}{w:World}{K:ζc}{mg:AO}{base:Heap}{S S':Sx}{κ κ':Bool}{Γ Γ' Γ'':Ctx}
def LamD(P:Program)(w:World)(K:ζc)(mg:AO)(base:Heap)(kk:Nat)(p1:AD→AD→Prop)(F:Hp)(a:Addr):Prop:=∃fd x spl nm q params body lsc cl pm c' ctv,FnOk P w K mg base CX0 kk a fd [x] spl∧wM K fd [x] []∧F a=some (knw (kla_obj nm q params body lsc cl pm c' ctv))∧
 ∀(H' F':Hp) (v:V) (d r:AD) (Q:VK),Same F F'→Same F' H'→Dp K F' v d→p1 d r→(∀v' H'' F'',Gr H' F' H'' F''→Rp K false .fresh H' F'' v' r→Q v' H'')→spl [v] H' Q E0
def spG(P:Program)(w:World)(K:ζc)(mg:AO)(base:Heap)(kk:Nat)(pre:AG→(AD→AD→Prop)→AD→Prop):Sp:=λvs H Q _=>∃F ds d us a p1,vs=us ++ [.ref a]∧Same F H∧zT K F us ds∧LamD P w K mg base kk p1 F a∧pre ds p1 d∧∀v H' F',Gr H F H' F'→Rp K true .fresh H F' v d→Q v H'
theorem zbX(h:∀ds p1 d,pre ds p1 d→ds.length=n)(s:spG P w K mg base kk pre vs H Q E):vs.length=n + 1:=by
 obtain⟨F,ds,d,us,a,p1,rfl,_,k,_,p,_⟩:=s;rw[ζg,zT.length k,h ds p1 d p];rfl
def spLm(K:ζc)(f c':Addr)(o:Obj)(q:Str)(ys:AJ)(va:Str→V)(dc:Str→AD)(cl:List (Str×Addr))(p1:AD→AD→Prop):Sp:=λvs H Q _=>∃v F d r,vs=[v]∧H f=some (knw o)∧Vp H c' q∧Z8 H ys va cl∧Same F H∧Dp K F v d∧(∀y∈ys,Dp K F (va y) (dc y))∧p1 d r∧
 ∀v' H' F',Gr H F H' F'→Rp K false .fresh H F' v' r→Q v' H'
theorem zbz{H F:Hp}{v:V}{d:AD}{va:Str→V}{dc:Str→AD}{ys:AJ}(le:Same F H)(hd:Dp K F v d)(hc:∀y∈ys,Dp K F (va y) (dc y)):DEnv K .fresh H F H F (some v :: ys.map λy=>some (va y)) (some (.fz false d) :: ys.map λy=>some (.fz false (dc y))):=by
 have no:∀(i:Nat) (x:DV),(some (.fz false d) :: ys.map λy=>some (.fz false (dc y)):Ctx)[i]?=some (some x)→∃u e,(some v :: ys.map λy=>some (va y):St)[i]?=some (some u)∧x=.fz false e∧Dp K F u e:=λi x h=>by
  cases i with
  | zero=>exact⟨v,d,rfl,by simpa using h.symm,hd⟩
  | succ i =>
   have h:(ys.map λy=>some (DV.fz false (dc y)))[i]?=some (some x):=by simpa using h
   rw[ζo]at h;cases e:ys[i]? with
   | none=>rw[e]at h; cases h
   | some y =>
    rw[e]at h;refine⟨va y,dc y,by simp[e],by simpa using h.symm,hc y (List.mem_of_getElem? e)⟩
 refine⟨.refl le,le,λa h=>?_,λT z=>(nomatch z),by simp,λi x h=>?_,λi j x y v w a h1 h2 _ _ o1 _=>?_⟩
 ·cases e:H a with
  | none=>exact absurd e h
  | some o=>exact⟨o,rfl⟩
 ·obtain⟨u,e,q1,rfl,q2⟩:=no i x h;exact⟨u,q1,uf q2⟩
 ·obtain⟨u,e,_,rfl,_⟩:=no i x h1;exact o1.elim
theorem zew{k:Nat}(S:vJ x ys lsc)
  (hp:∀(A:Around) (outer:List Env) (s:Shared) (H:Hp),Room k (A.deeper (envX qual lsc s.heap.objs.size f (.ref c') cl))→PE (cxL P w K mg base (x :: ys) qual lsc f (.ref c') cl A outer s H) body te)
  (hE:∀d r,p1 d r→EvE K .fresh false te (some (.fz false d) :: ys.map λy=>some (.fz false (dc y))) r) :
  FnOk P w K mg base CX0 (k + 1) f (kla_fn "<lambda>" qual params body lsc cl pm (.ref c') ctv) [x] (spLm K f c' (kla_obj "<lambda>" qual params body lsc cl pm c' ctv) qual ys va dc cl p1):=by
 refine zex (va:=va) S (λvs H Q E h=>?_) (λvs H Q E h=>?_) λA outer s H v Q E hr h=>?_
 ·obtain⟨v,_,_,_,rfl,_⟩:=h;rfl
 ·obtain⟨v,_,_,_,_,h1,h2,h3,_⟩:=h;exact⟨h1,h2,h3⟩
 ·obtain⟨v',F,d,r,ev,_,_,_,le,hd,hc,hp1,q⟩:=h;cases ev;refine⟨te,hp A outer s H hr,hE d r hp1 H F H F _ (zbz le hd hc) _ λu H' F' g p=>q u H' F' g p⟩
theorem UI{R:Str×Nat→V→Prop}:∀(caps:List (Str×Nat)),(caps.map (·.1)).Nodup→(∀p∈caps,∃u,R p u)→∃va:Str→V,∀p∈caps,R p (va p.1)
 | [],_,_=>⟨λ_=>.non,λ_ h=>(nomatch h)⟩
 | p :: r,nd,h=>by
  obtain⟨nd1,nd2⟩:=ζ5.mp nd;obtain⟨va,hv⟩:=UI r nd2 λq hq=>h q (ζp _ hq);obtain⟨u,hu⟩:=h p ζi;refine⟨λy=>if y=p.1 then u else va y,λq hq=>?_⟩
  rcases ζC.mp hq with rfl | hq
  ·show R q (if q.1=q.1 then u else _);rw[if_pos rfl]; exact hu
  ·show R q (if q.1=p.1 then u else _);rw[if_neg (show¬q.1=p.1 from λz=>nd1 (show p.1∈r.map (·.1)by rw[←z]; exact ζn.mpr ⟨q,hq,rfl⟩))];exact hv q hq
theorem V4{kk:Nat}{pre:AG→(AD→AD→Prop)→AD→Prop}{t1:TE}{d1 d:AD}{params:Arguments}{body:Expr}{lsc:Scope}{q:Str}{caps:List (Str×Nat)}{dc:Str→AD}{p1:AD→AD→Prop}{x:Str}{te:TE}
  (h1:EvE K S false t1 Γ d1) (hc:∀p∈caps,∃κ,Γ[p.2]?=some (some (.fz κ (dc p.1)))) (SL:vJ x (caps.map (·.1)) lsc) (hb:∀cl pm c' ctv,wM K (kla_fn "<lambda>" q params body lsc cl pm (.ref c') ctv) [x] [])
  (hp:∀(f c':Addr) (cl:List (Str×Addr)),(∀y∈caps.map (·.1),(cl.lookup y).isSome=true)→∀(A:Around) (outer:List Env) (s:Shared) (H:Hp),Room kk (A.deeper (envX q lsc s.heap.objs.size f (.ref c') cl))→PE (cxL P w K mg base (x :: caps.map (·.1)) q lsc f (.ref c') cl A outer s H) body te)
  (hE:∀d r,p1 d r→EvE K .fresh false te (some (.fz false d) :: (caps.map (·.1)).map λy=>some (.fz false (dc y))) r) (hpre:pre [d1] p1 d) :
  EvE K S κ (tGL t1 params body lsc q caps (spG P w K mg base (kk + 1) pre)) Γ d:=λH0 F0 H F σ e Q qq =>
 h1 H0 F0 H F σ e _ λv1 H1 F1 g1 r1=>by
  classical
  have e1:=e.mono g1;obtain⟨va,hva⟩:=UI (R:=λp u=>σ[p.2]?=some (some u)∧Dp K F1 u (dc p.1)) caps (ζ5.mp SL.nd).2 λp hp=>by
   obtain⟨κ2,z⟩:=hc p hp;obtain⟨u,z1,z2⟩:=e1.has _ _ z;exact⟨u,z1,xa z2⟩
  refine⟨va,λp hp=>(hva p hp).1,λcl f c' pm ctv H2 kup frf hf hcd clo=>?_⟩
  have s12:Same H1 H2:=λb o z=>by
   rcases kup b with y | ⟨y,_⟩
   ·rw[y]; exact z
   ·rw[y]at z; cases z
  let isL:Addr→Prop:=λb=>b=f∨b=c'∨∃y,cl.lookup y=some b;have knL:∀{b:Addr},isL b→∃o,H2 b=some (knw o):=λ{b} z=>by
   rcases z with rfl | rfl | ⟨y,z⟩
   ·exact⟨_,hf⟩
   ·obtain⟨o,_,_,z,_⟩:=hcd; exact⟨o,z⟩
   ·obtain⟨o,_,z,_⟩:=(clo.cel y b z).2; exact⟨o,z⟩
  let F2:Hp:=λb=>if F1 b=none∧isL b then H2 b else F1 b
  have f12:Same F1 F2:=λb o z=>by
   show(if F1 b=none∧isL b then _ else _)=_;rw[if_neg λc=>by rw[c.1]at z; cases z]; exact z
  have le2:Same F2 H2:=λb o z=>by
   have z:(if F1 b=none∧isL b then H2 b else F1 b)=some o:=z;split at z
   ·exact z
   ·exact s12 _ _ (g1.le _ _ z)
  have atL:∀{b:Addr},isL b→F2 b=H2 b:=λ{b} hL=>by
   cases z:F1 b with
   | none=>show(if F1 b=none∧isL b then _ else _)=_; rw[if_pos ⟨z,hL⟩]
   | some o=>rw[f12 _ _ z,s12 _ _ (g1.le _ _ z)]
  have out2:∀{b:Addr},F1 b=none→(∃o,F2 b=some (knw o))∨F2 b=none:=λ{b} z=>by
   by_cases hL:isL b
   ·obtain⟨o,y⟩:=knL hL;exact .inl ⟨o,by rw[atL hL]; exact y⟩
   ·exact .inr (by show(if F1 b=none∧isL b then _ else _)=_; rw[if_neg λc=>hL c.2]; exact z)
  have lam:LamD P w K mg base (kk + 1) p1 F2 f:=by
   refine⟨_,x,_, "<lambda>", q,params,body,lsc,cl,pm,c',ctv,zew (va:=va) (dc:=dc) SL (hp f c' cl λy hy=>by obtain⟨c,z⟩:=clo.has y hy; rw[z]; rfl) hE,hb cl pm c' ctv,by rw[atL (.inl rfl)]; exact hf,λH' F' v d0 r0 Q0 s1 s2 hd hpp k=>?_⟩
   have at':∀{b:Addr} {o:Obj},isL b→H2 b=some (knw o)→H' b=some (knw o):=λ{b o} hL z=>s2 _ _ (s1 _ _ (by rw[atL hL]; exact z));refine⟨v,F',d0,r0,rfl,at' (.inl rfl) hf,?_,⟨clo.has,λy b z=>?_,clo.inj⟩,s2,hd,λy hy=>?_,hpp,k⟩
   ·obtain⟨o,fs,t,z,z2⟩:=hcd;exact⟨o,fs,t,at' (.inr (.inl rfl)) z,z2⟩
   ·obtain⟨m,o,u,z1,z2⟩:=clo.cel y b z;exact⟨m,o,u,at' (.inr (.inr ⟨y,z⟩)) z1,z2⟩
   ·obtain⟨pp,hpp',rfl⟩:=ζn.mp hy;exact xu (f12.trans s1) (hva pp hpp').2
  refine⟨F2,[d1],d,[v1],f,p1,rfl,le2,.cons (xu f12 (xa r1)) .nil,lam,hpre,λv H3 F3 g3 p3 H4 h4=>?_⟩
  let F4:Hp:=λb=>if H2 b≠none∧F1 b=none then none else F3 b
  have f4:∀{b:Addr} {o:HO},F4 b=some o→F3 b=some o∧¬(H2 b≠none∧F1 b=none):=λ{b o} z=>by
   have z:(if H2 b≠none∧F1 b=none then none else F3 b)=some o:=z;split at z
   ·cases z
   ·rename_i c; exact⟨z,c⟩
  have f4':∀{b:Addr} {o:HO},F3 b=some o→¬(H2 b≠none∧F1 b=none)→F4 b=some o:=λ{b o} z c=>by
   show(if H2 b≠none∧F1 b=none then none else F3 b)=some o;rw[if_neg c]; exact z
  have g4:Gr H1 F1 H4 F4:=by
   refine⟨λb o z=>?_,λb o z=>f4' (g3.f _ _ (f12 _ _ z)) (λc=>by rw[c.2]at z; cases z),λb o z=>?_,λb o z n=>?_⟩
   ·rcases h4 b with y | ⟨_,y,_⟩
    ·rw[y]; exact g3.h _ _ (s12 _ _ z)
    ·rw[y]at z; cases z
   ·obtain⟨z1,z2⟩:=f4 z;rcases h4 b with y | ⟨_,y,o',y'⟩
    ·rw[y]; exact g3.le _ _ z1
    ·exact absurd ⟨by rw[y']; simp,g1.le.free y⟩ z2
   ·show(if H2 b≠none∧F1 b=none then none else F3 b)=none;rw[if_pos ⟨by rw[s12 _ _ z]; simp,n⟩]
  have hln:∀a xs,LN K true .fresh H2 F3 a xs→LN K true S H0 F4 a xs:=λa xs z=>⟨f4' z.1 λc=>z.2 (show H2 a≠none from c.1),λcc=>by
   obtain⟨u,hu⟩:=e1.sd a cc;exact z.2 (by show H2 a≠none; rw[s12 _ _ hu]; simp)⟩
  refine qq v H4 F4 (g1.trans g4) (vN (κ:=true) (λ_=>rfl) (wR (κ:=true) (κ':=true) hln (λa xs z=>?_) p3))
  ·have tp:∀{o:HO},F3 a=some o→(∀ob,o≠knw ob)→F4 a=some o:=λ{o} y ne=>f4' y λc=>by
    rcases out2 c.2 with⟨ob,w1⟩ | w1
    ·have:=g3.f _ _ w1;rw[y]at this; cases this;exact ne _ rfl
    ·cases w2:H2 a with
     | none=>exact c.1 w2
     | some o2=>rw[g3.ap _ _ w2 w1]at y; cases y
   rcases z with(z | ⟨o,z⟩) | z
   ·exact .inl (.inl (tp z λob y=>by cases y))
   ·exact .inl (.inr ⟨o,tp z λob y=>by cases y⟩)
   ·exact .inr z
theorem zeS{kk:Nat}{fd:FuncData}{x:Str} 
  (hΓ:GetC Γ i (.xp φ)) (hφ:∀F1 v,φ F1 v→v=.ref a∧(∃nm q params body lsc cl pm c' ctv,F1 a=some (knw (kla_obj nm q params body lsc cl pm c' ctv)))∧∀(H' F':Hp) (v:V) (Q:VK),Same F1 F'→Same F' H'→Dp K F' v d→(∀v' H'' F'',Gr H' F' H'' F''→Rp K false .fresh H' F'' v' r→Q v' H'')→spl [v] H' Q E0)
  (h:EvE K S false t Γ d):EvE K S false (tFnL i a spl (zX t tNil)) Γ r:=λH0 F0 H F σ e Q q=>by
 obtain⟨v,hv,F1,s1,hf⟩:=e.has i _ hΓ.eq;obtain⟨rfl,⟨nm,q',params,body,lsc,cl,pm,c',ctv,ho⟩,pr⟩:=hφ F1 v hf;refine⟨hv,h H0 F0 H F σ e _ λu H1 F2 g1 p1=>⟨⟨nm,q',params,body,lsc,cl,pm,c',ctv,g1.le _ _ (g1.f _ _ (s1 _ _ ho))⟩,pr H1 F2 u Q (s1.trans g1.f) g1.le (xa p1) λv' H'' F'' g2 p2=>q v' H'' F'' (g1.trans g2) (uf (xa p2))⟩⟩
end
end PD
namespace L2
open PySem PySem.Spec PyProof.Rows PySem.W
def W3(K:Frag)(f:Addr)(x:Str):Bool:=match K.lookup f with
 | some ⟨_,_,.func fd,_⟩=>(match fd.code with
  | .ref c=>(match(K.lookup c).bind QT with
   | some (P,q)=>codeHdIn K c P && decide (q=x ++ ".<locals>.<lambda>")
   | none=>false)
  | _=>false)
 | _=>false
theorem ZN[BEq α][LawfulBEq α]:∀{l:List (α×β)} {a:α} {b:β},l.lookup a=some b→(a,b)∈l
 | (x,y) :: l,a,b,h=>by
  rw[ξ3]at h;split at h
  ·rename_i e;have:=eq_of_beq e;cases h;rw[this];exact ζi
  ·exact ζp _ (ZN h)
section
variable {P:Program}{w:World}{K:ζc}{mg:AO}{base:Heap}
theorem Fun.okL{x qual:Str}{st:Stmt}{f:Addr}{fd:FuncData}{N ps:AJ}{k:Nat}{sp:Sp}(F:Fun K x qual st f fd)(L:W3 K f qual=true)(S:zA N ps (zn st))(len:∀vs H Q E,sp vs H Q E→vs.length=ps.length)
  (hbody:∀(c T:Addr) (A:Around) (outer:List Env) (s:Shared) (H:Hp) (vs:List V) (Q:VK) (E:XK),codeHdIn K c T=true→(T,qual ++ ".<locals>.<lambda>")∈yu K→Room k (A.deeper (envOfC qual (zn st) s.heap.objs.size f (.ref c)))→sp vs H Q E→
   ∃t,PSs (cxOf CX0 P w K mg base N qual (zn st) f (.ref c) A outer s H E).nox (xJ st) t∧t { nx:=λ_ H'=>Q .non H',rt:=Q } (yI N vs) H):FnOk P w K mg base CX0 (k + 1) f fd ps sp:=by
 obtain⟨oc,od,kV,doc,pm,an,cdv,ct,osl,rfl,lk,hcd⟩:=F.ex;unfold W3 at L;rw[lk]at L;dsimp only at L;split at L
 ·rename_i c;split at L
  ·rename_i T q e;simp only[Bool.and_eq_true,decide_eq_true_eq]at L;obtain⟨o,e1,e2⟩:=Option.bind_eq_some_iff.mp e;have htab:(T,qual ++ ".<locals>.<lambda>")∈yu K:=by
    rw[←L.2];exact ξU.mpr ⟨(c,o),ZN e1,e⟩
   refine zdJ lk hcd S len λA outer s H vs Q E hr hsp=>?_;obtain⟨t,h,q⟩:=hbody c T A outer s H vs Q E L.1 htab hr hsp;exact⟨t,h.nox,q⟩
  ·cases L
 ·cases L
end
end L2
namespace Cm
open PySem L2
structure AtL(K:ζc)(x:Str)(st:Stmt)(f:Addr)(fd:FuncData):Prop where
 a:PySem.W.nsIn K mainGlobals x=some (some (.ref f))
 F:Fun K x x st f fd
 L:W3 K f x=true
theorem zbS{K:ζc}{x:Str}{st:Stmt}{f:Addr}{oc:Value}{od an:Option Addr}{osl:Array (Option Value)}{kV doc pm cdv ct:Value}(a:PySem.W.nsIn K mainGlobals x=some (some (.ref f)))
  (l:K.lookup f=some ⟨oc,od,.func (PySem.W.fnOf x x (wn st) (xJ st) (zn st) .none kV doc pm an cdv ct),osl⟩) (c:PySem.W.codeIn K cdv x=true) (k:PySem.W.keepIn K (.ref f)=true) (m:W3 K f x=true):∃f fd,AtL K x st f fd:=⟨f,_,a,VX l c k,m⟩
end Cm
namespace L2
open PySem
theorem zbT{K:ζc}{h:Heap}{ts:List Addr}(t:∀P∈ts,h.get? P=some (PySem.W.tabObj #[]))(e:((yu K).all λp=>ts.contains p.1)=true):∀p∈yu K,h.get? p.1=some (PySem.W.tabObj #[]):=λp hp=>t _ (by
 have:=ξJ.mp e p hp;simpa using this)
def zdE(x:Str)(ys:AJ)(sc:Scope):Bool:=decide (sc.kind=.function) && !sc.isCoroutine && !sc.isGenerator && decide ((x :: ys).Nodup) && decide (sc.names.lookup x=some .local) && (sc.names.all λp=>decide (p.2≠.cell) && (decide (p.2≠.free) || decide (p.1∈ys))) && ys.all λy=>decide (sc.names.lookup y=some .free)
theorem zaV(h:zdE x ys sc=true):vJ x ys sc:=by
 unfold zdE at h;simp only[Bool.and_eq_true,decide_eq_true_eq,Bool.not_eq_true',List.all_eq_true,Bool.or_eq_true]at h;obtain⟨⟨⟨⟨⟨⟨h1,h2⟩,h3⟩,h4⟩,h5⟩,h6⟩,h7⟩:=h;refine⟨h1,h2,h3,h4,h5,λy hy=>(h6 y hy).1,λy hy=>?_,h7⟩
 rcases(h6 _ (PySem.mem_of_lookup hy)).2 with z | z
 ·exact absurd rfl z
 ·exact z
end L2
namespace PD
open PySem L2
theorem zcb(le:Same F H)(k:zT K F vs ds)(q:∀v H' F',Gr H F H' F'→Rp K κ .fresh H F' v d→Q v H')(hn:N.length=n)(hl:vs.length < n)(hΓ:xg n ds Γ)(hs:SetC Γ ds.length (some (.xp φ)) Γ')(hφ:φ F (.ref a))
  (h:ExS K .fresh t Γ' { nx:=λ_=>d=.none,rt:=λx=>x=d,kr:=κ }):t { nx:=λ_ H'=>Q .non H',rt:=Q } (L2.yI N (vs ++ [.ref a])) H:=by
 have l:=zT.length k;have e0:=x4 (N:=N) le k;rw[hn,hΓ.eq]at e0;have e1:=e0.set (i:=ds.length) (v:=.ref a) (x:=.xp φ) ⟨F,.refl _,hφ⟩ λ_ z=>z.elim;rw[hs.eq]at e1;have es:(L2.yI N vs).set ds.length (some (.ref a))=L2.yI N (vs ++ [.ref a]):=by
  unfold L2.yI;rw[←l,List.set_append_right _ _ (by simp),List.length_map,Nat.sub_self];obtain⟨m,hm⟩:∃m,N.length - vs.length=m + 1:=⟨N.length - vs.length - 1,⋯⟩
  rw[hm,ξd,List.set_cons_zero,ζy,ζg];have:N.length - (vs.length + [V.ref a].length)=m:=by show N.length - (vs.length + 1)=m; omega
  rw[this];simp
 rw[es]at e1;exact h H F H F _ F e1 (.refl _) (.inl rfl) _ ⟨λ_ σ' H' F' z _ e'=>q .non H' F' e'.gr (by rw[z]; exact .non),λx v H' F' z g p=>q v H' F' g (by rw[←(show x=d from z)]; exact p),λ_ _ _ _ z=>z.elim,λ_ _ _ _ z=>z.elim⟩
end PD
namespace L2
open PySem PySem.Spec PyProof.Rows PySem.AutoSeq1
theorem XJ(l b:Addr)(xs ys:Array Value)(n n2:Nat)(dd:Option Addr)(sl:Array (Option Value))(hs0:¬(!xs.isEmpty && Builtin.List.listTooLong (xs.size + ys.size))=true)(hs1:xs.size≤sizeLine)(hs2:xs.size + ys.size≤sizeLine + 1):
  Meets (Builtin.«list.extend» ⟨[.ref l,.ref b],[]⟩) (λ_ R s=>s.heap.get? l=some { cls:=.type "list", data:=.seq xs n }∧s.heap.get? b=some { cls:=.type "list", dict:=dd,data:=.seq ys n2,slots:=sl }∧R (.ok (.ret Value.none)) { s with heap:=s.heap.update l (Obj.mapSeq λx=>x ++ ys),toks:=s.toks }) :=
 .of_wp λprog w A R s h=>by
  obtain⟨hp,g,d,tk,os⟩:=s;obtain⟨hl,hb,h⟩:=h;have f1:=AutoSeq1.idx_int;have f2:=AutoSeq1.sub_tuple_tuple;have f3:=AutoSeq1.sub_list_list;have f4:=AutoSeq1.sub_tuple_list;have f5:=AutoSeq1.sub_list_tuple;have hz:(xs ++ ys).size≤sizeLine + 1:=by rw[Array.size_append]; exact hs2
  wp_walk using(wpAny_updateSeq hl rfl (hz:=hs1) (_hz':=hz)),wpAny_loadPart' hl,wpAny_loadPart' hb
  exact⟨_,rfl,h⟩
section
variable {X:Cx}{K:ζc}
def ZB(K:ζc):V→List V→Hp→VK→Prop:=λx vs H Q=>∃l b xs zs,x=.ref l∧vs=[.ref b]∧H l=some (.lst xs)∧SqL K H b zs∧xs.length + zs.length≤sizeLine∧Q .non (upd H l (.lst (xs ++ zs)))
theorem VS:MtM X "list.extend" (ZB X.K):=by
 intro pins s σ H x vs v us Q I rx rv h;obtain⟨l,b,xs,zs,rfl,rfl,hH,hB,hz,q⟩:=h;cases rx;obtain⟨u,rfl,ru⟩:=rv.one;cases ru;obtain⟨z,its,n,r,hl,e⟩:=I.lstM hH;obtain⟨its2,r2,pl,_⟩:=I.list hB;have hl2:=r2.length;obtain⟨⟨c,dd,dt,sl⟩,ho,hc,n2,hd⟩:=pl.isList;simp only at hc hd;subst hc hd;have hsz:its.toArray.size + its2.toArray.size≤sizeLine:=by rw[ζO,ζO]; omega
 have hlong:¬(!its.toArray.isEmpty && Builtin.List.listTooLong (its.toArray.size + its2.toArray.size))=true:=by
  rw[WX hsz,Bool.and_false];exact ζF
 refine call_meets F.slot_list_extend ⟨_,e,rfl⟩ F.entry_list_extend (F.args_list_extend_2 _ _) (XJ l b its.toArray its2.toArray n n2 dd sl hlong (by rw[ζO]; omega) ⋯) ⟨e,ho,?_⟩;refine⟨.non,_,I.lset (its':=its ++ its2) hH e (by simp) (r.append r2) ?_,rfl,q⟩
 rw[ζg];omega
theorem WZ(hK:X.K=K):MtM X "list.extend" (ZB K):=by subst hK; exact VS
end
end L2
namespace PD
open PySem L2
section
variable {K:ζc}{S S':Sx}{κ κ':Bool}{Γ Γ' Γ'':Ctx}{P:Post}
theorem Qh(h:GetC Γ i (.ow κ ds))(he:EvL K S κ te Γ es)(hz:ds.length + es.length≤sizeLine)(e:SetC Γ i (some (.ow κ (ds ++ es))) Γ')(k:P.nx Γ'):ExS K S (x6 (tBM K "list" (ZB K) (tVar i) (zX te tNil))) Γ P:=λH0 F0 H F σ B e1 bb vv D I=>by
 obtain⟨v0,q1,a,vs,rfl,w,q5⟩:=e1.has i _ h.eq;refine⟨_,q1,.inl ⟨rfl,_,SqL.of w.h⟩,he H0 F0 H F σ e1 _ λb us H1 F1 g p1 k1=>?_⟩
 have k':=zF g.f q5;refine⟨a,b,vs,us,rfl,rfl,g.h _ _ w.h,p1,by rw[zr.length q5,zr.length k1]; exact hz,?_⟩
 obtain rfl:=e.eq;exact I.nx _ _ _ F1 k (bb.trans g.f) ((e1.mono g).put (y:=.ow κ (ds ++ es)) h.eq q1 (show Owns H1 (.ref a) (.ow κ ds) a from rfl) ⟨a,_,rfl,⟨zp,(w.mono g).f,w.n,w.s⟩,zr.append k' k1⟩ λ_ z=>z)
theorem U6(h:GetC Γ i (.ow κ (ds ++ [d])))(hij:i≠j)(e1:SetC Γ i (some (.ow κ ds)) Γ')(e2:SetC Γ' j (some (.fz κ d)) Γ'')(k:P.nx Γ''):ExS K S (tAsg (tBM0 K "list" rPop (tVar i)) (yG j)) Γ P:=λH0 F0 H F σ B e bb vv D I=>by
 obtain⟨v0,q1,a,vs,rfl,w,q5⟩:=e.has i _ h.eq;have hl:=zr.length q5;rw[ζg]at hl;have hl:vs.length=ds.length + 1:=hl;obtain⟨v,hv,hr⟩:=zr.get q5 (i:=ds.length) (d:=d) (by rw[ξl (ζj _),ξ6]; rfl);have k1:zr K κ S H0 F vs.dropLast ds:=by
  have:=zr.take ds.length q5
  rwa [List.take_append_of_le_length (ζj _),ζ3,show ds.length=vs.length - 1 by omega,←List.dropLast_eq_take]at this
 refine⟨_,q1,.inl ⟨rfl,_,SqL.of w.h⟩,a,vs,v,rfl,rfl,w.h,by rw[show vs.length - 1=ds.length by omega]; exact hv,?_⟩
 have e3:=e.put (vs:=vs.dropLast) (y:=.ow κ ds) h.eq q1 (show Owns H (.ref a) (.ow κ (ds ++ [d])) a from rfl) ⟨a,_,rfl,⟨zp,w.f,w.n,w.s⟩,k1⟩ λ_ z=>z;rw[e1.eq]at e3;have e4:=e3.setF (i:=j) hr;rw[e2.eq]at e4;exact I.nx _ _ _ F k bb e4
end
end PD
namespace L2
open PySem PySem.Spec PyProof.Rows
section
variable {X:Cx}{K:ζc}
def rAny(K:ζc):List V→Hp→VK→Prop:=λxs H Q=>∃p,∃bs:List Bool,xs=[.ref p]∧SqL K H p (bs.map V.bl)∧Q (.bl (bs.any λb=>b)) H
theorem YW:∀(bs:List Bool) (f:Nat→Bool),(∀i b,bs[i]?=some b→f i=b)→(List.range bs.length).any f=bs.any λb=>b
 | [],_,_=>rfl
 | b :: r,f,h=>by
  have ih:=YW r (λi=>f (i + 1)) λi b' hb=>h (i + 1) b' (by simpa using hb);rw[ζ9,List.range_succ_eq_map,ξM,List.any_map,ξM,h 0 b rfl,←ih];rfl
theorem zbH(hc:X.calm=true):y8 X (.builtin "any") (rAny X.K):=by
 intro pins s σ H xs us Q I r h;obtain⟨p,bs,rfl,hq,q⟩:=h;obtain⟨u,rfl,rx⟩:=vk r;cases rx;obtain⟨its,r',pl,hz⟩:=I.list hq;have e:=Uk r';subst e;have hl:=pl.isList;refine call_any_walk (wpAny_pyIter_list hl ?_);have hne:p≠s.heap.objs.size:=by
  obtain⟨o,ho,_⟩:=hl;exact ζL (ζm ho)
 refine⟨s.heap.objs.size,_,_,_,_,_,λi=>bs.getD i false,rfl,Walks.list (A:=X.A.in1) (I.ok.hd hc) _ p hne (bs.map Value.bool).toArray,⟨⟨_,ζt _ rfl,rfl,rfl⟩,hl.push _⟩,λi v s Q E hP hQ=>?_,λh' tk hk=>?_⟩
 ·have hP':(bs.map Value.bool)[i]?=some v:=by simpa using hP
  rw[ζo]at hP';cases eb:bs[i]? with
  | none=>rw[eb]at hP'; cases hP'
  | some b =>
   rw[eb]at hP';cases hP';have:bs.getD i false=b:=by rw[ζb,eb]; rfl
   have hQ':Q (bs.getD i false) s:=hQ;rw[this]at hQ';exact wpAny_truthy_bool hQ'
 ·have e:(List.range (bs.map Value.bool).toArray.size).any (λi=>bs.getD i false)=bs.any λb=>b:=by
   rw[ζO,ζa];exact YW bs _ λi b hb=>by rw[ζb,hb]; rfl
  rw[e];exact⟨.bl _,H,I.kept λb o eb=>hk b o (by simpa using Nat.ne_of_lt (Heap.lt_size eb)) (Heap.get?_push_of_some _ eb),rfl,q⟩
theorem Qx(hK:X.K=K)(hc:X.calm=true):y8 X (.builtin "any") (rAny K):=by subst hK; exact zbH hc
end
end L2
namespace PD
open PySem L2
section
variable {K:ζc}{S S':Sx}{κ κ':Bool}{Γ Γ' Γ'':Ctx}{P:Post}{E:XK}
theorem zeV{ta:TE}{bs:List Bool}(h:EvL K S false ta Γ (bs.map .bool)):EvE K S κ (tCB (rAny K) (zX ta tNil)) Γ (.bool (bs.any λb=>b)):=λH0 F0 H F σ e Q q =>
 h H0 F0 H F σ e _ λa vs H1 F1 g1 p1 k1=>by
  cases u5 (zM k1);exact⟨a,bs,rfl,p1,q _ H1 F1 g1 (.bl _)⟩
end
end PD
namespace L2
open PySem PySem.Spec PyProof.Rows PySem.Calls
section
variable {κ:Type}[DecidableEq κ]
def valV(kvs:List (κ×V))(k:κ):Option V:=(kvs.find? λkv=>decide (kv.1=k)).map (·.2)
def putK(kvs:List (κ×V))(k:κ)(v:V):List (κ×V) :=
 if(kvs.any λkv=>decide (kv.1=k))=true then kvs.map (λkv=>if kv.1=k then(kv.1,v)else kv)else kvs ++ [(k,v)]
theorem yV{p:κ×V}{r:List (κ×V)}{k:κ}(e:p.1=k):valV (p :: r) k=some p.2:=by simp[valV,List.find?_cons,e]
theorem yW{p:κ×V}{r:List (κ×V)}{k:κ}(e:¬p.1=k):valV (p :: r) k=valV r k:=by simp[valV,List.find?_cons,e]
theorem uw(k:κ):∀kvs:List (κ×V),(kvs.any λkv=>decide (kv.1=k))=(valV kvs k).isSome
 | []=>rfl
 | p :: r=>by
  rw[ξM];by_cases e:p.1=k
  ·simp only[yV e,decide_eq_true e,Bool.true_or,Option.isSome_some]
  ·rw[yW e,decide_eq_false e,Bool.false_or]; exact uw k r
theorem Wh(k j:κ)(y:V):∀kvs:List (κ×V),valV (kvs.map λkv=>if kv.1=k then(kv.1,y)else kv) j=(valV kvs j).map λx=>if j=k then y else x
 | []=>rfl
 | p :: r=>by
  have ih:=Wh k j y r;rw[ζH];by_cases h:p.1=k
  ·rw[if_pos h];by_cases e:p.1=j
   ·rw[yV (p:=(p.1,y)) e,yV e,Option.map_some,if_pos (e.symm.trans h)]
   ·rw[yW (p:=(p.1,y)) e,yW e,ih]
  ·rw[if_neg h];by_cases e:p.1=j
   ·rw[yV (p:=p) e,yV e,Option.map_some,if_neg (λz=>h (e.trans z))]
   ·rw[yW (p:=p) e,yW e,ih]
theorem Yn(k j:κ)(y:V):∀kvs:List (κ×V),valV kvs k=none→valV (kvs ++ [(k,y)]) j=if j=k then some y else valV kvs j
 | [],_=>by
  by_cases e:k=j
  ·rw[if_pos e.symm]; exact yV (p:=(k,y)) e
  ·rw[if_neg (λz=>e z.symm)]; exact yW (p:=(k,y)) e
 | p :: r,hn=>by
  rw[List.cons_append];have hk:¬p.1=k:=λz=>by rw[yV z]at hn; cases hn
  rw[yW hk]at hn;have ih:=Yn k j y r hn;by_cases e:p.1=j
  ·rw[yV e,yV e,if_neg (λz=>hk (e.trans z))]
  ·rw[yW e,yW e,ih]
theorem Wg(kvs:List (κ×V))(k j:κ)(y:V):valV (putK kvs k y) j=if j=k then some y else valV kvs j:=by
 unfold putK;by_cases a:(kvs.any λkv=>decide (kv.1=k))=true
 ·rw[if_pos a,Wh];rw[uw]at a;by_cases e:j=k
  ·obtain⟨x,hx⟩:=ξO.mp a;rw[if_pos e,e,hx,Option.map_some,if_pos rfl]
  ·rw[if_neg e];cases valV kvs j with
   | none=>rfl
   | some x=>rw[Option.map_some,if_neg e]
 ·rw[if_neg a];refine Yn k j y kvs ?_;rw[uw]at a;cases q:valV kvs k with
  | none=>rfl
  | some x=>rw[q]at a; exact(a rfl).elim
theorem wj(kvs:List (κ×V))(k:κ)(v:V):(putK kvs k v).length≤kvs.length + 1:=by
 unfold putK;split
 ·rw[ζa]; omega
 ·rw[ζg,ζ9,List.length_nil]; omega
theorem RelO.isSome_eq(r:RelO o u):o.isSome=u.isSome:=by
 cases o with
 | none=>cases u with
  | none=>rfl
  | some _=>exact(show False from r).elim
 | some _=>cases u with
  | none=>exact(show False from r).elim
  | some _=>rfl
theorem RelO.getD(r:RelO o u)(rd:RelV d d'):RelV (o.getD d) (u.getD d'):=by
 cases o with
 | none=>cases u with
  | none=>exact rd
  | some _=>exact(show False from r).elim
 | some _=>cases u with
  | none=>exact(show False from r).elim
  | some _=>exact r
theorem KV.val{kvs:List (κ×V)}{vs:List (κ×Value)}(r:KV kvs vs)(k:κ):RelO (valV kvs k) (valueAt vs k):=by
 unfold KV at r;induction r with
 | nil=>exact True.intro
 | @cons p q ps qs h t ih =>
  obtain⟨h1,h2⟩:=h;by_cases e:p.1=k
  ·have e':q.1=k:=h1.symm.trans e;have b:valueAt (q :: qs) k=some q.2:=by simp[valueAt,List.find?_cons,e']
   rw[yV e,b]; exact h2
  ·have e':¬q.1=k:=λz=>e (h1.trans z);have b:valueAt (q :: qs) k=valueAt qs k:=by simp[valueAt,List.find?_cons,e']
   rw[yW e,b]; exact ih
theorem KV.any(r:KV kvs vs)(k:κ):(kvs.any λkv=>decide (kv.1=k))=vs.any λkv=>decide (kv.1=k):=by
 unfold KV at r;induction r with
 | nil=>rfl
 | cons h t ih=>rw[ξM,ξM,ih,h.1]
theorem KV.repl(r:KV kvs vs)(k:κ)(ry:RelV y u):
  KV (kvs.map λkv=>if kv.1=k then(kv.1,y)else kv) (vs.map λkv=>if kv.1=k then(kv.1,u)else kv):=by
 unfold KV at r ⊢;induction r with
 | nil=>exact .nil
 | @cons p q ps qs h t ih =>
  rw[ζH,ζH];refine .cons ?_ ih;obtain⟨h1,h2⟩:=h;by_cases e:p.1=k
  ·rw[if_pos e,if_pos (h1.symm.trans e)]; exact⟨h1,ry⟩
  ·rw[if_neg e,if_neg (λz=>e (h1.trans z))]; exact⟨h1,h2⟩
theorem KV.put(r:KV kvs vs)(k:κ)(ry:RelV y u):KV (putK kvs k y) (stored vs k u):=by
 unfold putK stored;rw[r.any k];by_cases e:(vs.any λkv=>decide (kv.1=k))=true
 ·rw[if_pos e,if_pos e]; exact r.repl k ry
 ·rw[if_neg e,if_neg e]; exact Paired.snoc r ⟨rfl,ry⟩
theorem KV.length(r:KV kvs vs):kvs.length=vs.length:=Paired.length r
end
theorem YD(r:RelV (kV k) u):(yO P w).is k u=true:=by
 cases k with
 | inl i=>obtain⟨t,e⟩:=(show∃t,u=Value.int i t from r); subst e; exact W2 P w i t
 | inr x=>obtain⟨t,e⟩:=(show∃t,u=Value.str x t from r); subst e; exact W0 P w x t
theorem YE:∀{ks:List Key} {us:AK},Vals (ks.map kV) us→ItemsAre (yO P w) ks us
 | [],_,r=>by rw[List.map_nil]at r; cases r; exact .nil
 | k :: ks,_,r=>by
  rw[ζH]at r;cases r with
  | cons h t=>exact .cons (YD h) (YE t)
abbrev KT(H:Hp):List (List Key×V)→List (List Key×Addr×Value)→Prop:=Paired λp q=>p.1=q.1∧Za H q.2.1 (p.1.map kV)∧RelV p.2 q.2.2
theorem KT.val{H:Hp}{kvs:List (List Key×V)}{xs:List (List Key×Addr×Value)}(r:KT H kvs xs)(k:List Key):RelO (valV kvs k) ((atKey xs k).map (·.2)):=by
 induction r with
 | nil=>exact True.intro
 | @cons p q ps qs h t ih =>
  obtain⟨h1,_,h2⟩:=h;by_cases e:p.1=k
  ·have e':q.1=k:=h1.symm.trans e;have b:atKey (q :: qs) k=some q.2:=by simp[atKey,List.find?_cons,e']
   rw[yV e,b]; exact h2
  ·have e':¬q.1=k:=λz=>e (h1.trans z);have b:atKey (q :: qs) k=atKey qs k:=by simp[atKey,List.find?_cons,e']
   rw[yW e,b]; exact ih
theorem KT.repl(r:KT H kvs xs)(k:List Key)(ry:RelV y u):
  KT H (kvs.map λkv=>if kv.1=k then(kv.1,y)else kv) (xs.map (putAt k u)):=by
 induction r with
 | nil=>exact .nil
 | @cons p q ps qs h t ih =>
  rw[ζH,ζH];refine .cons ?_ ih;obtain⟨h1,h2,h3⟩:=h;unfold putAt;by_cases e:p.1=k
  ·rw[if_pos e,if_pos (h1.symm.trans e)]; exact⟨h1,h2,ry⟩
  ·rw[if_neg e,if_neg (λz=>e (h1.trans z))]; exact⟨h1,h2,h3⟩
theorem KT.put(r:KT H kvs xs)(k:List Key)(hb:Za H b (k.map kV))(ry:RelV y u):
  KT H (putK kvs k y) (storedH xs k b u):=by
 have e:(kvs.any λkv=>decide (kv.1=k))=(atKey xs k).isSome:=by
  rw[uw,(r.val k).isSome_eq,Option.isSome_map]
 unfold putK storedH;rw[e];by_cases q:(atKey xs k).isSome=true
 ·rw[if_pos q,if_pos q]; exact r.repl k ry
 ·rw[if_neg q,if_neg q]; exact Paired.snoc r ⟨rfl,hb,ry⟩
theorem KT.keeps(r:KT H kvs xs)(ht:∀b ys,Za H b ys→Za H' b ys):KT H' kvs xs :=
 Paired.mapP r λ_ _ z=>⟨z.1,ht _ _ z.2.1,z.2.2⟩
section
variable {P:Program}{w:World}{H:Hp}{h:Heap}{a:Addr}
theorem zag(ok:HOk P w H h)(e:Rd H a u):yA P w H h a u:=e.ok ok
theorem ZY(ok:HOk P w H h)(e:Rd H a (.dK kvs)):kvs.length≤sizeLine∧(a == sysModules)=false∧∃vs,KV kvs vs∧h.DictOf (yO P w) a vs :=
 show yA P w H h a (.dK kvs)from zag ok e
theorem zfE(ok:HOk P w H h)(e:H a=some (.dK kvs)):kvs.length≤sizeLine∧(a == sysModules)=false∧∃vs,KV kvs vs∧h.DictOf (yO P w) a vs:=ZY ok (.inl e)
theorem QO(ok:HOk P w H h)(e:Rd H a (.tup ys)):Za H a ys:=by
 rcases e with e | ⟨o,e⟩
 ·exact .inl e
 ·obtain⟨h0,_,its,r,ob,h1,h2,n,h3⟩:=(show yA P w H h a (.frz o (.tup ys))from ok a _ e)
  rw[h0]at h1;cases h1;exact .inr ⟨o,λv z=>(by rw[h3]at z; cases z),e⟩
theorem Za.rd(e:Za H a ys):Rd H a (.tup ys):=e.imp id λ⟨o,_,q⟩=>⟨o,q⟩
theorem tK(ok:HOk P w H h)(e:Rd H a (.tup (ks.map kV))):(tupleKind (yO P w)).is h ks a:=by
 obtain⟨_,its,r,o,h1,h2,n,h3⟩:=(show yA P w H h a (.tup (ks.map kV))from zag ok e)
 exact⟨o,its.toArray,n,h1,h2,h3,by simpa using YE r⟩
theorem ZV(ok:HOk P w H h)(e:Rd H a (.dT kvs)):kvs.length≤sizeLine∧(a == sysModules)=false∧
  ∃xs,KT H kvs xs∧h.DictOfH (tupleKind (yO P w)) a xs:=by
 obtain⟨z,y,xs,r,o,es,ep,h1,h2,h3,h4,h5⟩:=(show yA P w H h a (.dT kvs)from zag ok e)
 refine⟨z,y,xs,r,o,es,ep,h1,h2,h3,h4,λx hx=>?_,h5⟩
 have all:∀{l:List (List Key×V)} {m:List (List Key×Addr×Value)},KT H l m→∀x∈m,(tupleKind (yO P w)).is h x.1 x.2.1:=by
  intro l m q;induction q with
  | nil=>intro x hx; exact nomatch hx
  | @cons p q ps qs hq t ih =>
   intro x hx;rcases ζC.mp hx with e | hx
   ·subst e;exact tK ok (by rw[←hq.1]; exact hq.2.1.rd)
   ·exact ih x hx
 exact all r x hx
theorem zfD(ok:HOk P w H h)(e:H a=some (.dT kvs)):kvs.length≤sizeLine∧(a == sysModules)=false∧
  ∃xs,KT H kvs xs∧h.DictOfH (tupleKind (yO P w)) a xs:=ZV ok (.inl e)
end
def DGet(H:Hp)(a:Addr)(y:V)(r:Option V):Prop :=
 (∃kvs k,Rd H a (.dK kvs)∧y=kV k∧r=valV kvs k)∨∃kvs k b,Rd H a (.dT kvs)∧y=.ref b∧Rd H b (.tup (k.map kV))∧r=valV kvs k
def DPut(H:Hp)(a:Addr)(y v:V)(H':Hp):Prop :=
 (∃kvs k,H a=some (.dK kvs)∧y=kV k∧kvs.length < sizeLine∧H'=upd H a (.dK (putK kvs k v)))∨
 ∃kvs k b,H a=some (.dT kvs)∧y=.ref b∧Rd H b (.tup (k.map kV))∧kvs.length < sizeLine∧H'=upd H a (.dT (putK kvs k v))
theorem DGet.k{H:Hp}{a:Addr}{kvs:List (Key×V)}{k:Key}(e:H a=some (.dK kvs)):DGet H a (kV k) (valV kvs k):=.inl ⟨kvs,k,.inl e,rfl,rfl⟩
theorem DGet.t{H:Hp}{a b:Addr}{kvs:List (List Key×V)}{k:List Key}(e:H a=some (.dT kvs))(eb:Rd H b (.tup (k.map kV))):DGet H a (.ref b) (valV kvs k):=.inr ⟨kvs,k,b,.inl e,rfl,eb,rfl⟩
theorem DPut.k{H:Hp}{a:Addr}{kvs:List (Key×V)}{k:Key}{v:V}(e:H a=some (.dK kvs))(hl:kvs.length < sizeLine):DPut H a (kV k) v (upd H a (.dK (putK kvs k v))):=.inl ⟨kvs,k,e,rfl,hl,rfl⟩
theorem DPut.t{H:Hp}{a b:Addr}{kvs:List (List Key×V)}{k:List Key}{v:V}(e:H a=some (.dT kvs))(eb:Rd H b (.tup (k.map kV)))(hl:kvs.length < sizeLine):
  DPut H a (.ref b) v (upd H a (.dT (putK kvs k v))):=.inr ⟨kvs,k,b,e,rfl,eb,hl,rfl⟩
section
variable {X:Cx}{pins:AL}{σ:St}{H:Hp}{s:Shared}{a:Addr}{y v:V}{u r:Value}{o:Option V}{A:Around}{E:AN}
theorem Inv.big(I:Inv X pins σ H s):sysModules < s.heap.objs.size:=by
 have h:mainGlobals < s.heap.objs.size:=(I.mod.glob.keeps I.bk).lt;exact Nat.lt_trans #[2] h
theorem Qp(hu:A.units + 1 < cLine)(I:Inv X pins σ H s)(g:DGet H a y (some v))(ry:RelV y u)(h:∀w' s',Inv X pins σ H s'→RelV v w'→Q w' s'):
  wpAny (model X.prog X.w) A (getItem (.ref a) u) Q E s:=by
 rcases g with⟨kvs,k,e,ey,l⟩ | ⟨kvs,k,b,e,ey,eb,l⟩
 ·subst ey;obtain⟨z,hd,vs,rel,dd⟩:=ZY I.hok e;obtain⟨w',hw,rw'⟩:=RelO.some_of (v:=v) (o:=valueAt vs k) (by rw[l]; exact rel.val k);exact wpAny_getItem_of (YD ry) dd.mapOf hw (h w' _ (I.tok _) rw')
 ·subst ey;cases(show u=Value.ref b from ry);obtain⟨z,hd,xs,rel,dd⟩:=ZV I.hok e;obtain⟨w',hw,rw'⟩:=RelO.some_of (v:=v) (o:=(atKey xs k).map (·.2)) (by rw[l]; exact rel.val k);obtain⟨p,hp,hp2⟩:=ξi.mp hw;refine wpAny_getItem_heap (tupleKind_room_in1 hu) (tK I.hok eb) dd hp ?_;rw[hp2];exact h w' _ (I.tok _) rw'
theorem d_in(hu:A.units + 1 < cLine)(I:Inv X pins σ H s)(g:DGet H a y o)(ry:RelV y u)(h:∀s',Inv X pins σ H s'→Q (.bool o.isSome) s'):
  wpAny (model X.prog X.w) A (compareOp .In u (.ref a)) Q E s:=by
 rcases g with⟨kvs,k,e,ey,l⟩ | ⟨kvs,k,b,e,ey,eb,l⟩
 ·subst ey;obtain⟨z,hd,vs,rel,dd⟩:=ZY I.hok e;refine wpAny_in_of (YD ry) hd dd.mapOf ?_;rw[←(rel.val k).isSome_eq,←l];exact h _ (I.tok _)
 ·subst ey;cases(show u=Value.ref b from ry);obtain⟨z,hd,xs,rel,dd⟩:=ZV I.hok e;refine wpAny_in_heap (tupleKind_room_in1 hu) (tK I.hok eb) hd dd ?_;have q:=(rel.val k).isSome_eq;rw[Option.isSome_map]at q;rw[←q,←l];exact h _ (I.tok _)
theorem zda(hu:A.units + 1 < cLine)(I:Inv X pins σ H s)(g:DGet H a y o)(ry:RelV y u)(h:∀s',Inv X pins σ H s'→Q (.bool (!o.isSome)) s'):
  wpAny (model X.prog X.w) A (compareOp .NotIn u (.ref a)) Q E s:=by
 rcases g with⟨kvs,k,e,ey,l⟩ | ⟨kvs,k,b,e,ey,eb,l⟩
 ·subst ey;obtain⟨z,hd,vs,rel,dd⟩:=ZY I.hok e;refine wpAny_notIn_of (YD ry) hd dd.mapOf ?_;rw[←(rel.val k).isSome_eq,←l];exact h _ (I.tok _)
 ·subst ey;cases(show u=Value.ref b from ry);obtain⟨z,hd,xs,rel,dd⟩:=ZV I.hok e;refine wpAny_notIn_heap (tupleKind_room_in1 hu) (tK I.hok eb) hd dd ?_;have q:=(rel.val k).isSome_eq;rw[Option.isSome_map]at q;rw[←q,←l];exact h _ (I.tok _)
theorem Tg{t':Nat}(I:Inv X pins σ H s)(mu:Mut (H a))(hs:Heap.SameBut a s.heap h')(he:∃q,h'.get? a=some q)(new:yA X.prog X.w (upd H a ob) h' a ob):
  Inv X pins σ (upd H a ob) { s with heap:=h',toks:=t' } :=
 I.write (x:=a) (e:=a) mu (.inl rfl) (λb q hb z=>(hs.2 b hb).trans z) he new
theorem ze0(z:kvs.length≤sizeLine)(hd:(a == sysModules)=false)(rel:KV kvs vs)(dd:h'.DictOf (yO P w) a vs):
  yA P w H' h' a (.dK kvs):=⟨z,hd,vs,rel,dd⟩
theorem Qo(hu:A.units + 1 < cLine)(I:Inv X pins σ H s)(g:DPut H a y v H')(ry:RelV y u)(rv:RelV v r)(h:∀s',Inv X pins σ H' s'→Q () s'):
  wpAny (model X.prog X.w) A (setItem (.ref a) u r) Q E s:=by
 rcases g with⟨kvs,k,e,ey,l,eH⟩ | ⟨kvs,k,b,e,ey,eb,l,eH⟩
 ·subst ey eH;obtain⟨z,hd,vs,rel,dd⟩:=zfE I.hok e;have hz:vs.length≤sizeLine:=by rw[←rel.length]; exact z
  have hl:(putK kvs k v).length≤sizeLine:=by have:=wj kvs k v; omega
  refine wpAny_setItem_pairs (hsz:=hz) (YD ry) dd λh' dd' hs=>h _ ?_;have he:∃q,h'.get? a=some q:=let⟨q,_,_,hq,_⟩:=dd'; ⟨q,hq⟩;exact Tg I (by rw[e]; exact True.intro) hs he (ze0 hl hd (rel.put k rv) dd')
 ·subst ey eH;cases(show u=Value.ref b from ry);obtain⟨z,hd,xs,rel,dd⟩:=zfD I.hok e;have hz:xs.length≤sizeLine:=by rw[←Paired.length rel]; exact z
  have hl:(putK kvs k v).length≤sizeLine:=by have:=wj kvs k v; omega
  refine wpAny_setItem_heap (hsz:=hz) (tupleKind_room_in1 hu) (tK I.hok eb) dd λh' dd' hs=>h _ ?_;obtain⟨q,es,ep,hq,h2,h3,h4,_,h5⟩:=dd';refine Tg I (by rw[e]; exact True.intro) hs ⟨q,hq⟩ ⟨hl,hd,_,(rel.put k (QO I.hok eb) rv).keeps λc ys ec=>?_,q,es,ep,hq,h2,h3,h4,h5⟩;exact ec.imp (λy=>by rw[zC (zdB y e (λz=>nomatch z))]; exact y) λ⟨o,n,y⟩=>⟨o,n,by rw[zC (zdB y e (λz=>nomatch z))]; exact y⟩
end
section
variable {X:Cx}{pins:AL}{σ:St}{H:Hp}{s:Shared}{a:Addr}{kvs:List (Key×V)}{k:Key}{u:Value}{A:Around}{E:AN}
end
def NoSl(i:Expr):Prop:=∀ov iv,subscripted i false ov iv=operate [ov,iv] (getItem ov iv)
theorem zbU{prog:Program}{w:World}{A:Around}{E:AN}{s:Shared}{env:Env}{value slice:Expr}{pos:Pos}{T id:String}{Q:AN}
  (hl:typeLookup (.type T) "__getitem__" = pure (some (.builtin id))) (hs:NoSl slice)
  (h:wpAny (model prog w) A (eval value env) (λo s₁=>wpAny (model prog w) A (eval slice env) (λi s₂=>s₂.TypeIs o T∧wpAny (model prog w) A (getItem o i) Q E s₂) E s₁) E s) :
  wpAny (model prog w) A (eval (.Subscript value slice pos) env) Q E s:=by
 refine Subscript_ (wpAny_mono h (λo s₁ h₁=>wpAny_mono h₁ (λi s₂ h₂=>?_) λ_ _ x=>x) λ_ _ x=>x);obtain⟨hT,h₂⟩:=h₂;unfold subscriptTail;refine AA ?_;rw[getitemInPython_of_ne hT.not_modules];refine AA (wpAny_specialOf hT hl ?_);have fin:wpAny (model prog w) A (subscripted slice false o i) (λr s₃=>wpAny (model prog w) A (letTemporaryGo value o r >>= λ_=>pure r) Q E s₃) E s₂:=by
  rw[hs o i];exact wpAny_operating (wpAny_mono h₂ (λr s₃ h₃=>AA (wpAny_letTemporaryGo (AB h₃))) λ_ _ x=>x)
 first
  | exact AB (AA fin)
  | exact AA (AB (AA fin))
  | exact AA fin
theorem Vf(I:Inv X pins σ H s)(g:DGet H a y o):s.TypeIs (.ref a) "dict" := by
 rcases g with⟨kvs,k,e,_,_⟩ | ⟨kvs,k,b,e,_,_,_⟩
 ·obtain⟨_,_,vs,_,dd⟩:=ZY I.hok e;exact dd.typeIs
 ·obtain⟨_,_,xs,_,dd⟩:=ZV I.hok e;exact dd.typeIs
def zds(td ty:TE):TE:=λσ H Q=>td σ H λx H1=>ty σ H1 λy H2=>∃a v,x=.ref a∧DGet H2 a y (some v)∧Q v H2
def tDIn(ty td:TE):TE:=λσ H Q=>ty σ H λy H1=>td σ H1 λx H2=>∃a o,x=.ref a∧DGet H2 a y o∧Q (.bl o.isSome) H2
def Uo(ty td:TE):TE:=λσ H Q=>ty σ H λy H1=>td σ H1 λx H2=>∃a o,x=.ref a∧DGet H2 a y o∧Q (.bl (!o.isSome)) H2
def Uw(td ty tv:TE):TS:=λD σ H=>tv σ H λv H1=>td σ H1 λx H2=>ty σ H2 λy H3=>∃a H4,x=.ref a∧DPut H3 a y v H4∧D.nx σ H4
section
variable {X:Cx}{o i e value:Expr}{pos pos' tpos:Pos}{td ty tv:TE}
theorem zcs(hu:X.A.units + 1 < cLine)(ho:PE X o td)(hi:PE X i ty)(hs:NoSl i):PE X (.Subscript o i pos) (zds td ty):=by
 intro pins s σ H Q I h;refine zbU PySem.F.slot_dict_getitem.lookup hs (thn (ho pins s σ H _ I h) λu s1 ⟨x,H1,I1,rx,q1⟩=>thn (hi pins s1 σ H1 _ I1 q1) λiv s2 ⟨y,H2,I2,ry,a,v,ex,g,q2⟩=>?_);subst ex;obtain rfl:u=Value.ref a:=rx;exact⟨Vf I2 g,Qp hu I2 g ry λw' s3 I3 rw'=>⟨v,H2,I3,rw',q2⟩⟩
theorem zei(hu:X.A.units + 1 < cLine)(hi:PE X i ty)(ho:PE X o td):PC X .In i o (tDIn ty td):=by
 intro pins s σ H Q I h;refine thn (hi pins s σ H _ I h) λiv s1 ⟨y,H1,I1,ry,q1⟩=>thn (ho pins s1 σ H1 _ I1 q1) λu s2 ⟨x,H2,I2,rx,a,ov,ex,g,q2⟩=>?_;subst ex;obtain rfl:u=Value.ref a:=rx;exact d_in hu I2 g ry λs3 I3=>⟨.bl ov.isSome,H2,I3,rfl,q2⟩
theorem TU(hu:X.A.units + 1 < cLine)(hi:PE X i ty)(ho:PE X o td):PC X .NotIn i o (Uo ty td):=by
 intro pins s σ H Q I h;refine thn (hi pins s σ H _ I h) λiv s1 ⟨y,H1,I1,ry,q1⟩=>thn (ho pins s1 σ H1 _ I1 q1) λu s2 ⟨x,H2,I2,rx,a,ov,ex,g,q2⟩=>?_;subst ex;obtain rfl:u=Value.ref a:=rx;exact zda hu I2 g ry λs3 I3=>⟨.bl (!ov.isSome),H2,I3,rfl,q2⟩
theorem UE(hu:X.A.units + 1 < cLine)(ho:PE X o td)(hi:PE X i ty)(hv:PE X value tv)(hs:swapsWith value (some (.Subscript o i pos')) pos.line X.env=pure false):
  PS X (.Assign [.Subscript o i pos'] value pos) (Uw td ty tv):=by
 intro pins s σ H D I h;refine wpAny_Assign_Subscript (thn (hv pins s σ H _ I h) λr s1 ⟨v,H1,I1,rv,q1⟩=>thn (ho pins s1 σ H1 _ I1 q1) λu s2 ⟨x,H2,I2,rx,q2⟩=>thn (hi pins s2 σ H2 _ I2 q2) λiv s3 ⟨y,H3,I3,ry,a,H4,ex,g,q3⟩=>?_) hs;subst ex;obtain rfl:u=Value.ref a:=rx;exact Qo hu I3 g ry rv λs4 I4=>⟨σ,H4,I4,q3⟩
end
theorem zbx(h:Heap)(hb:sysModules < h.objs.size):yA P w H (h.push { cls:=.type "dict", data:=.dict #[] }) h.objs.size (.dK []) :=
 ⟨ξn _,beq_eq_false_iff_ne.mpr (Ne.symm (ζL hb)),[],.nil,Heap.DictOf.new h⟩
theorem zbv(h:Heap)(hb:sysModules < h.objs.size):yA P w H (h.push { cls:=.type "dict", data:=.dict #[] }) h.objs.size (.dT []) :=
 ⟨ξn _,beq_eq_false_iff_ne.mpr (Ne.symm (ζL hb)),[],.nil,_,#[],0,ζt _ rfl,⟨rfl,rfl,rfl⟩,rfl,rfl,ξZ⟩
def QW:TE:=λ_ H Q=>∀p,H p=none→Q (.ref p) (upd H p (.dK []))
def QV:TE:=λ_ H Q=>∀p,H p=none→Q (.ref p) (upd H p (.dT []))
section
variable {X:Cx}{pos:Pos}
theorem zax:PE X (.Dict [] [] pos) QW:=λpins s σ H Q I h =>
 wpAny_Dict_empty ⟨.ref s.heap.objs.size,_,I.laid (a:=s.heap.objs.size) (o:=.dK []) (t':=s.toks) (λ_ _ q=>ζe _ q) (ζj _) (zbx s.heap I.big),rfl,h _ (I.hok.fresh (ζj _))⟩
theorem zaw:PE X (.Dict [] [] pos) QV:=λpins s σ H Q I h =>
 wpAny_Dict_empty ⟨.ref s.heap.objs.size,_,I.laid (a:=s.heap.objs.size) (o:=.dT []) (t':=s.toks) (λ_ _ q=>ζe _ q) (ζj _) (zbv s.heap I.big),rfl,h _ (I.hok.fresh (ζj _))⟩
end
structure M2(X:Cx)(o:Expr)(m:Str)(apos:Pos)(e f:Expr)(cpos:Pos):Prop where
 base:attributeBase o m X.env (eval o X.env)=eval o X.env
 few:((backTo cpos (starEach [e,f] X.env)).all (λx=>!x.1) && (backToKw cpos (keywordEach [] X.env)).all (λx=>x.1.isSome)
  && decide (([e,f]:List Expr).length + ([]:List Keyword).length + (if([]:List Keyword).isEmpty then 0 else 1) < 30))=true
 line:(apos.endLine == cpos.line)=true
 trees:backTo cpos (starEach [e,f] X.env)=[(false,eval e X.env),(false,eval f X.env)]
def IsD(H:Hp)(a:Addr):Prop:=(∃kvs,Rd H a (.dK kvs))∨∃kvs,Rd H a (.dT kvs)
theorem zeE(I:Inv X pins σ H s)(d:IsD H a):
  s.TypeIs (.ref a) "dict"∧(∀b,Value.ref a=.ref b→∃ob,s.heap.get? b=some ob∧ob.dict=none)∧(a == sysModules)=false:=by
 rcases d with⟨kvs,e⟩ | ⟨kvs,e⟩
 ·obtain⟨_,hd,vs,_,dd⟩:=ZY I.hok e;refine⟨dd.typeIs,λb q=>?_,hd⟩
  cases q;obtain⟨ob,_,_,h1,h2,_⟩:=dd;exact⟨ob,h1,h2.2.1⟩
 ·obtain⟨_,hd,xs,_,dd⟩:=ZV I.hok e;refine⟨dd.typeIs,λb q=>?_,hd⟩
  cases q;obtain⟨ob,_,_,h1,h2,_⟩:=dd;exact⟨ob,h1,h2.2.1⟩
section
variable {X:Cx}{pins:AL}{σ:St}{H:Hp}{s:Shared}{a:Addr}{y d:V}{u r:Value}{o:Option V}{A:Around}{E:AN}
theorem ze1(hu:A.units + 1 < cLine)(I:Inv X pins σ H s)(g:DGet H a y o)(ry:RelV y u)(rd:RelV d r)(h:∀w' s',Inv X pins σ H s'→RelV (o.getD d) w'→Q w' s'):
  wpAny (model X.prog X.w) A (call (.builtin "dict.get") [.ref a,u,r]) Q E s:=by
 rcases g with⟨kvs,k,e,ey,l⟩ | ⟨kvs,k,b,e,ey,eb,l⟩
 ·subst ey;obtain⟨z,hd,vs,rel,dd⟩:=ZY I.hok e;refine call_meetsIn PySem.F.slot_dict_get dd.typeIs PySem.F.entry_dict_get (PySem.F.args_dict_get_3 _ _ _) (meets_dict_get_default (yO X.prog X.w) a (YD ry) hd r) ⟨_,dd.mapOf,h _ _ (I.tok _) ?_⟩;rw[l];exact(rel.val k).getD rd
 ·subst ey;cases(show u=Value.ref b from ry);obtain⟨z,hd,xs,rel,dd⟩:=ZV I.hok e;refine call_meetsIn PySem.F.slot_dict_get dd.typeIs PySem.F.entry_dict_get (PySem.F.args_dict_get_3 _ _ _) (meetsH_dict_get_default (tupleKind (yO X.prog X.w)) a b hd r) ⟨tupleKind_room_in1 hu,k,xs,tK I.hok eb,dd,h _ _ (I.tok _) ?_⟩;rw[l];exact(rel.val k).getD rd
end
def QX(td ty tx:TE):TE:=λσ H Q=>td σ H λx H1=>∃a,x=.ref a∧IsD H1 a∧ty σ H1 λy H2=>tx σ H2 λz H3=>∃o,DGet H3 a y o∧Q (o.getD z) H3
section
variable {X:Cx}{o e f:Expr}{apos cpos:Pos}{td ty tx:TE}
theorem zay(hu:X.A.units + 1 < cLine)(ho:PE X o td)(he:PE X e ty)(hf:PE X f tx)(m:M2 X o "get" apos e f cpos):PE X (.Call (.Attribute o "get" apos) [e,f] [] cpos) (QX td ty tx):=by
 intro pins s σ H Q I h;refine wpAny_Call_method m.base m.few m.line PySem.F.plainAttrs_dict PySem.F.slot_dict_get PySem.F.type_dict_get (thn (ho pins s σ H _ I h) λu s1 ⟨x,H1,I1,rx,a,ex,d,q1⟩=>?_);subst ex;obtain rfl:u=Value.ref a:=rx;obtain⟨t1,t2,_⟩:=zeE I1 d;refine⟨t1,t2,?_⟩
 rw[m.trees];refine Calls.callWith_builtin rfl (Calls.evalArgs_plain (Calls.spliced_cons (thn (he pins s1 σ H1 _ I1 q1) λiv s2 ⟨y,H2,I2,ry,q2⟩ =>
  Calls.spliced_cons (thn (hf pins s2 σ H2 _ I2 q2) λfv s3 ⟨z,H3,I3,rz,ov,g,q3⟩=>Calls.spliced_nil ?_))))
 exact ze1 hu I3 g ry rz λw' s4 I4 rw'=>⟨_,H3,I4,rw',q3⟩
end
section
variable {X:Cx}{pins:AL}{σ:St}{H:Hp}{s:Shared}{a:Addr}{kvs:List (Key×V)}{A:Around}{E:AN}
end
section
variable {X:Cx}{pins:AL}{σ:St}{H:Hp}{s:Shared}{a:Addr}{y:V}{u:Value}{A:Around}{E:AN}
end
end L2
namespace PD
open PySem L2
section
variable {K:ζc}{S S':Sx}{κ κ':Bool}{Γ Γ' Γ'':Ctx}{P:Post}{E:XK}
abbrev DTab:=List (Key×V)
def dGet(m:DTab)(k:Int):Option V:=valV m (.inl k)
def dPut(m:DTab)(k:Int)(v:V):DTab:=putK m (.inl k) v
theorem zbC(k:Int):dGet [] k=none:=rfl
theorem zbB(m:DTab)(k j:Int)(v:V):dGet (dPut m k v) j=if j=k then some v else dGet m j:=by
 unfold dGet dPut;rw[Wg];by_cases h:j=k
 ·rw[if_pos h,if_pos (by rw[h])]
 ·rw[if_neg h,if_neg (λz=>h (Sum.inl.inj z))]
theorem zbA(m:DTab)(k:Int)(v:V):(dPut m k v).length≤m.length + 1:=wj m _ v
def toV:AD→Option V
 | .int i=>some (.int i)
 | .bool b=>some (.bl b)
 | _=>none
theorem zd1(p:Rp K κ S H0 F v d)(h:toV d=some w):v=w:=by
 cases d with
 | int i=>cases yw p; exact ζr h
 | bool b=>cases tV p; exact ζr h
 | _=>cases h
theorem zcW(es:SetC Γ i (some (.od (.dK []))) Γ')(k:ExT K S S' u Γ' P):ExT K S S' (tSeq (tAsg QW (yG i)) u) Γ P:=λH0 F0 H F σ B e bb vv D I=>by
 refine λp hp=>?_;have g:Gr H F (upd H p (.dK [])) F:=.newO e.le hp _;have e1:=(e.mono g).set (i:=i) (v:=.ref p) (x:=.od (.dK [])) ⟨p,rfl,⟨zp,e.le.free hp,e.gr.h.free hp,e.out hp⟩⟩ λc oc j y w hj z hw o=>by
  cases(show V.ref p=.ref c from oc);exact e.newOwn g hp j y w z hw o
 rw[es.eq]at e1;exact k H0 F0 _ F _ B e1 bb vv D I
theorem zeU{i:Nat}{k:Int}(h:GetC Γ i (.od (.dK m)))(ha:EvE K S false ta Γ (.int k)):EvE K S κ (tDIn ta (tVar i)) Γ (.bool (dGet m k).isSome):=λH0 F0 H F σ e Q q=>ha H0 F0 H F σ e _ λv H1 F1 g1 p1=>by
 cases yw p1;obtain⟨v0,q1,a,rfl,w⟩:=(e.mono g1).has i _ h.eq;exact⟨_,q1,a,_,rfl,DGet.k (k:=.inl k) w.h,q _ H1 F1 g1 (.bl _)⟩
theorem Qm{i:Nat}{k:Int}(h:GetC Γ i (.od (.dK m)))(ha:EvE K S false ta Γ (.int k)):EvE K S κ (Uo ta (tVar i)) Γ (.bool (!(dGet m k).isSome)):=λH0 F0 H F σ e Q q=>ha H0 F0 H F σ e _ λv H1 F1 g1 p1=>by
 cases yw p1;obtain⟨v0,q1,a,rfl,w⟩:=(e.mono g1).has i _ h.eq;exact⟨_,q1,a,_,rfl,DGet.k (k:=.inl k) w.h,q _ H1 F1 g1 (.bl _)⟩
theorem zcV{i:Nat}{k:Int}(h:GetC Γ i (.od (.dK m)))(hv:EvE K S false tv Γ d)(hk:EvE K S false tk Γ (.int k))(hw:toV d=some w)(hz:m.length < sizeLine)(es:SetC Γ i (some (.od (.dK (dPut m k w)))) Γ')(kk:P.nx Γ'):ExS K S (Uw (tVar i) tk tv) Γ P:=λH0 F0 H F σ B e bb vv D I =>
 hv H0 F0 H F σ e _ λv H1 F1 g1 p1=>by
  cases zd1 p1 hw;obtain⟨v0,q1,a,rfl,o⟩:=(e.mono g1).has i _ h.eq;refine⟨_,q1,hk H0 F0 H1 F1 σ (e.mono g1) _ λv2 H2 F2 g2 p2=>?_⟩
  cases yw p2;have e2:=(e.mono g1).mono g2;have o2:=o.mono g2;refine⟨a,_,rfl,DPut.k (k:=.inl k) o2.h hz,?_⟩
  have e3:=e2.putO (oo:=.dK (dPut m k w)) (y:=.od (.dK (dPut m k w))) h.eq q1 (show Owns H2 (.ref a) (.od (.dK m)) a from rfl) ⟨a,rfl,⟨zp,o2.f,o2.n,o2.s⟩⟩ λ_ z=>z;rw[es.eq]at e3;exact I.nx _ _ _ F2 kk ((bb.trans g1.f).trans g2.f) e3
theorem zba(h:GetC Γ i (.od (.dK m)))(hv:EvE K S false tv Γ d)(hk:EvE K S false tk Γ (.int k))(hw:toV d=some w)(hz:m.length < sizeLine)(es:SetC Γ i (some (.od (.dK (dPut m k w)))) Γ')(kk:ExT K S S' u Γ' P):ExT K S S' (tSeq (Uw (tVar i) tk tv) u) Γ P:=yr (·=Γ') (zcV h hv hk hw hz es rfl) λ_ z=>z ▸ kk
end
end PD
namespace L2
open PySem PySem.Spec PyProof.Rows PySem.Calls
end L2
namespace PD
open PySem L2
section
variable {K:ζc}{S S':Sx}{κ κ':Bool}{Γ Γ' Γ'':Ctx}{P:Post}
abbrev PTab:=List (List Key×V)
end
section
variable {K:ζc}{S S':Sx}{κ κ':Bool}{Γ Γ' Γ'' Γ3:Ctx}{P:Post}
theorem zbc(h:EvE K S false te Γ d)(k:ExT K S S' u Γ P):ExT K S S' (tSeq (x6 te) u) Γ P:=yr (·=Γ) (zcY h rfl) λ_ z=>z ▸ k
end
end PD
namespace L2
open PySem PySem.Spec PyProof.Rows
abbrev At3(h:Heap)(T:Addr)(a b c:Value):Prop:=h.get? T=some { cls:=.type "tuple", data:=.seq #[a,b,c] }
section
variable {prog:Program}{w:World}{A:Around}{E:AN}{s:Shared}
theorem put3(t3:At3 s.heap T a b c)
  (go:∀h2,h2.get? T=some { cls:=.type "tuple", data:=.seq ((#[a,b,c]:Array Value).setIfInBounds k x) }→Heap.SameBut T s.heap h2→Q () { s with heap:=h2 }) :
  wpAny (model prog w) A (updateSeq T (·.setIfInBounds k x)) Q E s:=by
 refine wpAny_updateSeq t3 rfl (go _ ?_ (Heap.SameBut.update ..));rw[ξm _ t3 rfl];simp[Obj.mapSeq]
structure Z3(h:Heap)(n a b c:Addr)(f0:Value)(i:Nat)(x y z:Value):Prop where
 zo:IsZip h (n + 5) (n + 3) (n + 4) f0
 ti:At3 h (n + 3) (.ref n) (.ref (n + 1)) (.ref (n + 2))
 to:At3 h (n + 4) x y z
 i1:h.IsListIter n a i
 i2:h.IsListIter (n + 1) b i
 i3:h.IsListIter (n + 2) c i
abbrev zf(n:Addr):List Addr:=[n + 5,n + 3,n + 4,n,n + 1,n + 2]
theorem zbM{n a b c:Addr}{i:Nat}{xs ys zs:Array Value}{x y z u v t:Value}{Q:AN}(Z:Z3 s.heap n a b c .none i u v t)
  (na:∀d∈zf n,a≠d) (nb:∀d∈zf n,b≠d) (nc:∀d∈zf n,c≠d) (la:s.heap.IsList a xs) (lb:s.heap.IsList b ys) (lc:s.heap.IsList c zs)
  (hx:xs[i]?=some x) (hy:ys[i]?=some y) (hz:zs[i]?=some z)
  (go:∀h2,IsZip h2 (n + 5) (n + 3) (n + 4) (rawInt s.heap.objs.size)→At3 h2 (n + 4) x y z→h2.IsListIter n a (i + 1)→h2.IsListIter (n + 1) b (i + 1)→h2.IsListIter (n + 2) c (i + 1)→At3 h2 s.heap.objs.size x y z→
   (∀d o,d≠n + 5→d≠n + 4→d≠n→d≠n + 1→d≠n + 2→s.heap.get? d=some o→h2.get? d=some o)→Q (.ref s.heap.objs.size) { s with heap:=h2 }) :
  wpAny (model prog w) A (Builtin.«zip.__next__» ⟨[.ref (n + 5)],[]⟩) (λr s2=>∃k,r=.done (.ret k)∧Q k s2) E s:=by
 obtain⟨zo,ti,to,j1,j2,j3⟩:=Z;have e05:(n:Addr)≠n + 5:=ad ⋯;have e15:(n + 1:Addr)≠n + 5:=ad ⋯;have e25:(n + 2:Addr)≠n + 5:=ad ⋯;have e45:(n + 4:Addr)≠n + 5:=ad ⋯;have e04:(n:Addr)≠n + 4:=ad ⋯;have e14:(n + 1:Addr)≠n + 4:=ad ⋯;have e24:(n + 2:Addr)≠n + 4:=ad ⋯;have e01:(n:Addr)≠n + 1:=ad ⋯;have e02:(n:Addr)≠n + 2:=ad ⋯;have e12:(n + 1:Addr)≠n + 2:=ad ⋯;have a5:=na (n + 5) (by simp);have b5:=nb (n + 5) (by simp);have b4:=nb (n + 4) (by simp);have b0:=nb n (by simp);have c5:=nc (n + 5) (by simp);have c4:=nc (n + 4) (by simp);have c0:=nc n (by simp);have c1:=nc (n + 1) (by simp);show wpAny _ _ (field (.ref (n + 5)) 2 >>= _) _ _ _;refine AA (wpAny_field zo rfl (x:=.bool false) rfl ?_);show wpAny _ _ (field (.ref (n + 5)) 3 >>= _) _ _ _;refine AA (wpAny_field zo rfl (x:=.ref (n + 3)) rfl (AA (wpAny_seqItems ti rfl ?_)));show wpAny _ _ (Builtin.SmallTypes.ownedTupleIsFree (.ref (n + 5)) >>= _) _ _ _;refine AA ?_;unfold Builtin.SmallTypes.ownedTupleIsFree;refine AA (wpAny_field zo rfl (x:=.none) rfl (AB ?_));simp only[if_true];refine AA (wpAny_rule (AA (wpAny_field zo rfl (x:=.ref (n + 4)) rfl (AA (wpAny_setField_rec zo (by simp) λg1 z1 s1=>?_)))));replace z1:IsZip g1 (n + 5) (n + 3) (n + 4) .ellipsis:=z1;refine AA ?_;simp only[List.zipIdx_cons,List.zipIdx_nil,List.forIn_cons,List.forIn_nil];refine AA (AA (wpAny_onRaise ?_));show wpAny _ _ (Builtin.SmallTypes.nextOf (.ref n) >>= _) _ _ _;refine AA (wpAny_nextOf_list_item (j1.extBut s1.extBut e05) (la.extBut s1.extBut a5) hx λg2 k1 s2=>AB ?_);have t2:At3 g2 (n + 4) u v t:=s2.extBut _ _ e04.symm (s1.extBut _ _ e45 to);refine AA (wpAny_seqItems t2 rfl (AA (put3 t2 λg3 t3 s3=>?_)));replace t3:At3 g3 (n + 4) x v t:=t3;refine AA (wpAny_letGo (AB ?_));refine AA (AA (wpAny_onRaise ?_));show wpAny _ _ (Builtin.SmallTypes.nextOf (.ref (n + 1)) >>= _) _ _ _;have k2:=((j2.extBut s1.extBut e15).extBut s2.extBut e01.symm).extBut s3.extBut e14;have m2:=((lb.extBut s1.extBut b5).extBut s2.extBut b0).extBut s3.extBut b4;refine AA (wpAny_nextOf_list_item k2 m2 hy λg4 k2 s4=>AB ?_);have t4:At3 g4 (n + 4) x v t:=s4.extBut _ _ e14.symm t3;refine AA (wpAny_seqItems t4 rfl (AA (put3 t4 λg5 t5 s5=>?_)));replace t5:At3 g5 (n + 4) x y t:=t5;refine AA (wpAny_letGo (AB ?_));refine AA (AA (wpAny_onRaise ?_));show wpAny _ _ (Builtin.SmallTypes.nextOf (.ref (n + 2)) >>= _) _ _ _;have k3:=((((j3.extBut s1.extBut e25).extBut s2.extBut e02.symm).extBut s3.extBut e24).extBut s4.extBut e12.symm).extBut s5.extBut e24;have m3:=((((lc.extBut s1.extBut c5).extBut s2.extBut c0).extBut s3.extBut c4).extBut s4.extBut c1).extBut s5.extBut c4;refine AA (wpAny_nextOf_list_item k3 m3 hz λg6 k3 s6=>AB ?_);have t6:At3 g6 (n + 4) x y t:=s6.extBut _ _ e24.symm t5;refine AA (wpAny_seqItems t6 rfl (AA (put3 t6 λg7 t7 s7=>?_)));replace t7:At3 g7 (n + 4) x y z:=t7;refine AA (wpAny_letGo (AB (AB ?_)));refine AA (wpAny_seqItems t7 rfl (AA (wpAny_newTuple ?_)));have sz:g7.objs.size=s.heap.objs.size:=by rw[s7.1,s6.1,s5.1,s4.1,s3.1,s2.1,s1.1]
 have z7:IsZip g7 (n + 5) (n + 3) (n + 4) .ellipsis:=s7.extBut _ _ e45.symm (s6.extBut _ _ e25.symm (s5.extBut _ _ e45.symm (s4.extBut _ _ e15.symm (s3.extBut _ _ e45.symm (s2.extBut _ _ e05.symm z1)))));have kp:∀d o,d≠n + 5→d≠n + 4→d≠n→d≠n + 1→d≠n + 2→s.heap.get? d=some o→g7.get? d=some o:=λd o d5 d4 d0 d1 d2 e =>
  s7.extBut _ _ d4 (s6.extBut _ _ d2 (s5.extBut _ _ d4 (s4.extBut _ _ d1 (s3.extBut _ _ d4 (s2.extBut _ _ d0 (s1.extBut _ _ d5 e))))))
 have q1:g7.IsListIter n a (i + 1):=((((k1.extBut s3.extBut e04).extBut s4.extBut e01).extBut s5.extBut e04).extBut s6.extBut e02).extBut s7.extBut e04;have q2:g7.IsListIter (n + 1) b (i + 1):=((k2.extBut s5.extBut e14).extBut s6.extBut e12).extBut s7.extBut e14;have q3:g7.IsListIter (n + 2) c (i + 1):=k3.extBut s7.extBut e24;have zlt:n + 5 < g7.objs.size:=ζm z7;show wpAny _ _ (Builtin.SmallTypes.ownedTupleHandOut (.ref (n + 5)) (.ref g7.objs.size) >>= _) _ _ _;refine AA ?_;unfold Builtin.SmallTypes.ownedTupleHandOut;have z8:IsZip (g7.push { cls:=.type "tuple", data:=.seq #[x,y,z] }) (n + 5) (n + 3) (n + 4) .ellipsis:=ζe _ z7;refine AA (wpAny_setField_rec z8 (by simp) λg9 z9 s9=>?_);replace z9:IsZip g9 (n + 5) (n + 3) (n + 4) (rawInt g7.objs.size):=z9;refine wpAny_setField_rec z9 (by simp) λg10 z10 s10=>?_;replace z10:IsZip g10 (n + 5) (n + 3) (n + 4) (rawInt g7.objs.size):=z10;have up:∀d o,d≠n + 5→g7.get? d=some o→g10.get? d=some o:=λd o d5 e=>s10.extBut _ _ d5 (s9.extBut _ _ d5 (ζe _ e));have tn:At3 g10 g7.objs.size x y z:=s10.extBut _ _ (ξv zlt) (s9.extBut _ _ (ξv zlt) (ζt _ rfl));rw[sz]at z10 tn;refine AB ⟨_,rfl,?_⟩;show Q (.ref g7.objs.size) _;rw[sz];exact go g10 z10 (up _ _ e45 t7) (q1.at λo e=>up _ o e05 e) (q2.at λo e=>up _ o e15 e) (q3.at λo e=>up _ o e25 e) tn λd o d5 d4 d0 d1 d2 e=>up d o d5 (kp d o d5 d4 d0 d1 d2 e)
theorem zdS(hh:A.handled=none)(Z:Z3 s.heap n a b c .none i u v t)
  (na:∀d∈zf n,a≠d) (la:s.heap.IsList a xs) (hx:xs[i]?=none)
  (out:∀h2 e,(∀d o,d≠n + 5→d≠n→s.heap.get? d=some o→h2.get? d=some o)→(∃o,h2.get? e=some o∧o.cls=.type "StopIteration")→E (.ref e) { s with heap:=h2 }) :
  wpAny (model prog w) A (Builtin.«zip.__next__» ⟨[.ref (n + 5)],[]⟩) Q E s:=by
 obtain⟨zo,ti,to,j1,j2,j3⟩:=Z;have e05:(n:Addr)≠n + 5:=ad ⋯;have a5:=na (n + 5) (by simp);show wpAny _ _ (field (.ref (n + 5)) 2 >>= _) _ _ _;refine AA (wpAny_field zo rfl (x:=.bool false) rfl ?_);show wpAny _ _ (field (.ref (n + 5)) 3 >>= _) _ _ _;refine AA (wpAny_field zo rfl (x:=.ref (n + 3)) rfl (AA (wpAny_seqItems ti rfl ?_)));show wpAny _ _ (Builtin.SmallTypes.ownedTupleIsFree (.ref (n + 5)) >>= _) _ _ _;refine AA ?_;unfold Builtin.SmallTypes.ownedTupleIsFree;refine AA (wpAny_field zo rfl (x:=.none) rfl (AB ?_));simp only[if_true];refine AA (wpAny_rule (AA (wpAny_field zo rfl (x:=.ref (n + 4)) rfl (AA (wpAny_setField_rec zo (by simp) λg1 z1 s1=>?_)))));replace z1:IsZip g1 (n + 5) (n + 3) (n + 4) .ellipsis:=z1;refine AA ?_;simp only[List.zipIdx_cons,List.zipIdx_nil,List.forIn_cons,List.forIn_nil];refine AA (AA (wpAny_onRaise ?_));show wpAny _ _ (Builtin.SmallTypes.nextOf (.ref n) >>= _) _ _ _;refine AA (wpAny_nextOf_list_end hh (j1.extBut s1.extBut e05) (la.extBut s1.extBut a5) hx λg2 e s2 he=>?_);obtain⟨oe,hoe,ce⟩:=he;have z2:IsZip g2 (n + 5) (n + 3) (n + 4) .ellipsis:=s2 _ _ e05.symm z1;have ez:e≠n + 5:=λx=>by subst x; rw[z2]at hoe; cases hoe; simp at ce
 exact wpAny_setField_rec z2 (by simp) λg3 _ s3=>out g3 e (λd o d5 d0 x=>s3.extBut _ _ d5 (s2 _ _ d0 (s1.extBut _ _ d5 x))) ⟨oe,s3.extBut _ _ ez hoe,ce⟩
theorem zft(Z:Z3 s.heap n a b c .none i u v t)
  (na:∀d∈zf n,a≠d) (nb:∀d∈zf n,b≠d) (nc:∀d∈zf n,c≠d) (la:s.heap.IsList a xs) (lb:s.heap.IsList b ys) (lc:s.heap.IsList c zs)
  (hx:xs[i]?=some x) (hy:ys[i]?=some y) (hz:zs[i]?=some z)
  (go:∀h2,IsZip h2 (n + 5) (n + 3) (n + 4) (rawInt s.heap.objs.size)→At3 h2 (n + 4) x y z→h2.IsListIter n a (i + 1)→h2.IsListIter (n + 1) b (i + 1)→h2.IsListIter (n + 2) c (i + 1)→At3 h2 s.heap.objs.size x y z→
   (∀d o,d≠n + 5→d≠n + 4→d≠n→d≠n + 1→d≠n + 2→s.heap.get? d=some o→h2.get? d=some o)→Q (some (.ref s.heap.objs.size)) { s with heap:=h2 }) :
  wpAny (model prog w) A (pyNext (.ref (n + 5))) Q E s:=by
 have ty:s.TypeIs (.ref (n + 5)) "zip" := ⟨_,Z.zo,rfl⟩
 unfold pyNext;refine AA (wpAny_attempt (wpAny_callSpecial?_slot (name:=Str.ofString "__next__") ty F.slot_zip_next (wpAny_call_entry F.slot_zip_next ty F.entry_zip_next ?_ (F.args_zip_next_1 _))));refine zbM Z na nb nc la lb lc hx hy hz λh2 a1 a2 a3 a4 a5 a6 a7=>AB (go h2 a1 a2 a3 a4 a5 a6 a7)
theorem zfe(hh:A.handled=none)(Z:Z3 s.heap n a b c .none i u v t)
  (na:∀d∈zf n,a≠d) (la:s.heap.IsList a xs) (hx:xs[i]?=none)
  (out:∀h2,(∀d o,d≠n + 5→d≠n→s.heap.get? d=some o→h2.get? d=some o)→Q none { s with heap:=h2 }) :
  wpAny (model prog w) A (pyNext (.ref (n + 5))) Q E s:=by
 have ty:s.TypeIs (.ref (n + 5)) "zip" := ⟨_,Z.zo,rfl⟩
 unfold pyNext;refine AA (wpAny_attempt (wpAny_callSpecial?_slot (name:=Str.ofString "__next__") ty F.slot_zip_next (wpAny_call_entry F.slot_zip_next ty F.entry_zip_next ?_ (F.args_zip_next_1 _))));refine zdS hh Z na la hx λh2 e kp he=>?_;obtain⟨o,ho,hc⟩:=he;exact AA (wpAny_isInstance (T := "StopIteration") (b:=true) ⟨o,ho,hc⟩ isSubtype_stop (AB (out _ kp)))
abbrev zA1(h:Heap)(a:Addr):Heap:=h.push { cls:=.type "list_iterator", data:=.fields #[.ref a,.int 0 0] }
abbrev zA2(h:Heap)(a b:Addr):Heap:=zA1 (zA1 h a) b
abbrev zA3(h:Heap)(a b c:Addr):Heap:=zA1 (zA2 h a b) c
abbrev zA4(h:Heap)(a b c:Addr):Heap:=(zA3 h a b c).push { cls:=.type "tuple", data:=.seq #[.ref h.objs.size,.ref (zA1 h a).objs.size,.ref (zA2 h a b).objs.size] }
abbrev zA5(h:Heap)(a b c:Addr):Heap:=(zA4 h a b c).push { cls:=.type "tuple", data:=.seq #[.none,.none,.none] }
abbrev zA6(h:Heap)(a b c:Addr):Heap:=(zA5 h a b c).push { cls:=.type "zip", data:=.fields #[.none,.bool false,.bool false,.ref (zA3 h a b c).objs.size,.ref (zA4 h a b c).objs.size] }
theorem new3(a b c:Addr)(xs ys zs:Array Value):
  Meets (Builtin.«zip.__new__» ⟨[.type "zip", .ref a,.ref b,.ref c],[]⟩) (λ_ R s=>s.heap.IsList a xs∧s.heap.IsList b ys∧s.heap.IsList c zs∧
   R (.ok (.ret (.ref (zA5 s.heap a b c).objs.size))) { s with heap:=zA6 s.heap a b c }) :=
 .of_wp λprog w A R s h=>by
  obtain⟨hp,g,d,tk,os⟩:=s;obtain⟨la,lb,lc,h⟩:=h;have hsub:=sub_zip;have m1:Heap.IsList (Shared.heap ⟨hp,g,d,tk,os⟩) a xs:=la;have m2:Heap.IsList (Shared.heap ⟨zA1 hp a,g,d,tk,os⟩) b ys:=lb.push _;have m3:Heap.IsList (Shared.heap ⟨zA2 hp a b,g,d,tk,os⟩) c zs:=(lc.push _).push _
  wp_walk using wpAny_pyIter_list m1,wpAny_pyIter_list m2,wpAny_pyIter_list m3
  exact⟨_,rfl,h⟩
theorem Zr(a b c:Value):checkTypeCall "zip" ⟨[a,b,c],[]⟩=pure ():=by kernel_rfl
theorem Yi(a b c:Value):checkBuiltinCall "zip.__new__" ⟨[.type "zip", a,b,c],[]⟩=pure ():=by kernel_rfl
theorem Vn(a b c d:Value):argsOk "object.__init__" ⟨[a,b,c,d],[]⟩:=by
 unfold argsOk; rw[signature?_of (id := "object.__init__") (n:=['_','_','t','i','n','i','_','_']) (o:=['t','c','e','j','b','o'])
  (by kernel_rfl) F.owner_object]
 kernel_rfl
theorem Qr(la:s.heap.IsList a xs)(lb:s.heap.IsList b ys)(lc:s.heap.IsList c zs)
  (go:∀h2,Z3 h2 s.heap.objs.size a b c .none 0 .none .none .none→(∀d o,s.heap.get? d=some o→h2.get? d=some o)→Q (.ref (s.heap.objs.size + 5)) { s with heap:=h2 }) :
  wpAny (model prog w) A (call (.type "zip") [.ref a,.ref b,.ref c]) Q E s:=by
 refine callType_new F.called_zip #[2] (Zr _ _ _) (Yi _ _ _) (λobj=>Vn obj _ _ _) F.entry_zip_new (new3 a b c xs ys zs) ⟨la,lb,lc,?_⟩;have z1:(zA1 s.heap a).objs.size=s.heap.objs.size + 1:=ξQ ..;have z2:(zA2 s.heap a b).objs.size=s.heap.objs.size + 2:=by rw[ξQ,z1]
 have z3:(zA3 s.heap a b c).objs.size=s.heap.objs.size + 3:=by rw[ξQ,z2]
 have z4:(zA4 s.heap a b c).objs.size=s.heap.objs.size + 4:=by rw[ξQ,z3]
 have z5:(zA5 s.heap a b c).objs.size=s.heap.objs.size + 5:=by rw[ξQ,z4]
 have p1:(zA1 s.heap a).get? s.heap.objs.size=some _:=ζt _ rfl;have p2:(zA2 s.heap a b).get? (zA1 s.heap a).objs.size=some _:=ζt _ rfl;have p3:(zA3 s.heap a b c).get? (zA2 s.heap a b).objs.size=some _:=ζt _ rfl;have p4:(zA4 s.heap a b c).get? (zA3 s.heap a b c).objs.size=some _:=ζt _ rfl;have p5:(zA5 s.heap a b c).get? (zA4 s.heap a b c).objs.size=some _:=ζt _ rfl;have p6:(zA6 s.heap a b c).get? (zA5 s.heap a b c).objs.size=some _:=ζt _ rfl;have u3:∀d o,(zA3 s.heap a b c).get? d=some o→(zA6 s.heap a b c).get? d=some o:=λd o e=>ζe _ (ζe _ (ζe _ e));have g1:=u3 _ _ (ζe _ (ζe _ p1));have g2:=u3 _ _ (ζe _ p2);have g3:=u3 _ _ p3;have g4:(zA6 s.heap a b c).get? (zA3 s.heap a b c).objs.size=some _:=ζe _ (ζe _ p4);have g5:(zA6 s.heap a b c).get? (zA4 s.heap a b c).objs.size=some _:=ζe _ p5;show _∧_;rw[z3,z4,z5]at p6;rw[z1,z2,z3]at g4;rw[z4]at g5;rw[z1]at g2;rw[z2]at g3;rw[z5];exact⟨⟨_,p6,rfl⟩,go _ ⟨p6,g4,g5,⟨_,g1,rfl,rfl⟩,⟨_,g2,rfl,rfl⟩,⟨_,g3,rfl,rfl⟩⟩ λd o e=>u3 _ _ (ζe _ (ζe _ (ζe _ e)))⟩
end
def It3(K:ζc)(a b c:Addr):It :=
 ⟨λi H=>∃xs x ys y zs z,SqL K H a xs∧xs[i]?=some x∧SqL K H b ys∧ys[i]?=some y∧SqL K H c zs∧zs[i]?=some z,
  λi H x H'=>∃T u v t,H T=none∧x=.ref T∧H'=upd H T (.tup [u,v,t])∧(∀xs,SqL K H a xs→xs[i]?=some u)∧(∀ys,SqL K H b ys→ys[i]?=some v)∧∀zs,SqL K H c zs→zs[i]?=some t,
  λi H=>∃xs,SqL K H a xs∧xs.length≤i⟩
theorem UO(I:Inv X pins σ H s)(hf:∀b∈zf n,FpOk X pins H b)(hq:SqL X.K H c zs):∀d∈zf n,c≠d:=λd hd e=>by
 subst e;have hn:=(hf c hd).1;rcases hq with(q | ⟨o,q⟩) | ⟨o,its,m,q,_⟩
 ·rw[hn]at q; cases q
 ·rw[hn]at q; cases q
 ·have hb:X.base.get? c=some o:=I.ok.mod.kin c o q;rcases(hf c hd).2.2.2.1 with z | z
  ·exact I.ok.noex c o hb z
  ·exact absurd (ζA (ζm hb) (ζZ I.ok.bsz z)) (ξq _)
theorem Zo{n c:Addr}{R:Addr→Prop}(hc:c∈zf n)(h5:R (n + 5))(h3:R (n + 3))(h4:R (n + 4))(h0:R n)(h1:R (n + 1))(h2:R (n + 2)):R c:=by
 simp only[List.mem_cons,List.not_mem_nil,or_false]at hc;rcases hc with rfl | rfl | rfl | rfl | rfl | rfl <;> assumption
theorem Tr{P:Program}{w:World}{K:ζc}{es:List Expr}{k:Nat}{tpos:Pos}(a b c n:Addr):
  Turn P w K (.Tuple es k tpos) (It3 K a b c) (zf n) (n + 5) (λi h=>∃x y z,Z3 h n a b c .none i x y z) where
 mem:=by simp
 obj:=λi h st d hd=>by
  obtain⟨x,y,z,zo,ti,to,⟨o1,e1,_,d1⟩,⟨o2,e2,_,d2⟩,⟨o3,e3,_,d3⟩⟩:=st;refine Zo (R:=λd=>∃o,h.get? d=some o∧∀v,o.data≠.cell v) hd ?_ ?_ ?_ ?_ ?_ ?_
  ·exact⟨_,zo,λv z=>by have y:Data.fields _=Data.cell v:=z; cases y⟩
  ·exact⟨_,ti,λv z=>by have y:Data.seq _ _=Data.cell v:=z; cases y⟩
  ·exact⟨_,to,λv z=>by have y:Data.seq _ _=Data.cell v:=z; cases y⟩
  ·exact⟨_,e1,λv z=>by rw[d1]at z; cases z⟩
  ·exact⟨_,e2,λv z=>by rw[d2]at z; cases z⟩
  ·exact⟨_,e3,λv z=>by rw[d3]at z; cases z⟩
 keep:=λi h h' st k=>by
  obtain⟨x,y,z,zo,ti,to,j1,j2,j3⟩:=st;exact⟨x,y,z,k _ (by simp) _ zo,k _ (by simp) _ ti,k _ (by simp) _ to,j1.at λo e=>k _ (by simp) o e,j2.at λo e=>k _ (by simp) o e,j3.at λo e=>k _ (by simp) o e⟩
 item:=by
  intro X hP hw hK hc i pins s σ H E I hf st hg;subst hP hw hK;obtain⟨u0,v0,t0,Z⟩:=st;obtain⟨xs,x,ys,y,zs,z,hxs,hx,hys,hy,hzs,hz⟩:=hg;obtain⟨its,rx,px,zx⟩:=I.list hxs;obtain⟨jts,ry,py,zy⟩:=I.list hys;obtain⟨kts,rz,pz,zz⟩:=I.list hzs;obtain⟨u,hu,ru⟩:=rx.get hx;obtain⟨v,hv,rv⟩:=ry.get hy;obtain⟨t,ht,rt⟩:=rz.get hz;refine zft Z (UO I hf hxs) (UO I hf hys) (UO I hf hzs) px.isList py.isList pz.isList (x:=u) (y:=v) (z:=t) (by simpa using hu) (by simpa using hv) (by simpa using ht) λh' z' o' i1' i2' i3' t' kp=>?_;refine⟨_,rfl,wpAny_letOwnedTupleGo_zip z' λh'' z'' sb=>?_⟩
  have kp2:∀d o,d∉zf n→s.heap.get? d=some o→h''.get? d=some o:=λd o hd e =>
   (sb.2 d (λz=>hd (by simp[z]))).trans (kp d o (λz=>hd (by simp[z])) (λz=>hd (by simp[z])) (λz=>hd (by simp[z])) (λz=>hd (by simp[z])) (λz=>hd (by simp[z])) e)
  have lts:∀d∈zf n,d < s.heap.objs.size:=λd hd=>by
   obtain⟨_,e1,_⟩:=Z.i1;obtain⟨_,e2,_⟩:=Z.i2;obtain⟨_,e3,_⟩:=Z.i3;exact Zo (R:=λd=>d < s.heap.objs.size) hd (ζm Z.zo) (ζm Z.ti) (ζm Z.to) (ζm e1) (ζm e2) (ζm e3)
  have tz:s.heap.objs.size≠n + 5:=Nat.ne_of_gt (lts _ (by simp));have e05:(n:Addr)≠n + 5:=ad ⋯;have e15:(n + 1:Addr)≠n + 5:=ad ⋯;have e25:(n + 2:Addr)≠n + 5:=ad ⋯;have e35:(n + 3:Addr)≠n + 5:=ad ⋯;have e45:(n + 4:Addr)≠n + 5:=ad ⋯;refine⟨.ref s.heap.objs.size,upd H s.heap.objs.size (.tup [x,y,z]),I.turnNew (t':=s.toks) hf kp2 (ζj _) ?_,rfl,⟨_,x,y,z,I.hok.fresh (ζj _),rfl,rfl,λzs hq=>by rw[I.list_inj hq hxs]; exact hx,λzs hq=>by rw[I.list_inj hq hys]; exact hy,λzs hq=>by rw[I.list_inj hq hzs]; exact hz⟩,?_,λd hd=>?_⟩
  ·exact⟨by show 3≤sizeLine; decide,[u,v,t],.cons ru (.cons rv (.cons rt .nil)),⟨_,(sb.2 _ tz).trans t',rfl,_,rfl⟩⟩
  ·exact⟨_,_,_,z'',(sb.2 _ e35).trans (kp _ _ e35 (ad ⋯) (ad ⋯) (ad ⋯) (ad ⋯) Z.ti),(sb.2 _ e45).trans o',i1'.at λo e=>(sb.2 _ e05).trans e,i2'.at λo e=>(sb.2 _ e15).trans e,i3'.at λo e=>(sb.2 _ e25).trans e⟩
  ·rw[zC (ζL (lts d hd))];exact(hf d hd).1
 done:=by
  intro X hP hw hK hc i pins s σ H E I hf st hg;subst hP hw hK;obtain⟨u0,v0,t0,Z⟩:=st;obtain⟨xs,hxs,hl⟩:=hg;obtain⟨its,rx,px,zx⟩:=I.list hxs;have l1:=rx.length;have hend:its.toArray[i]?=none:=by simp; omega
  exact zfe (I.ok.hd hc) Z (UO I hf hxs) px.isList hend λh' kp=>⟨rfl,I.turnAll (t':=s.toks) hf λd o hd e=>kp d o (λz=>hd (by simp[z])) (λz=>hd (by simp[z])) e⟩
 self:=λ_ _ _ _ _ ⟨_,_,_,st⟩ h=>wpAny_pyIter_zip st.zo h
section
variable {X:Cx}
def zdG(K:ζc)(ta:TA):TI:=λσ H R=>ta σ H λvs H1=>∃a b c,vs=[.ref a,.ref b,.ref c]∧(∃xs,SqL K H1 a xs)∧(∃ys,SqL K H1 b ys)∧(∃zs,SqL K H1 c zs)∧R (It3 K a b c) H1
theorem zco{K:ζc}{a b c:Expr}{ta:TA}{p pos:Pos}{es:List Expr}{k:Nat}{tpos:Pos}(hK:X.K=K)(hg:Gl X "zip")(hm:X.mg "zip" = none)(ha:PA X [a,b,c] ta)(he:starEach (a :: [b,c]) X.env=(false,eval a X.env) :: starEach [b,c] X.env:=by rfl)
  (hpl:(backTo pos (starEach [b,c] X.env)).any (·.1)=false:=by rfl):PI X (.Tuple es k tpos) (.Call (.Name "zip" p) [a,b,c] [] pos) (zdG K ta):=by
 subst hK;intro pins s σ H R I h;refine wpAny_Call_Name_kw (vC I hg hm (u:=.type "zip") (by decide +kernel) ?_ #[2] #[2]);refine PyProof.Rows.callWith_type1 (thn (ha pos pins s σ H _ I h) λus s1 ⟨vs,H1,I1,r1,q1⟩=>?_) he hpl;obtain⟨a1,b1,c1,rfl,⟨xs,hx⟩,⟨ys,hy⟩,⟨zs,hz⟩,q⟩:=q1;cases r1 with
 | cons ru r1 =>
  cases r1 with
  | cons rv r1 =>
   cases r1 with
   | cons rt r1 =>
    cases r1;cases(show _=Value.ref a1 from ru);cases(show _=Value.ref b1 from rv);cases(show _=Value.ref c1 from rt);obtain⟨its,rx,px,zx⟩:=I1.list hx;obtain⟨jts,ry,py,zy⟩:=I1.list hy;obtain⟨kts,rz,pz,zz⟩:=I1.list hz;refine Qr px.isList py.isList pz.isList λh' Z kp=>?_;refine wpAny_pyIter_zip Z.zo ?_;refine⟨s1.heap.objs.size + 5,_,_,_,H1,rfl,I1.kept (t':=s1.toks) kp,Tr a1 b1 c1 s1.heap.objs.size,⟨_,_,_,Z⟩,λc hc=>?_,q⟩
    have hc':s1.heap.objs.size≤c:=Zo (R:=λc=>s1.heap.objs.size≤c) hc (ξC _ _) (ξC _ _) (ξC _ _) (ζj _) (ξC _ _) (ξC _ _);exact I1.fpOk hc' (I1.hok.fresh hc')
end
end L2
namespace PD
open PySem L2
section
variable {K:ζc}{S:Sx}{κ:Bool}{Γ:Ctx}
def zip3(xs ys zs:AG):AG:=List.zipWith (λx (p:AD×AD)=>.tuple [x,p.1,p.2]) xs (List.zip ys zs)
theorem Wa{i:Nat}(h1:xs[i]?=some x)(h2:ys[i]?=some y)(h3:zs[i]?=some z):(zip3 xs ys zs)[i]?=some (.tuple [x,y,z]):=by
 unfold zip3;rw[List.getElem?_zipWith,h1,(ξN (z:=(y,z))).mpr ⟨h2,h3⟩]
theorem ut(e1:ys.length=xs.length)(e2:zs.length=xs.length):(zip3 xs ys zs).length=xs.length:=by
 unfold zip3;rw[ξw,ξu];omega
theorem zc6{t:TA}{xs ys zs:AG}(e1:ys.length=xs.length)(e2:zs.length=xs.length)(h:EvA K S κ t Γ [.list xs,.list ys,.list zs]):EvI K S κ (zdG K t) Γ (zip3 xs ys zs):=λH0 F0 H F σ e R q =>
 h H0 F0 H F σ e _ λvs H1 F1 g1 p1=>by
  cases p1 with
  | cons p p1 =>
   cases p1 with
   | cons p' p1 =>
    cases p1 with
    | cons p'' p1 =>
     cases p1;obtain⟨a,us,rfl,h1,h2⟩:=wS p;obtain⟨b,ws,rfl,h3,h4⟩:=wS p';obtain⟨c,ts,rfl,h5,h6⟩:=wS p'';have l1:=zr.length h2;have l2:=zr.length h4;have l3:=zr.length h6;have up:∀{F' H':Hp},Same F1 F'→Same F' H'→SqL K H' a us:=λs1 s2=>(s1.trans s2).seq h1.sq;have uq:∀{F' H':Hp},Same F1 F'→Same F' H'→SqL K H' b ws:=λs1 s2=>(s1.trans s2).seq h3.sq;have ur:∀{F' H':Hp},Same F1 F'→Same F' H'→SqL K H' c ts:=λs1 s2=>(s1.trans s2).seq h5.sq;refine⟨a,b,c,rfl,⟨us,up (.refl _) g1.le⟩,⟨ws,uq (.refl _) g1.le⟩,⟨ts,ur (.refl _) g1.le⟩,q _ H1 F1 g1 ⟨λi H' F' s1 s2 hi=>?_,λi H' F' x H'' s1 s2 sd hi y=>?_,λH' F' s1 s2=>?_⟩⟩
     ·rw[ut e1 e2]at hi;exact⟨us,us[i]'⋯,ws,ws[i]'⋯,ts,ts[i]'⋯,up s1 s2,by simp,uq s1 s2,by simp,ur s1 s2,by simp⟩
     ·obtain⟨T,u,v,t,hT,rfl,rfl,y1,y2,y3⟩:=y;obtain⟨d,hd,hp⟩:=zr.get' h2 (y1 us (up s1 s2));obtain⟨f,hf,hq⟩:=zr.get' h4 (y2 ws (uq s1 s2));obtain⟨g,hg,hr⟩:=zr.get' h6 (y3 ts (ur s1 s2));have s3:Same F' (upd F' T (.tup [u,v,t])):=Same.new (s2.free hT) _;have s13:=s1.trans s3;exact⟨.tuple [d,f,g],_,Wa hd hf hg,.new s2 hT _,.tup (SqT.of zp) (.cons (yE s13 hp) (.cons (yE s13 hq) (.cons (yE s13 hr) .nil)))⟩
     ·refine⟨us,up s1 s2,?_⟩
      rw[ut e1 e2];omega
end
section
variable {K:ζc}{S S':Sx}{κ κ':Bool}{Γ Γ' Γ'':Ctx}{P:Post}
theorem W9(i:Nat)(h:GetC Γ i (.ow κ0 ds0))(es:SetC Γ i (some (.fz κ0 (.list ds0))) Γf)(k:EvO K S κ t Γf xs)(him:∀d∈xs,imm d=true):EvO K S κ t Γ xs:=λH0 F0 H F σ e Q q=>by
 obtain⟨a,Ff,e',g⟩:=thaw e h es;refine k H0 F0 H Ff σ e' Q λb vs H' F' g' n p f q'=>q b vs H' _ (g H' F' g') n p ?_ (W5 him (zM q'));cases z:drop (λc=>c=a) F' b with
 | none=>rfl
 | some o=>rw[(yL.mp z).1]at f; cases f
end
end PD
namespace L2
open PySem PySem.Spec PyProof.Rows PySem.Calls
section
variable {X:Cx}{K:ζc}
def zaj(K:ζc):List V→Hp→VK→Prop:=λxs H Q=>∃p ys,xs=[.ref p]∧((SqL K H p ys∧∀l,H l=none→Q (.ref l) (upd H l (.tup ys)))∨(SqT K H p ys∧Q (.ref p) H))
theorem vI(hK:X.K=K):y8 X (.type "tuple") (zaj K):=by subst hK; exact Yj
end
end L2
namespace PD
open PySem L2
section
variable {K:ζc}{S S':Sx}{κ κ':Bool}{Γ Γ' Γ'':Ctx}{P:Post}{E:XK}
abbrev ikey(ks:AE):List Key:=ks.map .inl
theorem U0(ks:AE):(ikey ks).map kV=ks.map V.int:=by rw[ζx]; rfl
theorem zaZ(h:ikey a=ikey b):a=b:=(List.map_inj_right λ_ _ e=>Sum.inl.inj e).mp h
abbrev kyD(ks:AE):DV:=.xp λF v=>∃b,v=.ref b∧F b=some (.tup ((ikey ks).map kV))
theorem zcS(h:EvL K S false te Γ (ks.map .int))(es:SetC Γ j (some (kyD ks)) Γ')(k:ExT K S S' u Γ' P):ExT K S S' (tSeq (tAsg (tCB (zaj K) (zX te tNil)) (yG j)) u) Γ P:=λH0 F0 H F σ B e bb vv D I =>
 h H0 F0 H F σ e _ λa vs H1 F1 g1 p1 k1=>⟨a,vs,rfl,.inl ⟨p1,λl hl=>by
  cases yb (zM k1);have g2:Gr H1 F1 (upd H1 l (.tup (ks.map V.int))) (upd F1 l (.tup (ks.map V.int))):=.new g1.le hl _;have e2:=((e.mono g1).mono g2).set (i:=j) (v:=.ref l) (x:=kyD ks) ⟨_,.refl _,l,rfl,by rw[zp,U0]⟩ λ_ z=>z.elim;rw[es.eq]at e2;exact k H0 F0 _ _ _ B e2 (bb.trans (g1.f.trans g2.f)) vv D I⟩⟩
def RelG(K:ζc)(F:Hp):Option AD→Option V→Prop
 | none,o=>o=none
 | some d,o=>∃x,o=some x∧Dp K F x d
theorem RelG.mono(h:RelG K F o x)(s:Same F F'):RelG K F' o x:=by
 cases o with
 | none=>exact h
 | some d=>obtain⟨y,e,p⟩:=h; exact⟨y,e,xu s p⟩
def adHf(_:Hp)(v:V)(a:Addr):Prop:=v=.ref a
def psHf(K:ζc)(g:AE→Option AD)(n:Nat):Sx→Hp→Hp→Hp→V→Prop:=λ_ _ H F v=>∃(p:Addr) (tab:PTab),v=.ref p∧H p=some (.dT tab)∧tab.length≤n∧∀ks,RelG K F (g ks) (valV tab (ikey ks))
theorem zdI(g:AE→Option AD)(n:Nat):GOk adHf (psHf K g n) :=
 ⟨λ_ _ _ _ _=>Iff.rfl,λ_ _ H H' F F' v c s ⟨p,tab,ev,h,l,r⟩=>⟨p,tab,ev,by rw[c p ev]; exact h,l,λks=>(r ks).mono s⟩⟩
abbrev hT(K:ζc)(g:AE→Option AD)(n:Nat):DV:=.og adHf (psHf K g n)
theorem zcU(es:SetC Γ i (some (hT K (λ_=>none) 0)) Γ')(k:ExT K S S' u Γ' P):ExT K S S' (tSeq (tAsg QV (yG i)) u) Γ P:=λH0 F0 H F σ B e bb vv D I=>by
 refine λp hp=>?_;have g:Gr H F (upd H p (.dT [])) F:=.newO e.le hp _;have e1:=(e.mono g).set (i:=i) (v:=.ref p) (x:=hT K (λ_=>none) 0) ⟨zdI _ _,λa z=>by
  cases(show V.ref p=.ref a from z);exact⟨_,⟨zp,e.le.free hp,e.gr.h.free hp,e.out hp⟩⟩,p,[],rfl,zp,ζj _,λ_=>rfl⟩ λc oc j y w hj z hw ow=>by
  cases(show V.ref p=.ref c from oc);exact e.newOwn g hp j y w z hw ow
 rw[es.eq]at e1;exact k H0 F0 _ F _ B e1 bb vv D I
theorem zc1(h:GetC Γ i (hT K g n))(hk:GetC Γ j (kyD ks))(hx:EvE K S false tx Γ d0)(hi:imm ((g ks).getD d0)=true):EvE K S κ (QX (tVar i) (tVar j) tx) Γ ((g ks).getD d0):=λH0 F0 H F σ e Q q=>by
 obtain⟨v1,q1,ok,own,p,tab,rfl,ht,_,r⟩:=e.has i _ h.eq;obtain⟨v0,q0,F1,s1,b,rfl,hb⟩:=e.has j _ hk.eq;refine⟨_,q1,p,rfl,.inr ⟨_,.of ht⟩,_,q0,hx H0 F0 H F σ e _ λz H1 F2 g1 p1=>⟨_,DGet.t (k:=ikey ks) (g1.h _ _ ht) (.inl (g1.le _ _ (g1.f _ _ (s1 _ _ hb)))),?_⟩⟩
 refine q _ H1 F2 g1 (ZW hi ?_);have rk:=(r ks).mono g1.f;cases hg:g ks with
 | none =>
  rw[hg]at rk;rw[show valV tab (ikey ks)=none from rk];exact xa p1
 | some d =>
  rw[hg]at rk;obtain⟨x,ex,px⟩:=rk;rw[ex];exact px
theorem zcT(h:GetC Γ i (hT K g n))(hk:GetC Γ j (kyD ks))(hv:EvE K S false tv Γ d)(hz:n < sizeLine)(es:SetC Γ i (some (hT K (λk=>if k=ks then some d else g k) (n + 1))) Γ')(k:P.nx Γ'):ExS K S (Uw (tVar i) (tVar j) tv) Γ P:=λH0 F0 H F σ B e bb vv D I =>
 hv H0 F0 H F σ e _ λv H1 F1 g1 p1=>by
  have e1:=e.mono g1;obtain⟨v1,q1,ok,own,p,tab,rfl,ht,hl,r⟩:=e1.has i _ h.eq;obtain⟨v0,q0,F2,s1,b,rfl,hb⟩:=e1.has j _ hk.eq;refine⟨_,q1,_,q0,p,_,rfl,DPut.t (k:=ikey ks) ht (.inl (e1.le _ _ (s1 _ _ hb))) ⋯,?_⟩
  obtain⟨w,ow⟩:=own p rfl;have e3:=e1.putO (a:=p) (oo:=.dT (putK tab (ikey ks) v)) (y:=hT K (λk=>if k=ks then some d else g k) (n + 1)) h.eq q1 (show Owns H1 (.ref p) (hT K g n) p from rfl) ⟨zdI _ _,λa m=>by
   cases(show V.ref p=.ref a from m);exact⟨_,⟨zp,ow.f,ow.n,ow.s⟩⟩,p,_,rfl,zp,ζZ (wj _ _ _) ⋯,λk=>by
   show RelG K F1 (if k=ks then some d else g k) _;rw[Wg];by_cases c:k=ks
   ·rw[if_pos c,if_pos (by rw[c])];exact⟨v,rfl,xa p1⟩
   ·rw[if_neg c,if_neg λz=>c (zaZ z)];exact r k⟩ λ_ z=>z
  rw[es.eq]at e3;exact I.nx _ _ _ F1 k (bb.trans g1.f) e3
theorem zeL(h:GetC Γ i (hT K g n))(he:EvL K S false te Γ (ks.map .int))(hg:g ks=some d)(hi:imm d=true):EvE K S κ (zds (tVar i) (tCB (zaj K) (zX te tNil))) Γ d:=λH0 F0 H F σ e Q q=>by
 obtain⟨v1,q1,ok,own,p,tab,rfl,ht,_,r⟩:=e.has i _ h.eq;refine⟨_,q1,he H0 F0 H F σ e _ λa vs H1 F1 g1 p1 k1=>⟨a,vs,rfl,.inl ⟨p1,λl hl=>?_⟩⟩⟩
 cases yb (zM k1);have g2:Gr H1 F1 (upd H1 l (.tup (ks.map V.int))) (upd F1 l (.tup (ks.map V.int))):=.new g1.le hl _;have gg:=g1.trans g2;have dg:=DGet.t (k:=ikey ks) (gg.h _ _ ht) (b:=l) (.inl (by rw[zp,U0]));have rk:=(r ks).mono gg.f;rw[hg]at rk;obtain⟨x,ex,px⟩:=rk;rw[ex]at dg;exact⟨p,x,rfl,dg,q _ _ _ gg (ZW hi px)⟩
end
end PD
namespace Rq
open Wd Sh Sx2 El
def rp(q:Rat):Int×Int:=(q.num,(q.den:Int))
theorem xc(q:Rat):Low (rp q).1 (rp q).2:=⟨by show(0:Int) < q.den; have:=q.den_pos; omega,by show Int.gcd q.num q.den=1; exact q.reduced⟩
theorem xw(q:Rat):q * ((q.den:Int):Rat)=(q.num:Rat):=by
 have h:q=Rat.divInt q.num q.den:=(Rat.num_divInt_den q).symm;have hd:((q.den:Int):Rat)≠0:=by
  intro z;have:=Rat.intCast_inj.mp (z.trans Rat.intCast_zero.symm);have:=q.den_pos;omega
 have e:q=(q.num:Rat) / ((q.den:Int):Rat):=by
  conv=>lhs; rw[h]
  exact Rat.divInt_eq_div _ _
 conv=>lhs; lhs; rw[e]
 grind
theorem zbE{a b:Int}(h:q * (b:Rat)=(a:Rat)):q.num * b=a * q.den:=by
 have d:=xw q;refine Rat.intCast_inj.mp ?_;rw[Rat.intCast_mul,Rat.intCast_mul];grind
theorem zaL{a b:Int}(hb:0 < b)(h:q * (b:Rat)=(a:Rat)):mk a b=rp q:=(UQ (xc q) hb (zbE h)).symm
theorem Xm{a b:Int}(hb:b≠0)(lo:Low x.1 x.2)(e:x.1 * b=a * x.2)(h:q * (b:Rat)=(a:Rat)):x=rp q:=by
 have c:=zbE h;refine zaQ lo (xc q) ?_;show x.1 * (q.den:Int)=q.num * x.2;refine Int.eq_of_mul_eq_mul_left hb ?_;grind
theorem XW(q:Rat):(q.den:Int)≠0:=by have:=q.den_pos; omega
theorem zfk(x y:Rat):pl (rp x).1 (rp x).2 (rp y).1 (rp y).2=rp (x + y):=by
 have h:=VG (xc x) (xc y);refine Xm (Int.mul_ne_zero (XW x) (XW y)) h.1 h.2 ?_;have d1:=xw x;have d2:=xw y;show(x + y) * (((x.den:Int) * (y.den:Int):Int):Rat)=((x.num * (y.den:Int) + (x.den:Int) * y.num:Int):Rat);rw[Rat.intCast_mul,Rat.intCast_add,Rat.intCast_mul,Rat.intCast_mul];grind
theorem zdn(x y:Rat):tm (rp x).1 (rp x).2 (rp y).1 (rp y).2=rp (x * y):=by
 have h:=zdW (xc x) (xc y);refine Xm (Int.mul_ne_zero (XW x) (XW y)) h.1 h.2 ?_;have d1:=xw x;have d2:=xw y;show(x * y) * (((x.den:Int) * (y.den:Int):Int):Rat)=((x.num * y.num:Int):Rat);rw[Rat.intCast_mul,Rat.intCast_mul];grind
theorem zce:rp 0=(0,1):=rfl
theorem zaF{q:Rat}(h:0 < q.num):q≠0:=λz=>by rw[z]at h; exact absurd h #[2]
theorem zd2{q:Rat}(h:0 < q.num):((rp q).2,(rp q).1)=rp q⁻¹:=by
 have lo:=xc q;have l2:Low (q.den:Int) q.num:=⟨h,by show Int.gcd _ _=1; rw[Int.gcd_comm]; exact q.reduced⟩
 refine Xm (x:=((q.den:Int),q.num)) (a:=(q.den:Int)) (b:=q.num) ⋯ l2 rfl ?_;have d:=xw q;have n0:=zaF h;grind
theorem QQ(g:α→Rat):∀(xs:List α) (q:Rat),(xs.map λv=>rp (g v)).foldl (λx y=>pl x.1 x.2 y.1 y.2) (rp q)=rp (q + (xs.map g).sum)
 | [],q=>by
  show rp q=rp (q + 0);rw[Rat.add_zero]
 | x :: r,q=>by
  rw[ζH,List.foldl_cons,zfk,QQ g r,ζH,ξt,Rat.add_assoc]
theorem zdV(g:α→Rat)(xs:List α):tot (xs.map λv=>rp (g v))=rp (xs.map g).sum:=by
 have:=QQ g xs 0;rw[zce,Rat.zero_add]at this;exact this
def Bq(n:Nat)(q:Rat):Prop:=∃a b:Nat,0 < a∧0 < b∧a < 2 ^ n∧b < 2 ^ n∧q * ((b:Int):Rat)=((a:Int):Rat)
theorem Bq.bits{n:Nat}(h:Bq n q):0 < q.num∧q.num.natAbs < 2 ^ n∧q.den < 2 ^ n:=by
 obtain⟨a,b,ha,hb,la,lb,e⟩:=h;have c:=zbE e;have dp:=q.den_pos;have np:0 < q.num:=by
  refine Int.pos_of_mul_pos_left (b:=(b:Int)) ?_ ⋯;rw[c];exact ξI ⋯ ⋯
 have cn:q.num.natAbs * b=a * q.den:=by
  have:=congrArg Int.natAbs c;rw[ξg,ξg]at this;exact this
 have d1:q.num.natAbs ∣ a:=Nat.Coprime.dvd_of_dvd_mul_right q.reduced ⟨b,cn.symm⟩;have d2:q.den ∣ b:=Nat.Coprime.dvd_of_dvd_mul_left (Nat.Coprime.symm q.reduced) ⟨a,by rw[cn,Nat.mul_comm]⟩;have:=Nat.le_of_dvd ha d1;have:=Nat.le_of_dvd hb d2;exact⟨np,⋯,⋯⟩
theorem Bq.ne(h:Bq n q):q≠0:=zaF h.bits.1
theorem Bq.up(h:Bq n q)(hn:n≤m):Bq m q:=by
 obtain⟨a,b,ha,hb,la,lb,e⟩:=h;have:=ξo (show 0 < 2 by decide) hn;exact⟨a,b,ha,hb,⋯,⋯,e⟩
theorem Bq.one:Bq 1 1:=⟨1,1,#[2],#[2],#[2],#[2],by rw[Rat.one_mul]⟩
theorem xY(h1:a < 2 ^ n)(h2:b < 2 ^ m):a * b < 2 ^ (n + m):=by
 rw[Nat.pow_add];exact ξs (ζ1 a ⋯) (Nat.mul_lt_mul_of_pos_right h1 (Nat.pow_pos #[2]))
theorem Bq.mul(h:Bq n x)(g:Bq m y):Bq (n + m) (x * y):=by
 obtain⟨a,b,ha,hb,la,lb,e⟩:=h;obtain⟨c,d,hc,hd,lc,ld,e'⟩:=g;refine⟨a * c,b * d,Nat.mul_pos ha hc,Nat.mul_pos hb hd,xY la lc,xY lb ld,?_⟩
 rw[ξA,ξA,Rat.intCast_mul,Rat.intCast_mul];grind
theorem Bq.inv(h:Bq n x):Bq n x⁻¹:=by
 have n0:=h.ne;obtain⟨a,b,ha,hb,la,lb,e⟩:=h;exact⟨b,a,hb,ha,lb,la,by grind⟩
theorem Bq.div(h:Bq n x)(g:Bq m y):Bq (n + m) (x / y):=by
 rw[Rat.div_def];exact h.mul g.inv
theorem Bq.add(h:Bq n x)(g:Bq m y):Bq (n + m + 1) (x + y):=by
 obtain⟨a,b,ha,hb,la,lb,e⟩:=h;obtain⟨c,d,hc,hd,lc,ld,e'⟩:=g;have h1:=xY la ld;have h2:=xY lb lc;have h3:=xY lb ld;have h4:=Nat.mul_pos ha hd;have h5:2 ^ (n + m + 1)=2 ^ (n + m) * 2:=ξ7 ..;refine⟨a * d + b * c,b * d,⋯,Nat.mul_pos hb hd,⋯,⋯,?_⟩
 rw[ξB,ξA,ξA,ξA,Rat.intCast_mul,Rat.intCast_add,Rat.intCast_mul,Rat.intCast_mul];grind
theorem Bq.sum(g:α→Rat):∀(xs:List α) (x:α),(∀y∈x :: xs,Bq n (g y))→Bq ((xs.length + 1) * (n + 1) - 1) ((x :: xs).map g).sum
 | [],x,h=>by
  show Bq _ (g x + 0);rw[Rat.add_zero];exact(h x ζi).up (by show n≤(0 + 1) * (n + 1) - 1; omega)
 | y :: r,x,h=>by
  rw[ζH,ξt];have ih:=Bq.sum g r y λz hz=>h z (ζp _ hz);refine((h x ζi).add ih).up ?_;show n + ((r.length + 1) * (n + 1) - 1) + 1≤(r.length + 1 + 1) * (n + 1) - 1;have:(r.length + 1 + 1) * (n + 1)=(r.length + 1) * (n + 1) + (n + 1):=Nat.succ_mul ..;have:1 * (n + 1)≤(r.length + 1) * (n + 1):=Nat.mul_le_mul_right _ ⋯;omega
def Cq(m:Nat)(q:Rat):Prop:=∃a:Nat,0 < a∧a≤m∧q * ((2520:Int):Rat)=((a:Int):Rat)
theorem Cq.bq(h:Cq m q)(hm:m < 2 ^ n)(hn:2520 < 2 ^ n):Bq n q:=by
 obtain⟨a,h1,h2,e⟩:=h;exact⟨a,2520,h1,#[2],⋯,hn,e⟩
theorem Cq.div(h:Cq m x)(g:Cq k y)(hm:m < 2 ^ n)(hk:k < 2 ^ n):Bq n (x / y):=by
 have n0:y≠0:=(g.bq (n:=k + 2520) (by have:=Nat.lt_two_pow_self (n:=k + 2520); omega) (by have:=Nat.lt_two_pow_self (n:=k + 2520); omega)).ne;obtain⟨a,h1,h2,e⟩:=h;obtain⟨b,g1,g2,e'⟩:=g;refine⟨a,b,h1,g1,⋯,⋯,?_⟩
 rw[←e,←e'];grind
theorem Cq.up(h:Cq m q)(hm:m≤k):Cq k q:=by
 obtain⟨a,h1,h2,e⟩:=h;exact⟨a,h1,⋯,e⟩
theorem Cq.sum(g:α→Rat):∀(xs:List α) (x:α),(∀y∈x :: xs,Cq m (g y))→Cq ((xs.length + 1) * m) ((x :: xs).map g).sum
 | [],x,h=>by
  show Cq _ (g x + 0);rw[Rat.add_zero];exact(h x ζi).up (by show m≤(0 + 1) * m; omega)
 | y :: r,x,h=>by
  rw[ζH,ξt];obtain⟨b,g1,g2,e'⟩:=Cq.sum g r y λz hz=>h z (ζp _ hz);obtain⟨a,h1,h2,e⟩:=h x ζi;have:(r.length + 1 + 1) * m=(r.length + 1) * m + m:=Nat.succ_mul ..;refine⟨a + b,⋯,by show a + b≤(r.length + 1 + 1) * m; omega,?_⟩
  rw[ξB,Rat.intCast_add,←e,←e',Rat.add_mul]
theorem zan(f g:α→Rat):∀xs:List α,(xs.map λx=>f x + g x).sum=(xs.map f).sum + (xs.map g).sum
 | []=>(Rat.add_zero 0).symm
 | x :: r=>by
  rw[ζH,ξt,zan f g r,ζH,ξt,ζH,ξt];grind
theorem Zg:∀xs:List α,(xs.map λ_=>(0:Rat)).sum=0
 | []=>rfl
 | _ :: r=>by rw[ζH,ξt,Zg r,Rat.add_zero]
theorem UA(f:α→β→Rat)(ys:List β):∀xs:List α,(xs.map λx=>(ys.map λy=>f x y).sum).sum=(ys.map λy=>(xs.map λx=>f x y).sum).sum
 | []=>(Zg ys).symm
 | x :: r=>by
  rw[ζH,ξt,UA f ys r,←zan];rfl
theorem VD(xs ys:List Rat):(xs ++ ys).sum=xs.sum + ys.sum:=by
 induction xs with
 | nil=>exact(Rat.zero_add _).symm
 | cons x r ih=>rw[List.cons_append,ξt,ih,ξt,Rat.add_assoc]
theorem UB(f:α→List β)(g:β→Rat):∀xs:List α,((xs.flatMap f).map g).sum=(xs.map λx=>((f x).map g).sum).sum
 | []=>rfl
 | x :: r=>by rw[List.flatMap_cons,ζy,VD,UB f g r,ζH,ξt]
theorem zdz(p:α→Bool)(g:α→Rat):∀xs:List α,((xs.filter p).map g).sum=(xs.map λx=>if p x=true then g x else 0).sum
 | []=>rfl
 | x :: r=>by
  rw[ζH,ξt,←zdz p g r,List.filter_cons];split
  ·rw[ζH,ξt]
  ·rw[Rat.zero_add]
def S1(ss:AE)(k:Nat)(f:Asg→Rat):Asg→Rat:=λa=>((vr ss k).map λv=>f (upd a k v)).sum
def Sq(ss:AE):AF→(Asg→Rat)→Asg→Rat
 | [],f,a=>f a
 | k :: r,f,a=>((vr ss k).map λv=>Sq ss r f (upd a k v)).sum
theorem zdj(ss:AE)(h:k≠j)(r:AF)(f:Asg→Rat)(a:Asg):Sq ss (k :: j :: r) f a=Sq ss (j :: k :: r) f a:=by
 show((vr ss k).map λv=>((vr ss j).map λu=>Sq ss r f (upd (upd a k v) j u)).sum).sum=((vr ss j).map λu=>((vr ss k).map λv=>Sq ss r f (upd (upd a j u) k v)).sum).sum;rw[UA];congr 1;refine ζs λu _=>?_;congr 1;refine ζs λv _=>?_;rw[QG h]
theorem zdk(ss:AE)(f:Asg→Rat)(p:ks.Perm ks'):ks.Nodup→∀a,Sq ss ks f a=Sq ss ks' f a:=by
 induction p with
 | nil=>exact λ_ _=>rfl
 | cons k _ ih =>
  intro h a;show(List.map _ _).sum=(List.map _ _).sum;congr 1;exact ζs λv _=>ih (ζ5.mp h).2 _
 | swap x y l =>
  intro h a;exact zdj ss (λz=>(ζ5.mp h).1 (by rw[z]; exact ζi)) l f a
 | trans p1 _ ih1 ih2=>exact λh a=>(ih1 h a).trans (ih2 (p1.nodup_iff.mp h) a)
theorem X8(ss:AE)(k:Nat)(f:Asg→Rat):∀(r:AF) (a:Asg),Sq ss (r ++ [k]) f a=Sq ss r (S1 ss k f) a
 | [],_=>rfl
 | j :: r,a=>by
  show(List.map _ _).sum=(List.map _ _).sum;congr 1;exact ζs λv _=>X8 ss k f r _
def Sl(ss:AE)(l:AF)(f:Asg→Rat):Asg→Rat:=l.foldl (λg k=>S1 ss k g) f
theorem zdP(ss:AE):∀(l:AF) (f:Asg→Rat) (a:Asg),Sl ss l f a=Sq ss l.reverse f a
 | [],_,_=>rfl
 | k :: r,f,a=>by
  show Sl ss r (S1 ss k f) a=_;rw[zdP ss r,List.reverse_cons,X8]
theorem zfJ(ss:AE)(nd:l.Nodup)(f:Asg→Rat)(a:Asg):Sl ss l f a=Sq ss l f a:=by
 rw[zdP];exact zdk ss f (List.reverse_perm l) ((List.reverse_perm l).nodup_iff.mpr nd) a
def asn(a:Asg):AF→AE→Asg
 | k :: r,v :: w=>asn (upd a k v) r w
 | _,_=>a
theorem Vm:∀(ks:AF) (w:AE) (a:Asg) (k:Nat) (v:Int),ks.length=w.length→asn a (ks ++ [k]) (w ++ [v])=upd (asn a ks w) k v
 | [],[],_,_,_,_=>rfl
 | j :: r,u :: w,a,k,v,h=>Vm r w (upd a j u) k v (by simpa using h)
theorem X6:∀(ks:AF) (w:AE) (a:Asg),j∉ks→asn a ks w j=a j
 | [],_,_,_=>by unfold asn; rfl
 | k :: r,[],_,_=>rfl
 | k :: r,v :: w,a,h=>by
  show asn (upd a k v) r w j=a j;rw[X6 r w _ λz=>h (ζp _ z),zC λz=>h (by rw[z]; exact ζi)]
theorem Tn:∀(ks:AF) (w:AE) (a:Asg),ks.Nodup→j∈ks→ks.length=w.length→asn a ks w j=w.getD (ks.idxOf j) 0
 | k :: r,v :: w,a,nd,h,hl=>by
  show asn (upd a k v) r w j=_;have⟨n1,n2⟩:=ζ5.mp nd;by_cases e:j=k
  ·subst e;rw[X6 r w _ n1,zp,List.idxOf_cons_self];rfl
  ·rw[List.idxOf_cons,show(k == j)=false from beq_eq_false_iff_ne.mpr λz=>e z.symm,cond_false,Tn r w _ n2 ((List.mem_cons.mp h).resolve_left e) (by simpa using hl)];rfl
def agr(B:Nat→Bool)(a:Asg)(ks:AF)(w:AE):Bool:=(ks.zip w).all λx=>B x.1 || decide (x.2=a x.1)
theorem zbK(h:ks.length=w.length):agr B a (ks ++ [k]) (w ++ [v])=(agr B a ks w && (B k || decide (v=a k))):=by
 unfold agr;rw[List.zip_append h,List.all_append];show(_ && (_ && true))=_;rw[Bool.and_true]
theorem zcz(g:Int→Rat)(x:Int):∀(n:Nat),0≤x→x < n→((rng n).map λv=>if decide (v=x)=true then g v else 0).sum=g x:=by
 intro n h0 h1;have zero:∀m:Nat,(m:Int)≤x→((rng m).map λv=>if decide (v=x)=true then g v else 0).sum=0:=λm hm=>by
  have ez:∀v∈rng m,(if decide (v=x)=true then g v else 0)=(0:Rat):=λv hv=>by
   unfold rng at hv;obtain⟨i,hi,rfl⟩:=ζn.mp hv;have:=ζG.mp hi;exact if_neg (by rw[decide_eq_true_eq]; omega)
  rw[ζs ez,Zg]
 induction n with
 | zero=>omega
 | succ n ih =>
  have e:rng (n + 1)=rng n ++ [(n:Int)]:=by unfold rng; rw[List.range_succ,List.map_append]; rfl
  rw[e,ζy,VD];by_cases c:x=(n:Int)
  ·rw[zero n ⋯];rw[List.map_cons,List.map_nil,List.sum_cons,List.sum_nil,if_pos (by simp[c]),Rat.zero_add,Rat.add_zero,c]
  ·rw[ih ⋯];rw[List.map_cons,List.map_nil,List.sum_cons,List.sum_nil,if_neg (by simp; omega),Rat.add_zero,Rat.add_zero]
theorem Zp(h:w∈wds (pk ss ks)):ks.length=w.length:=by
 unfold wds at h;obtain⟨i,_,rfl⟩:=ζn.mp h;rw[YY];unfold pk;rw[ζa]
theorem zdi(B:Nat→Bool)(a:Asg):∀(n:Nat) (ks:AF) (F:Asg→Rat),ks.length=n→ks.Nodup→(∀k∈ks,0≤a k∧a k < ss.getD k 0)→((wds (pk ss ks)).map λw=>if agr B a ks w=true then F (asn a ks w)else 0).sum=Sq ss (ks.filter B) F a:=by
 intro n;induction n with
 | zero =>
  intro ks F h _ _;have:ks=[]:=ζU h;subst this;show(if agr B a [] []=true then F a else 0) + 0=F a;rw[Rat.add_zero];exact if_pos rfl
 | succ n ih =>
  intro ks F h nd hp;obtain⟨t,k,rfl⟩:∃t s,ks=t ++ [s]:=⟨ks.dropLast,ks.getLast (by intro e; rw[e]at h; cases h),(ζ6 _).symm⟩
  have hl:t.length=n:=by rw[List.length_append]at h; simpa using h
  have hk:=hp k (by simp);have ht:∀j∈t,0≤a j∧a j < ss.getD j 0:=λj hj=>hp j (ζS _ hj);have⟨ndt,_,dj⟩:=ζ4.mp nd;have kt:k∉t:=λz=>dj k z k (by simp) rfl;have ep:pk ss (t ++ [k])=pk ss t ++ [ss.getD k 0]:=by unfold pk; rw[List.map_append]; rfl
  rw[ep,uu (λx hx=>by
   obtain⟨j,hj,rfl⟩:=ζn.mp hx;have:=ht j hj;omega) ⋯]
  unfold grow;rw[UB,ζW];have inner:∀w∈wds (pk ss t),(((rng (ss.getD k 0).toNat).map λv=>w ++ [v]).map λw=>if agr B a (t ++ [k]) w=true then F (asn a (t ++ [k]) w)else 0).sum=if agr B a t w=true then(if B k=true then S1 ss k F (asn a t w)else F (asn a t w))else 0:=λw hw=>by
   have wl:=Zp hw;rw[ζx];have ek:∀v,((λw=>if agr B a (t ++ [k]) w=true then F (asn a (t ++ [k]) w)else 0)∘λv=>w ++ [v]) v=if(agr B a t w && (B k || decide (v=a k)))=true then F (upd (asn a t w) k v)else 0:=λv=>by
    show(if agr B a (t ++ [k]) (w ++ [v])=true then F (asn a (t ++ [k]) (w ++ [v]))else 0)=_;rw[zbK wl,Vm _ _ _ _ _ wl]
   rw[ζs λv _=>ek v];by_cases c:agr B a t w=true
   ·rw[if_pos c];simp only[c,Bool.true_and];by_cases b:B k=true
    ·rw[if_pos b];simp only[b,Bool.true_or,if_true];rfl
    ·rw[if_neg b];simp only[Bool.not_eq_true]at b;simp only[b,Bool.false_or];rw[zcz (λv=>F (upd (asn a t w) k v)) (a k) _ hk.1 ⋯];congr 1;funext j;unfold upd;split
     ·rename_i e;rw[e,X6 t w a kt]
     ·rfl
   ·rw[if_neg c];simp only[Bool.not_eq_true]at c;simp only[c,Bool.false_and];exact Zg _
  rw[ζs inner];by_cases b:B k=true
  ·simp only[b,if_true];rw[ih t (S1 ss k F) hl ndt ht,List.filter_cons_of_pos b,List.filter_nil,X8]
  ·simp only[b,Bool.false_eq_true,if_false];rw[ih t F hl ndt ht,List.filter_cons_of_neg b,List.filter_nil,ζQ]
structure Qs where
 ks:AF
 f:Asg→Rat
structure QsOk(ss:AE)(s:Qs):Prop where
 k:∀j∈s.ks,j < ss.length
 nd:s.ks.Nodup
 dep:∀a b:Asg,(∀j∈s.ks,a j=b j)→s.f a=s.f b
def qX(ss:AE)(s:Qs):AM:=(wds (pk ss s.ks)).map λw=>rp (s.f (asg s.ks w))
theorem VE(ss:AE)(s:Qs):(qX ss s).length=(prod (pk ss s.ks)).toNat:=by
 unfold qX;rw[ζa,yM]
theorem zdA(ok:QsOk ss s)(hr:∀j∈s.ks,0≤a j∧a j < ss.getD j 0):(qX ss s).getD (rkF (pk ss s.ks) (s.ks.map a)).toNat (0,1)=rp (s.f a):=by
 have inr:∀(i:Nat) x v,(pk ss s.ks)[i]?=some x→(s.ks.map a)[i]?=some v→0≤v∧v < x:=λi x v h1 h2=>by
  unfold pk at h1;rw[ζo]at h1 h2;cases e:s.ks[i]? with
  | none=>rw[e]at h1; cases h1
  | some c =>
   rw[e]at h1 h2;have e1:ss.getD c 0=x:=ζr h1;have e2:a c=v:=ζr h2;rw[←e1,←e2];exact hr c (ζf e)
 have pl:(pk ss s.ks).length=s.ks.length:=by unfold pk; rw[List.length_map]
 have b:=tE (ss:=pk ss s.ks) (ws:=s.ks.map a) (by rw[pl,ζa]) inr;have g:=Uj (ss:=pk ss s.ks) (i:=(rkF (pk ss s.ks) (s.ks.map a)).toNat) ⋯;rw[ξf b.1,Ui s.ks.length _ _ pl (ζa ..) inr]at g;unfold qX;rw[ζb,ζo,g];show rp (s.f (asg s.ks (s.ks.map a)))=_;rw[ok.dep _ a λj hj=>zdg a hj]
def lout(ss:AE)(s:Qs)(k:Nat):Qs:=⟨oth s.ks k,S1 ss k s.f⟩
def join(n:Nat)(s t:Qs):Qs:=⟨unF n s.ks t.ks,λa=>s.f a * t.f a⟩
def dvd(s t:Qs):Qs:=⟨s.ks,λa=>s.f a / t.f a⟩
def one:Qs:=⟨[],λ_=>1⟩
theorem VN(ss:AE):QsOk ss one:=⟨λj h=>(nomatch h),ξZ,λ_ _ _=>rfl⟩
theorem zcL(h1:QsOk ss s)(h2:QsOk ss t):QsOk ss (join ss.length s t) :=
 ⟨λj hj=>(xU.mp hj).1,QH ..,λa b h=>by
  show s.f a * t.f a=s.f b * t.f b;rw[h1.dep a b λj hj=>h j (xU.mpr ⟨h1.k j hj,.inl hj⟩),h2.dep a b λj hj=>h j (xU.mpr ⟨h2.k j hj,.inr hj⟩)]⟩
theorem zbu(h1:QsOk ss s)(h2:QsOk ss t)(hs:∀k∈t.ks,k∈s.ks):QsOk ss (dvd s t) :=
 ⟨h1.k,h1.nd,λa b h=>by
  show s.f a / t.f a=s.f b / t.f b;rw[h1.dep a b h,h2.dep a b λj hj=>h j (hs j hj)]⟩
theorem ze7(dep:∀a b:Asg,(∀j∈ks,a j=b j)→f a=f b)(k:Nat):∀a b:Asg,(∀j∈oth ks k,a j=b j)→S1 ss k f a=S1 ss k f b:=λa b h=>by
 unfold S1;congr 1;refine ζs λv _=>dep _ _ λj hj=>?_;by_cases e:j=k
 ·rw[e,zp,zp]
 ·rw[zC e,zC e,h j (xG.mpr ⟨hj,e⟩)]
theorem XI(h:QsOk ss s)(k:Nat):QsOk ss (lout ss s k) :=
 ⟨λj hj=>h.k j (xG.mp hj).1,h.nd.sublist ζK,ze7 h.dep k⟩
end Rq
open PySem L2 PD
local macro_rules | `(tactic| walk_at"comp_ok")=>`(tactic| (refine vL.of (by with_unfolding_all rfl) (by decide +kernel) rfl (by decide +kernel) ?_ (by with_unfolding_all rfl) rfl (by with_unfolding_all rfl); (repeat (with_unfolding_all refine List.forall_mem_cons.mpr ⟨by with_unfolding_all rfl,?_⟩)); exact List.forall_mem_nil _))
local macro_rules | `(tactic| walk_at"comp_okC")=>`(tactic| (refine CompOkC.of (by with_unfolding_all rfl) (λ_ _=>by with_unfolding_all rfl) (by decide +kernel) rfl rfl rfl (by decide +kernel) ?_ (by with_unfolding_all rfl) rfl (by with_unfolding_all rfl); (repeat (with_unfolding_all refine List.forall_mem_cons.mpr ⟨by with_unfolding_all rfl,?_⟩)); exact List.forall_mem_nil _))
local macro_rules | `(tactic| walk_at"comp_lam")=>`(tactic| exact vL.lam (by assumption) (by decide +kernel) rfl (by decide +kernel) (by decide +kernel) rfl (by with_unfolding_all rfl))
local macro_rules | `(tactic| walk_at"gc")=>`(tactic| ((repeat ((with_reducible apply GetC.succ))) ; (with_reducible exact GetC.zero)))
local macro_rules | `(tactic| walk_at"sc")=>`(tactic| ((repeat ((with_reducible apply SetC.succ))) ; (with_reducible exact SetC.zero)))
local macro_rules | `(tactic| walk_at"st")=>`(tactic| ((repeat (first | (with_reducible apply xg.got) | ((with_reducible apply xg.no)))) ; (with_reducible exact xg.z)))
local macro_rules | `(tactic| walk_at"cc")=>`(tactic| ((repeat (first | (with_reducible apply x5.no) | ((with_reducible apply x5.got) ; focus walk_at"gc"))); (with_reducible exact x5.nil)))
local macro_rules | `(tactic| walk_at"mk")=>`(tactic| ((repeat (first | ((with_reducible apply MarkC.got); focus (first | exact MkD.fz | exact MkD.ow | exact MkD.im rfl | exact MkD.ox)) | (with_reducible apply MarkC.no))); (with_reducible exact MarkC.nil)))
local macro_rules | `(tactic| walk_at"sp")=>`(tactic| ((repeat (first | ((with_reducible apply SpC.got); focus (first | exact SpD.fz | exact SpD.ow | exact SpD.im rfl | exact SpD.ox | exact SpD.tn)) | (with_reducible apply SpC.no))); (with_reducible exact SpC.nil)))
local macro_rules | `(tactic| walk_at"sd")=>`(tactic| first | ((with_reducible apply asm) ; assumption) | decide | omega | skip)
local macro_rules | `(tactic| walk_at"ln")=>`(tactic| (simp only[List.length_cons,List.length_nil]; decide))
local macro_rules | `(tactic| walk_at"ev")=>`(tactic| first
 | (with_reducible exact zeQ)
 | (with_reducible exact zeN)
 | (with_reducible exact zfC)
 | (with_reducible exact ev_str)
 | (with_reducible exact zbo)
 | (with_reducible exact zD)
 | (with_reducible exact uY)
 | ((with_reducible apply asm) ; (with_reducible assumption))
 | ((with_reducible apply evv) ; walk_at"gc"; decide)
 | ((with_reducible apply evi) ; walk_at"gc"; rfl)
 | ((with_reducible apply evtn) ; walk_at"gc"; done)
 | ((with_reducible apply evw) ; walk_at"gc"; decide)
 | ((with_reducible apply xC) <;> walk_at"ev")
 | ((with_reducible apply uk) <;> walk_at"ev")
 | ((with_reducible apply U8) <;> walk_at"ev")
 | ((with_reducible apply zfB) <;> walk_at"ev")
 | ((with_reducible apply ZU) <;> walk_at"ev")
 | ((with_reducible apply ev_ge) <;> walk_at"ev")
 | ((with_reducible apply XU) <;> walk_at"ev")
 | ((with_reducible apply xI) <;> walk_at"ev")
 | ((with_reducible apply zbm) <;> walk_at"ev")
 | ((with_reducible apply yZ) <;> walk_at"ev")
 | ((with_reducible apply ev_pow) <;> walk_at"ev")
 | ((with_reducible apply zeO) <;> walk_at"ev")
 | ((with_reducible refine' V0 (EvE.toD (κ:=false) ?_)) <;> walk_at"ev")
 | ((with_reducible refine' ev_notN (EvE.toD (κ:=false) ?_)) <;> walk_at"ev")
 | ((with_reducible apply zS) <;> walk_at"ev")
 | ((with_reducible apply vE) <;> walk_at"ev")
 | ((with_reducible apply xM) <;> walk_at"ev" <;> done)
 | ((with_reducible apply zbk) <;> walk_at"ev" <;> done)
 | ((with_reducible apply ev_eqB) <;> walk_at"ev" <;> done)
 | ((with_reducible apply zbl) <;> walk_at"ev" <;> done)
 | ((with_reducible apply ev_eqS) <;> walk_at"ev" <;> done)
 | ((with_reducible apply ev_neS) <;> walk_at"ev" <;> done)
 | ((with_reducible apply zbn) <;> (try (with_reducible intro _)) <;> walk_at"ev")
 | ((with_reducible apply zbj) <;> (try (with_reducible intro _)) <;> walk_at"ev")
 | ((with_reducible apply zeM) <;> walk_at"ev")
 | ((with_reducible apply zH) <;> walk_at"ev")
 | ((with_reducible apply et_B) <;> walk_at"ev")
 | ((with_reducible apply ww) <;> (try (with_reducible intro _)) <;> walk_at"ev")
 | ((with_reducible apply U9) <;> (try (with_reducible intro _)) <;> walk_at"ev")
 | ((with_reducible apply tP) <;> walk_at"ev")
 | ((with_reducible apply zh) <;> walk_at"ev")
 | ((with_reducible apply zbh) <;> walk_at"ev")
 | ((with_reducible apply EvO.toE) ; ((with_reducible apply yc)) <;> walk_at"ev")
 | ((with_reducible apply yc) <;> walk_at"ev")
 | ((with_reducible apply ye) <;> walk_at"ev" <;> done)
 | ((with_reducible apply zc3) <;> walk_at"ev")
 | ((with_reducible apply EvO.toE) ; ((with_reducible apply yR)) <;> walk_at"ev")
 | ((with_reducible apply yR) <;> walk_at"ev")
 | ((with_reducible apply zeW) <;> walk_at"ev")
 | ((with_reducible apply uX) <;> walk_at"ev")
 | ((with_reducible apply EvO.toE) ; ((with_reducible apply xh)) <;> walk_at"ev")
 | ((with_reducible apply xh) <;> walk_at"ev")
 | ((with_reducible apply EvO.toE) ; ((with_reducible apply Zl)) <;> walk_at"ev")
 | ((with_reducible apply Zl) <;> walk_at"ev")
 | ((with_reducible apply EvO.toE) ; ((with_reducible apply vc)) <;> walk_at"ev")
 | ((with_reducible apply vc) <;> walk_at"ev")
 | ((with_reducible apply EvO.toE) ; ((with_reducible apply evo_listRev)) <;> walk_at"ev")
 | ((with_reducible apply evo_listRev) <;> walk_at"ev")
 | ((with_reducible refine' zeP (EvE.toD (κ:=false) ?_) ?_) <;> walk_at"ev")
 | ((with_reducible apply zm) <;> walk_at"ev")
 | ((with_reducible apply vF) <;> walk_at"ev")
 | ((with_reducible apply zbg) ; walk_at"ev"; done)
 | ((with_reducible apply zbf) ; walk_at"ev"; done)
 | ((with_reducible apply EvE.toL) ; walk_at"ev"; done)
 | ((with_reducible apply EvO.toL) ; walk_at"ev"; done)
 | (with_reducible apply isE)
 | (with_reducible apply isL)
 | (with_reducible apply isT)
 | (with_reducible apply isA)
 | (with_reducible apply isO)
 | (with_reducible apply isD)
 | (with_reducible apply isI)
 | (with_reducible exact atI0)
 | (with_reducible exact atI1)
 | ((with_reducible apply asm) ; (with_reducible assumption))
 | ((with_reducible apply zey) ; with_unfolding_all rfl)
 | (simp only[List.length_cons,List.length_nil]; decide)
 | decide
 | omega
 | skip)
local macro_rules | `(tactic| walk_at"go")=>`(tactic| repeat (first
 | ((with_reducible apply exo (te:=tLst tNil) true) ; (focus (walk_at"ev"; done)); (focus walk_at"sc"))
 | ((with_reducible apply exs true) ; (focus (walk_at"ev"; done)); (focus walk_at"sc"))
 | ((with_reducible apply exs false) ; (focus (walk_at"ev"; done)); (focus walk_at"sc"))
 | ((with_reducible apply exa) ; (focus walk_at"gc"); (focus (walk_at"ev"; done)); (focus walk_at"sc"); (focus (walk_at"sd"; done)))
 | (with_reducible apply exn)))
local macro_rules | `(tactic| walk_at"run")=>`(tactic| (apply zcd; assumption; assumption; assumption; assumption; focus walk_at"st"))
local macro_rules | `(tactic| walk_at"ot")=>`(tactic| first | exact oneT_of (Nat.le_refl 1) | exact oneT_of (Nat.zero_le 1))
local macro_rules | `(tactic| walk_at"sv")=>`(tactic| ((repeat (first | (with_reducible apply StartV.got) | ((with_reducible apply StartV.no)))) ; (with_reducible exact StartV.z)))
local macro_rules | `(tactic| walk_at"runv")=>`(tactic| (apply run_defV; assumption; assumption; assumption; assumption; focus walk_at"sv"))
namespace L2
open PySem PySem.Spec PyProof.Rows
theorem pF(C:zt X.prog X.w X.K X.mg X.base CX0 x ps k sp)(hr:Room m X.A)(ha:PA X (e :: es) t)(h:k≤m:=by decide)(hg:Gl X x:=by rfl)(hdb:(x == ("__debug__" : Str))=false:=by decide)(he:starEach (e :: es) X.env=(false,eval e X.env) :: starEach es X.env:=by rfl)(hpl:(backTo pos (starEach es X.env)).any (·.1)=false:=by rfl):PE X (.Call (.Name x p) (e :: es) [] pos) (vm sp [] E0 t):=zfn C (hr.mono h) hg zaB ha hdb he hpl
theorem pB{X:Cx}{id:String}{r:List V→Hp→VK→Prop}{x:Str}{e:Expr}{es:List Expr}{t:TA}{p pos:Pos}(hc:y8 X (.builtin id) r)(hm:X.mg x=none)(ha:PA X (e :: es) t)(hg:Gl X x:=by rfl)(hv:bootBuiltins x=some (.builtin id):=by decide +kernel)(hn:x ≠ "__name__" := by decide)(hdb:(x == ("__debug__" : Str))=false:=by decide)(he:starEach (e :: es) X.env=(false,eval e X.env) :: starEach es X.env:=by rfl)(hpl:(backTo pos (starEach es X.env)).any (·.1)=false:=by rfl):PE X (.Call (.Name x p) (e :: es) [] pos) (tCB r t):=zaz hc hg hm hv ha hn hdb he hpl
theorem pY(hc:y8 X (.type T) r)(hm:X.mg x=none)(ha:PA X (e :: es) t)(hg:Gl X x:=by rfl)(hv:bootBuiltins x=some (.type T):=by decide +kernel)(hn:x ≠ "__name__" := by decide)(hdb:(x == ("__debug__" : Str))=false:=by decide)(he:starEach (e :: es) X.env=(false,eval e X.env) :: starEach es X.env:=by rfl)(hpl:(backTo pos (starEach es X.env)).any (·.1)=false:=by rfl):PE X (.Call (.Name x p) (e :: es) [] pos) (tCB r t):=TR hc hg hm hv ha hn hdb he hpl
theorem pS(hN:X.N.Nodup)(he:PE X e te)(hi:X.N[i]?=some x:=by rfl)(hx:Loc X.env.scope x:=by first | exact .inl rfl | exact .inr rfl)(hs:swapsWith e (some (.Name x pos')) pos.line X.env=pure false:=by rfl)(hf:X.fn x=true∨X.env.scope.names.lookup x=some .local:=by first | exact .inl rfl | exact .inr rfl | assumption):PS X (.Assign [.Name x pos'] e pos) (tAsg te (yG i)):=zd7 hN hi hx he hs hf
theorem pN(hN:X.N.Nodup)(hi:X.N[i]?=some x:=by rfl)(hx:Loc X.env.scope x:=by first | exact .inl rfl | exact .inr rfl)(hf:X.fn x=true∨X.env.scope.names.lookup x=some .local:=by first | exact .inl rfl | exact .inr rfl | assumption):PG X (.Name x pos) (yG i):=zcq hN hi hx hf
theorem pX(hr:IxR X r)(ha:PE X a ta)(hb:PE X b tb)(hs:Tp b:=by exact λ_ _=>rfl):PE X (.Subscript a b pos) (tOp r ta tb):=zfm hr ha hb hs
end L2
namespace K77
open PySem L2 PD Cm
def top(i:Nat):Stmt:=PySem.Challenge.pw_causebook_k77_chains_of_any_sheet.main.body.getD i (.Pass ⟨0,0,0,0⟩)
structure Bs(mg:AO):Prop where
 len:mg "len" = none
 set:mg "set" = none
 list:mg "list" = none
 range:mg "range" = none
 reversed:mg "reversed" = none
 min:mg "min" = none
 sorted:mg "sorted" = none
 zip:mg "zip" = none
 any:mg "any" = none
 isinstance:mg "isinstance" = none
 int:mg "int" = none
 bool:mg "bool" = none
 abs:mg "abs" = none
 tuple:mg "tuple" = none
section
variable {P:Program}{w:World}{K:ζc}{mg:AO}{base:Heap}{f:Addr}{fd:FuncData}
seal PE PA PS PSs PT PG PI
open Wd Sh Sx2
structure Shr(n:Nat)(a b:Int):Prop where
 low:Low a b
 ba:a.natAbs < 2 ^ n
 bb:b.natAbs < 2 ^ n
abbrev shD(x:Int×Int):AD:=.tuple [.int x.1,.int x.2]
def xf(ds:AG)(d:AD):Prop:=∃a b:Int,ds=[.int a,.int b]∧1≤b∧d=.int (Int.gcd a b:Nat)
theorem uB:zA ["number","bottom","greater","less","rest"] ["number","bottom"] (zn (top 16)):={}
theorem uN(F:Fun K "common_divisor" "common_divisor" (top 16) f fd)(B:Bs mg): FnOk P w K mg base CX0 1 f fd ["number","bottom"] (spD K true xf):=by
 have sc:=uB;refine F.ok sc (λvs H Q E h=>zI (λ_ _⟨_,_,e,_⟩=>by rw[e];rfl) h) (λcdv A outer s H vs Q E hr h=>?_);obtain⟨Fh,ds,d,le,dp,p,q⟩:=h
 refine⟨_,(ze (pS (i:=2) sc.nd (pv 0))
   (ze (pS (i:=3) sc.nd (pv 1))
   (ze (wD AC (zu Yx (pv 3) zg (zP _)) (ze (pS (i:=4) sc.nd (zq yy (pv 2) (pv 3)))
   (ze (pS (i:=2) sc.nd (pv 3))
   (zi (pS (i:=3) sc.nd (pv 4))))))
   (zi (zG (pv 2)))))),?_⟩
 have hN:=sc.n 5;obtain⟨a,b,rfl,hb,rfl⟩:=p;walk_at"run";walk_at"go";refine yr (λΓ=>∃y z,Γ=[some (.fz false (.int a)),some (.fz false (.int b)),some (.fz true (.int (Int.gcd a b:Nat))),y,z]) (wJ (λm Γ=>∃x y z,Γ=[some (.fz false (.int a)),some (.fz false (.int b)),some (.fz true (.int x)),some (.fz true (.int y)),z]∧0≤y∧(y=0→0 < x)∧Int.gcd x y=Int.gcd a b∧m=y.toNat) b.toNat ⟨a,b,none,rfl,⋯,⋯,rfl,rfl⟩ ?_) ?_
 ·rintro m Γ' ⟨x,y,z,rfl,hy,hx,hg,rfl⟩;refine⟨!decide (y=0),∅, λc=>?_,λc=>?_⟩
  ·have y0:y≠0:=by simpa using c
   have yp:0 < y:=by omega
   refine exs true ∅ #[0] ?_;refine exs true ∅ #[0] ?_;refine exs1 true ∅ #[0] ?_;have h1:=ζR x yp;have h2:=ζY x y0;exact⟨_,⋯,y,x % y,_,rfl,h2,λ_=>yp,by rw[W7]; exact hg,rfl⟩
  ·have y0:y=0:=by simpa using c
   subst y0;rw[Int.gcd_zero_right]at hg;have e:x=((Int.gcd a b:Nat):Int):=by have:=hx rfl; omega
   rw[e];exact⟨_,_,rfl⟩
 ·rintro Γ' ⟨y,z,rfl⟩;exact zR true ∅ rfl (.inl ⟨rfl,rfl⟩)
theorem vH(h:1≤b)(hb:b.natAbs < 2 ^ n)(hn:n≤9000):ug x ((Int.gcd a b:Nat):Int):=⟨uS h,up (dn (VW h) hb) hn⟩
theorem Shr.up(h:Shr m a b)(hn:m≤n):Shr n a b:=⟨h.low,Sh.up h.ba hn,Sh.up h.bb hn⟩
theorem zK:200000 < sizeLine:=by decide
def WK(ds:AG)(d:AD):Prop:=∃x y:Int×Int,ds=[shD x,shD y]∧Shr 40000 x.1 x.2∧Shr 9000 y.1 y.2∧d=shD (pl x.1 x.2 y.1 y.2)
theorem zb7:zA ["one","other","divisor","top","rest"] ["one","other"] (zn (top 17)):={}
theorem zcB(F:Fun K "plus" "plus" (top 17) f fd)(B:Bs mg)(c_common_divisor:zt P w K mg base CX0 "common_divisor" ["number","bottom"] 1 (spD K true xf)):FnOk P w K mg base CX0 2 f fd ["one","other"] (spD K true WK):=by
 have sc:=zb7;refine F.ok sc (λvs H Q E h=>zI (λ_ _⟨_,_,e,_⟩=>by rw[e];rfl) h) (λcdv A outer s H vs Q E hr h=>?_);obtain⟨Fh,ds,d,le,dp,p,q⟩:=h
 refine⟨_,(ze (pS (i:=2) sc.nd (pF c_common_divisor hr (zb (pX (zw (K:=K) rfl) (pv 0) zg) (zb (pX (zw (K:=K) rfl) (pv 1) zg) zd))))
   (ze (pS (i:=3) sc.nd (zq yq (zq ym (pX (zw (K:=K) rfl) (pv 0) zg) (zq yY (pX (zw (K:=K) rfl) (pv 1) zg) (pv 2))) (zq ym (pX (zw (K:=K) rfl) (pv 1) zg) (zq yY (pX (zw (K:=K) rfl) (pv 0) zg) (pv 2)))))
   (ze (pS (i:=4) sc.nd (pF c_common_divisor hr (zb (pv 3) (zb (pv 2) zd))))
   (zi (zG (yN (zb (zq yY (pv 3) (pv 4)) (zb (zq ym (zq yY (pX (zw (K:=K) rfl) (pv 0) zg) (pv 2)) (zq yY (pX (zw (K:=K) rfl) (pv 1) zg) (pv 4))) zd)))))))),?_⟩
 have hN:=sc.n 5;obtain⟨⟨a,b⟩,⟨c,d⟩,rfl,s1,s2,rfl⟩:=p;have d1:1≤d:=s2.low.pos;have b1:1≤b:=s1.low.pos;have g1:1≤((Int.gcd b d:Nat):Int):=uS d1;have e1:ug d ((Int.gcd b d:Nat):Int):=vH d1 s2.bb ⋯;have e2:ug b ((Int.gcd b d:Nat):Int):=vH d1 s2.bb ⋯;have bd:(d / ((Int.gcd b d:Nat):Int)).natAbs < 2 ^ 9000:=dn (um (ξk b d)) s2.bb;have bb:(b / ((Int.gcd b d:Nat):Int)).natAbs < 2 ^ 40000:=dn (um (ξ4 b d)) s1.bb;have m1:IntMulOk a (d / ((Int.gcd b d:Nat):Int)):=wH s1.ba bd ⋯;have m2:IntMulOk c (b / ((Int.gcd b d:Nat):Int)):=wH s2.ba bb ⋯;have bg:(((Int.gcd b d:Nat):Int)).natAbs < 2 ^ 9000:=dn (VW d1) s2.bb;have e3:∀x,ug x ((Int.gcd (a * (d / ((Int.gcd b d:Nat):Int)) + c * (b / ((Int.gcd b d:Nat):Int))) ((Int.gcd b d:Nat):Int):Nat):Int):=λx=>vH g1 bg ⋯
 have br:(d / ((Int.gcd (a * (d / ((Int.gcd b d:Nat):Int)) + c * (b / ((Int.gcd b d:Nat):Int))) ((Int.gcd b d:Nat):Int):Nat):Int)).natAbs < 2 ^ 9000 :=
  dn (um (Int.dvd_trans (ξk _ _) (ξk b d))) s2.bb
 have m3:IntMulOk (b / ((Int.gcd b d:Nat):Int)) (d / ((Int.gcd (a * (d / ((Int.gcd b d:Nat):Int)) + c * (b / ((Int.gcd b d:Nat):Int))) ((Int.gcd b d:Nat):Int):Nat):Int)):=wH bb br ⋯;walk_at"run";refine exs true (zm ∅ ⟨b,d,rfl,d1,rfl⟩) #[0] ?_;refine exs true ∅ #[0] ?_;refine exs true (zm ∅ ⟨_,_,rfl,g1,rfl⟩) #[0] ?_;refine zR true (by walk_at"ev"; exact e3 _; exact e3 _) ?_ (.inl ⟨rfl,rfl⟩);rfl
def tG(ds:AG)(d:AD):Prop:=∃xs:AM,ds=[.list (xs.map shD)]∧(∀x∈xs,Shr 8900 x.1 x.2)∧xs.length≤4∧d=shD (tot xs)
theorem zb0:∀(xs:AM),(∀x∈xs,Shr 8900 x.1 x.2)→(sm xs).1.natAbs < 2 ^ (8902 * xs.length + 1)∧(sm xs).2.natAbs < 2 ^ (8902 * xs.length + 1):=by
 have key:∀(n:Nat) (xs:AM),xs.length=n→(∀x∈xs,Shr 8900 x.1 x.2)→(sm xs).1.natAbs < 2 ^ (8902 * n + 1)∧(sm xs).2.natAbs < 2 ^ (8902 * n + 1):=by
  intro n;induction n with
  | zero =>
   intro xs h _;have:xs=[]:=ζU h;subst this;exact⟨#[2],#[2]⟩
  | succ n ih =>
   intro xs h hx;obtain⟨t,s,rfl⟩:∃t s,xs=t ++ [s]:=⟨xs.dropLast,xs.getLast (by intro e; rw[e]at h; cases h),(ζ6 _).symm⟩
   have hl:t.length=n:=by rw[List.length_append]at h; simpa using h
   have ih':=ih t hl λx hx'=>hx x (ζS _ hx');have hs:=hx s (by simp);unfold sm at ih' ⊢;rw[Zv];generalize smT t (0,1)=z at ih';have a1:=VR ih'.1 hs.bb;have a2:=VR hs.ba ih'.2;rw[Nat.add_comm 8900 (8902 * n + 1)]at a2;have a3:=VR ih'.2 hs.bb;refine⟨up (ze6 a1 a2) ⋯,up a3 ⋯⟩
 exact λxs=>key xs.length xs rfl
theorem zbR(h:∀x∈xs,Shr 8900 x.1 x.2)(hl:xs.length≤4):Shr 40000 (tot xs).1 (tot xs).2:=by
 have ok:=zfd xs λx hx=>(h x hx).low;have b:=zb0 xs h;have le:=ok.le;have p1:=Zi ok.low;have p2:=ok.pos;exact⟨ok.low,up (ξs le.2 b.1) ⋯,up (ξs ⋯ b.2) ⋯⟩
theorem Q4:zA ["shares","found","part"] ["shares"] (zn (top 20)):={}
theorem zaC(F:Fun K "total" "total" (top 20) f fd)(B:Bs mg)(c_plus:zt P w K mg base CX0 "plus" ["one","other"] 2 (spD K true WK)):FnOk P w K mg base CX0 3 f fd ["shares"] (spD K true tG):=by
 have sc:=Q4;refine F.ok sc (λvs H Q E h=>zI (λ_ _⟨_,e,_⟩=>by rw[e];rfl) h) (λcdv A outer s H vs Q E hr h=>?_);obtain⟨Fh,ds,d,le,dp,p,q⟩:=h
 refine⟨_,(ze (pS (i:=1) sc.nd (yN (zb zg (zb zg zd))))
   (ze (zZ AC rfl (zJ (K:=K) rfl (pv 0)) (pN (i:=2) sc.nd) (zi (pS (i:=1) sc.nd (pF c_plus hr (zb (pv 1) (zb (pv 2) zd))))))
   (zi (zG (pv 1))))),?_⟩
 have hN:=sc.n 3;obtain⟨xs,rfl,hx,hl,rfl⟩:=p;walk_at"run";walk_at"go";refine yK false (λi Γ=>∃y,Γ=[some (.fz false (.list (xs.map shD))),some (.fz true (shD (tot (xs.take i)))),y]) (zO ∅) ⟨none,by rw[ζX]; rfl⟩ ?_ ?_
 ·rintro i d Γ' hd ⟨y,rfl⟩;obtain⟨x,hx',rfl⟩:=yP hd;have hi:=(ζh.mp hx').1;refine⟨_,egn #[0] ?_⟩
  refine exs1 true (zm ∅ ⟨tot (xs.take i),x,rfl,zbR (λz hz=>hx z (ζ7 hz)) (by rw[ζJ]; omega),(hx x (ζf hx')).up #[2],rfl⟩) #[0] ?_;show∃y,_;rw[take_succ hx',Wi];exact⟨_,rfl⟩
 ·rintro Γ' ⟨y,rfl⟩;refine zR true ∅ ?_ (.inl ⟨rfl,rfl⟩);rw[ζa,ζ3]
def vQ(ds:AG)(d:AD):Prop:=∃x y:Int×Int,ds=[shD x,shD y]∧Shr 9000 x.1 x.2∧1≤x.1∧Shr 40000 y.1 y.2∧d=shD (tm x.1 x.2 y.1 y.2)
theorem Q5:zA ["one","other","first","second"] ["one","other"] (zn (top 18)):={}
theorem zaD(F:Fun K "times" "times" (top 18) f fd)(B:Bs mg)(c_common_divisor:zt P w K mg base CX0 "common_divisor" ["number","bottom"] 1 (spD K true xf)):FnOk P w K mg base CX0 2 f fd ["one","other"] (spD K true vQ):=by
 have sc:=Q5;refine F.ok sc (λvs H Q E h=>zI (λ_ _⟨_,_,e,_⟩=>by rw[e];rfl) h) (λcdv A outer s H vs Q E hr h=>?_);obtain⟨Fh,ds,d,le,dp,p,q⟩:=h
 refine⟨_,(ze (pS (i:=2) sc.nd (pF c_common_divisor hr (zb (pX (zw (K:=K) rfl) (pv 0) zg) (zb (pX (zw (K:=K) rfl) (pv 1) zg) zd))))
   (ze (pS (i:=3) sc.nd (pF c_common_divisor hr (zb (pX (zw (K:=K) rfl) (pv 1) zg) (zb (pX (zw (K:=K) rfl) (pv 0) zg) zd))))
   (zi (zG (yN (zb (zq ym (zq yY (pX (zw (K:=K) rfl) (pv 0) zg) (pv 2)) (zq yY (pX (zw (K:=K) rfl) (pv 1) zg) (pv 3))) (zb (zq ym (zq yY (pX (zw (K:=K) rfl) (pv 0) zg) (pv 3)) (zq yY (pX (zw (K:=K) rfl) (pv 1) zg) (pv 2))) zd))))))),?_⟩
 have hN:=sc.n 4;obtain⟨⟨a,b⟩,⟨c,d⟩,rfl,s1,a1,s2,rfl⟩:=p;have d1:1≤d:=s2.low.pos;have b1:1≤b:=s1.low.pos;have a1:1≤a:=a1;have e1:∀x,ug x ((Int.gcd a d:Nat):Int):=λx=>by rw[Int.gcd_comm]; exact vH a1 s1.ba ⋯
 have e2:∀x,ug x ((Int.gcd c b:Nat):Int):=λx=>vH b1 s1.bb ⋯;have ba:(a / ((Int.gcd a d:Nat):Int)).natAbs < 2 ^ 9000:=dn (um (ξ4 a d)) s1.ba;have bc:(c / ((Int.gcd c b:Nat):Int)).natAbs < 2 ^ 40000:=dn (um (ξ4 c b)) s2.ba;have bb:(b / ((Int.gcd c b:Nat):Int)).natAbs < 2 ^ 9000:=dn (um (ξk c b)) s1.bb;have bd:(d / ((Int.gcd a d:Nat):Int)).natAbs < 2 ^ 40000:=dn (um (ξk a d)) s2.bb;have m1:IntMulOk (a / ((Int.gcd a d:Nat):Int)) (c / ((Int.gcd c b:Nat):Int)):=wH ba bc ⋯;have m2:IntMulOk (b / ((Int.gcd c b:Nat):Int)) (d / ((Int.gcd a d:Nat):Int)):=wH bb bd ⋯;walk_at"run";refine exs true (zm ∅ ⟨a,d,rfl,d1,rfl⟩) #[0] ?_;refine exs true (zm ∅ ⟨c,b,rfl,b1,rfl⟩) #[0] ?_;refine zR true (by walk_at"ev"; exact e1 _; exact e2 _; exact e2 _; exact e1 _) ?_ (.inl ⟨rfl,rfl⟩);rfl
def WL(ds:AG)(d:AD):Prop:=∃x y:Int×Int,ds=[shD x,shD y]∧Shr 9000 x.1 x.2∧1≤x.1∧Shr 40000 y.1 y.2∧0 < y.1∧d=shD (tm x.1 x.2 y.2 y.1)
theorem za5(h:Shr n a b)(ha:0 < a):Shr n b a:=⟨⟨ha,by rw[Int.gcd_comm]; exact h.low.co⟩,h.bb,h.ba⟩
theorem zb8:zA ["one","other"] ["one","other"] (zn (top 19)):={}
theorem zcC(F:Fun K "over" "over" (top 19) f fd)(B:Bs mg)(c_times:zt P w K mg base CX0 "times" ["one","other"] 2 (spD K true vQ)):FnOk P w K mg base CX0 3 f fd ["one","other"] (spD K true WL):=by
 have sc:=zb8;refine F.ok sc (λvs H Q E h=>zI (λ_ _⟨_,_,e,_⟩=>by rw[e];rfl) h) (λcdv A outer s H vs Q E hr h=>?_);obtain⟨Fh,ds,d,le,dp,p,q⟩:=h
 refine⟨_,(ze (yx (zu wg (pX (zw (K:=K) rfl) (pv 1) zg) zg (zP _)) (zi ZC) zV)
   (ze (yx (zu Yy (pX (zw (K:=K) rfl) (pv 1) zg) zg (zP _)) (zi (zG (pF c_times hr (zb (pv 0) (zb (yN (zb (zav Vr (pX (zw (K:=K) rfl) (pv 1) zg)) (zb (zav Vr (pX (zw (K:=K) rfl) (pv 1) zg)) zd))) zd))))) zV)
   (zi (zG (pF c_times hr (zb (pv 0) (zb (yN (zb (pX (zw (K:=K) rfl) (pv 1) zg) (zb (pX (zw (K:=K) rfl) (pv 1) zg) zd))) zd))))))),?_⟩
 have hN:=sc.n 2;obtain⟨⟨a,b⟩,⟨c,d⟩,rfl,s1,a1,s2,h0,rfl⟩:=p;have h0':0 < c:=h0;walk_at"run";refine uW (b:=decide (c=0)) ∅ (decide_eq_false ⋯) ?_;refine uW (b:=decide (c < 0)) ∅ (decide_eq_false ⋯) ?_;exact zR true (zm ∅ (show vQ [shD (a,b),shD (d,c)] _ from⟨_,_,rfl,s1,a1,za5 s2 h0',rfl⟩)) rfl (.inl ⟨rfl,rfl⟩)
def WJ(ds:AG)(d:AD):Prop:=∃ss ws:AE,ds=[il ss,il ws]∧(∀s∈ss,1≤s∧s≤9)∧d=.int (rkF ss ws)
theorem QB{xs ys:AE}{i:Nat}{x y:Int}(h1:xs[i]?=some x)(h2:ys[i]?=some y):(xs.zip ys).take (i + 1)=(xs.zip ys).take i ++ [(x,y)]:=take_succ (ξN.mpr ⟨h1,h2⟩)
theorem zb6:zA ["sizes","world","place","size","value"] ["sizes","world"] (zn (top 23)):={}
theorem zcA(F:Fun K "rank" "rank" (top 23) f fd)(B:Bs mg): FnOk P w K mg base CX0 1 f fd ["sizes","world"] (spD K true WJ):=by
 have sc:=zb6;refine F.ok sc (λvs H Q E h=>zI (λ_ _⟨_,_,e,_⟩=>by rw[e];rfl) h) (λcdv A outer s H vs Q E hr h=>?_);obtain⟨Fh,ds,d,le,dp,p,q⟩:=h
 refine⟨_,(ze (pS (i:=2) sc.nd zg)
   (ze (zZ AC rfl (wZ (K:=K) rfl rfl B.zip (zb (pv 0) (zb (pv 1) zd))) (xQ (K:=K) (n:=2) rfl rfl (yf (pN (i:=3) sc.nd) (yf (pN (i:=4) sc.nd) xP))) (zi (pS (i:=2) sc.nd (zq yq (zq ym (pv 2) (pv 3)) (pv 4)))))
   (zi (zG (pv 2))))),?_⟩
 have hN:=sc.n 5;obtain⟨ss,ws,rfl,hs,rfl⟩:=p;walk_at"run";walk_at"go";refine yK false (λi Γ=>∃x y,Γ=[some (.fz false (il ss)),some (.fz false (il ws)),some (.fz true (.int (((ss.zip ws).take i).foldl (λa x=>a * x.1 + x.2) 0))),x,y]) (ul ∅) ⟨none,none,by rw[ζX]; rfl⟩ ?_ ?_
 ·rintro i d Γ' hd ⟨x,y,rfl⟩;obtain⟨s,v,hs',hv',rfl⟩:=tM hd;have hb:=hs s (ζf hs');refine⟨_,egt #[0] #[0] ?_⟩
  refine exs1 true (by walk_at"ev"; exact xB ⋯ ⋯) #[0] ?_;show∃x y,_;rw[QB hs' hv',ξG];exact⟨_,_,rfl⟩
 ·rintro Γ' ⟨x,y,rfl⟩;refine zR true ∅ ?_ (.inl ⟨rfl,rfl⟩);unfold rkF;rw[ζB];rw[ξw,ξu,ζa,ζa];exact ζj _
def fitB(v:Int)(k:Option Int):Bool:=match k with | none=>true | some x=>decide (v=x)
def WM(ds:AG)(d:AD):Prop:=∃(v:Int) (k:Option Int),ds=[.int v,optD k]∧d=.bool (fitB v k)
theorem zca:zA ["value","known"] ["value","known"] (zn (top 24)):={}
theorem zcE(F:Fun K "fits" "fits" (top 24) f fd)(B:Bs mg): FnOk P w K mg base CX0 1 f fd ["value","known"] (spD K true WM):=by
 have sc:=zca;refine F.ok sc (λvs H Q E h=>zI (λ_ _⟨_,_,e,_⟩=>by rw[e];rfl) h) (λcdv A outer s H vs Q E hr h=>?_);obtain⟨Fh,ds,d,le,dp,p,q⟩:=h;refine⟨_,(zi (zG (zfl (xR zen (pv 1) tI (zP _)) (VJ (xR wg (pv 0) (pv 1) (zP _)))))),?_⟩
 have hN:=sc.n 2;obtain⟨v,k,rfl,rfl⟩:=p;walk_at"run";cases k with
 | none =>
  dsimp only[optD];exact zR true (zbj (a:=true) (b:=true) (V0 (d:=.none) (EvE.toD (κ:=false) (evv #[1] #[2]))) λh=>nomatch h) rfl (.inl ⟨rfl,rfl⟩)
 | some x =>
  dsimp only[optD];exact zR true (zbj (a:=false) (b:=decide (v=x)) (V0 (d:=.int x) (EvE.toD (κ:=false) (evv #[1] #[2]))) λ_=>xM (evv #[1] #[2]) (evv #[1] #[2])) rfl (.inl ⟨rfl,rfl⟩)
def Yu(ds:AG)(d:AD):Prop:=∃(hs:AH) (cs:AE),ds=[lls hs,il cs]∧hs.length * cs.length≤150000∧(∀h∈hs,h.length≤1000)∧d=lls (grow hs cs)
theorem Q6:zA ["heads","choices","found","head","value"] ["heads","choices"] (zn (top 26)):={}
theorem zaE(F:Fun K "grown" "grown" (top 26) f fd)(B:Bs mg): FnOk P w K mg base CX0 1 f fd ["heads","choices"] (spD K true Yu):=by
 have sc:=Q6;refine F.ok sc (λvs H Q E h=>zI (λ_ _⟨_,_,e,_⟩=>by rw[e];rfl) h) (λcdv A outer s H vs Q E hr h=>?_);obtain⟨Fh,ds,d,le,dp,p,q⟩:=h
 refine⟨_,(ze (pS (i:=2) sc.nd (zQ zd))
   (ze (zZ AC rfl (zJ (K:=K) rfl (pv 0)) (pN (i:=3) sc.nd) (zi (zZ AC rfl (zJ (K:=K) rfl (pv 1)) (pN (i:=4) sc.nd) (zi (yg (yo (K:=K) rfl ζq ζE ζD zW (pv 2) (zb (zq (uM (K:=K) rfl) (pv 3) (zQ (zb (pv 4) zd))) zd)))))))
   (zi (zG (pv 2))))),?_⟩
 have hN:=sc.n 5;obtain⟨hs,cs,rfl,hz,hh,rfl⟩:=p;walk_at"run";walk_at"go";refine yK false (λi Γ=>∃x y,Γ=[some (.fz false (lls hs)),some (.fz false (il cs)),some (.ow true ((grow (hs.take i) cs).map il)),x,y]) (zO ∅) ⟨none,none,by rw[ζX]; rfl⟩ ?_ ?_
 ·rintro i d Γ' hd ⟨x,y,rfl⟩;obtain⟨h,hh',rfl⟩:=yP hd;have hb:=hh h (ζf hh');have hi:=(ζh.mp hh').1;refine⟨_,egn #[0] ?_⟩
  refine tO false (λj Γ=>∃y,Γ=[some (.fz false (lls hs)),some (.fz false (il cs)),some (.ow true ((grow (hs.take i) cs ++ (cs.take j).map λc=>h ++ [c]).map il)),some (.fz false (il h)),y]) (zO ∅) ⟨_,by rw[ζX,List.map_nil,ζQ]⟩ ?_ ?_
  ·rintro j d Γ' hd ⟨y,rfl⟩;obtain⟨c,hc',rfl⟩:=yP hd;have hj:=(ζh.mp hc').1;refine⟨_,egn #[0] ?_⟩
   have e1:(h.map PyData.int).length + [PyData.int c].length≤sizeLine:=by
    rw[ζa];have:=zK;show h.length + 1≤_;omega
   refine exa1 #[1] ∅ #[0] ?_ ?_
   ·rw[ζa,ζg,ZR,ζa,ζJ,ζJ];have:=zK;have h2:min i hs.length * cs.length + min j cs.length≤hs.length * cs.length:=by
     rw[ξ8 ⋯,ξ8 ⋯];have:(i + 1) * cs.length≤hs.length * cs.length:=Nat.mul_le_mul_right _ ⋯;rw[Nat.succ_mul]at this;omega
    omega
   ·have e:(grow (hs.take i) cs ++ (cs.take (j + 1)).map λc=>h ++ [c]).map il=(grow (hs.take i) cs ++ (cs.take j).map λc=>h ++ [c]).map il ++ [.list (h.map .int ++ [.int c])]:=by
     rw[take_succ hc'];simp[il]
    show∃y,_;rw[e];exact⟨_,rfl⟩
  ·rintro Γ' ⟨y,rfl⟩;have e2:cs.take (cs.map PyData.int).length=cs:=by rw[ζa,ζ3]
   rw[take_succ hh',YH,e2];exact⟨_,_,rfl⟩
 ·rintro Γ' ⟨x,y,rfl⟩;refine exro #[1] ?_ (.inl ⟨rfl,rfl⟩);rw[ζa,ζ3]
theorem Wc:∀(l:List (Int×Option Int)) (fd:AH) (h:AE),h∈wbyF fd l→∃g∈fd,h.length=g.length + l.length
 | [],fd,h,hm=>⟨h,hm,rfl⟩
 | x :: r,fd,h,hm=>by
  obtain⟨g,hg,e⟩:=Wc r _ h hm;unfold grow at hg;obtain⟨a,ha,hb⟩:=List.mem_flatMap.mp hg;obtain⟨c,_,rfl⟩:=ζn.mp hb;refine⟨a,ha,?_⟩
  rw[e,ζg];show a.length + 1 + r.length=a.length + (r.length + 1);omega
theorem We:∀(l:List (Int×Option Int)) (fd:AH),(wbyF fd l).length≤fd.length * (l.map λx=>x.1.toNat).foldr (· * ·) 1
 | [],fd=>by simp[wbyF]
 | x :: r,fd=>by
  show(wbyF (grow fd (chs x.1 x.2)) r).length≤fd.length * (x.1.toNat * (r.map λx=>x.1.toNat).foldr (· * ·) 1);refine ζZ (We r _) ?_;rw[ZR,←ξW];exact Nat.mul_le_mul_right _ (ζ1 _ (Ti _ _))
theorem YK:∀(ss:AE),(∀s∈ss,1≤s∧s≤9)→((ss.map λx=>x.toNat).foldr (· * ·) 1:Nat)=(prod ss).toNat
 | [],_=>rfl
 | s :: r,h=>by
  have hs:=h s ζi;have hp:0 < prod r:=vx λx hx=>by have:=h x (ζp _ hx); omega
  show s.toNat * (r.map λx=>x.toNat).foldr (· * ·) 1=(s * prod r).toNat;rw[YK r λx hx=>h x (ζp _ hx)];have e1:s=(s.toNat:Int):=by omega
  have e2:prod r=((prod r).toNat:Int):=by omega
  conv=>rhs; rw[e1,e2,←ξA]
  rw[ζI]
theorem tF:∀(n:Nat) (ss:AE),(∀s∈ss,1≤s∧s≤9)→prod (ss.take n)≤prod ss
 | 0,ss,h=>by
  have:=vx (ss:=ss) λx hx=>by have:=h x hx; omega
  rw[ζX];show(1:Int)≤_;omega
 | n + 1,[],_=>Int.le_refl _
 | n + 1,s :: r,h=>by
  have hs:=h s ζi;exact ξE (tF n r λx hx=>h x (ζp _ hx)) ⋯
theorem Uh:∀(ss:AE) (vw:List (Option Int)) (n:Nat),ss.length=vw.length→((ss.zip vw).take n).map (λx=>x.1.toNat)=(ss.take n).map λx=>x.toNat
 | [],_,n,_=>by simp
 | s :: r,[],_,h=>by simp at h
 | s :: r,v :: e,0,_=>rfl
 | s :: r,v :: e,n + 1,h=>by
  show s.toNat :: ((r.zip e).take n).map _=s.toNat :: (r.take n).map _;rw[Uh r e n (by simpa using h)]
def v5(ds:AG)(d:AD):Prop:=∃(ss:AE) (vw:List (Option Int)),ds=[il ss,vl vw]∧ss.length=vw.length∧(∀s∈ss,1≤s∧s≤9)∧ss.length≤63∧prod ss≤16384∧d=lls (wby ss vw)
def fitP(k:Option Int):AD→Bool
 | .int v=>fitB v k
 | _=>false
theorem V7(s:Int)(k:Option Int):(((List.range s.toNat).map λi:Nat=>PyData.int (i:Int)).filter (fitP k)).map (λd=>d)=(chs s k).map .int:=by
 unfold chs rng;rw[List.map_id',List.filter_map,List.filter_map,ζx];rfl
theorem Xa:zA ["sizes","view","found","size","known"] ["sizes","view"] (zn (top 25)):={}
theorem Xv(F:Fun K "worlds_by" "worlds_by" (top 25) f fd)(B:Bs mg)(c_grown:zt P w K mg base CX0 "grown" ["heads","choices"] 1 (spD K true Yu))(c_fits:zt P w K mg base CX0 "fits" ["value","known"] 1 (spD K true WM)):FnOk P w K mg base CX0 2 f fd ["sizes","view"] (spD K true v5):=by
 have sc:=Xa;refine F.ok sc (λvs H Q E h=>zI (λ_ _⟨_,_,e,_⟩=>by rw[e];rfl) h) (λcdv A outer s H vs Q E hr h=>?_);obtain⟨Fh,ds,d,le,dp,p,q⟩:=h
 refine⟨_,(ze (pS (i:=2) sc.nd (zQ (zb (zQ zd) zd)))
   (ze (zZ AC rfl (wZ (K:=K) rfl rfl B.zip (zb (pv 0) (zb (pv 1) zd))) (xQ (K:=K) (n:=2) rfl rfl (yf (pN (i:=3) sc.nd) (yf (pN (i:=4) sc.nd) xP))) (zi (pS (i:=2) sc.nd (pF c_grown hr (zb (pv 2) (zb (yl rfl (N:=["value","known"]) (js:=[none,some 4]) (by walk_at"comp_ok") (yi rfl B.range (zb (pv 3) zd)) (λ_ _ _ _=>(pN (i:=0) (show υN ["value","known"]by decide +kernel))) (λ_ _ _ _=>(yn (wq (pF c_fits hr (zb (pv 0) (zb (pv 1) zd)))))) (λ_ _ _ _=>(pv 0))) zd))))))
   (zi (zG (pv 2))))),?_⟩
 have hN:=sc.n 5;obtain⟨ss,vw,rfl,hl,hs,h63,hp,rfl⟩:=p;walk_at"run";refine exs true (d:=lls [[]]) (EvE.eq (a:=.list [.list []]) ∅ rfl) #[0] ?_;refine yK false (λi Γ=>∃x y,Γ=[some (.fz false (il ss)),some (.fz false (vl vw)),some (.fz true (lls (wbyF [[]] ((ss.zip vw).take i)))),x,y]) (ul ∅) ⟨none,none,by rw[ζX]; rfl⟩ ?_ ?_
 ·rintro i d Γ' hd ⟨x,y,rfl⟩;obtain⟨s,v,hs',hv',rfl⟩:=tM hd;have hb:=hs s (ζf hs');have hi:=(ζh.mp hs').1;refine⟨_,egt #[0] #[0] ?_⟩
  have hlen:(wbyF [[]] ((ss.zip vw).take i)).length≤16384:=by
   refine ζZ (We _ _) ?_;rw[Uh _ _ _ hl,YK _ λx hx=>hs x (ζ7 hx)];have:=tF i ss hs;show 1 * _≤_;omega
  have hc:=Ti s v;refine exs1 (d:=lls (grow (wbyF [[]] ((ss.zip vw).take i)) (chs s v))) true (zm (zh ∅ (zh (EvO.toE (vX (is:=[0]) false (fitP v) (λd=>d) (yQ ∅ ⋯ ⋯) (by walk_at"cc") rfl #[2] ?_ ?_)) zD)) ?_) #[0] ?_
  ·rw[yS];have:=zK;omega
  ·intro d hd;obtain⟨j,hj⟩:=ξV.mp hd;obtain⟨hj,rfl⟩:=yT hj;refine egn #[0] ⟨et_B (zm ∅ ⟨_,_,rfl,rfl⟩),λ_=>by walk_at"ev"⟩
  ·refine⟨_,_,by rw[V7],?_,?_,rfl⟩
   ·have:(chs s v).length≤9:=by omega
    exact ζZ (Nat.mul_le_mul hlen this) #[2]
   ·intro h hm;obtain⟨g,hg,e⟩:=Wc _ _ h hm;have:g=[]:=by simpa using hg
    subst this;rw[e,ζJ,ξu];show 0 + _≤_;omega
  ·show∃x y,_;rw[take_succ (x:=(s,v)) (ξN.mpr ⟨hs',hv'⟩),tw];exact⟨_,_,rfl⟩
 ·rintro Γ' ⟨x,y,rfl⟩;refine zR true ∅ ?_ (.inl ⟨rfl,rfl⟩);unfold wby;rw[ζB];rw[ξw,ξu,ζa,ζa];exact ζj _
def ZD(ds:AG)(d:AD):Prop:=∃(ss:AE),ds=[il ss]∧(∀s∈ss,1≤s∧s≤9)∧ss.length≤63∧prod ss≤16384∧d=lls (wds ss)
theorem Tz:zA ["sizes"] ["sizes"] (zn (top 22)):={}
theorem TW(F:Fun K "worlds" "worlds" (top 22) f fd)(B:Bs mg)(c_worlds_by:zt P w K mg base CX0 "worlds_by" ["sizes","view"] 2 (spD K true v5)):FnOk P w K mg base CX0 3 f fd ["sizes"] (spD K true ZD):=by
 have sc:=Tz;refine F.ok sc (λvs H Q E h=>zI (λ_ _⟨_,e,_⟩=>by rw[e];rfl) h) (λcdv A outer s H vs Q E hr h=>?_);obtain⟨Fh,ds,d,le,dp,p,q⟩:=h;refine⟨_,(zi (zG (pF c_worlds_by hr (zb (pv 0) (zb (zq ZJ (zQ (zb tI zd)) (pB (zj (K:=K) rfl) B.len (zb (pv 0) zd))) zd))))),?_⟩
 have hN:=sc.n 1;obtain⟨ss,rfl,hs,h63,hp,rfl⟩:=p;walk_at"run";refine zR true (zm (zh ∅ (zh (EvO.toE (vc (k:=(ss.length:Int)) ∅ (EvE.eq ∅ (by rw[ζa])) ⋯ ⋯ ?_)) zD)) ?_) rfl (.inl ⟨rfl,rfl⟩)
 ·have:=zK;show 1 * _≤_;omega
 ·refine⟨ss,List.replicate ss.length none,?_,by rw[ζT],hs,h63,hp,?_⟩
  ·rw[ζI,vq]
  ·rw[zbO _ _ rfl λx hx=>by have:=hs x hx; omega]
abbrev nl(ks:AF):AD:=.list (ks.map λk:Nat=>.int (k:Int))
theorem wv(ks:AF):∀d∈ks.map (λk:Nat=>PyData.int (k:Int)),imm d=true:=λd hd=>by
 obtain⟨n,_,rfl⟩:=ζn.mp hd;rfl
def uj(ds:AG)(d:AD):Prop:=∃(vs:AG) (ks:AF),ds=[.list vs,nl ks]∧(∀d∈vs,imm d=true)∧(∀k∈ks,k < vs.length)∧ks.length≤63∧d=.list (ks.map λk=>vs.getD k .none)
def pkF(vs:AG):AD→AD
 | .int k=>vs.getD k.toNat .none
 | _=>.none
theorem UH(ss:AE)(ks:AF)(h:∀k∈ks,k < ss.length):(ks.map λk=>(ss.map PyData.int).getD k .none)=(pk ss ks).map .int:=by
 unfold Sx2.pk;rw[ζx];refine ζs λk hk=>?_;have:=h k hk;rw[ζb,ζo,ζd this];show PyData.int _=PyData.int (ss.getD k 0);rw[ζb,ζd this];rfl
theorem TC:zA ["values","things"] ["values","things"] (zn (top 28)):={}
theorem TY(F:Fun K "picked" "picked" (top 28) f fd)(B:Bs mg): FnOk P w K mg base CX0 1 f fd ["values","things"] (spD K true uj):=by
 have sc:=TC;refine F.ok sc (λvs H Q E h=>zI (λ_ _⟨_,_,e,_⟩=>by rw[e];rfl) h) (λcdv A outer s H vs Q E hr h=>?_);obtain⟨Fh,ds,d,le,dp,p,q⟩:=h;refine⟨_,(zi (zG (yl rfl (N:=["k","values"]) (js:=[none,some 0]) (by walk_at"comp_ok") (zJ (K:=K) rfl (pv 1)) (λ_ _ _ _=>(pN (i:=0) (show υN ["k","values"]by decide +kernel))) (λ_ _ _ _=>xF) (λ_ _ _ _=>(pX (zv (K:=K) rfl) (pv 1) (pv 0)))))),?_⟩
 have hN:=sc.n 2;obtain⟨vs',ks,rfl,him,hk,hl,rfl⟩:=p;walk_at"run";refine zR true (EvO.toE (EvO.eq (vW (is:=[0]) false (pkF vs') (zO ∅) (by walk_at"cc") rfl #[2] ?_ ?_) ?_)) rfl (.inl ⟨rfl,rfl⟩)
 ·rw[ζa];have:=zK;omega
 ·intro d hd;obtain⟨k,hk',rfl⟩:=ζn.mp hd;have hkl:=hk k hk';refine egn #[0] ?_;have at1:atI vs' (k:Int)=some (pkF vs' (.int k)):=tj (by
   show _=some (vs'.getD (Int.toNat (k:Int)) .none);rw[ζI,ζb,ζd hkl];rfl)
  exact zS ((EvE.toL (κ:=false) ∅).imm him) ∅ at1
 ·rw[ζx];rfl
def ZF(ds:AG)(d:AD):Prop:=∃(vw:List (Option Int)) (ks:AF) (ws:AE),ds=[vl vw,nl ks,il ws]∧ks.length=ws.length∧(∀k∈ks,k < vw.length)∧d=vl (fil vw ks ws)
theorem za7{vw:List (Option Int)}{ks:AF}{ws:AE}{i k:Nat}{v:Int}(h1:ks[i]?=some k)(h2:ws[i]?=some v):((ks.zip ws).take (i + 1)).foldl (λv x=>v.set x.1 (some x.2)) vw=(((ks.zip ws).take i).foldl (λv x=>v.set x.1 (some x.2)) vw).set k (some v):=by
 rw[take_succ (x:=(k,v)) (ξN.mpr ⟨h1,h2⟩),ξG];rfl
theorem za4(l:List (Nat×Int)):∀vw:List (Option Int),(l.foldl (λv x=>v.set x.1 (some x.2)) vw).length=vw.length:=by
 induction l with
 | nil=>intro _; rfl
 | cons x r ih=>intro vw; rw[List.foldl_cons,ih,ξ9]
theorem TH:zA ["view","things","values","found","k","value"] ["view","things","values"] (zn (top 30)):={}
theorem T1(F:Fun K "filled" "filled" (top 30) f fd)(B:Bs mg): FnOk P w K mg base CX0 1 f fd ["view","things","values"] (spD K true ZF):=by
 have sc:=TH;refine F.ok sc (λvs H Q E h=>zI (λ_ _⟨_,_,_,e,_⟩=>by rw[e];rfl) h) (λcdv A outer s H vs Q E hr h=>?_);obtain⟨Fh,ds,d,le,dp,p,q⟩:=h
 refine⟨_,(ze (pS (i:=3) sc.nd (pY (yh (K:=K) rfl) B.list (zb (pv 0) zd)))
   (ze (zZ AC rfl (wZ (K:=K) rfl rfl B.zip (zb (pv 1) (zb (pv 2) zd))) (xQ (K:=K) (n:=2) rfl rfl (yf (pN (i:=4) sc.nd) (yf (pN (i:=5) sc.nd) xP))) (zi (Xr (pv 5) (VH (pv 3) (pv 4) Zx))))
   (zi (zG (pv 3))))),?_⟩
 have hN:=sc.n 6;obtain⟨vw,ks,ws,rfl,hl,hk,rfl⟩:=p;walk_at"run";refine exo true (yR ∅) #[0] ?_;refine yK false (λi Γ=>∃x y,Γ=[some (.fz false (vl vw)),some (.fz false (nl ks)),some (.fz false (il ws)),some (.ow true ((((ks.zip ws).take i).foldl (λv x=>v.set x.1 (some x.2)) vw).map optD)),x,y]) (ul ∅) ⟨none,none,by rw[ζX]; rfl⟩ ?_ ?_
 ·rintro i d Γ' hd ⟨x,y,rfl⟩;obtain⟨k,v,hk',hv',rfl⟩:=tM hd;have hkl:=hk k (ζf hk');refine⟨_,egt #[0] #[0] ?_⟩
  refine exi1 (j:=k) #[1] ∅ ∅ (vU (by rw[ζa,za4]; exact hkl)) #[0] ?_;show∃x y,_;rw[za7 hk' hv',List.map_set];exact⟨_,_,rfl⟩
 ·rintro Γ' ⟨x,y,rfl⟩;refine exro #[1] ?_ (.inl ⟨rfl,rfl⟩);unfold fil;rw[ζB];rw[ξw,ξu,ζa,ζa];exact ζj _
structure SzOk(ss:AE)(ks:AF):Prop where
 s:∀s∈ss,1≤s∧s≤9
 k:∀k∈ks,k < ss.length
 l:ks.length≤63
 p:prod (pk ss ks)≤16384
theorem SzOk.pk(h:SzOk ss ks):∀s∈pk ss ks,1≤s∧s≤9:=λs hs=>by
 obtain⟨k,hk,rfl⟩:=ζn.mp hs;have:=h.k k hk;refine h.s _ ?_;rw[ζb,ζd this];exact ξa this
def xi(ds:AG)(d:AD):Prop:=∃(ss:AE) (vw:List (Option Int)) (ks:AF),ds=[il ss,vl vw,nl ks]∧SzOk ss ks∧vw.length=ss.length∧d=.list ((wds (pk ss ks)).map λw=>vl (fil vw ks w))
def unI:AD→AE
 | .list ds=>ds.map λd=>match d with | .int i=>i | _=>0
 | _=>[]
theorem QI(w:AE):unI (il w)=w:=by
 show(w.map PyData.int).map _=w;rw[ζx];exact List.map_id' _
theorem Ze{ss:AE}{w:AE}(h:w∈wds ss):w.length=ss.length:=by
 unfold wds at h;obtain⟨j,_,rfl⟩:=ζn.mp h;exact YY ss j
theorem Wo:zA ["sizes","view","things"] ["sizes","view","things"] (zn (top 31)):={}
theorem WN(F:Fun K "views_of" "views_of" (top 31) f fd)(B:Bs mg)(c_worlds:zt P w K mg base CX0 "worlds" ["sizes"] 3 (spD K true ZD))(c_picked:zt P w K mg base CX0 "picked" ["values","things"] 1 (spD K true uj))(c_filled:zt P w K mg base CX0 "filled" ["view","things","values"] 1 (spD K true ZF)):FnOk P w K mg base CX0 4 f fd ["sizes","view","things"] (spD K true xi):=by
 have sc:=Wo;refine F.ok sc (λvs H Q E h=>zI (λ_ _⟨_,_,_,e,_⟩=>by rw[e];rfl) h) (λcdv A outer s H vs Q E hr h=>?_);obtain⟨Fh,ds,d,le,dp,p,q⟩:=h;refine⟨_,(zi (zG (yl rfl (N:=["values","view","things"]) (js:=[none,some 1,some 2]) (by walk_at"comp_ok") (zJ (K:=K) rfl (pF c_worlds hr (zb (pF c_picked hr (zb (pv 0) (zb (pv 2) zd))) zd))) (λ_ _ _ _=>(pN (i:=0) (show υN ["values","view","things"]by decide +kernel))) (λ_ _ _ _=>xF) (λ_ _ _ _=>(pF c_filled hr (zb (pv 1) (zb (pv 2) (zb (pv 0) zd)))))))),?_⟩
 have hN:=sc.n 3;obtain⟨ss,vw,ks,rfl,ok,hl,rfl⟩:=p;walk_at"run";refine zR true (EvO.toE (EvO.eq (vW (is:=[0]) true (λd=>vl (fil vw ks (unI d))) (zO (zm (zh (EvE.eq (zm ∅ ⟨_,_,rfl,wI ss,by rw[List.length_map]; exact ok.k,ok.l,rfl⟩) (congrArg PyData.list (UH ss ks ok.k))) zD) ⟨pk ss ks,rfl,ok.pk,by unfold Sx2.pk; rw[List.length_map]; exact ok.l,ok.p,rfl⟩)) (by walk_at"cc") rfl #[2] ?_ ?_) ?_)) rfl (.inl ⟨rfl,rfl⟩)
 ·rw[ζa,yM];have:=zK;have:=ok.p;omega
 ·intro d hd;obtain⟨v,hv,rfl⟩:=ζn.mp hd;refine egn #[0] ?_;rw[QI];refine zm ∅ ⟨_,_,_,rfl,?_,by rw[hl]; exact ok.k,rfl⟩;rw[Ze hv];unfold Sx2.pk;rw[ζa]
 ·rw[ζx];refine ζs λv _=>?_;show vl (fil vw ks (unI (il v)))=_;rw[QI]
abbrev shs(xs:AM):AD:=.list (xs.map shD)
abbrev v4(ks:AF)(xs:AM):AD:=.tuple [nl ks,shs xs]
def vals(vw:List (Option Int))(ks:AF):AE:=ks.map λk=>(vw.getD k none).getD 0
theorem zcm(vw:List (Option Int))(ks:AF)(h:∀k∈ks,k < vw.length)(hn:∀k∈ks,vw.getD k none≠none):(ks.map λk=>(vw.map optD).getD k .none)=(vals vw ks).map .int:=by
 unfold vals;rw[ζx];refine ζs λk hk=>?_;have h1:=h k hk;have h2:=hn k hk;rw[ζb,ζo,ζd h1];rw[ζb,ζd h1]at h2;show optD _=PyData.int ((vw.getD k none).getD 0);rw[ζb,ζd h1];cases e:vw[k]with
 | none=>exact absurd e h2
 | some v=>rfl
theorem tf{ns:AE}{k:Nat}(h:k < ns.length):atI (ns.map PyData.int) (k:Int)=some (.int (ns.getD k 0)):=by
 rw[ζb,ζd h];exact yB (ζd h)
theorem zE{α:Type}{l:List α}{k:Nat}{d:α}(h:k < l.length):l[k]?=some (l.getD k d):=by
 rw[ζb,ζd h];rfl
def xj(ds:AG)(d:AD):Prop:=∃(ss:AE) (ks:AF) (xs:AM) (vw:List (Option Int)) (m:Nat),ds=[il ss,v4 ks xs,vl vw]∧SzOk ss ks∧vw.length=ss.length∧(∀k∈ks,vw.getD k none≠none)∧rkF (pk ss ks) (vals vw ks)=m∧m < xs.length∧d=shD (xs.getD m (0,1))
theorem Wp:zA ["sizes","sheet","view","things"] ["sizes","sheet","view"] (zn (top 32)):={}
theorem WO(F:Fun K "share_at" "share_at" (top 32) f fd)(B:Bs mg)(c_rank:zt P w K mg base CX0 "rank" ["sizes","world"] 1 (spD K true WJ))(c_picked:zt P w K mg base CX0 "picked" ["values","things"] 1 (spD K true uj)):FnOk P w K mg base CX0 2 f fd ["sizes","sheet","view"] (spD K true xj):=by
 have sc:=Wp;refine F.ok sc (λvs H Q E h=>zI (λ_ _⟨_,_,_,_,_,e,_⟩=>by rw[e];rfl) h) (λcdv A outer s H vs Q E hr h=>?_);obtain⟨Fh,ds,d,le,dp,p,q⟩:=h
 refine⟨_,(ze (pS (i:=3) sc.nd (pX (zw (K:=K) rfl) (pv 1) zg))
   (zi (zG (pX (zv (K:=K) rfl) (pX (zw (K:=K) rfl) (pv 1) zg) (pF c_rank hr (zb (pF c_picked hr (zb (pv 0) (zb (pv 3) zd))) (zb (pF c_picked hr (zb (pv 2) (zb (pv 3) zd))) zd))))))),?_⟩
 have hN:=sc.n 4;obtain⟨ss,ks,xs,vw,m,rfl,ok,hl,hn,hm,hmx,rfl⟩:=p;walk_at"run";refine exs false ∅ #[0] ?_;have at1:atI (xs.map shD) (m:Int)=some (shD (xs.getD m (0,1))):=tj (by
  rw[ζo,ζb,ζd hmx];rfl)
 refine zR true (EvE.imm (zS (κ:=false) (EvE.toL ∅) (EvE.eq (zm (zh (EvE.eq (zm ∅ ⟨_,_,rfl,wI ss,by rw[ζa]; exact ok.k,ok.l,rfl⟩) (congrArg PyData.list (UH ss ks ok.k))) (zh (EvE.eq (zm ∅ ⟨_,_,rfl,W4 vw,by rw[ζa,hl]; exact ok.k,ok.l,rfl⟩) (congrArg PyData.list (zcm vw ks (by rw[hl]; exact ok.k) hn))) zD)) ⟨_,_,rfl,ok.pk,rfl⟩) (congrArg PyData.int hm)) at1) rfl) rfl (.inl ⟨rfl,rfl⟩)
abbrev nls(cs:AI):AD:=.list (cs.map nl)
def unO:AD→Option Int
 | .int i=>some i
 | _=>none
def unV:AD→List (Option Int)
 | .list ds=>ds.map unO
 | _=>[]
theorem Y2(w:List (Option Int)):unV (vl w)=w:=by
 show(w.map optD).map unO=w;rw[ζx];refine(ζs λx _=>?_).trans (List.map_id w);cases x <;> rfl
theorem YQ(ns:AE):(dd ns).Nodup:=by
 suffices z:∀n,(dd (ns.take n)).Nodup by simpa using z ns.length
 intro n;induction n with
 | zero=>exact ξZ
 | succ n ih =>
  by_cases hn:n < ns.length
  ·have e:ns.take (n + 1)=ns.take n ++ [ns[n]]:=by rw[List.take_succ,ζd hn]; rfl
   rw[e,XY];unfold PyProof.Rows.step_dedup;split
   ·exact ih
   ·rename_i h;rw[ζ4];refine⟨ih,by simp,λx hx y hy=>?_⟩
    rw[ζk.mp hy];rintro rfl;exact h (List.any_eq_true.mpr ⟨_,hx,by simp⟩)
  ·have e1:ns.take (n + 1)=ns.take n:=by rw[ζB ⋯,ζB ⋯]
   rw[e1];exact ih
def zl(ks:AF):AE:=ks.map λk:Nat=>(k:Int)
theorem yt(ks:AF):nl ks=il (zl ks):=by
 unfold zl;show PyData.list _=.list _;rw[ζx];rfl
theorem yJ{k:Nat}:decide ((k:Int)∈zl r)=decide (k∈r):=by
 unfold zl;by_cases h:k∈r
 ·rw[decide_eq_true h,decide_eq_true (ζn.mpr ⟨k,h,rfl⟩)]
 ·rw[decide_eq_false h,decide_eq_false λz=>?_];obtain⟨j,hj,e⟩:=ζn.mp z;have:j=k:=by omega
  exact h (this ▸ hj)
theorem WA(p:Nat→Bool)(n:Nat):((List.range n).filter p).Pairwise (· < ·):=List.pairwise_lt_range.sublist ζK
theorem Ud(h:r.Pairwise (· < ·)):(zl r).Pairwise (·≤·)∧(zl r).Nodup:=by
 have hz:(zl r).Pairwise (· < ·):=by
  unfold zl;rw[List.pairwise_map];exact h.imp λ{a b} z=>by omega
 exact⟨hz.imp λ{a b} z=>by omega,by rw[List.nodup_iff_pairwise_ne]; exact hz.imp λ{a b} z=>by omega⟩
theorem zb4(h:∀x∈xs,x < n):srt (dd (zl xs))=zl ((List.range n).filter λj=>decide (j∈xs)):=by
 have r:=Ud (WA (λj=>decide (j∈xs)) n);refine(Zu ?_ r.1).symm;rw[ξc r.2 (YQ _)];intro a;rw[uo];unfold zl;rw[ζn,ζn];constructor
 ·rintro⟨j,hj,rfl⟩;exact⟨j,by simpa using(List.mem_filter.mp hj).2,rfl⟩
 ·rintro⟨j,hj,rfl⟩;exact⟨j,List.mem_filter.mpr ⟨List.mem_range.mpr (h j hj),by simpa using hj⟩,rfl⟩
theorem xk{x y:Nat}(h:PyData.int (x:Int)=.int (y:Int)):x=y:=Int.ofNat.inj (PyData.int.inj h)
theorem UF:∀(xs:AE) (n:Nat),(∀x∈xs,1≤x∧x≤4)→xs.length≤n→prod xs≤4 ^ n∧1≤prod xs
 | [],n,_,_=>by
  show(1:Int)≤4 ^ n∧(1:Int)≤1;exact⟨by have:=Int.pow_pos (n:=4) (m:=n) #[2]; omega,#[2]⟩
 | x :: r,0,_,h=>by cases h
 | x :: r,n + 1,hx,h=>by
  have ih:=UF r n (λy hy=>hx y (List.mem_cons_of_mem _ hy)) (by simpa using h);have h1:=hx x ζi;show x * prod r≤4 ^ (n + 1)∧1≤x * prod r;rw[Int.pow_succ,ξb ((4:Int) ^ n) 4];refine⟨Int.mul_le_mul h1.2 ih.1 ⋯ #[2],?_⟩
  have:=Int.mul_le_mul h1.1 ih.2 #[2] ⋯;omega
theorem wlen{ss:AE}{ks:AF}{w:AE}(hw:w∈wds (pk ss ks)):w.length=ks.length:=by
 rw[Ze hw];unfold Sx2.pk;rw[ζa]
theorem atI0:atI (a :: l) 0=some a:=tj (j:=0) rfl
theorem atI1:atI (a :: b :: l) 1=some b:=tj (j:=1) rfl
structure ShO(nb:Nat)(ss:AE)(ks:AF)(xs:AM):Prop where
 k:∀k∈ks,k < ss.length
 l:ks.length≤7
 xl:(xs.length:Int)=prod (pk ss ks)
 x:∀x∈xs,Shr nb x.1 x.2∧1≤x.1
structure S7(ss:AE):Prop where
 s:∀s∈ss,2≤s∧s≤4
 n:ss.length≤7
theorem y9{ss:AE}(h:∀s∈ss,2≤s∧s≤4){k:Nat}(hk:k < ss.length):2≤ss.getD k 0∧ss.getD k 0≤4:=by
 rw[ζb,ζd hk];exact h _ (ξa hk)
theorem zdU(n:Nat)(ks1 ks2:AF):(El.unF n ks1 ks2).length≤n:=by
 have:=ζP (λj=>decide (j∈ks1 ++ ks2)) (List.range n);rw[ζv]at this;exact this
theorem tT{ss:AE}(h:S7 ss){ks:AF}(hk:∀k∈ks,k < ss.length)(hl:ks.length≤7):SzOk ss ks:=by
 refine⟨λs z=>by have:=h.s s z; omega,hk,⋯,?_⟩
 have:=(UF (pk ss ks) 7 (λx hx=>by
  obtain⟨j,hj,rfl⟩:=ζn.mp hx;have:=y9 h.s (hk j hj);omega) (by unfold Sx2.pk; rw[List.length_map]; exact hl)).1
 have e:(4:Int) ^ 7=16384:=by decide
 omega
theorem zdm(h:S7 ss)(ks1 ks2:AF):SzOk ss (El.unF ss.length ks1 ks2):=tT h (λk hk=>(El.xU.mp hk).1) (by have:=zdU ss.length ks1 ks2; have:=h.n; omega)
def vOf(n:Nat)(U:AF)(w:AE):List (Option Int):=fil (List.replicate n none) U w
theorem Ul(n:Nat)(U:AF)(w:AE):(vOf n U w).length=n:=by
 unfold vOf;rw[vb,ζT]
theorem v_at{ss:AE}{U:AF}{w:AE}(sz:SzOk ss U)(nd:U.Nodup)(hw:w∈wds (pk ss U)){k:Nat}(hk:k∈U):(vOf ss.length U w)[k]?=some (some (w.getD (U.idxOf k) 0))∧0≤w.getD (U.idxOf k) 0∧w.getD (U.idxOf k) 0 < ss.getD k 0∧U.idxOf k < w.length:=by
 have hi:U.idxOf k < U.length:=ζV.mpr hk;have hm:U[U.idxOf k]?=some k:=by rw[ζd hi,ξL hi]
 have mw:U.idxOf k < w.length:=by rw[wlen hw]; exact hi
 have hwm:w[U.idxOf k]?=some (w.getD (U.idxOf k) 0):=zE mw;have hpm:(pk ss U)[U.idxOf k]?=some (ss.getD k 0):=by
  unfold Sx2.pk;rw[ζo,hm];rfl
 have b:=QE (λs h=>by have:=sz.pk s h; omega) hw _ _ _ hpm hwm;exact⟨tN _ _ _ _ k _ nd hm hwm (by rw[ζT]; exact sz.k k hk),b.1,b.2,mw⟩
def wPk(U ks:AF)(w:AE):AE:=ks.map λk=>w.getD (U.idxOf k) 0
theorem Y1{ss:AE}{U:AF}{w:AE}(sz:SzOk ss U)(nd:U.Nodup)(hw:w∈wds (pk ss U)){ks:AF}(hs:∀k∈ks,k∈U):vals (vOf ss.length U w) ks=wPk U ks w:=by
 unfold vals wPk;refine ζs λk hk=>?_;rw[ζb,(v_at sz nd hw (hs k hk)).1];rfl
def mOf(ss:AE)(ks U:AF)(w:AE):Nat:=(rkF (pk ss ks) (wPk U ks w)).toNat
def atX(ss:AE)(ks:AF)(xs:AM)(U:AF)(w:AE):Int×Int:=xs.getD (mOf ss ks U w) (0,1)
theorem m_ok{ss:AE}{U:AF}{w:AE}(sz:SzOk ss U)(nd:U.Nodup)(hw:w∈wds (pk ss U)){ks:AF}{xs:AM}{nb:Nat}(sh:ShO nb ss ks xs)(hs:∀k∈ks,k∈U):
  rkF (pk ss ks) (wPk U ks w)=(mOf ss ks U w:Int)∧mOf ss ks U w < xs.length:=by
 have b:=tE (ss:=pk ss ks) (ws:=wPk U ks w) (by unfold Sx2.pk wPk; rw[List.length_map,List.length_map]) λi s v h1 h2=>by
  unfold Sx2.pk at h1;unfold wPk at h2;rw[ζo]at h1 h2;cases e:ks[i]? with
  | none=>rw[e]at h1; cases h1
  | some c =>
   rw[e]at h1 h2;have V:=v_at sz nd hw (hs c (ζf e));have e1:ss.getD c 0=s:=ζr h1;have e2:w.getD (U.idxOf c) 0=v:=ζr h2;rw[←e1,←e2];exact⟨V.2.1,V.2.2.1⟩
 have xl:=sh.xl;unfold mOf;omega
theorem Tl{ss:AE}{U:AF}{w:AE}(sz:SzOk ss U)(nd:U.Nodup)(hw:w∈wds (pk ss U)){ks:AF}{xs:AM}{nb:Nat}(sh:ShO nb ss ks xs)(hs:∀k∈ks,k∈U):Shr nb (atX ss ks xs U w).1 (atX ss ks xs U w).2∧1≤(atX ss ks xs U w).1 :=
 sh.x _ (ζf (zE (m_ok sz nd hw sh hs).2))
abbrev tmX(x y:Int×Int):Int×Int:=tm x.1 x.2 y.1 y.2
def joX(ss:AE)(ks1:AF)(xs1:AM)(ks2:AF)(xs2:AM)(U:AF):AM:=(wds (pk ss U)).map λw=>tmX (atX ss ks1 xs1 U w) (atX ss ks2 xs2 U w)
def ZE(ds:AG)(d:AD):Prop:=∃(ss:AE) (ks1:AF) (xs1:AM) (ks2:AF) (xs2:AM) (U:AF),ds=[il ss,v4 ks1 xs1,v4 ks2 xs2]∧S7 ss∧ShO 9000 ss ks1 xs1∧ShO 40000 ss ks2 xs2∧U=El.unF ss.length ks1 ks2∧d=v4 U (joX ss ks1 xs1 ks2 xs2 U)
theorem TF:zA ["sizes","one","other","things","found","view"] ["sizes","one","other"] (zn (top 33)):={}
theorem T0(F:Fun K "joined" "joined" (top 33) f fd)(B:Bs mg)(c_views_of:zt P w K mg base CX0 "views_of" ["sizes","view","things"] 4 (spD K true xi))(c_times:zt P w K mg base CX0 "times" ["one","other"] 2 (spD K true vQ))(c_share_at:zt P w K mg base CX0 "share_at" ["sizes","sheet","view"] 2 (spD K true xj)):FnOk P w K mg base CX0 5 f fd ["sizes","one","other"] (spD K true ZE):=by
 have sc:=TF;refine F.ok sc (λvs H Q E h=>zI (λ_ _⟨_,_,_,_,_,_,e,_⟩=>by rw[e];rfl) h) (λcdv A outer s H vs Q E hr h=>?_);obtain⟨Fh,ds,d,le,dp,p,q⟩:=h
 refine⟨_,(ze (pS (i:=3) sc.nd (pB (X2 rfl rfl) B.sorted (zb (zq (zek rfl rfl) (pY (vY (K:=K) rfl rfl rfl) B.set (zb (pX (zw (K:=K) rfl) (pv 1) zg) zd)) (pY (vY (K:=K) rfl rfl rfl) B.set (zb (pX (zw (K:=K) rfl) (pv 2) zg) zd))) zd)))
   (ze (pS (i:=4) sc.nd (zQ zd))
   (ze (zZ AC rfl (zJ (K:=K) rfl (pF c_views_of hr (zb (pv 0) (zb (zq ZJ (zQ (zb tI zd)) (pB (zj (K:=K) rfl) B.len (zb (pv 0) zd))) (zb (pv 3) zd))))) (pN (i:=5) sc.nd) (zi (yg (yo (K:=K) rfl ζq ζE ζD zW (pv 4) (zb (pF c_times hr (zb (pF c_share_at hr (zb (pv 0) (zb (pv 1) (zb (pv 5) zd)))) (zb (pF c_share_at hr (zb (pv 0) (zb (pv 2) (zb (pv 5) zd)))) zd))) zd)))))
   (zi (zG (yN (zb (pv 3) (zb (pv 4) zd)))))))),?_⟩
 have hN:=sc.n 6;obtain⟨ss,ks1,xs1,ks2,xs2,U,rfl,s7,sh1,sh2,hU,rfl⟩:=p;have big:=zK;have n7:=s7.n;have l1:=sh1.l;have l2:=sh2.l;have sz:SzOk ss U:=by rw[hU]; exact zdm s7 ks1 ks2
 have sp:=sz.p;have nd:U.Nodup:=by rw[hU]; exact El.QH ss.length ks1 ks2
 have in1:∀k∈ks1,k∈U:=λk hk=>by rw[hU]; exact El.xU.mpr ⟨sh1.k k hk,.inl hk⟩
 have in2:∀k∈ks2,k∈U:=λk hk=>by rw[hU]; exact El.xU.mpr ⟨sh2.k k hk,.inr hk⟩
 have sz1:=tT s7 sh1.k ⋯;have sz2:=tT s7 sh2.k ⋯;have ez:zl ks1 ++ zl ks2=zl (ks1 ++ ks2):=by unfold zl; rw[List.map_append]
 have zz:(srt (dd (zl ks1 ++ zl ks2))).map PyData.int=U.map λk:Nat=>PyData.int (k:Int):=by
  rw[hU,ez,zb4 (n:=ss.length) λx hx=>by
   rcases ζw.mp hx with hx | hx
   ·exact sh1.k x hx
   ·exact sh2.k x hx]
  unfold zl El.unF;rw[ζx];rfl
 walk_at"run";refine exs true (d:=nl U) (EvO.toE (EvO.eq (XT (ns:=zl ks1) (ms:=zl ks2) (EvE.toL (EvE.eq (vE (κ:=false) ∅ ∅ atI0) (yt ks1))) (EvE.toL (EvE.eq (vE (κ:=false) ∅ ∅ atI0) (yt ks2))) (by unfold zl; rw[List.length_map,List.length_map]; omega)) zz)) #[0] ?_;refine exo true (yc (ds:=[]) zD #[2]) #[0] ?_;refine yK true (λi Γ=>∃y,Γ=[some (.fz false (il ss)),some (.fz false (v4 ks1 xs1)),some (.fz false (v4 ks2 xs2)),some (.fz true (nl U)),some (.ow true (((wds (pk ss U)).take i).map λw=>shD (tmX (atX ss ks1 xs1 U w) (atX ss ks2 xs2 U w)))),y]) (zO (zm (zh ∅ (zh (EvO.toE (vc (k:=(ss.length:Int)) ∅ (EvE.eq ∅ (by rw[ζa])) ⋯ ⋯ ?_)) (zh ∅ zD))) ⟨ss,List.replicate ss.length none,U,?_,sz,by rw[ζT],rfl⟩)) ⟨none,by rw[ζX]; rfl⟩ ?_ ?_
 ·show 1 * _≤_;omega
 ·rw[ζI,vq]
 ·rintro i d Γ' hd ⟨y,rfl⟩;obtain⟨w,hw',rfl⟩:=yP hd;have hw:=ζf hw';have hi:=(ζh.mp hw').1;rw[yM]at hi;have M1:=m_ok sz nd hw sh1 in1;have M2:=m_ok sz nd hw sh2 in2;have A1:=Tl sz nd hw sh1 in1;have A2:=Tl sz nd hw sh2 in2;have V1:=Y1 sz nd hw in1;have V2:=Y1 sz nd hw in2;have ne1:∀k∈ks1,(vOf ss.length U w).getD k none≠none:=λk hk=>by rw[ζb,(v_at sz nd hw (in1 k hk)).1]; exact λz=>by cases z
  have ne2:∀k∈ks2,(vOf ss.length U w).getD k none≠none:=λk hk=>by rw[ζb,(v_at sz nd hw (in2 k hk)).1]; exact λz=>by cases z
  refine⟨_,egn #[0] ?_⟩
  rw[show vl (fil (List.replicate ss.length none) U w)=vl (vOf ss.length U w)from rfl];refine exa1 (d:=shD (tmX (atX ss ks1 xs1 U w) (atX ss ks2 xs2 U w))) #[1] (zm (zh (zm ∅ ⟨ss,ks1,xs1,vOf ss.length U w,mOf ss ks1 U w,rfl,sz1,Ul _ _ _,ne1,by rw[V1]; exact M1.1,M1.2,rfl⟩) (zh (zm ∅ ⟨ss,ks2,xs2,vOf ss.length U w,mOf ss ks2 U w,rfl,sz2,Ul _ _ _,ne2,by rw[V2]; exact M2.1,M2.2,rfl⟩) zD)) ⟨_,_,rfl,A1.1,A1.2,A2.1,rfl⟩) #[0] ?_ ?_
  ·rw[ζa,ζJ,yM];omega
  ·refine⟨some (.fz true (vl (vOf ss.length U w))),?_⟩
   rw[take_succ hw',ζy];rfl
 ·rintro Γ' ⟨y,rfl⟩;refine exfz 4 #[1] #[0] ?_;refine zR true ∅ ?_ (.inl ⟨rfl,rfl⟩);rw[ζa,ζ3];show PyData.tuple [_,_]=.tuple [_,.list _];unfold joX;rw[ζx];rfl
def col(ss:AE)(ks:AF)(xs:AM)(k:Nat)(w:AE):AM:=(rng (ss.getD k 0).toNat).map λv=>xs.getD (rkF (pk ss ks) (mr k w v ks 0)).toNat (0,1)
structure ShK(ss:AE)(ks:AF)(xs:AM):Prop where
 s:∀s∈ss,2≤s∧s≤4
 k:∀k∈ks,k < ss.length
 nd:ks.Nodup
 l:ks.length≤7
 p:prod (pk ss ks)≤16384
 xl:(xs.length:Int)=prod (pk ss ks)
 x:∀x∈xs,Shr 8900 x.1 x.2
 sl:ss.length≤7
def xO(ds:AG)(d:AD):Prop:=∃(ss:AE) (ks:AF) (xs:AM) (k:Nat),ds=[il ss,v4 ks xs,.int k]∧ShK ss ks xs∧k∈ks∧d=v4 (El.oth ks k) ((wds (pk ss (El.oth ks k))).map λw=>tot (col ss ks xs k w))
theorem uP(ds:AG)(d:AD)(h:xO ds d):ds.length=3:=by obtain⟨a,b,c,e,rfl,_⟩:=h; rfl
theorem ShK.sz(h:ShK ss ks xs):SzOk ss ks:=⟨λs hs=>by have:=h.s s hs; omega,h.k,by have:=h.l; omega,by have:=h.p; omega⟩
theorem WI:∀(ks:AF),(∀k∈ks,k < ss.length)→(∀s∈ss,2≤s∧s≤4)→∀k,prod (pk ss (El.oth ks k))≤prod (pk ss ks)∧1≤prod (pk ss (El.oth ks k))
 | [],_,_,_=>⟨Int.le_refl _,by show(1:Int)≤1; decide⟩
 | j :: r,hk,hs,k=>by
  have ih:=WI r (λx hx=>hk x (ζp _ hx)) hs k;have hj:=hk j ζi;have h2:2≤ss.getD j 0:=by
   rw[ζb,ζd hj];exact(hs _ (ξa hj)).1
  unfold El.oth;rw[List.filter_cons];split
  ·show ss.getD j 0 * prod (pk ss (El.oth r k))≤ss.getD j 0 * prod (pk ss r)∧1≤ss.getD j 0 * prod (pk ss (El.oth r k));refine⟨ξE ih.1 ⋯,?_⟩
   have:=ξE ih.2 (show 0≤ss.getD j 0 by omega);omega
  ·show prod (pk ss (El.oth r k))≤ss.getD j 0 * prod (pk ss r)∧_;refine⟨?_,ih.2⟩
   have h3:0≤prod (pk ss r):=by omega
   have:=ξR (show 1≤ss.getD j 0 by omega) h3;omega
theorem ShK.othK(h:ShK ss ks xs)(k:Nat):SzOk ss (El.oth ks k):=⟨h.sz.s,λx hx=>h.k x (List.mem_filter.mp hx).1,by have:=List.length_filter_le (λx=>decide (x≠k)) ks; have:=h.l; unfold El.oth; omega,by have:=(WI ks h.k h.s k).1; have:=h.p; omega⟩
def neP(k:Int):AD→Bool
 | .int j=>!decide (j=k)
 | _=>true
theorem VM(ks:AF)(k:Nat):((ks.map λk:Nat=>PyData.int (k:Int)).filter (neP k)).map (λd=>d)=(El.oth ks k).map λk:Nat=>.int (k:Int):=by
 unfold El.oth;rw[List.map_id',List.filter_map];congr 1;refine ξH λx _=>?_;show(!decide ((x:Int)=k))=_;by_cases h:x=k
 ·simp[h]
 ·simp[h];omega
def shF(ss:AE)(ks:AF)(xs:AM)(d:AD):AD:=shD (xs.getD (rkF (pk ss ks) (vals (unV d) ks)).toNat (0,1))
theorem zea(h:SzOk ss ks):∀s∈pk ss ks,0 < s:=λs hs=>by have:=h.pk s hs; omega
theorem QC{ss:AE}{ks:AF}{k:Nat}{w:AE}(hw:w∈wds (pk ss (El.oth ks k))):w.length=(El.oth ks k).length:=by
 rw[Ze hw];unfold Sx2.pk;rw[ζa]
structure Pl(ss:AE)(ks:AF)(xs:AM)(k:Nat)(w:AE)(v:Int)(vw:List (Option Int)):Prop where
 va:vals vw ks=mr k w v ks 0
 al:∀j∈ks,vw.getD j none≠none
 ln:vw.length=ss.length
 lo:0≤rkF (pk ss ks) (mr k w v ks 0)
 hi:(rkF (pk ss ks) (mr k w v ks 0)).toNat < xs.length
theorem ShK.pl{ss:AE}{ks:AF}{xs:AM}(h:ShK ss ks xs){k:Nat}(hk:k∈ks){w:AE}(hw:w∈wds (pk ss (El.oth ks k))){v:Int}(hv:0≤v∧v < ss.getD k 0):Pl ss ks xs k w v (fil (fil (List.replicate ss.length none) (El.oth ks k) w) [k] [v]):=by
 have hwl:w.length=(ks.filter λx=>x≠k).length:=QC hw;have hp:=zau (zea (h.othK k)) hw hv;refine⟨zcn h.nd h.k hwl,λj hj=>?_,by rw[vb,vb,ζT],hp.1,?_⟩
 ·exact λe=>by
   have:=QD h.nd h.k hwl hj (v:=v);exact this e
 ·have:=h.xl;omega
theorem zdd{ss:AE}{ks:AF}{xs:AM}{k:Nat}{w:AE}:(col ss ks xs k w).length=(ss.getD k 0).toNat:=by
 unfold col rng;rw[ζa,ζa,ζv]
theorem zdc{ss:AE}{ks:AF}{xs:AM}(h:ShK ss ks xs){k:Nat}(hk:k∈ks){w:AE}(hw:w∈wds (pk ss (El.oth ks k))):∀x∈col ss ks xs k w,Shr 8900 x.1 x.2:=λx hx=>by
 unfold col rng at hx;obtain⟨v,hv,rfl⟩:=ζn.mp hx;obtain⟨i,hi,rfl⟩:=ζn.mp hv;have hi':=ζG.mp hi;have p:=h.pl hk hw (v:=(i:Int)) ⋯;refine h.x _ ?_;rw[ζb,ζd p.hi];exact ξa p.hi
theorem Wx:zA ["sizes","sheet","k","one_of","things","found","view"] ["sizes","sheet","k","one_of"] (zn (top 35)):={}
theorem WW(F:Fun K "drawn_in" "drawn_in" (top 35) f fd)(B:Bs mg)(c_views_of:zt P w K mg base CX0 "views_of" ["sizes","view","things"] 4 (spD K true xi))(c_share_at:zt P w K mg base CX0 "share_at" ["sizes","sheet","view"] 2 (spD K true xj))(c_total:zt P w K mg base CX0 "total" ["shares"] 3 (spD K true tG)):FnOk P w K mg base CX0 5 f fd ["sizes","sheet","k","one_of"] (spF K mg "total" xO):=by
 have sc:=Wx;refine F.ok sc (λvs H Q E h=>zbY uP h) (λcdv A outer s H vs Q E hr h=>?_);obtain⟨Fh,ds,d,us,a,rfl,hm,le,dp,p,q⟩:=h;have h_one_of:=c_total.at hm
 refine⟨_,(ze (yX (i:=4) rfl sc.nd rfl rfl (N:=["other","k"]) (js:=[none,some 2]) (by walk_at"comp_ok") (zJ (K:=K) rfl (pX (zw (K:=K) rfl) (pv 1) zg)) (λ_ _ _ _=>(pN (i:=0) (show υN ["other","k"]by decide +kernel))) (λ_ _ _ _=>(yn (zu Yx (pv 0) (pv 1) (zP _)))) (λ_ _ _ _=>(pv 0)))
   (ze (pS (i:=5) sc.nd (zQ zd))
   (ze (zZ AC rfl (zJ (K:=K) rfl (pF c_views_of hr (zb (pv 0) (zb (zq ZJ (zQ (zb tI zd)) (pB (zj (K:=K) rfl) B.len (zb (pv 0) zd))) (zb (pv 4) zd))))) (pN (i:=6) sc.nd) (zi (yg (yo (K:=K) rfl ζq ζE ζD zW (pv 5) (zb (zef 3 h_one_of (hr.mono #[2]) zaB (zb (yl rfl (N:=["whole","sizes","sheet"]) (js:=[none,some 0,some 1]) (by walk_at"comp_ok") (zJ (K:=K) rfl (pF c_views_of hr (zb (pv 0) (zb (pv 6) (zb (zQ (zb (pv 2) zd)) zd))))) (λ_ _ _ _=>(pN (i:=0) (show υN ["whole","sizes","sheet"]by decide +kernel))) (λ_ _ _ _=>xF) (λ_ _ _ _=>(pF c_share_at hr (zb (pv 1) (zb (pv 2) (zb (pv 0) zd)))))) zd)) zd)))))
   (zi (zG (yN (zb (pv 4) (zb (pv 5) zd)))))))),?_⟩
 obtain⟨ss,ks,xs,k,rfl,ok,hk,rfl⟩:=p;apply zcc le dp q (n:=7) rfl (by rw[zT.length dp]; show 3 < 7; decide)
 focus walk_at"st"
 focus (show SetC _ 3 _ _; walk_at"sc")
 have sl:=ok.sl;have big:=zK;refine exs true (d:=nl (El.oth ks k)) (EvE.eq (EvO.toE (vX (is:=[0]) false (neP k) (λd=>d) (zO ∅) (by walk_at"cc") rfl #[2] ?_ ?_)) (congrArg PyData.list (VM ks k))) #[0] ?_
 ·rw[ζa];have:=ok.l;omega
 ·intro d hd;obtain⟨j,hj,rfl⟩:=ζn.mp hd;exact egn #[0] ⟨by dsimp only[neP]; walk_at"ev", λ_=>by walk_at"ev"⟩
 walk_at"go";refine yK true (λi Γ=>∃y,Γ=[some (.fz false (il ss)),some (.fz false (v4 ks xs)),some (.fz false (.int k)),some (.fn a),some (.fz true (nl (El.oth ks k))),some (.ow true (((wds (pk ss (El.oth ks k))).take i).map λw=>shD (tot (col ss ks xs k w)))),y]) (zO (zm (zh ∅ (zh (EvO.toE (vc (k:=(ss.length:Int)) ∅ (EvE.eq ∅ (by rw[ζa])) ⋯ ⋯ ?_)) (zh ∅ zD))) ⟨ss,List.replicate ss.length none,El.oth ks k,?_,ok.othK k,by rw[ζT],rfl⟩)) ⟨none,by rw[ζX]; rfl⟩ ?_ ?_
 ·show 1 * _≤_;omega
 ·rw[ζI,vq]
 ·rintro i d Γ' hd ⟨y,rfl⟩;obtain⟨w,hw',rfl⟩:=yP hd;have hw:=ζf hw';have hi:=(ζh.mp hw').1;rw[yM]at hi;refine⟨_,egn #[0] ?_⟩
  have hkl:=ok.k k hk;have gs:=y9 ok.s hkl;have hone:pk ss [k]=[ss.getD k 0]:=rfl;have oko:=(ok.othK k).p;refine exa1 (d:=shD (tot (col ss ks xs k w))) #[1] (zeT #[1] (zh (EvO.toE (EvO.eq (vW (is:=[0]) true (shF ss ks xs) (zO (zm (zh ∅ (zh ∅ (zh (show EvE _ _ _ _ _ (.list [.int k])from by walk_at"ev") zD))) ⟨ss,fil (List.replicate ss.length none) (El.oth ks k) w,[k],rfl,⟨ok.sz.s,by simpa using hkl,by show 1≤63; decide,by rw[hone]; show ss.getD k 0 * 1≤_; omega⟩,by rw[vb,List.length_replicate],rfl⟩)) (by walk_at"cc") rfl #[2] ?_ ?_) ?_)) zD) ⟨col ss ks xs k w,rfl,zdc ok hk hw,by rw[zdd]; omega,rfl⟩) #[0] ?_ ?_
  ·rw[hone,YZ _ ⋯,ζa,ζa];unfold rng;rw[ζa,ζv];omega
  ·intro d hd;rw[hone,YZ _ ⋯,ζx]at hd;obtain⟨v,hv,rfl⟩:=ζn.mp hd;obtain⟨j,hj,rfl⟩:=ζn.mp hv;have hj':=ζG.mp hj;have p:=ok.pl hk hw (v:=(j:Int)) ⋯;dsimp only[Function.comp_apply];refine egn #[0] ?_;refine zm ∅ ⟨ss,ks,xs,_,(rkF (pk ss ks) (mr k w j ks 0)).toNat,rfl,ok.sz,p.ln,p.al,?_,p.hi,?_⟩
   ·show rkF (pk ss ks) (vals _ ks)=_;rw[p.va,ξf p.lo]
   ·unfold shF;show shD (xs.getD (rkF (pk ss ks) (vals (unV (vl _)) ks)).toNat (0,1))=_;rw[Y2,p.va]
  ·rw[hone,YZ _ ⋯,ζx,ζx];unfold col;rw[ζx];refine ζs λv hv=>?_;obtain⟨j,hj,rfl⟩:=ζn.mp hv;have hj':=ζG.mp hj;have p:=ok.pl hk hw (v:=(j:Int)) ⋯;show shD (xs.getD (rkF (pk ss ks) (vals (unV (vl _)) ks)).toNat (0,1))=_;rw[Y2,p.va];rfl
  ·rw[ζa,ζJ,yM];omega
  ·show∃y,_;rw[take_succ hw',ζy];exact⟨_,rfl⟩
 ·rintro Γ' ⟨y,rfl⟩;refine exfz 5 #[1] #[0] ?_;refine zR true ∅ ?_ (.inl ⟨rfl,rfl⟩);rw[ζa,ζ3];show PyData.tuple [_,_]=.tuple [_,.list _];rw[ζx];rfl
def xN(ds:AG)(d:AD):Prop:=xO ds d
theorem XM(ds:AG)(d:AD)(h:xN ds d):ds.length=3:=uP ds d h
theorem Wr:zA ["sizes","sheet","k"] ["sizes","sheet","k"] (zn (top 34)):={}
theorem WQ(F:Fun K "left_out" "left_out" (top 34) f fd)(B:Bs mg)(c_drawn_in:zt P w K mg base CX0 "drawn_in" ["sizes","sheet","k","one_of"] 5 (spF K mg "total" xO))(c_total:zt P w K mg base CX0 "total" ["shares"] 3 (spD K true tG)):FnOk P w K mg base CX0 6 f fd ["sizes","sheet","k"] (spD K true xN):=by
 have sc:=Wr;refine F.ok sc (λvs H Q E h=>zI XM h) (λcdv A outer s H vs Q E hr h=>?_);obtain⟨Fh,ds,d,le,dp,p,q⟩:=h;obtain⟨a_total,_,_,m_total,_⟩:=c_total.ex;refine⟨_,(zi (zG (pF c_drawn_in hr (zb (pv 0) (zb (pv 1) (zb (pv 2) (zb (zcr (v:=.ref a_total) rfl m_total rfl) zd))))))),?_⟩
 have hN:=sc.n 3;have p':=p;obtain⟨ss,ks,xs,k,rfl,ok,hk,rfl⟩:=p;walk_at"run";exact zR true (Qn ∅ ∅ ∅ m_total p') rfl (.inl ⟨rfl,rfl⟩)
theorem VT{k:Nat}{w:AE}{v:Int}:∀(ks:AF) (c:Nat),ks.Nodup→mr k w v ks c=ks.map λj=>if j=k then v else w.getD (c + (El.oth ks k).idxOf j) 0
 | [],_,_=>rfl
 | j :: r,c,hn=>by
  have⟨h1,h2⟩:=ζ5.mp hn;by_cases e:j=k
  ·have eo:El.oth (j :: r) k=El.oth r k:=by unfold El.oth; rw[List.filter_cons_of_neg (by simp[e])]
   rw[ζH,if_pos e,eo,←VT r c h2];show(if j=k then _ else _)=_;rw[if_pos e]
  ·have eo:El.oth (j :: r) k=j :: El.oth r k:=by unfold El.oth; rw[List.filter_cons_of_pos (by simp[e])]
   rw[ζH,if_neg e,eo,List.idxOf_cons_self];show(if j=k then _ else _)=_;rw[if_neg e,VT r (c + 1) h2];congr 1;refine ζs λi hi=>?_;have ne:j≠i:=λz=>h1 (z ▸ hi);rw[List.idxOf_cons,show(j == i)=false from beq_eq_false_iff_ne.mpr ne,cond_false,Nat.add_right_comm,Nat.add_assoc]
theorem Ue(ks:AF):(srt (zl ks))=zl ((srt (zl ks)).map Int.toNat):=by
 unfold zl;rw[ζx];refine((ζs λx hx=>?_).trans (List.map_id _)).symm;obtain⟨k,_,rfl⟩:=ζn.mp ((wy _).mem_iff.mp hx);rfl
def srtN(cs:AF):AF:=(srt (zl cs)).map Int.toNat
theorem yD(cs:AF):(srtN cs).Perm cs:=by
 have pr:(zl (srtN cs)).Perm (zl cs):=by
  unfold srtN;rw[←Ue];exact wy _
 have:=pr.map Int.toNat;unfold zl at this;rw[ζx,ζx]at this;have e:(Int.toNat∘λk:Nat=>(k:Int))=id:=by funext k; rfl
 rw[e,List.map_id,List.map_id]at this;exact this
theorem zdb(g:α→AD)(xs:List α)(k:Nat):cutD (xs.map g) none (some (k:Int))=(xs.take k).map g:=by
 unfold cutD;rw[HT.Zf];show((xs.map g).drop 0).take (min k (xs.map g).length - 0)=_;rw[List.drop_zero,Nat.sub_zero,ζa,←List.map_take];congr 1;rcases Nat.le_total k xs.length with h | h
 ·rw[ξ8 h]
 ·rw[Nat.min_eq_right h,ζB (ζj _),ζB h]
theorem Yq(h:cs.Nodup):(srtN cs).Pairwise (· < ·):=by
 have h1:(srtN cs).Nodup:=(yD cs).nodup_iff.mpr h;have h2:(srtN cs).Pairwise (·≤·):=by
  have:=uh (zl cs);unfold srtN;rw[List.pairwise_map];refine this.imp λ{a b} hab=>?_;omega
 rw[List.nodup_iff_pairwise_ne]at h1;exact(h1.and h2).imp λ{a b} z=>by omega
def kD(ks:AF):AG:=ks.map λk:Nat=>.int (k:Int)
theorem tL(ks:AF):(kD ks).length=ks.length:=ζa ..
theorem Zt(ks:AF):(srt (zl ks)).map PyData.int=kD (srtN ks):=by
 have:=Ue ks;have e:(srt (zl ks)).map PyData.int=(zl (srtN ks)).map PyData.int:=congrArg (List.map PyData.int) this;rw[e];show(List.map _ (srtN ks)).map PyData.int=_;rw[ζx];rfl
structure ShOk(n:Nat)(cs:AI):Prop where
 l:cs.length=n
 e:∀r∈cs,(∀x∈r,x < n)∧r.length≤60
theorem ShOk.at(h:ShOk n cs)(hk:k < n):cs[k]?=some (cs.getD k [])∧(∀x∈cs.getD k [],x < n)∧(cs.getD k []).length≤60:=by
 have z:cs[k]?=some (cs.getD k []):=zE (by rw[h.l]; exact hk);have:=h.e _ (ζf z);exact⟨z,this.1,this.2⟩
theorem vM(ks:AF):SeqAt.shaped (nl ks)=true:=tD (xt (λ_=>rfl) ks) (by
 have:=yU (g:=λk:Nat=>PyData.int (k:Int)) (n:=0) (λ_=>ζj _) ks;show PyData.depthAll _ + 1≤50;omega)
inductive Rch(nx:Nat→AF)(sm:AF):Nat→Prop
 | base {x:Nat}:x∈sm→Rch nx sm x
 | step {x y:Nat}:Rch nx sm x→y∈nx x→Rch nx sm y
open Classical in
noncomputable def rchL(n:Nat)(nx:Nat→AF)(sm:AF):AF:=(List.range n).filter λx=>decide (Rch nx sm x)
theorem wC(n:Nat)(nx:Nat→AF)(sm:AF):(rchL n nx sm).Pairwise (· < ·):=List.Pairwise.sublist ζK ξT
theorem xq{n:Nat}{nx:Nat→AF}{sm:AF}{x:Nat}:x∈rchL n nx sm↔x < n∧Rch nx sm x:=by
 unfold rchL;rw[ζl,ζG];simp
structure NxOk(n:Nat)(nx:Nat→AF):Prop where
 n12:n≤12
 lt:∀x,x < n→∀y∈nx x,y < n
 l:∀x,x < n→(nx x).length≤60
structure SmOk(n:Nat)(sm:AF):Prop where
 lt:∀x∈sm,x < n
 l:sm.length≤60
theorem Rch.lt{n:Nat}{nx:Nat→AF}{sm:AF}(h:NxOk n nx)(hs:SmOk n sm){x:Nat}(r:Rch nx sm x):x < n:=by
 induction r with
 | base z=>exact hs.lt _ z
 | step _ z ih=>exact h.lt _ ih _ z
theorem zai(n:Nat)(nx:Nat→AF)(sm:AF):(rchL n nx sm).length≤n:=by
 have:=ζP (λx=>@decide (Rch nx sm x) (Classical.propDecidable _)) (List.range n)
 rwa [ζv]at this
theorem wB:∀{a b:AF},a.Pairwise (· < ·)→b.Pairwise (· < ·)→(∀x,x∈a↔x∈b)→a=b
 | [],[],_,_,_=>rfl
 | [],y :: b,_,_,h=>by have:=(h y).mpr ζi; cases this
 | x :: a,[],_,_,h=>by have:=(h x).mp ζi; cases this
 | x :: a,y :: b,ha,hb,h=>by
  obtain⟨a1,a2⟩:=ξK.mp ha;obtain⟨b1,b2⟩:=ξK.mp hb;have e:x=y:=by
   rcases ζC.mp ((h x).mp ζi)with z | z
   ·exact z
   ·rcases ζC.mp ((h y).mpr ζi)with w | w
    ·exact w.symm
    ·have:=b1 x z;have:=a1 y w;omega
  subst e;refine congrArg (x :: ·) (wB a2 b2 λz=>⟨λhz=>?_,λhz=>?_⟩)
  ·rcases ζC.mp ((h z).mp (ζp _ hz))with w | w
   ·subst w;have:=a1 z hz;omega
   ·exact w
  ·rcases ζC.mp ((h z).mpr (ζp _ hz))with w | w
   ·subst w;have:=b1 z hz;omega
   ·exact w
theorem tJ:∀(n:Nat) (l:AF),l.Nodup→(∀x∈l,x < n)→l.length≤n
 | 0,[],_,_=>ζj _
 | 0,x :: l,_,h=>absurd (h x ζi) (Nat.not_lt_zero _)
 | n + 1,l,nd,h=>by
  have e:=tJ n (l.erase n) (nd.erase n) λx hx=>by
   have h1:=h x (List.mem_of_mem_erase hx);have h2:x≠n:=λz=>by subst z; exact(List.Nodup.not_mem_erase nd) hx
   omega
  have:=List.length_erase (a:=n) (l:=l);split at this <;> omega
structure GI(n:Nat)(nx:Nat→AF)(sm fo wa:AF):Prop where
 nd:fo.Nodup
 fl:∀x∈fo,Rch nx sm x
 wl:∀x∈wa,Rch nx sm x
 cl:∀x∈fo,∀y∈nx x,y∈fo∨y∈wa
 sm:∀x∈sm,x∈fo∨x∈wa
 ll:wa.length≤60 + 60 * fo.length
theorem GI.old{n:Nat}{nx:Nat→AF}{sm fo wa:AF}{k:Nat}(h:GI n nx sm fo (wa ++ [k]))(hk:k∈fo):GI n nx sm fo wa:=by
 have out:∀{x:Nat},x∈fo∨x∈wa ++ [k]→x∈fo∨x∈wa:=λ{x} z=>by
  rcases z with z | z
  ·exact .inl z
  ·rcases ζw.mp z with z | z
   ·exact .inr z
   ·rw[ζk.mp z]; exact .inl hk
 have l:=h.ll;rw[ζg]at l;exact⟨h.nd,h.fl,λx hx=>h.wl x (ζS _ hx),λx hx y hy=>out (h.cl x hx y hy),λx hx=>out (h.sm x hx),⋯⟩
theorem GI.new{n:Nat}{nx:Nat→AF}{sm fo wa:AF}{k:Nat}(h:GI n nx sm fo (wa ++ [k]))(hl:(nx k).length≤60)(hk:k∉fo):GI n nx sm (fo ++ [k]) (wa ++ nx k):=by
 have rk:=h.wl k (ζN _ (ζk.mpr rfl));have out:∀{x:Nat},x∈fo∨x∈wa ++ [k]→x∈fo ++ [k]∨x∈wa ++ nx k:=λ{x} z=>by
  rcases z with z | z
  ·exact .inl (ζS _ z)
  ·rcases ζw.mp z with z | z
   ·exact .inr (ζS _ z)
   ·exact .inl (ζN _ z)
 have l:=h.ll;rw[ζg]at l;have l:wa.length + 1≤_:=l;refine⟨?_,λx hx=>?_,λx hx=>?_,λx hx y hy=>?_,λx hx=>out (h.sm x hx),?_⟩
 ·rw[ζ4];exact⟨h.nd,by simp,λa ha b hb=>by rw[List.mem_singleton.mp hb]; rintro rfl; exact hk ha⟩
 ·rcases ζw.mp hx with hx | hx
  ·exact h.fl x hx
  ·rw[ζk.mp hx]; exact rk
 ·rcases ζw.mp hx with hx | hx
  ·exact h.wl x (ζS _ hx)
  ·exact .step rk hx
 ·rcases ζw.mp hx with hx | hx
  ·exact out (h.cl x hx y hy)
  ·rw[ζk.mp hx]at hy;exact .inr (ζN _ hy)
 ·rw[ζg,ζg];show _≤60 + 60 * (fo.length + 1);omega
theorem GI.end{n:Nat}{nx:Nat→AF}{sm fo:AF}(no:NxOk n nx)(so:SmOk n sm)(h:GI n nx sm fo []):srtN fo=rchL n nx sm:=by
 refine wB (Yq h.nd) (wC n nx sm) λx=>?_;rw[(yD fo).mem_iff,xq];refine⟨λz=>⟨(h.fl x z).lt no so,h.fl x z⟩,λz=>?_⟩
 have cl:∀{y:Nat},y∈fo∨y∈([]:AF)→y∈fo:=λz=>z.elim (λz=>z) λz=>nomatch z;have r:=z.2;clear z;induction r with
 | base z=>exact cl (h.sm _ z)
 | step _ z ih=>exact cl (h.cl _ ih _ z)
def gP(n:Nat)(nx:Nat→AF):AD→AD→Prop:=λd r=>∃k:Nat,k < n∧d=.int (k:Int)∧r=nl (nx k)
def wY(ds:AG)(p1:AD→AD→Prop)(d:AD):Prop:=∃(n:Nat) (nx:Nat→AF) (sm:AF),ds=[nl sm]∧NxOk n nx∧SmOk n sm∧p1=gP n nx∧d=nl (rchL n nx sm)
theorem XN(ds:AG)(p1:AD→AD→Prop)(d:AD)(h:wY ds p1 d):ds.length=1:=by obtain⟨a,b,c,rfl,_⟩:=h; rfl
theorem Uc(r:AF)(k:Nat):(zl (r ++ [k])).map PyData.int=(zl r).map PyData.int ++ [.int (k:Int)]:=by
 unfold zl;rw[ζy,ζy];rfl
theorem zdQ(r t:AF):(zl (r ++ t)).map PyData.int=(zl r).map PyData.int ++ (t.map λk:Nat=>.int (k:Int)):=by
 unfold zl;rw[ζy,ζy,ζx (l:=t)];rfl
theorem wN(r:AF):(zl r).length=r.length:=ζa ..
theorem Ww:zA ["some","nexts","found","waiting","k"] ["some","nexts"] (zn (top 10)):={}
theorem WV(F:Fun K "gathered" "gathered" (top 10) f fd)(B:Bs mg): FnOk P w K mg base CX0 4 f fd ["some","nexts"] (spG P w K mg base 3 wY):=by
 have sc:=Ww;refine F.ok sc (λvs H Q E h=>zbX XN h) (λcdv A outer s H vs Q E hr h=>?_);obtain⟨Fh,ds,d,us,a,p1,rfl,le,dp,lam,p,q⟩:=h;obtain⟨n,nx,sm,rfl,no,so,rfl,rfl⟩:=p;obtain⟨fdL,xL,splL,nmL,qL,pL,bL,lL,clL,pmL,cL,ctL,FL,hbL,haL,prL⟩:=lam
 refine⟨_,(ze (pS (i:=2) sc.nd (zQ zd))
   (ze (pS (i:=3) sc.nd (pY (yh (K:=K) rfl) B.list (zb (pv 0) zd)))
   (ze (wD AC (zu tZ (pB (zj (K:=K) rfl) B.len (zb (pv 3) zd)) zg (zP _)) (ze (pS (i:=4) sc.nd (Xt (K:=K) rfl ζq PySem.F.slot_list_pop PySem.F.type_list_pop zaG (pv 3)))
   (zi (yx (zu (ya (K:=K) rfl) (pv 4) (pv 2) (rfl)) (ze (yg (yo (K:=K) rfl ζq ζE ζD zW (pv 2) (zb (pv 4) zd)))
   (zi (yg (yo (K:=K) rfl ζq PySem.F.slot_list_extend PySem.F.type_list_extend (WZ (K:=K) rfl) (pv 3) (zb (zeg 1 FL hbL (hr.mono #[2]) (zb (pv 4) zd)) zd))))) zV))))
   (zi (zG (pB (xx (K:=K) rfl) B.sorted (zb (pv 2) zd))))))),?_⟩
 have big:=zK;have n12:=no.n12;have sl:=so.l;have bk:wM K fdL [xL] []:=hbL;refine zcb (φ:=λF1 v=>v=.ref a∧(∃nm q params body lsc cl pm c' ctv,F1 a=some (knw (PySem.W.kla_obj nm q params body lsc cl pm c' ctv)))∧∀(H' F':Hp) (v:V) (d r:AD) (Q:VK),Same F1 F'→Same F' H'→Dp K F' v d→gP n nx d r→(∀v' H'' F'',Gr H' F' H'' F''→Rp K false .fresh H' F'' v' r→Q v' H'')→splL [v] H' Q E0) le dp q (n:=5) rfl (by rw[zT.length dp]; show 1 < 5; decide) (by walk_at"st") (by show SetC _ 1 _ _; walk_at"sc") ⟨rfl,⟨_,_,_,_,_,_,_,_,_,haL⟩,prL⟩ ?_;generalize hφ:(λ(F1:Hp) (v:V)=>v=.ref a∧(∃nm q params body lsc cl pm c' ctv,F1 a=some (knw (PySem.W.kla_obj nm q params body lsc cl pm c' ctv)))∧∀(H' F':Hp) (v:V) (d r:AD) (Q:VK),Same F1 F'→Same F' H'→Dp K F' v d→gP n nx d r→(∀v' H'' F'',Gr H' F' H'' F''→Rp K false .fresh H' F'' v' r→Q v' H'')→splL [v] H' Q E0)=φ;refine exo true (ds:=(zl []).map .int) (yc (ds:=[]) zD #[2]) #[0] ?_;refine exo true (ds:=(zl sm).map .int) (EvO.eq (yR (EvL.imm (κ:=false) (EvE.toL ∅) (wv sm))) (by unfold zl; rw[List.map_map]; rfl)) #[0] ?_;refine yr (λΓ=>∃fo x y,GI n nx sm fo []∧Γ=[some (.fz false (nl sm)),some (.xp φ),some (.ow true ((zl fo).map .int)),x,y]) (wJ (λm Γ=>∃(fo wa:AF) (x:Option DV),GI n nx sm fo wa∧m=(n - fo.length) * 61 + wa.length∧Γ=[some (.fz false (nl sm)),some (.xp φ),some (.ow true ((zl fo).map .int)),some (.ow true ((zl wa).map .int)),x]) _ ⟨[],sm,none,⟨ξZ,λ_ z=>(nomatch z),λx hx=>.base hx,λ_ z=>(nomatch z),λx hx=>.inr hx,⋯⟩,rfl,rfl⟩ ?_) ?_
 ·rintro m Γ' ⟨fo,wa,x,gi,rfl,rfl⟩;have fl:=tJ n fo gi.nd λx hx=>(gi.fl x hx).lt no so;have ll:=gi.ll;refine⟨decide (0 < (wa.length:Int)),EvT.eq (zH (ZU (i:=(wa.length:Int)) (j:=0) (EvE.eq (ye (ds:=(zl wa).map .int) ∅) (by rw[ζa,wN])) ∅)) rfl,λh=>?_,λh=>?_⟩
  ·have h':0 < (wa.length:Int):=by simpa using h
   obtain⟨wb,k,rfl⟩:∃wb k,wa=wb ++ [k]:=by
    rcases List.eq_nil_or_concat wa with rfl | ⟨wb,k,e⟩
    ·exact absurd h' (by simp)
    ·exact⟨wb,k,by rw[e,List.concat_eq_append]⟩
   have rk:=gi.wl k (ζN _ (ζk.mpr rfl));have kn:=rk.lt no so;have nl12:=no.l k kn;rw[Uc];rw[ζg]at ll ⊢;refine yr (·=[some (.fz false (nl sm)),some (.xp φ),some (.ow true ((zl fo).map .int)),some (.ow true ((zl wb).map .int)),some (.fz true (.int (k:Int)))]) (U6 (i:=3) (j:=4) #[1] #[2] #[0] #[0] rfl) ?_;rintro Γ' rfl;refine wK (b:=!decide (k∈fo)) (EvT.eq (zH (yC (neg:=true) (i:=(k:Int)) (ns:=zl fo) ∅ ∅)) (by show(!decide _)=_; rw[yJ])) (λc=>?_) (λc=>?_)
   ·have c':k∉fo:=by simpa using c
    have gn:=gi.new nl12 c';have fn:fo.length + 1≤n:=by
     have:=tJ n (fo ++ [k]) gn.nd λx hx=>(gn.fl x hx).lt no so
     rwa [ζg]at this
    refine exa (d:=.int (k:Int)) #[1] ∅ #[0] (by rw[ζa,wN]; omega) ?_;refine Qh (es:=(nx k).map λk:Nat=>.int (k:Int)) #[1] (EvL.imm (κ:=false) (EvE.toL (zeS (kk:=3) (fd:=fdL) (x:=xL) #[1] (λF1 v hf=>by
     rw[←hφ]at hf;exact⟨hf.1,hf.2.1,λH' F' v Q s1 s2 hd kq=>hf.2.2 H' F' v _ _ Q s1 s2 hd ⟨k,kn,rfl,rfl⟩ kq⟩) ∅)) (wv _)) (by rw[ζa,ζa,wN]; omega) #[0] ?_
    refine⟨_,?_,fo ++ [k],wb ++ nx k,_,gn,rfl,by rw[Uc,zdQ]⟩
    rw[ζg,ζg];show(n - (fo.length + 1)) * 61 + _ < (n - fo.length) * 61 + (wb.length + 1);omega
   ·have c':k∈fo:=by simpa using c
    refine yj ⟨_,?_,fo,wb,_,gi.old c',rfl,rfl⟩;show _ < _ + (wb.length + 1);omega
  ·have h':¬0 < (wa.length:Int):=by simpa using h
   have e:wa=[]:=ξe.mp ⋯;subst e;exact⟨fo,_,_,gi,rfl⟩
 ·rintro Γ' ⟨fo,x,y,gi,rfl⟩;have fl:=tJ n fo gi.nd λx hx=>(gi.fl x hx).lt no so;refine zR true (EvO.toE (EvO.eq (xZ (ns:=zl fo) ∅ (by rw[wN]; omega)) (Zt fo))) ?_ (.inl ⟨rfl,rfl⟩);show PyData.list (kD (srtN fo))=_;rw[gi.end no so];rfl
theorem QA(a b:AF):((zl a).any λk=>decide (k∈zl b))=a.any λk=>decide (k∈b):=by
 unfold zl;rw[List.any_map];refine congrArg (λf=>List.any a f) (funext λk=>?_);exact yJ
def uH(ds:AG)(d:AD):Prop:=∃a b:AF,ds=[nl a,nl b]∧a.length + b.length < 2000∧d=.bool (a.any λk=>decide (k∈b))
theorem zb9:zA ["some","others"] ["some","others"] (zn (top 6)):={}
theorem zcD(F:Fun K "meet" "meet" (top 6) f fd)(B:Bs mg): FnOk P w K mg base CX0 1 f fd ["some","others"] (spD K true uH):=by
 have sc:=zb9;refine F.ok sc (λvs H Q E h=>zI (λ_ _⟨_,_,e,_⟩=>by rw[e];rfl) h) (λcdv A outer s H vs Q E hr h=>?_);obtain⟨Fh,ds,d,le,dp,p,q⟩:=h;refine⟨_,(zi (zG (xR tZ (pB (Qv (b:=w.params.followText "set-order")) B.len (zb (zq (zcy rfl rfl) (pY (vY (K:=K) rfl rfl rfl) B.set (zb (pv 0) zd)) (pY (vY (K:=K) rfl rfl rfl) B.set (zb (pv 1) zd))) zd)) zg (zP _)))),?_⟩
 have hN:=sc.n 2;obtain⟨a,b,rfl,hl,rfl⟩:=p;walk_at"run";refine zR true (EvE.eq (ZU (Ql (ns:=zl a) (ms:=zl b) (EvE.toL (EvE.eq (κ:=false) ∅ (yt a))) (EvE.toL (EvE.eq (κ:=false) ∅ (yt b))) (by rw[wN,wN]; exact hl)) ∅) ?_) rfl (.inl ⟨rfl,rfl⟩);rw[zaO,QA]
def lkF(cs:AI)(hs wi:AF)(k:Nat):AF:=wi.filter λo=>(cs.getD o []).any λc=>decide (c∈(cs.getD k []).filter λc=>decide (c∈hs))
theorem ZO:o∈lkF cs hs wi k↔o∈wi∧∃h∈hs,h∈cs.getD k []∧h∈cs.getD o []:=by
 unfold lkF;rw[ζl,ξD];refine⟨λ⟨h1,c,h2,h3⟩=>?_,λ⟨h1,h,h2,h3,h4⟩=>⟨h1,h,h4,decide_eq_true (ζl.mpr ⟨h3,decide_eq_true h2⟩)⟩⟩
 have:=ζl.mp (of_decide_eq_true h3);exact⟨h1,c,of_decide_eq_true this.2,this.1,h2⟩
theorem zfu(n12:n≤12)(hw:∀x∈wi,x < n)(wl:wi.length≤60)(cs:AI)(hs:AF):NxOk n (lkF cs hs wi):=⟨n12,λx _ y hy=>hw y (ζl.mp hy).1,λx _=>ζZ (ζP _ _) wl⟩
def v7(ds:AG)(d:AD):Prop:=∃(n:Nat) (cs:AI) (hs wi:AF) (k:Nat),ds=[nls cs,nl hs,.int k,nl wi]∧ShOk n cs∧(∀x∈wi,x < n)∧wi.length≤60∧k < n∧d=nl (lkF cs hs wi k)
theorem Xc:zA ["causes","hidden","k","within","over_k"] ["causes","hidden","k","within"] (zn (top 13)):={}
theorem Xx(F:Fun K "linked_to" "linked_to" (top 13) f fd)(B:Bs mg)(c_meet:zt P w K mg base CX0 "meet" ["some","others"] 1 (spD K true uH)):FnOk P w K mg base CX0 2 f fd ["causes","hidden","k","within"] (spD K true v7):=by
 have sc:=Xc;refine F.ok sc (λvs H Q E h=>zI (λ_ _⟨_,_,_,_,_,e,_⟩=>by rw[e];rfl) h) (λcdv A outer s H vs Q E hr h=>?_);obtain⟨Fh,ds,d,le,dp,p,q⟩:=h
 refine⟨_,(ze (pS (i:=4) sc.nd (yl rfl (N:=["c","hidden"]) (js:=[none,some 1]) (by walk_at"comp_ok") (zJ (K:=K) rfl (pX (zv (K:=K) rfl) (pv 0) (pv 2))) (λ_ _ _ _=>(pN (i:=0) (show υN ["c","hidden"]by decide +kernel))) (λ_ _ _ _=>(yn (zu (yz (K:=K) rfl) (pv 0) (pv 1) (rfl)))) (λ_ _ _ _=>(pv 0))))
   (zi (zG (yl rfl (N:=["other","over_k","causes"]) (js:=[none,some 4,some 0]) (by walk_at"comp_ok") (zJ (K:=K) rfl (pv 3)) (λ_ _ _ _=>(pN (i:=0) (show υN ["other","over_k","causes"]by decide +kernel))) (λ_ _ _ _=>(yn (wq (pF c_meet hr (zb (pX (zv (K:=K) rfl) (pv 2) (pv 0)) (zb (pv 1) zd)))))) (λ_ _ _ _=>(pv 0)))))),?_⟩
 have hN:=sc.n 5;obtain⟨n,cs,hs,wi,k,rfl,ok,hw,wl,kn,rfl⟩:=p;have big:=zK;have A:=ok.at kn;have A2:=A.2.2;have ak:atI (cs.map nl) (k:Int)=some (nl (cs.getD k [])):=yB A.1;have fl:=ζP (λc=>decide (c∈hs)) (cs.getD k []);walk_at"run";refine exs true (d:=nl ((cs.getD k []).filter λc=>decide (c∈hs))) (EvO.toE (zY (κ:=true) (is:=[0]) (xs:=cs.getD k []) false (λk:Nat=>.int (k:Int)) (λk:Nat=>.int (k:Int)) (λc=>decide (c∈hs)) (λx _ y _ h=>by cases xk h; exact⟨rfl,rfl⟩) (zO (zS (κ:=false) ∅ ∅ ak)) (by walk_at"cc") rfl #[2] ⋯ ?_)) #[0] ?_
 ·intro c hc;exact egn #[0] ⟨EvT.eq (zH (yC (neg:=false) (i:=(c:Int)) (ns:=zl hs) ∅ (EvE.toL (EvE.eq (κ:=false) ∅ (yt _))))) yJ,λ_=>by walk_at"ev"⟩
 refine zR true (EvO.toE (zY (κ:=true) (is:=[0]) (xs:=wi) false (λk:Nat=>.int (k:Int)) (λk:Nat=>.int (k:Int)) (λo=>(cs.getD o []).any λc=>decide (c∈(cs.getD k []).filter λc=>decide (c∈hs))) (λx _ y _ h=>by cases xk h; exact⟨rfl,rfl⟩) (zO ∅) (by walk_at"cc") rfl #[2] ⋯ ?_)) rfl (.inl ⟨rfl,rfl⟩);intro o ho;have B1:=ok.at (hw o ho);have B2:=B1.2.2;have ao:atI (cs.map nl) (o:Int)=some (nl (cs.getD o [])):=yB B1.1;exact egn #[0] ⟨et_B (zm (zh (zS (κ:=false) ∅ ∅ ao) (zh ∅ zD)) ⟨cs.getD o [],_,rfl,⋯,rfl⟩),λ_=>by walk_at"ev"⟩
noncomputable def clF(n:Nat)(nx:Nat→AF):Nat→AF→AI
 | 0,_=>[]
 | _ + 1,[]=>[]
 | f + 1,x :: r=>rchL n nx [x] :: clF n nx f ((x :: r).filter λk=>!decide (k∈rchL n nx [x]))
theorem VN(h:k < n):SmOk n [k]:=⟨λx hx=>by rw[ζk.mp hx]; exact h,by show 1≤60; decide⟩
theorem UU(hx:x < n):((x :: r).filter λk=>!decide (k∈rchL n nx [x])).length≤r.length:=by
 have:x∈rchL n nx [x]:=xq.mpr ⟨hx,.base ζi⟩;rw[List.filter_cons,decide_eq_true this];exact ζP _ _
def ZG(ds:AG)(d:AD):Prop:=∃(n:Nat) (cs:AI) (hs sm:AF),ds=[nls cs,nl hs,nl sm]∧ShOk n cs∧n≤12∧(∀x∈sm,x < n)∧sm.length≤12∧d=nls (clF n (lkF cs hs sm) sm.length sm)
theorem TJ:zA ["causes","hidden","some","found","left","clump"] ["causes","hidden","some"] (zn (top 14)):={}
theorem T2(F:Fun K "clumps" "clumps" (top 14) f fd)(L:W3 K f "clumps" = true)(B:Bs mg)(c_gathered:zt P w K mg base CX0 "gathered" ["some","nexts"] 4 (spG P w K mg base 3 wY))(c_linked_to:zt P w K mg base CX0 "linked_to" ["causes","hidden","k","within"] 2 (spD K true v7)):FnOk P w K mg base CX0 5 f fd ["causes","hidden","some"] (spD K true ZG):=by
 have sc:=TJ;refine F.okL L sc (λvs H Q E h=>zI (λ_ _⟨_,_,_,_,e,_⟩=>by rw[e];rfl) h) (λc T A outer s H vs Q E hhd htab hr h=>?_);obtain⟨Fh,ds,d,le,dp,p,q⟩:=h
 refine⟨_,(ze (pS (i:=3) sc.nd (zQ zd))
   (ze (pS (i:=4) sc.nd (pY (yh (K:=K) rfl) B.list (zb (pv 2) zd)))
   (ze (wD AC (zu tZ (pB (zj (K:=K) rfl) B.len (zb (pv 4) zd)) zg (zP _)) (ze (pS (i:=5) sc.nd (VL (caps:=[("causes", 0),("hidden", 1),("some", 2)]) c_gathered (hr.mono #[2]) rfl (zQ (zb (pX (zv (K:=K) rfl) (pv 4) zg) zd)) rfl hhd htab rfl rfl rfl (ζ2.mpr ⟨⟨rfl,rfl⟩,(ζ2.mpr ⟨⟨rfl,rfl⟩,(ζ2.mpr ⟨⟨rfl,rfl⟩,(λ_ z=>nomatch z)⟩)⟩)⟩) (ζ2.mpr ⟨⟨by first | exact .head _ | exact .tail _ (.head _) | exact .tail _ (.tail _ (.head _)) | exact .tail _ (.tail _ (.tail _ (.head _))),rfl⟩,(ζ2.mpr ⟨⟨by first | exact .head _ | exact .tail _ (.head _) | exact .tail _ (.tail _ (.head _)) | exact .tail _ (.tail _ (.tail _ (.head _))),rfl⟩,(ζ2.mpr ⟨⟨by first | exact .head _ | exact .tail _ (.head _) | exact .tail _ (.tail _ (.head _)) | exact .tail _ (.tail _ (.tail _ (.head _))),rfl⟩,(λ_ z=>nomatch z)⟩)⟩)⟩) (ζ2.mpr ⟨rfl,(ζ2.mpr ⟨rfl,(ζ2.mpr ⟨rfl,(λ_ z=>nomatch z)⟩)⟩)⟩) (λ_=>rfl)))
   (ze (yX (i:=4) rfl sc.nd rfl rfl (N:=["k","clump"]) (js:=[none,some 5]) (by walk_at"comp_ok") (zJ (K:=K) rfl (pv 4)) (λ_ _ _ _=>(pN (i:=0) (show υN ["k","clump"]by decide +kernel))) (λ_ _ _ _=>(yn (zu (ya (K:=K) rfl) (pv 0) (pv 1) (rfl)))) (λ_ _ _ _=>(pv 0)))
   (zi (yg (yo (K:=K) rfl ζq ζE ζD zW (pv 3) (zb (pv 5) zd)))))))
   (zi (zG (pv 3)))))),?_⟩
 have hN:=sc.n 6;obtain⟨n,cs,hs,sm,rfl,ok,n12,hw,wl,rfl⟩:=p;have big:=zK;obtain⟨dc,e1,e2,e3⟩:∃dc:Str→AD,dc "causes" = nls cs∧dc "hidden" = nl hs∧dc "some" = nl sm:=⟨λy=>if y = "causes" then nls cs else if y = "hidden" then nl hs else nl sm,if_pos rfl,(if_neg #[2]).trans (if_pos rfl),(if_neg #[2]).trans (if_neg #[2])⟩
 walk_at"run";refine exo true (ds:=([]:AI).map nl) (yc (ds:=[]) zD #[2]) #[0] ?_;refine exs true (d:=nl sm) (EvO.toE (yR (EvL.imm (κ:=false) (EvE.toL ∅) (wv sm)))) #[0] ?_;refine yr (λΓ=>∃x y,Γ=[some (.fz false (nls cs)),some (.fz false (nl hs)),some (.fz false (nl sm)),some (.ow true ((clF n (lkF cs hs sm) sm.length sm).map nl)),x,y]) (wJ (λq Γ=>∃(fo:AI) (le:AF) (y:Option DV),le.length≤q∧(∀x∈le,x < n)∧fo.length + q≤12∧fo ++ clF n (lkF cs hs sm) q le=clF n (lkF cs hs sm) sm.length sm∧Γ=[some (.fz false (nls cs)),some (.fz false (nl hs)),some (.fz false (nl sm)),some (.ow true (fo.map nl)),some (.fz true (nl le)),y]) sm.length ⟨[],sm,none,ζj _,hw,by show 0 + _≤_; omega,rfl,rfl⟩ ?_) ?_
 ·rintro q Γ' ⟨fo,le,y,hl,hx,hf,he,rfl⟩;refine⟨decide (0 < (le.length:Int)),EvT.eq (zH (ZU (i:=(le.length:Int)) (j:=0) (EvE.eq (ye (ds:=le.map λk:Nat=>.int (k:Int)) ∅) (by rw[ζa])) ∅)) rfl,λh=>?_,λh=>?_⟩
  ·have h':0 < (le.length:Int):=by simpa using h
   obtain⟨x,r,rfl⟩:∃x r,le=x :: r:=by
    cases le with
    | nil=>exact absurd h' #[2]
    | cons x r=>exact⟨x,r,rfl⟩
   obtain⟨f,rfl⟩:∃f,q=f + 1:=⟨q - 1,by have:r.length + 1≤q:=hl; omega⟩
   have hl:r.length + 1≤f + 1:=hl;have xn:=hx x ζi;have a0:atI ((x :: r).map λk:Nat=>PyData.int (k:Int)) (0:Int)=some (.int (x:Int)):=yB (g:=λk:Nat=>PyData.int (k:Int)) (xs:=x :: r) (i:=0) rfl;have ll:=UU (n:=n) (nx:=lkF cs hs sm) (x:=x) (r:=r) xn;have rl:=zai n (lkF cs hs sm) [x];refine exs true (d:=nl (rchL n (lkF cs hs sm) [x])) (V4 (P:=P) (w:=w) (mg:=mg) (base:=base) (kk:=2) (x := "k") (dc:=dc) (p1:=gP n (lkF cs hs sm)) (d1:=.list [.int (x:Int)]) (EvO.toE (yc (ds:=[.int (x:Int)]) (zh (zS (κ:=false) ∅ ∅ a0) zD) (by show 1≤sizeLine; omega))) (ζ2.mpr ⟨⟨false,by show _=some (some (DV.fz false (dc "causes"))); rw[e1]; rfl⟩,ζ2.mpr ⟨⟨false,by show _=some (some (DV.fz false (dc "hidden"))); rw[e2]; rfl⟩,ζ2.mpr ⟨⟨false,by show _=some (some (DV.fz false (dc "some"))); rw[e3]; rfl⟩,λ_ z=>nomatch z⟩⟩⟩) (zaV (by decide +kernel)) (λcl pm c' ctv=>wM.all λus hl=>match us,hl with | [_],_=>rfl) (λ_ _ _ hcl _ _ _ _ hr=>(pF c_linked_to hr (zb (pv 1) (zb (pv 2) (zb (pv 0) (zb (pv 3) zd)))))) (λd r h=>?_) ⟨n,lkF cs hs sm,[x],rfl,zfu n12 hw ⋯ cs hs,VN xn,rfl,rfl⟩) #[0] ?_
   ·obtain⟨k,kn,rfl,rfl⟩:=h;show EvE K .fresh false _ [some (.fz false (.int k)),some (.fz false (dc "causes")),some (.fz false (dc "hidden")),some (.fz false (dc "some"))] _;rw[e1,e2,e3];exact zm ∅ ⟨n,cs,hs,sm,k,rfl,ok,hw,⋯,kn,rfl⟩
   refine exs true (d:=nl ((x :: r).filter λk=>!decide (k∈rchL n (lkF cs hs sm) [x]))) (EvO.toE (zY (κ:=true) (is:=[0]) (xs:=x :: r) false (λk:Nat=>.int (k:Int)) (λk:Nat=>.int (k:Int)) (λk=>!decide (k∈rchL n (lkF cs hs sm) [x])) (λx _ y _ h=>by cases xk h; exact⟨rfl,rfl⟩) (zO ∅) (by walk_at"cc") rfl #[2] (by show r.length + 1≤_; omega) ?_)) #[0] ?_
   ·intro k hk;exact egn #[0] ⟨EvT.eq (zH (yC (neg:=true) (i:=(k:Int)) (ns:=zl (rchL n (lkF cs hs sm) [x])) ∅ (EvE.toL (EvE.eq (κ:=false) ∅ (yt _))))) (by show(!decide _)=_; rw[yJ]),λ_=>by walk_at"ev"⟩
   refine exa1 (d:=nl (rchL n (lkF cs hs sm) [x])) #[1] ∅ #[0] (by rw[ζa]; omega) ?_;refine⟨f,Nat.lt_succ_self f,fo ++ [rchL n (lkF cs hs sm) [x]],_,_,ζZ ll (Nat.le_of_succ_le_succ hl),λz hz=>hx z (ζl.mp hz).1,by rw[ζg]; show _ + 1 + _≤_; omega,?_,by rw[ζy]; rfl⟩
   rw[ξY];exact he
  ·have h':¬0 < (le.length:Int):=by simpa using h
   have e:le=[]:=ξe.mp ⋯;subst e;have:clF n (lkF cs hs sm) q []=[]:=by cases q <;> rfl
   rw[this,ζQ]at he;rw[he];exact⟨_,_,rfl⟩
 ·rintro Γ' ⟨x,y,rfl⟩;exact exro #[1] rfl (.inl ⟨rfl,rfl⟩)
theorem Rch.trans(h:Rch nx [a] b)(g:Rch nx [b] c):Rch nx [a] c:=by
 induction g with
 | base z=>rw[ζk.mp z]; exact h
 | step _ z ih=>exact .step ih z
theorem zdD{cs:AI}{hs sm:AF}{x y:Nat}(hx:x∈sm)(h:Rch (lkF cs hs sm) [x] y):y∈sm:=by
 cases h with
 | base z=>rw[ζk.mp z]; exact hx
 | step _ z=>exact(ZO.mp z).1
theorem zcJ{cs:AI}{hs sm:AF}{x y:Nat}(hx:x∈sm)(h:Rch (lkF cs hs sm) [x] y):Rch (lkF cs hs sm) [y] x:=by
 induction h with
 | base z=>rw[ζk.mp z]; exact .base (ζk.mpr rfl)
 | step r z ih =>
  obtain⟨_,h,h1,h2,h3⟩:=ZO.mp z;exact Rch.trans (.step (.base (ζk.mpr rfl)) (ZO.mpr ⟨zdD hx r,h,h1,h3,h2⟩)) ih
def inF(cs:AI)(wi:AF)(k:Nat):AF:=(cs.getD k []).filter λc=>decide (c∈wi)
def zk(n:Nat)(hs:AF):AF:=(List.range n).filter λk=>!decide (k∈hs)
def vg(ds:AG)(d:AD):Prop:=∃(cs:AI) (hs:AF),ds=[nls cs,nl hs]∧cs.length≤1000∧d=nl (zk cs.length hs)
theorem Zy:zA ["causes","hidden"] ["causes","hidden"] (zn (top 12)):={}
theorem ZK(F:Fun K "seen_things" "seen_things" (top 12) f fd)(B:Bs mg): FnOk P w K mg base CX0 1 f fd ["causes","hidden"] (spD K true vg):=by
 have sc:=Zy;refine F.ok sc (λvs H Q E h=>zI (λ_ _⟨_,_,e,_⟩=>by rw[e];rfl) h) (λcdv A outer s H vs Q E hr h=>?_);obtain⟨Fh,ds,d,le,dp,p,q⟩:=h;refine⟨_,(zi (zG (yl rfl (N:=["k","hidden"]) (js:=[none,some 1]) (by walk_at"comp_ok") (yi rfl B.range (zb (pB (zj (K:=K) rfl) B.len (zb (pv 0) zd)) zd)) (λ_ _ _ _=>(pN (i:=0) (show υN ["k","hidden"]by decide +kernel))) (λ_ _ _ _=>(yn (zu (ya (K:=K) rfl) (pv 0) (pv 1) (rfl)))) (λ_ _ _ _=>(pv 0))))),?_⟩
 have hN:=sc.n 2;obtain⟨cs,hs,rfl,hl,rfl⟩:=p;have big:=zK;have el:(((cs.map nl).length:Nat):Int)=(cs.length:Int):=by rw[ζa]
 walk_at"run";refine zR true (EvO.toE (YN (is:=[0]) (n:=cs.length) (λo=>.int (o:Int)) (λk=>!decide (k∈hs)) (zh (EvE.eq (ye (ds:=cs.map nl) ∅) (congrArg PyData.int el)) zD) ⋯ (by walk_at"cc") rfl #[2] ?_)) rfl (.inl ⟨rfl,rfl⟩);intro o ho;refine egn #[0] ⟨EvT.eq (zH (yC (neg:=true) (i:=(o:Int)) (ns:=zl hs) ∅ (EvE.toL (EvE.eq (κ:=false) ∅ (yt _))))) ?_,λ_=>by walk_at"ev"⟩;show(!decide _)=_;rw[yJ]
theorem zbp(a b:AF):PyData.eqv (nl a) (nl b)=decide (a=b):=by
 rw[yt,yt];refine(zbq _ _).trans (decide_eq_decide.mpr ⟨λh=>?_,λh=>by rw[h]⟩);unfold zl at h;exact(List.map_inj_right (λx y e=>Int.ofNat.inj e)).mp h
theorem ze3(ls:AI)(l:AF):((ls.map nl).any λe=>PyData.eqv e (nl l))=decide (l∈ls):=by
 induction ls with
 | nil=>rfl
 | cons x r ih =>
  rw[ζH,ξM,ih,zbp];by_cases h:x=l
  ·subst h;rw[decide_eq_true rfl,decide_eq_true ζi];rfl
  ·rw[decide_eq_false h];refine(Bool.false_or _).trans (decide_eq_decide.mpr ⟨ζp _,λz=>?_⟩);rcases ζC.mp z with z | z
   ·exact absurd z.symm h
   ·exact z
theorem zaP(l:AF):low (nl l)=true:=by
 have h2:=xt (g:=λk:Nat=>PyData.int (k:Int)) (λ_=>rfl) l;have d2:=yU (g:=λk:Nat=>PyData.int (k:Int)) (n:=0) (λ_=>ζj _) l;unfold low;refine Bool.and_eq_true_iff.mpr ⟨h2,decide_eq_true ?_⟩;show PyData.depthAll _ + 1≤50;omega
theorem zcH(ls:AI):∀e∈ls.map nl,low e=true:=λe he=>by
 obtain⟨l,_,rfl⟩:=ζn.mp he;exact zaP l
theorem X9(ls:AI):ls.zip (ls.drop 1)=(List.range (ls.length - 1)).map λi=>(ls.getD i [],ls.getD (i + 1) []):=by
 refine List.ext_getElem ?_ λi h1 h2=>?_
 ·rw[ξu,ζ8,ζa,ζv];omega
 ·rw[ζa,ζv]at h2;rw[List.getElem_zip,List.getElem_drop,List.getElem_map,List.getElem_range,ζb,ζb,ζd ⋯,ζd ⋯];refine congrArg (Prod.mk _) ?_;congr 1;omega
theorem Ug:∀a b:AI,List.zipWith (λx y=>PyData.tuple [x,y]) (a.map nl) (b.map nl)=(a.zip b).map λo=>.tuple [nl o.1,nl o.2]
 | [],_=>rfl
 | _ :: _,[]=>rfl
 | x :: a,y :: b=>congrArg (PyData.tuple [nl x,nl y] :: ·) (Ug a b)
theorem UT{n:Nat}{cs:AI}{hs sm:AF}{x y:Nat}(hx:x∈sm)(h:Rch (lkF cs hs sm) [x] y):rchL n (lkF cs hs sm) [y]=rchL n (lkF cs hs sm) [x]:=by
 refine wB (wC ..) (wC ..) λz=>?_;rw[xq,xq];exact⟨λw=>⟨w.1,h.trans w.2⟩,λw=>⟨w.1,(zcJ hx h).trans w.2⟩⟩
theorem UR{n:Nat}{cs:AI}{hs sm:AF}(lt:∀x∈sm,x < n)(r:AF):∀(f:Nat) (le:AF),le.length≤f→(∀x∈le,x∈sm)→(r∈clF n (lkF cs hs sm) f le↔∃x∈le,r=rchL n (lkF cs hs sm) [x])
 | 0,[],_,_=>⟨λz=>(by cases z),λ⟨_,z,_⟩=>(by cases z)⟩
 | 0,_ :: _,h,_=>absurd h (Nat.not_succ_le_zero _)
 | f + 1,[],_,_=>⟨λz=>(by cases z),λ⟨_,z,_⟩=>(by cases z)⟩
 | f + 1,x :: t,hf,hs'=>by
  have xs:=hs' x ζi;have ll:=UU (n:=n) (nx:=lkF cs hs sm) (x:=x) (r:=t) (lt x xs);have hf:t.length + 1≤f + 1:=hf;have ih:=UR (cs:=cs) (hs:=hs) lt r f ((x :: t).filter λk=>!decide (k∈rchL n (lkF cs hs sm) [x])) (ζZ ll (Nat.le_of_succ_le_succ hf)) λy hy=>hs' y (ζl.mp hy).1;show r∈rchL n (lkF cs hs sm) [x] :: clF n (lkF cs hs sm) f ((x :: t).filter λk=>!decide (k∈rchL n (lkF cs hs sm) [x]))↔_;rw[ζC,ih];constructor
  ·rintro(h | ⟨y,hy,e⟩)
   ·exact⟨x,ζi,h⟩
   ·exact⟨y,(ζl.mp hy).1,e⟩
  ·rintro⟨y,hy,e⟩;by_cases c:y∈rchL n (lkF cs hs sm) [x]
   ·exact .inl (e.trans (UT xs (xq.mp c).2))
   ·exact .inr ⟨y,ζl.mpr ⟨hy,by rw[decide_eq_false c]; rfl⟩,e⟩
theorem VU{n:Nat}{cs:AI}{hs sm pt:AF}(lt:∀x∈sm,x < n)(hp:pt≠[])(h0:pt.getD 0 0∈sm):pt∈clF n (lkF cs hs sm) sm.length sm↔pt=rchL n (lkF cs hs sm) [pt.getD 0 0]:=by
 rw[UR lt pt sm.length sm (ζj _) λ_ z=>z];refine⟨λ⟨x,hx,e⟩=>?_,λe=>⟨_,h0,e⟩⟩
 have:pt.getD 0 0∈pt:=by
  cases pt with
  | nil=>exact absurd rfl hp
  | cons a r=>exact ζi
 rw[e]at this;exact e.trans (UT hx (xq.mp this).2).symm |>.trans (by rw[←e])
theorem ze8(h:∀x∈ns,0≤x):zl (ns.map Int.toNat)=ns:=by
 unfold zl;rw[ζx];refine(ζs λx hx=>?_).trans (List.map_id _);exact ξf (h x hx)
theorem ShOk.ix{n:Nat}(h:ShOk n cs){k:Int}(hk:0≤k∧k < n):atI (cs.map nl) k=some (il (zl (cs.getD k.toNat []))):=by
 have g:cs[k.toNat]?=some (cs.getD k.toNat []):=zE (by rw[h.l]; omega);have z:=yB (g:=nl) g;rw[ξf hk.1,yt]at z;exact z
theorem Vz(h:x∈rm k ns):x∈ns:=by
 rcases ζw.mp h with h | h
 ·exact ζ7 h
 ·exact List.mem_of_mem_drop h
theorem VA(h:k∈ns):(rm k ns).length + 1=ns.length:=by
 have:=ζV.mpr h;unfold rm;rw[ζg,ζJ,ζ8];omega
theorem zci{k:Int}{ns:AE}(h:k∈ns):ns.Perm (k :: rm k ns):=by
 have hl:=ζV.mpr h;have e:ns=ns.take (ns.idxOf k) ++ k :: ns.drop (ns.idxOf k + 1):=by
  have z:=ζ0 (ns.idxOf k) ns;rw[ξp hl,ξL hl]at z;exact z.symm
 unfold rm;exact(List.Perm.of_eq e).trans ξ2
theorem zaa:(rm k ns).Sublist ns:=by
 have z:=ζ0 (ns.idxOf k) ns;have s:(ns.drop (ns.idxOf k + 1)).Sublist (ns.drop (ns.idxOf k)):=by
  rw[←List.drop_drop];exact List.drop_sublist _ _
 have:=List.Sublist.append (List.Sublist.refl (ns.take (ns.idxOf k))) s;rw[z]at this;exact this
def rdP(cs:AI)(ns:AE)(x:Int):Bool:=!((zl (cs.getD x.toNat [])).any λc=>decide (c∈ns))
theorem zah(h:rdP cs ns x=false):∃c,c∈zl (cs.getD x.toNat [])∧c∈ns:=by
 unfold rdP at h;rw[Bool.not_eq_false',ξD]at h;obtain⟨c,h1,h2⟩:=h;exact⟨c,h1,of_decide_eq_true h2⟩
theorem zcl(h:rdP cs ns x=true):∀c∈zl (cs.getD x.toNat []),c∉ns:=λc hc hn=>by
 unfold rdP at h;rw[Bool.not_eq_true',List.any_eq_false]at h;exact h c hc (decide_eq_true hn)
def grd(cs:AI):Nat→AE→Option AE
 | 0,_=>some []
 | m + 1,L=>match L.filter (rdP cs L)with
  | []=>none
  | x :: _=>(grd cs m (rm x L)).map (x :: ·)
theorem uR(h:L.filter (rdP cs L)=x :: r):grd cs (m + 1) L=(grd cs m (rm x L)).map (x :: ·):=by
 conv=>lhs; unfold grd
 rw[h]
theorem XR(h:L.filter (rdP cs L)=[]):grd cs (m + 1) L=none:=by
 unfold grd;rw[h]
def rgI(n:Nat):AE:=zl (List.range n)
theorem uC:(rgI n).length=n:=by unfold rgI zl; rw[List.length_map,List.length_range]
theorem vO:x∈rgI n↔0≤x∧x < n:=by
 unfold rgI zl;rw[ζn];constructor
 ·rintro⟨i,hi,rfl⟩;have:=ζG.mp hi;omega
 ·rintro⟨h1,h2⟩;exact⟨x.toNat,ζG.mpr ⋯,⋯⟩
theorem zad:(rgI n).Pairwise (· < ·):=by
 unfold rgI zl;rw[List.pairwise_map];exact ξT.imp λh=>by omega
def OrdS(n:Nat)(cs:AI):Prop:=ShOk n cs∧n≤12
def wW(ds:AG)(d:AD):Prop:=∃(n:Nat) (cs:AI) (f:AE),ds=[nls cs]∧OrdS n cs∧grd cs n (rgI n)=some f∧d=il f
theorem zbi{n:Nat}{cs:AI}{ns:AE}{fd:AG}{b3:Option DV}(ok:ShOk n cs)(n12:n≤12)(hl:ns.length≤12)(hn:∀x∈ns,0≤x∧x < n):
  EvE K .fresh true (ux [none,some 2,some 0] (U1 K (tVar 2)) (yG 0) (tNot (tB (vm (spD K true uH) [] E0 (zX (tOp (rIxL K) (tVar 2) (tVar 0)) (zX (tVar 1) tNil))))) (tVar 0)) [some (.fz false (nls cs)),some (.ow true fd),some (.ow true (ns.map .int)),b3] (il (ns.filter (rdP cs ns))):=by
 have big:=zK;have eb:zl (ns.map Int.toNat)=ns:=ze8 λx hx=>(hn x hx).1;refine EvO.toE (W9 2 #[1] #[0] (zY (κ:=true) (is:=[0]) (xs:=ns) false PyData.int PyData.int (rdP cs ns) (λx _ y _ h=>by cases h; exact⟨rfl,rfl⟩) (zO ∅) (by walk_at"cc") rfl #[2] ⋯ ?_) (wI _));intro k hk;have kn:=hn k hk;have rk:=(ok.e _ (ζf (zE (l:=cs) (k:=k.toNat) (d:=[]) (by rw[ok.l]; omega)))).2;refine egn #[0] ⟨tP (et_B (zm (ds:=[il (zl (cs.getD k.toNat [])),il ns]) (d:=.bool ((zl (cs.getD k.toNat [])).any λc=>decide (c∈ns))) (zh (zS (EvE.toL (κ:=false) ∅) ∅ (ok.ix kn)) ∅) ⟨cs.getD k.toNat [],ns.map Int.toNat,by rw[yt (ns.map _),eb,yt],by rw[ζa]; omega,by rw[←eb,QA,eb]⟩)),λ_=>by walk_at"ev"⟩
theorem Wq:zA ["causes","found","left","ready"] ["causes"] (zn (top 7)):={}
theorem WP(F:Fun K "order_of" "order_of" (top 7) f fd)(B:Bs mg)(c_meet:zt P w K mg base CX0 "meet" ["some","others"] 1 (spD K true uH)):FnOk P w K mg base CX0 2 f fd ["causes"] (spD K true wW):=by
 have sc:=Wq;refine F.ok sc (λvs H Q E h=>zI (λ_ _⟨_,_,_,e,_⟩=>by rw[e];rfl) h) (λcdv A outer s H vs Q E hr h=>?_);obtain⟨Fh,ds,d,le,dp,p,q⟩:=h
 refine⟨_,(ze (pS (i:=1) sc.nd (zQ zd))
   (ze (pS (i:=2) sc.nd (pY (X4 rfl) B.list (zb (pY Qt B.range (zb (pB (zj (K:=K) rfl) B.len (zb (pv 0) zd)) zd)) zd)))
   (ze (wD AC (zu tZ (pB (zj (K:=K) rfl) B.len (zb (pv 2) zd)) zg (zP _)) (ze (yX (i:=3) rfl sc.nd rfl rfl (N:=["k","left","causes"]) (js:=[none,some 2,some 0]) (by walk_at"comp_ok") (zJ (K:=K) rfl (pv 2)) (λ_ _ _ _=>(pN (i:=0) (show υN ["k","left","causes"]by decide +kernel))) (λ_ _ _ _=>(yn (ui (wq (pF c_meet hr (zb (pX (zv (K:=K) rfl) (pv 2) (pv 0)) (zb (pv 1) zd))))))) (λ_ _ _ _=>(pv 0)))
   (ze (yx (zu wg (pB (zj (K:=K) rfl) B.len (zb (pv 3) zd)) zg (zP _)) (zi ZC) zV)
   (ze (yg (yo (K:=K) rfl ζq ζE ζD zW (pv 1) (zb (pX (zv (K:=K) rfl) (pv 3) zg) zd)))
   (zi (yg (yo (K:=K) rfl ζq PySem.F.slot_list_remove PySem.F.type_list_remove T4 (pv 2) (zb (pX (zv (K:=K) rfl) (pv 3) zg) zd))))))))
   (zi (zG (pv 1)))))),?_⟩
 have hN:=sc.n 4;obtain⟨n,cs,f,rfl,⟨ok,n12⟩,hg,rfl⟩:=p;have big:=zK;have cl:=ok.l;walk_at"run";refine exo true (ds:=[]) (yc (ds:=[]) zD #[2]) #[0] ?_;refine exo true (Va (n:=n) (EvE.eq (ye (ds:=cs.map nl) ∅) (by rw[ζa,cl])) ⋯) #[0] ?_;refine yr (λΓ=>∃(b2 b3:Option DV),Γ=[some (.fz false (nls cs)),some (.ow true (f.map .int)),b2,b3]) (wJ (λm Γ=>∃(fd ns rs:AE) (b3:Option DV),Γ=[some (.fz false (nls cs)),some (.ow true (fd.map .int)),some (.ow true (ns.map .int)),b3]∧ns.length=m∧fd.length + ns.length=n∧(∀x∈ns,0≤x∧x < n)∧grd cs m ns=some rs∧fd ++ rs=f) n ⟨[],rgI n,f,none,by unfold rgI zl; rw[List.map_map]; rfl,uC,by rw[uC]; exact Nat.zero_add n,λx hx=>vO.mp hx,hg,rfl⟩ ?_) ?_
 ·rintro m Γ' ⟨fd,ns,rs,b3,rfl,hl,fl,hn,hg,hf⟩;refine⟨decide ((0:Int) < ((ns.map PyData.int).length:Nat)),zH (ZU (ye (ds:=ns.map PyData.int) ∅) ∅),λc=>?_,λc=>?_⟩
  ·have c:=of_decide_eq_true c;rw[ζa]at c;obtain⟨m,rfl⟩:∃k,m=k + 1:=⟨m - 1,⋯⟩
   refine exs true (zbi ok n12 ⋯ hn) #[0] ?_;cases er:ns.filter (rdP cs ns)with
   | nil=>rw[XR er]at hg; cases hg
   | cons x r =>
    rw[uR er]at hg;obtain⟨rs',hg',rfl⟩:=ξi.mp hg;have xm:x∈ns:=(ζl.mp (by rw[er]; exact ζi)).1;refine uW (b:=decide ((((x :: r).map PyData.int).length:Int)=0)) (zH (xM (ye (ds:=(x :: r).map PyData.int) ∅) ∅)) (decide_eq_false (by rw[ζa,ζ9]; omega)) ?_;have a0:atI ((x :: r).map PyData.int) 0=some (.int x):=atI0;refine exa (d:=.int x) #[1] (zS ∅ ∅ a0) #[0] (by rw[ζa]; omega) ?_;refine exrm (ns:=ns) (k:=x) #[1] (zS ∅ ∅ a0) xm #[0] ?_;have rl:=VA xm;refine⟨m,⋯,fd ++ [x],rm x ns,rs',_,by rw[ζy]; rfl,⋯,by rw[ζg]; show fd.length + 1 + _=n; omega,λy hy=>hn y (Vz hy),hg',by rw[ξY]; exact hf⟩
  ·have c:=of_decide_eq_false c;rw[ζa]at c;obtain rfl:m=0:=by omega
   obtain rfl:rs=[]:=(ζr hg).symm;rw[ζQ]at hf;exact⟨_,_,by rw[hf]⟩
 ·rintro Γ' ⟨b2,b3,rfl⟩;refine exfz 1 #[1] #[0] ?_;exact zR true ∅ rfl (.inl ⟨rfl,rfl⟩)
open Rq (rp Bq Cq S1 Sq Sl Qs QsOk qX)
abbrev qD(ss:AE)(s:Qs):AD:=v4 s.ks (qX ss s)
theorem Z2(h:Bq n q):Shr n (rp q).1 (rp q).2∧1≤(rp q).1:=⟨⟨Rq.xc q,h.bits.2.1,h.bits.2.2⟩,h.bits.1⟩
theorem Xq(h:QsOk ss s):s.ks.length≤ss.length:=by
 have p:s.ks.Perm ((List.range ss.length).filter λj=>decide (j∈s.ks)):=by
  rw[ξc h.nd (List.nodup_range.sublist ζK)];intro a;rw[ζl,ζG,decide_eq_true_eq];exact⟨λz=>⟨h.k a z,z⟩,λz=>z.2⟩
 rw[p.length_eq];have:=ζP (λj=>decide (j∈s.ks)) (List.range ss.length)
 rwa [ζv]at this
theorem q_sz(s7:S7 ss)(h:QsOk ss s):SzOk ss s.ks:=tT s7 h.k (by have:=Xq h; have:=s7.n; omega)
theorem q_xl(s7:S7 ss)(h:QsOk ss s):((qX ss s).length:Int)=prod (pk ss s.ks):=by
 have sz:=q_sz s7 h;have:=vx (ss:=pk ss s.ks) λx hx=>by have:=sz.pk x hx; omega
 rw[Rq.VE];omega
theorem q_o(s7:S7 ss)(h:QsOk ss s)(hb:∀a,Bq nb (s.f a)):ShO nb ss s.ks (qX ss s):=⟨h.k,by have:=Xq h; have:=s7.n; omega,q_xl s7 h,λx hx=>by
 obtain⟨w,_,rfl⟩:=ζn.mp hx;exact Z2 (hb _)⟩
theorem q_k(s7:S7 ss)(h:QsOk ss s)(hb:∀a,Bq 8900 (s.f a)):ShK ss s.ks (qX ss s):=by
 have l:=Xq h;have n5:=s7.n;have sz:=q_sz s7 h;exact⟨s7.s,h.k,h.nd,⋯,sz.p,q_xl s7 h,λx hx=>by
  obtain⟨w,_,rfl⟩:=ζn.mp hx;exact(Z2 (hb _)).1,⋯⟩
theorem UC{ss:AE}{u:Qs}{U:AF}{w:AE}(sz:SzOk ss U)(nd:U.Nodup)(hw:w∈wds (pk ss U))(hu:QsOk ss u)(hs:∀k∈u.ks,k∈U):atX ss u.ks (qX ss u) U w=rp (u.f (El.asg U w)):=by
 unfold atX mOf wPk;rw[ζs (g:=El.asg U w) λk hk=>(El.xz _ w k (hs k hk)).symm];exact Rq.zdA hu λj hj=>by
  rw[El.xz _ w j (hs j hj)];have V:=v_at sz nd hw (hs j hj);exact⟨V.2.1,V.2.2.1⟩
theorem TM{ss:AE}{s t:Qs}(s7:S7 ss)(h1:QsOk ss s)(h2:QsOk ss t):joX ss s.ks (qX ss s) t.ks (qX ss t) (El.unF ss.length s.ks t.ks)=qX ss (Rq.join ss.length s t):=by
 show List.map _ (wds (pk ss (El.unF ss.length s.ks t.ks)))=List.map _ (wds (pk ss (El.unF ss.length s.ks t.ks)));refine ζs λw hw=>?_;have sz:=zdm s7 s.ks t.ks;have nd:=El.QH ss.length s.ks t.ks;rw[UC sz nd hw h1 λk hk=>El.xU.mpr ⟨h1.k k hk,.inl hk⟩,UC sz nd hw h2 λk hk=>El.xU.mpr ⟨h2.k k hk,.inr hk⟩];exact Rq.zdn _ _
theorem Ys(s7:S7 ss)(h:QsOk ss s):((wds (pk ss (El.oth s.ks k))).map λw=>tot (col ss s.ks (qX ss s) k w))=qX ss (Rq.lout ss s k):=by
 show List.map _ _=List.map _ (wds (pk ss (El.oth s.ks k)));refine ζs λw hw=>?_;show tot ((rng (ss.getD k 0).toNat).map λv=>(qX ss s).getD (rkF (pk ss s.ks) (mr k w v s.ks 0)).toNat (0,1))=rp ((El.vr ss k).map λv=>s.f (El.upd (El.asg (El.oth s.ks k) w) k v)).sum;rw[←Rq.zdV];congr 1;refine ζs λv hv=>?_;have ond:(El.oth s.ks k).Nodup:=h.nd.sublist ζK;have osz:SzOk ss (El.oth s.ks k):=tT s7 (λx hx=>h.k x (El.xG.mp hx).1) (by have:=List.length_filter_le (λx=>decide (x≠k)) s.ks; have:=Xq h; have:=s7.n; unfold El.oth; omega);have em:mr k w v s.ks 0=s.ks.map (El.upd (El.asg (El.oth s.ks k) w) k v):=by
  rw[VT s.ks 0 h.nd];refine ζs λj hj=>?_;by_cases e:j=k
  ·rw[if_pos e,e,El.zp]
  ·rw[if_neg e,El.zC e,El.xz _ w j (El.xG.mpr ⟨hj,e⟩),Nat.zero_add]
 rw[em];refine Rq.zdA h λj hj=>?_;by_cases e:j=k
 ·rw[e,El.zp];unfold rng at hv;obtain⟨i,hi,rfl⟩:=ζn.mp hv;have:=ζG.mp hi;omega
 ·rw[El.zC e,El.xz _ w j (El.xG.mpr ⟨hj,e⟩)];have V:=v_at osz ond hw (El.xG.mpr ⟨hj,e⟩);exact⟨V.2.1,V.2.2.1⟩
theorem zfq(ss:AE):PyData.tuple [.list [],.list [.tuple [.int 1,.int 1]]]=qD ss Rq.one:=rfl
def tX(ds:AG)(d:AD):Prop:=∃(ss:AE) (s t:Qs),ds=[il ss,qD ss s,qD ss t]∧S7 ss∧QsOk ss s∧QsOk ss t∧(∀k∈t.ks,k∈s.ks)∧(∀a,Bq 8900 (s.f a))∧(∀a,Bq 8900 (t.f a))∧d=qD ss (Rq.dvd s t)
theorem Vx:zA ["sizes","one","other","found","part","view"] ["sizes","one","other"] (zn (top 41)):={}
theorem VP(F:Fun K "divided" "divided" (top 41) f fd)(B:Bs mg)(c_views_of:zt P w K mg base CX0 "views_of" ["sizes","view","things"] 4 (spD K true xi))(c_over:zt P w K mg base CX0 "over" ["one","other"] 3 (spD K true WL))(c_share_at:zt P w K mg base CX0 "share_at" ["sizes","sheet","view"] 2 (spD K true xj)):FnOk P w K mg base CX0 5 f fd ["sizes","one","other"] (spD K false tX):=by
 have sc:=Vx;refine F.ok sc (λvs H Q E h=>zI (λ_ _⟨_,_,_,e,_⟩=>by rw[e];rfl) h) (λcdv A outer s H vs Q E hr h=>?_);obtain⟨Fh,ds,d,le,dp,p,q⟩:=h
 refine⟨_,(ze (pS (i:=3) sc.nd (zQ zd))
   (ze (zZ AC rfl (wZ (K:=K) rfl rfl B.zip (zb (pX (zw (K:=K) rfl) (pv 1) zg) (zb (pF c_views_of hr (zb (pv 0) (zb (zq ZJ (zQ (zb tI zd)) (pB (zj (K:=K) rfl) B.len (zb (pv 0) zd))) (zb (pX (zw (K:=K) rfl) (pv 1) zg) zd)))) zd))) (xQ (K:=K) (n:=2) rfl rfl (yf (pN (i:=4) sc.nd) (yf (pN (i:=5) sc.nd) xP))) (zi (yg (yo (K:=K) rfl ζq ζE ζD zW (pv 3) (zb (pF c_over hr (zb (pv 4) (zb (pF c_share_at hr (zb (pv 0) (zb (pv 2) (zb (pv 5) zd)))) zd))) zd)))))
   (zi (zG (yN (zb (pX (zw (K:=K) rfl) (pv 1) zg) (zb (pv 3) zd))))))),?_⟩
 have hN:=sc.n 6;obtain⟨ss,s,t,rfl,s7,h1,h2,hs,b1,b2,rfl⟩:=p;have big:=zK;have n7:=s7.n;have sz:=q_sz s7 h1;have sp:=sz.p;have sz2:=q_sz s7 h2;walk_at"run";refine exo true (yc (ds:=[]) zD #[2]) #[0] ?_;refine yK (ds:=List.zipWith (λx y=>.tuple [x,y]) ((qX ss s).map shD) ((wds (pk ss s.ks)).map λw=>vl (vOf ss.length s.ks w))) false (λi Γ=>∃x y,Γ=[some (.fz false (il ss)),some (.fz false (qD ss s)),some (.fz false (qD ss t)),some (.ow true (((wds (pk ss s.ks)).take i).map λw=>shD (rp (s.f (El.asg s.ks w) / t.f (El.asg s.ks w))))),x,y]) (ul (zh (vE (κ:=false) ∅ ∅ atI1) (zh (zm (zh ∅ (zh (EvO.toE (vc (k:=(ss.length:Int)) ∅ (EvE.eq ∅ (by rw[ζa])) ⋯ ⋯ (by show 1 * _≤_; omega))) (zh (vE (κ:=false) ∅ ∅ atI0) zD))) ⟨ss,List.replicate ss.length none,s.ks,by rw[ζI,vq],sz,ζT ..,rfl⟩) zD))) ⟨none,none,by rw[ζX]; rfl⟩ ?_ ?_
 ·rintro i d Γ' hd ⟨x,y,rfl⟩;obtain⟨z,w,hz',hw',rfl⟩:=tM hd;have hw:=ζf hw';have hi:=(ζh.mp hw').1;rw[yM]at hi;have ez:z=rp (s.f (El.asg s.ks w)):=by
   unfold Rq.qX at hz';rw[ζo,hw']at hz';exact(ζr hz').symm
  subst ez;have A:=UC sz h1.nd hw h2 hs;have M2:=m_ok sz h1.nd hw (q_o s7 h2 b2) hs;have V2:=Y1 sz h1.nd hw hs;have ne2:∀k∈t.ks,(vOf ss.length s.ks w).getD k none≠none:=λk hk=>by rw[ζb,(v_at sz h1.nd hw (hs k hk)).1]; exact λz=>by cases z
  have A1:=Z2 (b1 (El.asg s.ks w));have A2:=Z2 (b2 (El.asg s.ks w));refine⟨_,egt #[0] #[0] ?_⟩
  refine exa1 (d:=shD (rp (s.f (El.asg s.ks w) / t.f (El.asg s.ks w)))) #[1] (zm (zh ∅ (zh (EvE.eq (zm ∅ ⟨ss,t.ks,qX ss t,vOf ss.length s.ks w,mOf ss t.ks s.ks w,rfl,sz2,Ul _ _ _,ne2,by rw[V2]; exact M2.1,M2.2,rfl⟩) (congrArg shD (show(qX ss t).getD _ _=_ from A))) zD)) ⟨rp (s.f (El.asg s.ks w)),rp (t.f (El.asg s.ks w)),rfl,A1.1.up #[2],A1.2,A2.1.up #[2],A2.2,?_⟩) #[0] ?_ ?_
  ·have e:=Rq.zd2 (b2 (El.asg s.ks w)).bits.1;have e1:(rp (t.f (El.asg s.ks w))).2=(rp (t.f (El.asg s.ks w))⁻¹).1:=congrArg Prod.fst e;have e2:(rp (t.f (El.asg s.ks w))).1=(rp (t.f (El.asg s.ks w))⁻¹).2:=congrArg Prod.snd e;rw[e1,e2,Rq.zdn,Rat.div_def]
  ·rw[ζa,ζJ,yM];omega
  ·refine⟨some (.fz false (shD (rp (s.f (El.asg s.ks w))))),some (.fz false (vl (vOf ss.length s.ks w))),?_⟩
   rw[take_succ hw',ζy];rfl
 ·rintro Γ' ⟨x,y,rfl⟩;refine exfz 3 #[1] #[0] ?_;refine zR false ∅ ?_ (.inr rfl);rw[ξw,ζa,ζa,Rq.VE,yM,Nat.min_self,ζB (by rw[yM]; exact ζj _)];show PyData.tuple [_,_]=.tuple [_,.list _];unfold Rq.qX;rw[ζx];rfl
def stp(ss:AE)(cl:AF)(st:Qs×Qs)(k:Nat):Qs×Qs:=(if k∈cl then Rq.join ss.length st.1 (Rq.dvd st.2 (Rq.lout ss st.2 k))else st.1,Rq.lout ss st.2 k)
def runC(ss:AE)(cl:AF)(s:Qs)(l:AF):Qs×Qs:=l.foldl (stp ss cl) (Rq.one,s)
theorem xS(ss:AE)(cl:AF)(s:Qs)(l:AF)(k:Nat):runC ss cl s (l ++ [k])=stp ss cl (runC ss cl s l) k:=by
 unfold runC;rw[ξG];rfl
structure CBt(ss:AE)(s:Qs)(l:AF)(R:Nat):Prop where
 b:∀i,i≤l.length→∀a,Bq 8900 (Sl ss (l.take i) s.f a)
 r:∀i,i < l.length→∀a,Bq R (Sl ss (l.take i) s.f a / Sl ss (l.take (i + 1)) s.f a)
theorem xK(ss:AE)(cl:AF)(s:Qs):∀l:AF,(runC ss cl s l).2.f=Sl ss l s.f∧(runC ss cl s l).2.ks=s.ks.filter λk=>!decide (k∈l):=by
 have key:∀(n:Nat) (l:AF),l.length=n→(runC ss cl s l).2.f=Sl ss l s.f∧(runC ss cl s l).2.ks=s.ks.filter λk=>!decide (k∈l):=by
  intro n;induction n with
  | zero =>
   intro l h;have:l=[]:=ζU h;subst this;exact⟨rfl,(List.filter_eq_self.mpr λk _=>rfl).symm⟩
  | succ n ih =>
   intro l h;obtain⟨t,k,rfl⟩:∃t s,l=t ++ [s]:=⟨l.dropLast,l.getLast (by intro e; rw[e]at h; cases h),(ζ6 _).symm⟩
   have hl:t.length=n:=by rw[List.length_append]at h; simpa using h
   obtain⟨i1,i2⟩:=ih t hl;rw[xS];refine⟨?_,?_⟩
   ·show S1 ss k (runC ss cl s t).2.f=_;rw[i1];unfold Rq.Sl;rw[ξG];rfl
   ·show El.oth (runC ss cl s t).2.ks k=_;rw[i2];unfold El.oth;rw[List.filter_filter];refine ξH λx _=>?_;by_cases h1:x=k
    ·subst h1;simp
    ·simp[h1]
 exact λl=>key l.length l rfl
structure CSo(ss:AE)(s:Qs)(l:AF)(cl:AF)(R:Nat):Prop where
 s7:S7 ss
 ok:QsOk ss s
 nd:l.Nodup
 sub:∀k∈l,k∈s.ks
 bt:CBt ss s l R
 j:R * (cl.length - 1) + 1≤9000
 r4:R≤40000
def cnt(cl l:AF):Nat:=(l.filter λk=>decide (k∈cl)).length
theorem ZZ(cl l:AF)(k:Nat):cnt cl (l ++ [k])=cnt cl l + if k∈cl then 1 else 0:=by
 unfold cnt;rw[ζW,ζg];congr 1;by_cases h:k∈cl <;> simp[h]
theorem Ur{l cl:AF}(nd:l.Nodup)(h:∀x∈l,x∈cl):l.length≤cl.length:=by
 induction l generalizing cl with
 | nil=>exact ξn _
 | cons x r ih =>
  have⟨n1,n2⟩:=ζ5.mp nd;have xm:=h x ζi;have:=ih (cl:=cl.erase x) n2 λy hy=>(List.mem_erase_of_ne (λ(e:y=x)=>n1 (by rw[←e]; exact hy))).mpr (h y (ζp _ hy));have e:=List.length_erase_of_mem xm;have:0 < cl.length:=List.length_pos_of_mem xm;show r.length + 1≤_;omega
theorem V6{cl l:AF}(nd:l.Nodup):cnt cl l≤cl.length:=Ur (nd.sublist ζK) λx hx=>of_decide_eq_true (ζl.mp hx).2
structure CSi(ss:AE)(s:Qs)(l cl:AF)(R i:Nat):Prop where
 o1:QsOk ss (runC ss cl s (l.take i)).1
 o2:QsOk ss (runC ss cl s (l.take i)).2
 b1:∀a,Bq (R * cnt cl (l.take i) + 1) ((runC ss cl s (l.take i)).1.f a)
theorem CSi.zero(h:QsOk ss s):CSi ss s l cl R 0:=by
 refine⟨?_,?_,?_⟩
 ·rw[ζX]; exact Rq.VN ss
 ·rw[ζX]; exact h
 ·rw[ζX];intro a;exact Bq.one.up ⋯
theorem CSi.next(h:CSo ss s l cl R)(hi:l[i]?=some k)(c:CSi ss s l cl R i):CSi ss s l cl R (i + 1):=by
 have il:=(ζh.mp hi).1;have e:=xS ss cl s (l.take i) k;rw[←take_succ hi]at e;have ec:=ZZ cl (l.take i) k;rw[←take_succ hi]at ec;have lo:=Rq.XI c.o2 k;refine⟨?_,?_,λa=>?_⟩
 ·rw[e];unfold stp;split
  ·exact Rq.zcL c.o1 (Rq.zbu c.o2 lo λj hj=>(El.xG.mp hj).1)
  ·exact c.o1
 ·rw[e];exact lo
 ·rw[e,ec];unfold stp;by_cases hk:k∈cl
  ·rw[if_pos hk,if_pos hk];show Bq _ ((runC ss cl s (l.take i)).1.f a * ((runC ss cl s (l.take i)).2.f a / S1 ss k (runC ss cl s (l.take i)).2.f a));have s1:=(xK ss cl s (l.take i)).1;have s2:=(xK ss cl s (l.take (i + 1))).1;rw[e]at s2;have s2:S1 ss k (runC ss cl s (l.take i)).2.f=_:=s2;rw[s2,s1];refine((c.b1 a).mul (h.bt.r i il a)).up ?_;rw[Nat.mul_add];omega
  ·rw[if_neg hk,if_neg hk];exact c.b1 a
def vi(ds:AG)(d:AD):Prop:=∃(ss:AE) (s:Qs) (od cl:AF) (R:Nat),ds=[il ss,qD ss s,nl od,nl cl]∧CSo ss s od.reverse cl R∧d=qD ss (runC ss cl s od.reverse).1
theorem ZA:zA ["sizes","sheet","ordered","clump","found","later_summed","k","itself_too"] ["sizes","sheet","ordered","clump"] (zn (top 40)):={}
theorem ZM(F:Fun K "clump_sheet" "clump_sheet" (top 40) f fd)(B:Bs mg)(c_left_out:zt P w K mg base CX0 "left_out" ["sizes","sheet","k"] 6 (spD K true xN))(c_joined:zt P w K mg base CX0 "joined" ["sizes","one","other"] 5 (spD K true ZE))(c_divided:zt P w K mg base CX0 "divided" ["sizes","one","other"] 5 (spD K false tX)):FnOk P w K mg base CX0 7 f fd ["sizes","sheet","ordered","clump"] (spD K true vi):=by
 have sc:=ZA;refine F.ok sc (λvs H Q E h=>zI (λ_ _⟨_,_,_,_,_,e,_⟩=>by rw[e];rfl) h) (λcdv A outer s H vs Q E hr h=>?_);obtain⟨Fh,ds,d,le,dp,p,q⟩:=h
 refine⟨_,(ze (pS (i:=4) sc.nd (yN (zb (zQ zd) (zb (zQ (zb (yN (zb zg (zb zg zd))) zd)) zd))))
   (ze (pS (i:=5) sc.nd (pv 1))
   (ze (zZ AC rfl (UJ (K:=K) rfl rfl B.reversed (zb (pv 2) zd)) (pN (i:=6) sc.nd) (ze (pS (i:=7) sc.nd (pF c_left_out hr (zb (pv 0) (zb (pv 5) (zb (pv 6) zd)))))
   (ze (yx (zu (yz (K:=K) rfl) (pv 6) (pv 3) (rfl)) (zi (pS (i:=4) sc.nd (pF c_joined hr (zb (pv 0) (zb (pv 4) (zb (pF c_divided hr (zb (pv 0) (zb (pv 5) (zb (pv 7) zd)))) zd)))))) zV)
   (zi (pS (i:=5) sc.nd (pv 7))))))
   (zi (zG (pv 4)))))),?_⟩
 have hN:=sc.n 8;obtain⟨ss,s,od,cl,R,rfl,ok,rfl⟩:=p;have s7:=ok.s7;walk_at"run";refine exs true (d:=qD ss Rq.one) (EvE.eq (a:=.tuple [.list [],.list [.tuple [.int 1,.int 1]]]) ∅ (zfq ss)) #[0] ?_;refine exs false ∅ #[0] ?_;refine yK (ds:=(od.map λk:Nat=>PyData.int (k:Int)).reverse) false (λi Γ=>∃x y,Γ=[some (.fz false (il ss)),some (.fz false (qD ss s)),some (.fz false (nl od)),some (.fz false (nl cl)),some (.fz true (qD ss (runC ss cl s (od.reverse.take i)).1)),some (.fz false (qD ss (runC ss cl s (od.reverse.take i)).2)),x,y]∧CSi ss s od.reverse cl R i) (zbt ∅) ⟨none,none,by rw[ζX]; rfl,.zero ok.ok⟩ ?_ ?_
 ·rintro i d Γ' hd ⟨x,y,rfl,c⟩;rw[←List.map_reverse]at hd;obtain⟨k,hk,rfl⟩:=yP hd;have il':=(ζh.mp hk).1;have e:=xS ss cl s (od.reverse.take i) k;rw[←take_succ hk]at e;have km:=ζf hk;have nx:=c.next ok hk;have lo:=Rq.XI c.o2 k;have r2:=xK ss cl s (od.reverse.take i);have r3:=xK ss cl s (od.reverse.take (i + 1));have B2:∀a,Bq 8900 ((runC ss cl s (od.reverse.take i)).2.f a):=λa=>by rw[r2.1]; exact ok.bt.b i ⋯ a
  have B3:∀a,Bq 8900 ((Rq.lout ss (runC ss cl s (od.reverse.take i)).2 k).f a):=λa=>by
   have:=ok.bt.b (i + 1) ⋯ a;rw[←r3.1,e]at this;exact this
  have kn:k∉od.reverse.take i:=λz=>by
   have nd:=ok.nd;rw[←ζ0 i od.reverse]at nd;refine(ζ4.mp nd).2.2 k z k ?_ rfl;rw[ξp il',(ζh.mp hk).2];exact ζi
  have kk:k∈(runC ss cl s (od.reverse.take i)).2.ks:=by
   rw[r2.2];exact ζl.mpr ⟨ok.sub k km,by rw[decide_eq_false kn]; rfl⟩
  refine⟨_,egn #[0] ?_⟩
  refine exs true (d:=qD ss (Rq.lout ss (runC ss cl s (od.reverse.take i)).2 k)) (EvE.eq (zm ∅ ⟨ss,_,_,k,rfl,q_k s7 c.o2 B2,kk,rfl⟩) (by rw[Ys s7 c.o2]; rfl)) #[0] ?_;refine exif (b:=decide (k∈cl)) (·=[some (.fz false (il ss)),some (.fz false (qD ss s)),some (.fz false (nl od)),some (.fz false (nl cl)),some (.fz true (qD ss (runC ss cl s (od.reverse.take (i + 1))).1)),some (.fz false (qD ss (runC ss cl s (od.reverse.take i)).2)),some (.fz false (.int k)),some (.fz true (qD ss (Rq.lout ss (runC ss cl s (od.reverse.take i)).2 k)))]) (EvT.eq (zH (yC (neg:=false) (i:=(k:Int)) (ns:=zl cl) ∅ (EvE.toL (κ:=false) (EvE.eq ∅ (yt cl))))) (by rw[←yJ]; rfl)) (λh=>?_) (λh=>?_) ?_
  ·have hc:k∈cl:=of_decide_eq_true h;have dv:=Rq.zbu c.o2 lo λj hj=>(El.xG.mp hj).1;have cs:=ZZ cl (od.reverse.take i) k;rw[←take_succ hk,if_pos hc]at cs;have cle:=V6 (cl:=cl) (l:=od.reverse.take (i + 1)) (ok.nd.sublist (ξX _ _));have bj:R * cnt cl (od.reverse.take i) + 1≤9000:=by
    have:=ζ1 R (show cnt cl (od.reverse.take i)≤cl.length - 1 by omega);have:=ok.j;omega
   have D:∀a,Bq 40000 ((Rq.dvd (runC ss cl s (od.reverse.take i)).2 (Rq.lout ss (runC ss cl s (od.reverse.take i)).2 k)).f a):=λa=>by
    have:=ok.bt.r i il' a;rw[←r2.1,←r3.1,e]at this;exact Bq.up this ok.r4
   refine exs1 true (EvE.eq (zm (zh ∅ (zh ∅ (zh (vF ∅ ⟨ss,_,_,rfl,s7,c.o2,lo,λj hj=>(El.xG.mp hj).1,B2,B3,rfl⟩) zD))) ⟨ss,_,_,_,_,_,rfl,s7,q_o s7 c.o1 λa=>(c.b1 a).up bj,q_o s7 dv D,rfl,rfl⟩) ?_) #[0] rfl;rw[TM s7 c.o1 dv,e];unfold stp;rw[if_pos hc];rfl
  ·have hc:k∉cl:=of_decide_eq_false h;refine yj ?_;rw[e];unfold stp;rw[if_neg hc]
  rintro Γ' rfl;refine exs1 false ∅ #[0] ?_;show∃x y,_=_∧_;rw[show(runC ss cl s (od.reverse.take (i + 1))).2=Rq.lout ss (runC ss cl s (od.reverse.take i)).2 k by rw[e]; rfl];exact⟨_,_,rfl,nx⟩
 ·rintro Γ' ⟨x,y,rfl,c⟩;rw[ξx,ζa,ζB (by rw[ξx]; exact ζj _)];exact zR true ∅ rfl (.inl ⟨rfl,rfl⟩)
def wF(ds:AG)(d:AD):Prop:=∃xs:AM,ds=[shs xs]∧xs.length≤100000∧(∀x∈xs,1≤x.1)∧d=.none
theorem zb3(h:shD x=shD y):x=y:=by
 injection h with h;injection h with h1 h;injection h with h2 _;injection h1 with h1;injection h2 with h2;exact Prod.ext h1 h2
theorem Zb:zA ["shares"] ["shares"] (zn (top 38)):={}
theorem Zc(F:Fun K "check_shares" "check_shares" (top 38) f fd)(B:Bs mg): FnOk P w K mg base CX0 1 f fd ["shares"] (spD K true wF):=by
 have sc:=Zb;refine F.ok sc (λvs H Q E h=>zI (λ_ _⟨_,e,_⟩=>by rw[e];rfl) h) (λcdv A outer s H vs Q E hr h=>?_);obtain⟨Fh,ds,d,le,dp,p,q⟩:=h;refine⟨_,(zi (yx (wq (pB (Qx (K:=K) rfl rfl) B.any (zb (yl rfl (N:=["part"]) (js:=[none]) (by walk_at"comp_ok") (zJ (K:=K) rfl (pv 0)) (λ_ _ _ _=>(pN (i:=0) (show υN ["part"]by decide +kernel))) (λ_ _ _ _=>xF) (λ_ _ _ _=>(xR zfp (pX (zw (K:=K) rfl) (pv 0) zg) zg (zP _)))) zd))) (zi ZC) zV)),?_⟩
 have hN:=sc.n 1;obtain⟨xs,rfl,hl,h1,rfl⟩:=p;have big:=zK;walk_at"run";refine uW (b:=(xs.map λx=>decide (x.1≤0)).any λb=>b) (et_B (zeV (bs:=xs.map λx=>decide (x.1≤0)) (EvO.toL (EvO.eq (vD (κ:=false) (is:=[0]) (xs:=xs) false shD (λx=>.bool (decide (x.1≤0))) (λx _ y _ h=>by rw[zb3 h]) (zO ∅) (by walk_at"cc") rfl #[2] ⋯ ?_) (by rw[ζx]; rfl))))) ?_ ?_
 ·intro x hx;refine egn #[0] ?_;walk_at"ev"
 ·rw[List.any_map,List.any_eq_false];intro x hx;have:=h1 x hx;simp;omega
 ·exact yj rfl
def odF(f:AE)(ah:AF):AF:=(f.map Int.toNat).filter λk=>decide (k∈ah)
noncomputable def wkQ(n:Nat)(cs:AI)(hs:AF)(f:AE)(ss:AE)(s:Qs)(ah pt:AF):Qs :=
 if pt∈clF n (lkF cs hs ah) ah.length ah then(runC ss pt s (odF f ah).reverse).1 else(ah.filter λk=>!decide (k∈pt)).foldl (Rq.lout ss) s
structure WSo(n:Nat)(cs:AI)(hs:AF)(f:AE)(ss:AE)(s:Qs)(ah pt:AF):Prop where
 s7:S7 ss
 ok:QsOk ss s
 sh:ShOk n cs
 n12:n≤12
 od:grd cs n (rgI n)=some f
 nn:∀x∈f,0≤x
 lt:∀x∈ah,x < n
 al:ah.length≤12
 nd:ah.Nodup
 fl:f.length≤12
 sub:∀k∈ah,k∈s.ks
 c:pt∈clF n (lkF cs hs ah) ah.length ah→∃R,CSo ss s (odF f ah).reverse pt R
 l:pt∉clF n (lkF cs hs ah) ah.length ah→∀i,i < (ah.filter λk=>!decide (k∈pt)).length→∀a,Bq 8900 (Sl ss ((ah.filter λk=>!decide (k∈pt)).take i) s.f a)
theorem vV(ss:AE):∀(l:AF) (s:Qs),QsOk ss s→QsOk ss (l.foldl (Rq.lout ss) s)∧(l.foldl (Rq.lout ss) s).f=Sl ss l s.f∧∀k,k∈(l.foldl (Rq.lout ss) s).ks↔k∈s.ks∧k∉l
 | [],s,h=>⟨h,rfl,λk=>⟨λz=>⟨z,λy=>by cases y⟩,λz=>z.1⟩⟩
 | x :: r,s,h=>by
  obtain⟨h1,h2,h3⟩:=vV ss r (Rq.lout ss s x) (Rq.XI h x);refine⟨h1,h2,λk=>?_⟩
  show k∈(r.foldl (Rq.lout ss) (Rq.lout ss s x)).ks↔_;rw[h3 k];show k∈El.oth s.ks x∧_↔_;rw[El.xG,ζC];constructor
  ·rintro⟨⟨z1,z2⟩,z3⟩;exact⟨z1,λz=>z.elim z2 z3⟩
  ·rintro⟨z1,z2⟩;exact⟨⟨z1,λz=>z2 (.inl z)⟩,λz=>z2 (.inr z)⟩
theorem UN{ah pt:AF}(i:Nat):((ah.take (i + 1)).filter λk=>!decide (k∈pt))=((ah.take i).filter λk=>!decide (k∈pt)) ++ ((ah[i]?).toList.filter λk=>!decide (k∈pt)):=by
 rw[List.take_add_one,ζW]
theorem uU{ah:AF}(p:Nat→Bool)(i:Nat):(ah.take i).filter p=(ah.filter p).take ((ah.take i).filter p).length:=by
 have e:=congrArg (List.filter p) (ζ0 i ah);rw[ζW]at e;rw[←e,List.take_left]
def v6(ds:AG)(d:AD):Prop:=∃(n:Nat) (cs:AI) (hs:AF) (f:AE) (ss:AE) (s:Qs) (ah pt:AF),ds=[il ss,nls cs,nl hs,qD ss s,nl ah,nl pt]∧WSo n cs hs f ss s ah pt∧d=qD ss (wkQ n cs hs f ss s ah pt)
theorem Xb:zA ["sizes","causes","hidden","sheet","ahead","part","found","k"] ["sizes","causes","hidden","sheet","ahead","part"] (zn (top 39)):={}
theorem Xw(F:Fun K "worked_on" "worked_on" (top 39) f fd)(B:Bs mg)(c_clumps:zt P w K mg base CX0 "clumps" ["causes","hidden","some"] 5 (spD K true ZG))(c_clump_sheet:zt P w K mg base CX0 "clump_sheet" ["sizes","sheet","ordered","clump"] 7 (spD K true vi))(c_order_of:zt P w K mg base CX0 "order_of" ["causes"] 2 (spD K true wW))(c_left_out:zt P w K mg base CX0 "left_out" ["sizes","sheet","k"] 6 (spD K true xN)):FnOk P w K mg base CX0 8 f fd ["sizes","causes","hidden","sheet","ahead","part"] (spD K false v6):=by
 have sc:=Xb;refine F.ok sc (λvs H Q E h=>zI (λ_ _⟨_,_,_,_,_,_,_,_,e,_⟩=>by rw[e];rfl) h) (λcdv A outer s H vs Q E hr h=>?_);obtain⟨Fh,ds,d,le,dp,p,q⟩:=h
 refine⟨_,(ze (yx (zu (zcu (K:=K) rfl hr.units) (pv 5) (pF c_clumps hr (zb (pv 1) (zb (pv 2) (zb (pv 4) zd)))) (rfl)) (zi (zG (pF c_clump_sheet hr (zb (pv 0) (zb (pv 3) (zb (yl rfl (N:=["k","ahead"]) (js:=[none,some 4]) (by walk_at"comp_ok") (zJ (K:=K) rfl (pF c_order_of hr (zb (pv 1) zd))) (λ_ _ _ _=>(pN (i:=0) (show υN ["k","ahead"]by decide +kernel))) (λ_ _ _ _=>(yn (zu (yz (K:=K) rfl) (pv 0) (pv 1) (rfl)))) (λ_ _ _ _=>(pv 0))) (zb (pv 5) zd))))))) zV)
   (ze (pS (i:=6) sc.nd (pv 3))
   (ze (zZ AC rfl (zJ (K:=K) rfl (pv 4)) (pN (i:=7) sc.nd) (zi (yx (zu (ya (K:=K) rfl) (pv 7) (pv 5) (rfl)) (zi (pS (i:=6) sc.nd (pF c_left_out hr (zb (pv 0) (zb (pv 6) (zb (pv 7) zd)))))) zV)))
   (zi (zG (pv 6)))))),?_⟩
 have hN:=sc.n 8;obtain⟨n,cs,hs,f,ss,s,ah,pt,rfl,ok,rfl⟩:=p;have big:=zK;have s7:=ok.s7;have al:=ok.al;have fl:=ok.fl;walk_at"run";refine U4 (b:=decide (pt∈clF n (lkF cs hs ah) ah.length ah)) (zH (EvE.eq (zeR (neg:=false) (d:=nl pt) (ds:=(clF n (lkF cs hs ah) ah.length ah).map nl) ∅ (EvE.toL (zm ∅ ⟨n,cs,hs,ah,rfl,ok.sh,ok.n12,ok.lt,al,rfl⟩)) (zaP _) (zcH _)) (congrArg PyData.bool (ze3 _ _)))) (λh=>?_) (λh=>?_)
 ·have h':=of_decide_eq_true h;obtain⟨R,co⟩:=ok.c h';unfold wkQ;rw[if_pos h'];have ef:f.map PyData.int=(f.map Int.toNat).map λk:Nat=>PyData.int (k:Int):=by
   rw[ζx];exact ζs λx hx=>congrArg PyData.int (ξf (ok.nn x hx)).symm
  refine exrs false (zm (zh ∅ (zh ∅ (zh (EvO.toE (zY (κ:=false) (is:=[0]) (xs:=f.map Int.toNat) false (λk:Nat=>.int (k:Int)) (λk:Nat=>.int (k:Int)) (λk=>decide (k∈ah)) (λx _ y _ h=>by cases xk h; exact⟨rfl,rfl⟩) (zO (EvE.eq (a:=il f) (zm (ds:=[nls cs]) (d:=il f) ∅ (show wW [nls cs] (il f)from⟨n,cs,f,rfl,⟨ok.sh,ok.n12⟩,ok.od,rfl⟩)) (congrArg PyData.list ef))) (by walk_at"cc") rfl #[2] (by rw[ζa]; omega) λk _=>egn #[0] ⟨EvT.eq (zH (yC (neg:=false) (i:=(k:Int)) (ns:=zl ah) ∅ (EvE.toL (κ:=false) (EvE.eq ∅ (yt ah))))) (by rw[←yJ]; rfl),λ_=>by walk_at"ev"⟩)) (zh ∅ zD)))) ⟨ss,s,odF f ah,pt,R,rfl,co,rfl⟩) rfl (.inr rfl)
 ·have h':=of_decide_eq_false h;have bl:=ok.l h';refine exn ?_;refine exs false ∅ #[0] ?_;refine yK false (λi Γ=>∃x,Γ=[some (.fz false (il ss)),some (.fz false (nls cs)),some (.fz false (nl hs)),some (.fz false (qD ss s)),some (.fz false (nl ah)),some (.fz false (nl pt)),some (.fz false (qD ss (((ah.take i).filter λk=>!decide (k∈pt)).foldl (Rq.lout ss) s))),x]) (zO ∅) ⟨none,by rw[ζX]; rfl⟩ ?_ ?_
  ·rintro i d Γ' hd ⟨x,rfl⟩;obtain⟨k,hk,rfl⟩:=yP hd;have km:=ζf hk;have il':=(ζh.mp hk).1;refine⟨_,egn #[0] ?_⟩
   refine wK (b:=!decide (k∈pt)) (EvT.eq (zH (yC (neg:=true) (i:=(k:Int)) (ns:=zl pt) ∅ (EvE.toL (κ:=false) (EvE.eq ∅ (yt pt))))) (by rw[←yJ]; rfl)) (λh=>?_) (λh=>?_)
   ·obtain⟨h1,h2,h3⟩:=vV ss ((ah.take i).filter λk=>!decide (k∈pt)) s ok.ok;have kn:k∉ah.take i:=λz=>by
     have nd:=ok.nd;rw[←ζ0 i ah]at nd;refine(ζ4.mp nd).2.2 k z k ?_ rfl;rw[ξp il',(ζh.mp hk).2];exact ζi
    have et:=UN (ah:=ah) (pt:=pt) i;rw[hk]at et;have et:((ah.take (i + 1)).filter λk=>!decide (k∈pt))=((ah.take i).filter λk=>!decide (k∈pt)) ++ [k]:=by
     rw[et];congr 1;show List.filter _ [k]=_;rw[List.filter_cons_of_pos (by simpa using h)];rfl
    have len:((ah.take i).filter λk=>!decide (k∈pt)).length < (ah.filter λk=>!decide (k∈pt)).length:=by
     have:=congrArg List.length (uU (ah:=ah) (λk=>!decide (k∈pt)) (i + 1));rw[et,ζJ,ζg]at this;simp only[List.length_singleton]at this;omega
    have B:∀a,Bq 8900 ((((ah.take i).filter λk=>!decide (k∈pt)).foldl (Rq.lout ss) s).f a):=λa=>by
     rw[h2,uU];exact bl _ len a
    refine exs1 false (EvE.eq (zm ∅ ⟨ss,_,_,k,rfl,q_k s7 h1 B,(h3 k).mpr ⟨ok.sub k km,λz=>kn (ζl.mp z).1⟩,rfl⟩) (by rw[Ys s7 h1])) #[0] ?_;show∃x,_;rw[et,ξG];exact⟨_,rfl⟩
   ·refine yj ?_;have et:=UN (ah:=ah) (pt:=pt) i;rw[hk]at et;show∃x,_;rw[et,show((some k).toList.filter λk=>!decide (k∈pt))=[]from List.filter_cons_of_neg (by rw[h]; exact ζF),ζQ];exact⟨_,rfl⟩
  ·rintro Γ' ⟨x,rfl⟩;refine zR false ∅ ?_ (.inr rfl);unfold wkQ;rw[if_neg h',ζa,ζ3]
noncomputable def wkN(n:Nat)(cs:AI)(hs:AF)(f:AE)(ss:AE)(s:Qs)(ls:AI):Nat→Qs
 | 0=>s
 | i + 1=>wkQ n cs hs f ss (wkN n cs hs f ss s ls i) (ls.getD i []) (ls.getD (i + 1) [])
structure WKo(n:Nat)(cs:AI)(hs:AF)(f:AE)(ss:AE)(s:Qs)(ls:AI)(nb:Nat):Prop where
 s7:S7 ss
 sh:ShOk n cs
 n12:n≤12
 sn:ss.length=n
 ll:ls.length≤100
 l0:0 < ls.length
 ks:s.ks=zk n hs
 pos:∀a,0 < (s.f a).num
 w:∀i,i + 1 < ls.length→WSo n cs hs f ss (wkN n cs hs f ss s ls i) (ls.getD i []) (ls.getD (i + 1) [])
 e:QsOk ss (wkN n cs hs f ss s ls (ls.length - 1))
 es:∀k∈(wkN n cs hs f ss s ls (ls.length - 1)).ks,k∈zk n hs
 eb:∀a,Bq nb ((wkN n cs hs f ss s ls (ls.length - 1)).f a)
def wV(ds:AG)(d:AD):Prop:=∃(n:Nat) (cs:AI) (hs:AF) (f:AE) (ss:AE) (s:Qs) (ls:AI) (nb:Nat),ds=[il ss,nls cs,nl hs,nls ls,shs (qX ss s)]∧WKo n cs hs f ss s ls nb∧d=shs (qX ss ⟨zk n hs,(wkN n cs hs f ss s ls (ls.length - 1)).f⟩)
theorem zdT(h:vl a=vl b):a=b:=by
 have:=congrArg unV h;rw[Y2,Y2]at this;exact this
theorem TB:zA ["sizes","causes","hidden","lists","shares","seen","sheet","ahead","part"] ["sizes","causes","hidden","lists","shares"] (zn (top 37)):={}
theorem TX(F:Fun K "worked" "worked" (top 37) f fd)(B:Bs mg)(c_check_shares:zt P w K mg base CX0 "check_shares" ["shares"] 1 (spD K true wF))(c_seen_things:zt P w K mg base CX0 "seen_things" ["causes","hidden"] 1 (spD K true vg))(c_worked_on:zt P w K mg base CX0 "worked_on" ["sizes","causes","hidden","sheet","ahead","part"] 8 (spD K false v6))(c_views_of:zt P w K mg base CX0 "views_of" ["sizes","view","things"] 4 (spD K true xi))(c_share_at:zt P w K mg base CX0 "share_at" ["sizes","sheet","view"] 2 (spD K true xj)):FnOk P w K mg base CX0 9 f fd ["sizes","causes","hidden","lists","shares"] (spD K true wV):=by
 have sc:=TB;refine F.ok sc (λvs H Q E h=>zI (λ_ _⟨_,_,_,_,_,_,_,_,e,_⟩=>by rw[e];rfl) h) (λcdv A outer s H vs Q E hr h=>?_);obtain⟨Fh,ds,d,le,dp,p,q⟩:=h
 refine⟨_,(ze (yg (pF c_check_shares hr (zb (pv 4) zd)))
   (ze (pS (i:=5) sc.nd (pF c_seen_things hr (zb (pv 1) (zb (pv 2) zd))))
   (ze (pS (i:=6) sc.nd (yN (zb (pv 5) (zb (pv 4) zd))))
   (ze (zZ AC rfl (wZ (K:=K) rfl rfl B.zip (zb (pv 3) (zb (wG (wz (K:=K) rfl) (pv 3) (vR zg) vS) zd))) (xQ (K:=K) (n:=2) rfl rfl (yf (pN (i:=7) sc.nd) (yf (pN (i:=8) sc.nd) xP))) (zi (pS (i:=6) sc.nd (pF c_worked_on hr (zb (pv 0) (zb (pv 1) (zb (pv 2) (zb (pv 6) (zb (pv 7) (zb (pv 8) zd))))))))))
   (zi (zG (yl rfl (N:=["view","sizes","sheet"]) (js:=[none,some 0,some 6]) (by walk_at"comp_ok") (zJ (K:=K) rfl (pF c_views_of hr (zb (pv 0) (zb (zq ZJ (zQ (zb tI zd)) (pB (zj (K:=K) rfl) B.len (zb (pv 0) zd))) (zb (pv 5) zd))))) (λ_ _ _ _=>(pN (i:=0) (show υN ["view","sizes","sheet"]by decide +kernel))) (λ_ _ _ _=>xF) (λ_ _ _ _=>(pF c_share_at hr (zb (pv 1) (zb (pv 2) (zb (pv 0) zd)))))))))))),?_⟩
 have hN:=sc.n 9;obtain⟨n,cs,hs,f,ss,s,ls,nb,rfl,ok,rfl⟩:=p;have big:=zK;have s7:=ok.s7;have n7:=s7.n;have cl:=ok.sh.l;have sn:=ok.sn;have ll:=ok.ll;have l0:=ok.l0;have snd:(zk n hs).Nodup:=List.nodup_range.sublist ζK;have slt:∀k∈zk n hs,k < ss.length:=λk hk=>by rw[sn]; exact ζG.mp (ζl.mp hk).1
 have sll:(zk n hs).length≤7:=by
  have:=ζP (λk=>!decide (k∈hs)) (List.range n);rw[ζv]at this;show((List.range n).filter _).length≤7;omega
 have sz:SzOk ss (zk n hs):=tT s7 slt sll;have sp:=sz.p;have xl:(qX ss s).length≤100000:=by
  rw[Rq.VE,ok.ks];omega
 walk_at"run";refine zbc (d:=.none) (zm (ds:=[shs (qX ss s)]) ∅ ⟨qX ss s,rfl,xl,λx hx=>?_,rfl⟩) ?_
 ·obtain⟨w,_,rfl⟩:=ζn.mp hx;exact ok.pos _
 refine exs true (d:=nl (zk n hs)) (EvE.eq (zm ∅ ⟨cs,hs,rfl,⋯,rfl⟩) (by rw[cl])) #[0] ?_;refine exs false (d:=qD ss s) (EvE.eq (a:=.tuple [nl (zk n hs),shs (qX ss s)]) ∅ (by rw[←ok.ks])) #[0] ?_;refine yK (ds:=(ls.zip (ls.drop 1)).map λo=>.tuple [nl o.1,nl o.2]) false (λi Γ=>∃x y,Γ=[some (.fz false (il ss)),some (.fz false (nls cs)),some (.fz false (nl hs)),some (.fz false (nls ls)),some (.fz false (shs (qX ss s))),some (.fz true (nl (zk n hs))),some (.fz false (qD ss (wkN n cs hs f ss s ls i))),x,y]) (EvI.eq (ul (xs:=ls.map nl) (ys:=(ls.drop 1).map nl) (zh ∅ (zh (EvO.toE (EvO.eq (xh (ds:=ls.map nl) (lo:=some (1:Int)) (hi:=none) ∅ (uX ∅) uY) (show cutD (ls.map nl) (some (1:Int)) none=_ from cutH nl ls 1))) zD))) (Ug _ _)) ⟨none,none,rfl⟩ ?_ ?_
 ·rintro i d Γ' hd ⟨x,y,rfl⟩;obtain⟨o,ho,rfl⟩:=yP hd;rw[X9]at ho;obtain⟨hi,eo⟩:=ζh.mp ho;rw[ζa,ζv]at hi;rw[List.getElem_map,List.getElem_range]at eo;subst eo;refine⟨_,egt #[0] #[0] ?_⟩
  refine exs1 false (d:=qD ss (wkN n cs hs f ss s ls (i + 1))) (vF (ds:=[il ss,nls cs,nl hs,qD ss (wkN n cs hs f ss s ls i),nl (ls.getD i []),nl (ls.getD (i + 1) [])]) ∅ ⟨n,cs,hs,f,ss,wkN n cs hs f ss s ls i,ls.getD i [],ls.getD (i + 1) [],rfl,ok.w i ⋯,rfl⟩) #[0] ?_;exact⟨_,_,rfl⟩
 ·rintro Γ' ⟨x,y,rfl⟩;have en:((ls.zip (ls.drop 1)).map λo=>PyData.tuple [nl o.1,nl o.2]).length=ls.length - 1:=by rw[ζa,X9,ζa,ζv]
  rw[en];have eo:=ok.e;have es:=ok.es;have eb:=ok.eb;generalize wkN n cs hs f ss s ls (ls.length - 1)=u at eo es eb;have sz2:=q_sz s7 eo;refine zR true (d:=shs (qX ss ⟨zk n hs,u.f⟩)) (EvO.toE (EvO.eq (vD (κ:=true) (is:=[0]) (xs:=wds (pk ss (zk n hs))) false (λw=>vl (vOf ss.length (zk n hs) w)) (λw=>shD (atX ss u.ks (qX ss u) (zk n hs) w)) (λx hx y hy h=>?_) (zO (zm (ds:=[il ss,vl (List.replicate ss.length none),nl (zk n hs)]) (zh ∅ (zh (EvE.eq (EvO.toE (vc (k:=(ss.length:Int)) ∅ (EvE.eq ∅ (by rw[ζa])) ⋯ ⋯ (by show 1 * _≤_; omega))) (by rw[ζI,vq])) (zh ∅ zD))) ⟨ss,List.replicate ss.length none,zk n hs,rfl,sz,ζT ..,rfl⟩)) (by walk_at"cc") rfl #[2] (by rw[yM]; omega) ?_) ?_)) rfl (.inl ⟨rfl,rfl⟩)
  ·have e:∀w∈wds (pk ss (zk n hs)),w=(zk n hs).map λk=>((vOf ss.length (zk n hs) w).getD k none).getD 0:=λw hw=>by
    refine List.ext_getElem (by rw[ζa]; exact wlen hw) λi h1 h2=>?_;rw[ζa]at h2;have km:(zk n hs)[i]∈zk n hs:=ξa h2;rw[List.getElem_map,ζb,(v_at sz snd hw km).1];show w[i]=w.getD ((zk n hs).idxOf (zk n hs)[i]) 0;rw[snd.idxOf_getElem i h2,ζb,ζd h1];rfl
   have z:=zdT h;have ex:=e x hx;have ey:=e y hy;rw[z]at ex;rw[ex.trans ey.symm]
  ·intro w hw;have M2:=m_ok sz snd hw (q_o s7 eo eb) es;have V2:=Y1 sz snd hw es;have ne2:∀k∈u.ks,(vOf ss.length (zk n hs) w).getD k none≠none:=λk hk=>by rw[ζb,(v_at sz snd hw (es k hk)).1]; exact λz=>by cases z
   exact egn #[0] (zm (ds:=[il ss,qD ss u,vl (vOf ss.length (zk n hs) w)]) ∅ ⟨ss,u.ks,qX ss u,vOf ss.length (zk n hs) w,mOf ss u.ks (zk n hs) w,rfl,sz2,Ul _ _ _,ne2,by rw[V2]; exact M2.1,M2.2,rfl⟩)
  ·show List.map _ _=(qX ss ⟨zk n hs,u.f⟩).map shD;unfold Rq.qX;rw[ζx];refine ζs λw hw=>?_;show shD (atX ss u.ks (qX ss u) (zk n hs) w)=shD (rp (u.f (El.asg (zk n hs) w)));rw[UC sz snd hw eo es]
def stK(cs:AI):Nat→AE→AE
 | 0,L=>L
 | m + 1,L=>match L.filter (rdP cs L)with
  | []=>L
  | x :: _=>stK cs m (rm x L)
theorem QY(h:L.filter (rdP cs L)=x :: r):stK cs (m + 1) L=stK cs m (rm x L):=by
 conv=>lhs; unfold stK
 rw[h]
theorem zbW(h:L.filter (rdP cs L)=[]):stK cs (m + 1) L=L:=by
 conv=>lhs; unfold stK
 rw[h]
structure Stk(cs:AI)(L S:AE):Prop where
 ne:S≠[]
 sb:S.Sublist L
 h:∀k∈S,∃c,c∈zl (cs.getD k.toNat [])∧c∈S
theorem YI:∀(m:Nat) {L:AE},L.length=m→grd cs m L=none→Stk cs L (stK cs m L)
 | 0,L,hl,h=>by cases h
 | m + 1,L,hl,h=>by
  cases e:L.filter (rdP cs L)with
  | nil =>
   rw[zbW e];refine⟨λz=>(by rw[z]at hl; cases hl),List.Sublist.refl _,λk hk=>zah ?_⟩
   cases c:rdP cs L k with
   | false=>rfl
   | true =>
    have:k∈L.filter (rdP cs L):=ζl.mpr ⟨hk,c⟩;rw[e]at this; cases this
  | cons x r =>
   rw[uR e]at h;have xm:x∈L:=(ζl.mp (by rw[e]; exact ζi)).1;have rl:=VA xm;obtain⟨h1,h2,h3⟩:=YI m (L:=rm x L) ⋯ (Option.map_eq_none_iff.mp h);rw[QY e];exact⟨h1,h2.trans zaa,h3⟩
theorem W8{p:Int→Bool}{L r:AE}{x:Int}(hs:L.Pairwise (· < ·))(h:L.filter p=x :: r):x∈L∧p x=true∧∀k∈L,k < x→p k=false:=by
 have hx:x∈L.filter p:=by rw[h]; exact ζi
 refine⟨(ζl.mp hx).1,(ζl.mp hx).2,λk hk hlt=>?_⟩
 cases c:p k with
 | false=>rfl
 | true =>
  have hm:k∈L.filter p:=ζl.mpr ⟨hk,c⟩;have hp:=hs.filter p;rw[h]at hm hp;rcases ζC.mp hm with rfl | z
  ·omega
  ·have:=(ξK.mp hp).1 k z;omega
def OG(cs:AI)(L f:AE):Prop:=f.Perm L∧∀a y b,f=a ++ y :: b→(∀c∈zl (cs.getD y.toNat []),c∈L→c∈a)∧∀k∈b,k < y→∃c,c∈zl (cs.getD k.toNat [])∧c∈L∧c∉a
theorem zdC{L:AE}(hs:L.Pairwise (· < ·)):L.Nodup:=hs.imp λh e=>by rw[e]at h; exact absurd h (Int.lt_irrefl _)
theorem W6{cs:AI}:∀(m:Nat) {L f:AE},L.length=m→L.Pairwise (· < ·)→grd cs m L=some f→OG cs L f
 | 0,L,f,hl,hs,h=>by
  obtain rfl:f=[]:=(ζr h).symm;obtain rfl:L=[]:=ξe.mp hl;exact⟨.nil,λa y b e=>by cases a <;> cases e⟩
 | m + 1,L,f,hl,hs,h=>by
  cases e:L.filter (rdP cs L)with
  | nil=>rw[XR e]at h; cases h
  | cons x r =>
   rw[uR e]at h;obtain⟨f',h1,rfl⟩:=ξi.mp h;obtain⟨xm,xr,xl⟩:=W8 hs e;have rl:=VA xm;have rp:=zci xm;obtain⟨pm,ih⟩:=W6 m (L:=rm x L) ⋯ (hs.sublist zaa) h1;have nd:=zdC hs;have nx:x∉rm x L:=(ζ5.mp (rp.nodup_iff.mp nd)).1;refine⟨((List.perm_cons x).mpr pm).trans rp.symm,λa y b ef=>?_⟩
   cases a with
   | nil =>
    cases ef;refine⟨λc hc hcL=>absurd hcL (zcl xr c hc),λk hk hlt=>?_⟩
    have kL:k∈L:=Vz (pm.mem_iff.mp hk);obtain⟨c,c1,c2⟩:=zah (xl k kL hlt);exact⟨c,c1,c2,λz=>by cases z⟩
   | cons x' a =>
    cases ef;obtain⟨i1,i2⟩:=ih a y b rfl;refine⟨λc hc hcL=>?_,λk hk hlt=>?_⟩
    ·rcases ζC.mp (rp.mem_iff.mp hcL)with z | z
     ·rw[z]; exact ζi
     ·exact ζp _ (i1 c hc z)
    ·obtain⟨c,c1,c2,c3⟩:=i2 k hk hlt;refine⟨c,c1,Vz c2,λz=>?_⟩
     rcases ζC.mp z with z | z
     ·rw[z]at c2; exact nx c2
     ·exact c3 z
theorem Q3(n:Nat)(hs:AF):(zk n hs).Nodup:=List.nodup_range.sublist ζK
def zB(ns:AE)(k:Nat):Int :=
 if(k:Int) < ns.length then ns.getD k 0
 else if(0:Int) < ns.length then(50021 + 19 * (k:Int) * k + ns.getD (k % ns.length) 0 % 1000037 * ((k:Int) / ns.length + 3)) * 48271 % 2147483647
 else(50021 + 19 * (k:Int) * k) * 48271 % 2147483647
def zU(ds:AG)(d:AD):Prop:=∃(ns:AE) (k:Nat),ds=[il ns,.int k]∧ns.length≤63∧k≤1000000∧d=.int (zB ns k)
theorem TD:zA ["_law_script","_law_k","_law_mixed"] ["_law_script","_law_k"] (zn (top 44)):={}
theorem TZ(F:Fun K "_law_at" "_law_at" (top 44) f fd)(B:Bs mg): FnOk P w K mg base CX0 1 f fd ["_law_script","_law_k"] (spD K true zU):=by
 have sc:=TD;refine F.ok sc (λvs H Q E h=>zI (λ_ _⟨_,_,e,_⟩=>by rw[e];rfl) h) (λcdv A outer s H vs Q E hr h=>?_);obtain⟨Fh,ds,d,le,dp,p,q⟩:=h
 refine⟨_,(ze (yx (zu Yy (pv 1) (pB (zj (K:=K) rfl) B.len (zb (pv 0) zd)) (zP _)) (zi (zG (pX (zv (K:=K) rfl) (pv 0) (pv 1)))) zV)
   (ze (pS (i:=2) sc.nd (zq yq zg (zq ym (zq ym zg (pv 1)) (pv 1))))
   (ze (yx (zu tZ (pB (zj (K:=K) rfl) B.len (zb (pv 0) zd)) zg (zP _)) (zi (pS (i:=2) sc.nd (zq yq (pv 2) (zq ym (zq yy (pX (zv (K:=K) rfl) (pv 0) (zq yy (pv 1) (pB (zj (K:=K) rfl) B.len (zb (pv 0) zd)))) zg) (zq yq (zq xH (pv 1) (pB (zj (K:=K) rfl) B.len (zb (pv 0) zd))) zg))))) zV)
   (zi (zG (zq yy (zq ym (pv 2) zg) zg)))))),?_⟩
 have hN:=sc.n 3;obtain⟨ns,k,rfl,h63,hk,rfl⟩:=p;walk_at"run";refine U4 (b:=decide ((k:Int) < ns.length)) (EvT.eq ∅ (by rw[ζa])) (λh=>?_) (λh=>?_)
 ·have h':(k:Int) < ns.length:=by simpa using h
  refine exrs true (zS ∅ ∅ (tf ⋯)) ?_ (.inl ⟨rfl,rfl⟩);unfold zB;rw[if_pos h']
 ·have h':¬(k:Int) < ns.length:=by simpa using h
  have m1:IntMulOk 19 (k:Int):=xB ⋯ ⋯;have m2:IntMulOk (19 * (k:Int)) (k:Int):=xB ⋯ ⋯;refine exn ?_;refine exs true (d:=.int (50021 + 19 * (k:Int) * k)) ∅ #[0] ?_;refine exif (b:=decide ((0:Int) < ns.length)) (λΓ=>Γ=[some (.fz false (il ns)),some (.fz false (.int k)),some (.fz true (.int (if(0:Int) < ns.length then 50021 + 19 * (k:Int) * k + ns.getD (k % ns.length) 0 % 1000037 * ((k:Int) / ns.length + 3)else 50021 + 19 * (k:Int) * k)))]) (EvT.eq ∅ (by rw[ζa])) (λh2=>?_) (λh2=>?_) ?_
  ·have h3:(0:Int) < ns.length:=by simpa using h2
   have q1:(k:Int) / ns.length≤k:=Int.ediv_le_self _ ⋯;have q2:(0:Int)≤(k:Int) / ns.length:=Int.ediv_nonneg ⋯ ⋯;have lm:((ns.map PyData.int).length:Int)=ns.length:=by rw[ζa]
   have ix:EvE K .fresh true (tOp (rIxL K) (tVar 0) (tOp (rI (λ_ j=>0 < j) λi j=>.int (i % j)) (tVar 1) (tCB (λxs H Q=>∃p ys,xs=[.ref p]∧(SqL K H p ys∨SqT K H p ys)∧Q (.int ys.length) H) (zX (tVar 0) tNil)))) [some (.fz false (il ns)),some (.fz false (.int k)),some (.fz true (.int (50021 + 19 * (k:Int) * k)))] (.int (ns.getD (k % ns.length) 0)):=by
    refine zS (i:=((k % ns.length:Nat):Int)) ∅ (EvE.eq (yZ (j:=ns.length) ∅ (EvE.eq ∅ (by rw[ζa])) h3) ?_) (tf (Nat.mod_lt _ ⋯));rw[Int.natCast_emod]
   refine exs1 true (xC ∅ (XU (yZ (ix.weak λh=>nomatch h) ∅ #[2]) (xC (xI (j:=ns.length) ∅ (EvE.eq ∅ (by rw[ζa])) ⟨h3,⋯⟩) ∅) ?_)) #[0] ?_
   ·exact xB ⋯ ⋯
   ·show _=_;rw[if_pos h3]
  ·have h3:¬(0:Int) < ns.length:=by simpa using h2
   refine yj ?_;show _=_;rw[if_neg h3]
  ·rintro Γ' rfl;refine zR true (by walk_at"ev"; exact xB #[2] #[2]) ?_ (.inl ⟨rfl,rfl⟩);unfold zB;rw[if_neg h'];split <;> rfl
def v8(ds:AG)(d:AD):Prop:=∃i:Int,ds=[.int i]∧d=.bool true
theorem Xd:zA ["_law_found"] ["_law_found"] (zn (top 43)):={}
theorem Xy(F:Fun K "_law_whole" "_law_whole" (top 43) f fd)(B:Bs mg): FnOk P w K mg base CX0 1 f fd ["_law_found"] (spD K true v8):=by
 have sc:=Xd;refine F.ok sc (λvs H Q E h=>zI (λ_ _⟨_,e,_⟩=>by rw[e];rfl) h) (λcdv A outer s H vs Q E hr h=>?_);obtain⟨Fh,ds,d,le,dp,p,q⟩:=h;refine⟨_,(zi (zG (zaA (pB (vf (K:=K) rfl) B.isinstance (zb (pv 0) (zb (Zh (v:=.ty "int") rfl B.int (by decide +kernel) rfl) zd))) (VJ (zee (pB (vf (K:=K) rfl) B.isinstance (zb (pv 0) (zb (Zh (v:=.ty "bool") rfl B.bool (by decide +kernel) rfl) zd)))))))),?_⟩
 have hN:=sc.n 1;obtain⟨i,rfl,rfl⟩:=p;walk_at"run";exact zR (d:=.bool (true && !false)) true ∅ rfl (.inl ⟨rfl,rfl⟩)
def pw5(j:Nat):Int:=[1,2,4,8,16].getD j 1
theorem zd3:∀j:Nat,j < 5→0 < pw5 j∧pw5 j≤16:=by decide
def arK(ns:AE)(k:Nat):AF:=(List.range k).filter λj=>decide (zB ns (2 + k) / pw5 j % 2=1)
def arR(ns:AE)(k:Nat):AF:=if zB ns 1 % 3=1∧0 < k∧k - 1∉arK ns k then arK ns k ++ [k - 1]else arK ns k
def arF(ns:AE)(n:Nat):AI:=(List.range n).map (arR ns)
theorem zbJ(ns:AE)(k:Nat):(∀j∈arR ns k,j < k)∧(arR ns k).length≤k + 1:=by
 have h1:∀j∈arK ns k,j < k:=λj hj=>ζG.mp (ζl.mp hj).1;have h2:(arK ns k).length≤k:=by
  have:=ζP (λj=>decide (zB ns (2 + k) / pw5 j % 2=1)) (List.range k);rw[ζv]at this;exact this
 unfold arR;split
 ·rename_i c;refine⟨λj hj=>?_,by rw[ζg]; show _ + 1≤_; omega⟩
  rcases ζw.mp hj with h | h
  ·exact h1 j h
  ·have:=ζk.mp h;omega
 ·exact⟨h1,⋯⟩
def vA(ds:AG)(dss:List AG):Prop:=∃(ns:AE) (n:Nat),ds=[il ns,.int n]∧ns.length≤63∧n≤6∧dss=(arF ns n).map kD
theorem Yd:zA ["_law_script","_law_many","_law_kin","_law_k","_law_bits"] ["_law_script","_law_many"] (zn (top 45)):={}
theorem Yh(F:Fun K "_law_arrows" "_law_arrows" (top 45) f fd)(B:Bs mg)(c_law_at:zt P w K mg base CX0 "_law_at" ["_law_script","_law_k"] 1 (spD K true zU)):FnOk P w K mg base CX0 2 f fd ["_law_script","_law_many"] (spO2 K vA):=by
 have sc:=Yd;refine F.ok sc (λvs H Q E h=>Q1 (λ_ _⟨_,_,e,_⟩=>by rw[e];rfl) h) (λcdv A outer s H vs Q E hr h=>?_);obtain⟨Fh,ds,dss,le,dp,p,q⟩:=h
 refine⟨_,(ze (pS (i:=2) sc.nd (zQ zd))
   (ze (zZ AC rfl (yi rfl B.range (zb (pv 1) zd)) (pN (i:=3) sc.nd) (ze (pS (i:=4) sc.nd (pF c_law_at hr (zb (pv 0) (zb (zq yq zg (pv 3)) zd))))
   (ze (yg (yo (K:=K) rfl ζq ζE ζD zW (pv 2) (zb (yl rfl (N:=["_law_j","_law_bits"]) (js:=[none,some 4]) (by walk_at"comp_ok") (yi rfl B.range (zb (pv 3) zd)) (λ_ _ _ _=>(pN (i:=0) (show υN ["_law_j","_law_bits"]by decide +kernel))) (λ_ _ _ _=>(yn (zu wg (zq yy (zq xH (pv 1) (pX (zw (K:=K) rfl) (yN (zb zg (zb zg (zb zg (zb zg (zb zg zd)))))) (pv 0))) zg) zg (zP _)))) (λ_ _ _ _=>(pv 0))) zd)))
   (zi (yx (PW.pt (vt (zu wg (zq yy (pF c_law_at hr (zb (pv 0) (zb zg zd))) zg) zg (zP _)) (vt (zu tZ (pv 3) zg (zP _)) (wU (zu (ya (K:=K) rfl) (zq w4 (pv 3) zg) (pX (zv (K:=K) rfl) (pv 2) (pv 3)) (rfl)))))) (zi (yg (yo (K:=K) rfl ζq ζE ζD zW (pX (zv (K:=K) rfl) (pv 2) (pv 3)) (zb (zq w4 (pv 3) zg) zd)))) zV)))))
   (zi (zG (pv 2))))),?_⟩
 have hN:=sc.n 5;obtain⟨ns,n,rfl,h63,hn,rfl⟩:=p;have big:=zK;refine zff (G:=X7 K ((arF ns n).map kD)) le dp q hN (by walk_at"st") ?_;refine uV (·=[some (.fz false (il ns)),some (.fz false (.int n)),some (.o2 none []),none,none]) ?_ ?_
 ·exact zfy (u:=Wj) #[0] (yj rfl)
 rintro Γ1 rfl;refine uV (λΓ=>∃x y,Γ=[some (.fz false (il ns)),some (.fz false (.int n)),some (.o2 none ((arF ns n).map kD)),x,y]) (tO (ds:=(List.range n).map λi:Nat=>.int (i:Int)) true (λi Γ=>∃x y,Γ=[some (.fz false (il ns)),some (.fz false (.int n)),some (.o2 none ((arF ns i).map kD)),x,y]) (yQ (n:=(n:Int)) ∅ ⋯ ⋯) ⟨none,none,rfl⟩ ?_ ?_) ?_
 ·rintro i d Γ' hd ⟨x,y,rfl⟩;obtain⟨hi,rfl⟩:=yT hd;refine⟨_,egn #[0] ?_⟩
  have e1:(arF ns (i + 1)).map kD=(arF ns i).map kD ++ [kD (arR ns i)]:=by
   unfold arF;rw[List.range_succ,ζy,ζy];rfl
  have al:((arF ns i).map kD).length=i:=by rw[ζa]; exact zac
  rw[e1];generalize (arF ns i).map kD=pre at al;refine exs true (d:=.int (zB ns (2 + i))) (zm ∅ (show zU [il ns,.int (2 + (i:Int))] _ from⟨ns,2 + i,by rw[ξB]; rfl,h63,⋯,rfl⟩)) #[0] ?_;refine yr (·=[some (.fz false (il ns)),some (.fz false (.int n)),some (.o2 none (pre ++ [kD (arK ns i)])),some (.fz true (.int i)),some (.fz true (.int (zB ns (2 + i))))]) (Qf (ds:=kD (arK ns i)) #[1] (EvO.eq (YN (κ:=true) (is:=[0]) (n:=i) (λj=>.int (j:Int)) (λj=>decide (zB ns (2 + i) / pw5 j % 2=1)) ∅ ⋯ (by walk_at"cc") rfl #[2] ?_) rfl) ⋯ #[0] rfl) ?_
  ·intro j hj;have pj:=zd3 j ⋯;have a5:atI [PyData.int 1,.int 2,.int 4,.int 8,.int 16] (j:Int)=some (.int (pw5 j)):=yB (g:=PyData.int) (xs:=[1,2,4,8,16]) (zE (d:=1) (show j < 5 by omega));exact egn #[0] ⟨zH (xM (yZ (xI ∅ (vE (κ:=false) (ds:=[.int 1,.int 2,.int 4,.int 8,.int 16]) ∅ ∅ a5) ⟨pj.1,⋯⟩) ∅ #[2]) ∅),λ_=>by walk_at"ev"⟩
  rintro Γ2 rfl;have gi:(pre ++ [kD (arK ns i)])[i]?=some (kD (arK ns i)):=by rw[ξl ⋯,al,ξ6]; rfl
  have ix:ixN (pre ++ [kD (arK ns i)]).length (i:Int)=some i:=vU (by rw[ζg]; show i < _ + 1; omega);have kz:kD (arK ns i)=(zl (arK ns i)).map .int:=by unfold kD zl; rw[List.map_map]; rfl
  have kl:(arK ns i).length≤6:=by
   have:=ζP (λj=>decide (zB ns (2 + i) / pw5 j % 2=1)) (List.range i);rw[ζv]at this;unfold arK;omega
  refine wK (b:=decide (zB ns 1 % 3=1) && (decide ((0:Int) < i) && (!decide ((i:Int) - 1∈zl (arK ns i))))) (ww (zH (xM (yZ (zm ∅ (show zU [il ns,.int 1] _ from⟨ns,1,rfl,h63,#[2],rfl⟩)) ∅ #[2]) ∅)) λ_=>ww ∅ λ_=>zH (yC (neg:=true) (i:=(i:Int) - 1) (ns:=zl (arK ns i)) ∅ (EvL.weak (κ':=true) (kz ▸ VY #[1] ∅ ix gi) (λz=>nomatch z)))) (λh=>?_) λh=>?_
  ·have h':zB ns 1 % 3=1∧(0:Int) < i∧¬(i:Int) - 1∈zl (arK ns i):=by simpa using h
   have hm:i - 1∉arK ns i:=λz=>h'.2.2 (ζn.mpr ⟨i - 1,z,⋯⟩);have ei:(i:Int) - 1=((i - 1:Nat):Int):=by omega
   refine ZT (d:=.int ((i - 1:Nat):Int)) #[1] ∅ ix gi (EvE.eq ∅ (congrArg PyData.int ei)) (by rw[tL]; omega) #[0] ?_;show∃x y,_;have er:arR ns i=arK ns i ++ [i - 1]:=by unfold arR; rw[if_pos ⟨h'.1,⋯,hm⟩]
   have es:(pre ++ [kD (arK ns i)]).set i (kD (arK ns i) ++ [.int ((i - 1:Nat):Int)])=pre ++ [kD (arR ns i)]:=by
    rw[er,List.set_append_right i _ ⋯,al,ξ6];unfold kD;rw[ζy];rfl
   rw[es];exact⟨_,_,rfl⟩
  ·have h':¬(zB ns 1 % 3=1∧0 < i∧i - 1∉arK ns i):=λz=>by
    have hz:¬(i:Int) - 1∈zl (arK ns i):=λw=>by
     obtain⟨j,hj,e⟩:=ζn.mp w;have:j=i - 1:=by omega
     exact z.2.2 (this ▸ hj)
    rw[decide_eq_true z.1,decide_eq_true (show(0:Int) < i by omega),decide_eq_false hz]at h;cases h
   refine yj ?_;show∃x y,_;have er:arR ns i=arK ns i:=by unfold arR; rw[if_neg h']
   rw[er];exact⟨_,_,rfl⟩
 ·rintro Γ' ⟨x,y,rfl⟩;rw[yS];exact⟨_,_,rfl⟩
 ·rintro Γ' ⟨x,y,rfl⟩;exact Qe #[1]
def ppK(ns:AE)(m k:Nat):Nat×Nat:=if zB ns 1 % 3=1∧k=0 then(0,m - 1)else((zB ns (9 + k) % m).toNat,((zB ns (9 + k) % m + 1 + zB ns (9 + k) / m % ((m:Int) - 1)) % m).toNat)
theorem ZH(ns:AE)(hm:2≤m):(ppK ns m k).1 < m∧(ppK ns m k).2 < m:=by
 have a0:=ζY (zB ns (9 + k)) (show(m:Int)≠0 by omega);have a1:=ζR (zB ns (9 + k)) (show(0:Int) < m by omega);have b0:=ζY (zB ns (9 + k) % m + 1 + zB ns (9 + k) / m % ((m:Int) - 1)) (show(m:Int)≠0 by omega);have b1:=ζR (zB ns (9 + k) % m + 1 + zB ns (9 + k) / m % ((m:Int) - 1)) (show(0:Int) < m by omega);unfold ppK;split
 ·exact⟨by show 0 < m; omega,by show m - 1 < m; omega⟩
 ·exact⟨by show(zB ns (9 + k) % m).toNat < m; omega,by show Int.toNat _ < m; omega⟩
abbrev PS2:=AI×List (Nat×Nat)
def yH(kin:AI)(o x:Nat):AI:=kin.set o (kin.getD o [] ++ [x])
def ppS(m:Nat)(o:Nat×Nat)(st:PS2):PS2:=if(st.1.getD o.1 []).length < 5∧(st.1.getD o.2 []).length < 5 then(yH (yH st.1 o.1 (m + st.2.length)) o.2 (m + st.2.length),st.2 ++ [o])else st
def ppN(ns:AE)(m:Nat)(kin:AI):Nat→PS2
 | 0=>(kin,[])
 | k + 1=>ppS m (ppK ns m k) (ppN ns m kin k)
structure vK(m:Nat)(st:PS2)(k:Nat):Prop where
 l:st.1.length=m
 e:∀r∈st.1,(∀x∈r,x < m + st.2.length)∧r.length≤20 + 2 * k
 p:st.2.length≤k
theorem Ub(hl:kin.length=m)(ho:o < m)(h:∀r∈kin,(∀x∈r,x < b)∧r.length≤c)(hx:x < b):(yH kin o x).length=m∧∀r∈yH kin o x,(∀x∈r,x < b)∧r.length≤c + 1:=by
 unfold yH;refine⟨by rw[ξ9]; exact hl,λr hr=>?_⟩
 rcases List.mem_or_eq_of_mem_set hr with hr | hr
 ·have:=h r hr;exact⟨this.1,⋯⟩
 ·have g:=h _ (ζf (zE (d:=([]:AF)) (show o < kin.length by omega)));rw[hr];refine⟨λy hy=>?_,by rw[ζg]; show _ + 1≤_; omega⟩
  rcases ζw.mp hy with hy | hy
  ·exact g.1 y hy
  ·rw[ζk.mp hy]; exact hx
theorem zd8(ho:o.1 < m∧o.2 < m)(h:vK m st k):vK m (ppS m o st) (k + 1):=by
 unfold ppS;split
 ·have h0:∀r∈st.1,(∀x∈r,x < m + st.2.length + 1)∧r.length≤20 + 2 * k:=λr hr=>⟨λx hx=>by have:=(h.e r hr).1 x hx; omega,(h.e r hr).2⟩
  have h1:=Ub (x:=m + st.2.length) h.l ho.1 h0 ⋯;have h2:=Ub (x:=m + st.2.length) h1.1 ho.2 h1.2 ⋯;have hp:=h.p;refine⟨h2.1,λr hr=>?_,by show(st.2 ++ [o]).length≤_; rw[ζg]; show _ + 1≤_; omega⟩
  have:=h2.2 r hr;refine⟨λx hx=>?_,⋯⟩
  have:=this.1 x hx;show x < m + (st.2 ++ [o]).length;rw[ζg];show x < m + (_ + 1);omega
 ·exact⟨h.l,λr hr=>⟨(h.e r hr).1,by have:=(h.e r hr).2; omega⟩,by have:=h.p; omega⟩
theorem tH(ns:AE)(hm:2≤m)(hk:vK m (kin,[]) 0):∀k,vK m (ppN ns m kin k) k
 | 0=>hk
 | k + 1=>zd8 (ZH ns hm) (tH ns hm hk k)
abbrev prL(ps:List (Nat×Nat)):AG:=ps.map λo=>.tuple [.int (o.1:Int),.int (o.2:Int)]
theorem To(kin:AI){o x:Nat}(ho:o < kin.length):(kin.map kD).set o (kD (kin.getD o []) ++ [.int (x:Int)])=(yH kin o x).map kD:=by
 unfold yH;rw[List.map_set];congr 1;unfold kD;rw[ζy];rfl
def uc(d0:AD)(dss:List AG)(d2 d:AD)(dss':List AG):Prop:=∃(ns:AE) (kin:AI) (m:Nat),d0=il ns∧ns.length≤63∧dss=kin.map kD∧d2=.int 3∧2≤m∧m≤6∧vK m (kin,[]) 0∧d=.list (prL (ppN ns m kin (zB ns 8 % 4).toNat).2)∧dss'=(ppN ns m kin (zB ns 8 % 4).toNat).1.map kD
theorem Xh:zA ["_law_script","_law_kin","_law_most","_law_pairs_here","_law_many","_law_k","_law_cell","_law_one","_law_other"] ["_law_script","_law_kin","_law_most"] (zn (top 46)):={}
theorem XC(F:Fun K "_law_pairs" "_law_pairs" (top 46) f fd)(B:Bs mg)(c_law_at:zt P w K mg base CX0 "_law_at" ["_law_script","_law_k"] 1 (spD K true zU)):FnOk P w K mg base CX0 2 f fd ["_law_script","_law_kin","_law_most"] (spP2 K uc):=by
 have sc:=Xh;refine F.ok sc (λvs H Q E h=>by obtain⟨_,_,_,_,_,_,_,_,_,_,rfl,_⟩:=h; rfl) (λcdv A outer s H vs Q E hr h=>?_);obtain⟨Fh,H0,v0,a,v2,d0,d2,dss,d,dss',rfl,le,l0,hh,k0,k2,ko,p,q⟩:=h
 refine⟨_,(ze (pS (i:=3) sc.nd (zQ zd))
   (ze (pS (i:=4) sc.nd (pB (zj (K:=K) rfl) B.len (zb (pv 1) zd)))
   (ze (zZ AC rfl (yi rfl B.range (zb (zq yy (pF c_law_at hr (zb (pv 0) (zb zg zd))) (zq yq (pv 2) zg)) zd)) (pN (i:=5) sc.nd) (ze (pS (i:=6) sc.nd (pF c_law_at hr (zb (pv 0) (zb (zq yq zg (pv 5)) zd))))
   (ze (pS (i:=7) sc.nd (zq yy (pv 6) (pv 4)))
   (ze (pS (i:=8) sc.nd (zq yy (zq yq (zq yq (pv 7) zg) (zq yy (zq xH (pv 6) (pv 4)) (zq w4 (pv 4) zg))) (pv 4)))
   (ze (yx (PW.pt (vt (zu wg (zq yy (pF c_law_at hr (zb (pv 0) (zb zg zd))) zg) zg (zP _)) (wU (zu wg (pv 5) zg (zP _))))) (ze (pS (i:=7) sc.nd zg)
   (zi (pS (i:=8) sc.nd (zq w4 (pv 4) zg)))) zV)
   (zi (yx (PW.pt (vt (zu Yy (pB (zj (K:=K) rfl) B.len (zb (pX (zv (K:=K) rfl) (pv 1) (pv 7)) zd)) zg (zP _)) (wU (zu Yy (pB (zj (K:=K) rfl) B.len (zb (pX (zv (K:=K) rfl) (pv 1) (pv 8)) zd)) zg (zP _))))) (ze (yg (yo (K:=K) rfl ζq ζE ζD zW (pX (zv (K:=K) rfl) (pv 1) (pv 7)) (zb (zq yq (pv 4) (pB (zj (K:=K) rfl) B.len (zb (pv 3) zd))) zd)))
   (ze (yg (yo (K:=K) rfl ζq ζE ζD zW (pX (zv (K:=K) rfl) (pv 1) (pv 8)) (zb (zq yq (pv 4) (pB (zj (K:=K) rfl) B.len (zb (pv 3) zd))) zd)))
   (zi (yg (yo (K:=K) rfl ζq ζE ζD zW (pv 3) (zb (yN (zb (pv 7) (zb (pv 8) zd))) zd)))))) zV)))))))
   (zi (zG (pv 3)))))),?_⟩
 have hN:=sc.n 9;obtain⟨ns,kin,m,rfl,h63,rfl,rfl,m2,m6,hkin,rfl,rfl⟩:=p;have big:=zK;have n0:=ζY (zB ns 8) (show(4:Int)≠0 by decide);have n1:=ζR (zB ns 8) (show(0:Int) < 4 by decide);obtain⟨n,hn⟩:∃n:Nat,zB ns 8 % 4=(n:Int):=⟨(zB ns 8 % 4).toNat,⋯⟩
 have n4:n≤3:=by omega
 have hn':(zB ns 8 % 4).toNat=n:=by omega
 rw[hn']at q;have hl:kin.length=m:=hkin.l;refine zd0 (n:=6) (d:=.list (prL (ppN ns m kin n).2)) (dss':=(ppN ns m kin n).1.map kD) le l0 hh k0 k2 ko (λv H' F' z=>q v H' F' z.1 z.2.1 z.2.2) rfl ?_;show ExM K _ [some (.fz false (il ns)),some (.o2 (some a) (kin.map kD)),some (.fz false (.int 3)),none,none,none,none,none,none] _;refine uV (·=[some (.fz false (il ns)),some (.o2 (some a) (kin.map kD)),some (.fz false (.int 3)),some (.ow true []),none,none,none,none,none]) (exo1 true (yc (ds:=[]) zD #[2]) #[0] rfl) ?_;rintro Γ1 rfl;refine uV (·=[some (.fz false (il ns)),some (.o2 (some a) (kin.map kD)),some (.fz false (.int 3)),some (.ow true []),some (.fz true (.int m)),none,none,none,none]) (exs1 true (EvE.eq (Qk #[1]) (by rw[ζa,hl])) #[0] rfl) ?_;rintro Γ1 rfl;refine uV (λΓ=>∃x y z w,Γ=[some (.fz false (il ns)),some (.o2 (some a) ((ppN ns m kin n).1.map kD)),some (.fz false (.int 3)),some (.ow true (prL (ppN ns m kin n).2)),some (.fz true (.int m)),x,y,z,w]) (tO (ds:=(List.range n).map λi:Nat=>.int (i:Int)) true (λi Γ=>∃x y z w,Γ=[some (.fz false (il ns)),some (.o2 (some a) ((ppN ns m kin i).1.map kD)),some (.fz false (.int 3)),some (.ow true (prL (ppN ns m kin i).2)),some (.fz true (.int m)),x,y,z,w]) (yQ (n:=(n:Int)) (zh (EvE.eq (yZ (j:=4) (zm ∅ (show zU [il ns,.int 8] _ from⟨ns,8,rfl,h63,#[2],rfl⟩)) (EvE.eq (xC ∅ ∅) rfl) #[2]) (congrArg PyData.int hn)) zD) ⋯ ⋯) ⟨none,none,none,none,rfl⟩ ?_ ?_) ?_
 ·rintro i dd Γ' hd ⟨x,y,z,w,rfl⟩;obtain⟨hi,rfl⟩:=yT hd;have ok:=tH ns m2 hkin i;have okk:=ZH ns (m:=m) (k:=i) m2;have e1:ppN ns m kin (i + 1)=ppS m (ppK ns m i) (ppN ns m kin i):=rfl;rw[e1];generalize ppN ns m kin i=st at ok;obtain⟨ki,pr⟩:=st;have kl:ki.length=m:=ok.l;have pl:pr.length≤i:=ok.p;refine⟨_,egn #[0] ?_⟩
  have dm:CDiv (zB ns (9 + i)) m:=⟨⋯,⋯⟩
  refine exs true (d:=.int (zB ns (9 + i))) (zm ∅ (show zU [il ns,.int (9 + (i:Int))] _ from⟨ns,9 + i,by rw[ξB]; rfl,h63,⋯,rfl⟩)) #[0] ?_;have a0:=ζY (zB ns (9 + i)) (show(m:Int)≠0 by omega);have a1:=ζR (zB ns (9 + i)) (show(0:Int) < m by omega);have b0:=ζY (zB ns (9 + i) % m + 1 + zB ns (9 + i) / m % ((m:Int) - 1)) (show(m:Int)≠0 by omega);refine exs true (d:=.int (zB ns (9 + i) % m)) ∅ #[0] ?_;refine exs true (d:=.int ((zB ns (9 + i) % m + 1 + zB ns (9 + i) / m % ((m:Int) - 1)) % m)) ∅ #[0] ?_;refine exif (b:=decide (zB ns 1 % 3=1) && decide ((i:Int)=0)) (·=[some (.fz false (il ns)),some (.o2 (some a) (ki.map kD)),some (.fz false (.int 3)),some (.ow true (prL pr)),some (.fz true (.int m)),some (.fz true (.int i)),some (.fz true (.int (zB ns (9 + i)))),some (.fz true (.int (ppK ns m i).1)),some (.fz true (.int (ppK ns m i).2))]) (ww (zH (xM (yZ (zm ∅ (show zU [il ns,.int 1] _ from⟨ns,1,rfl,h63,#[2],rfl⟩)) ∅ #[2]) ∅)) λ_=>by walk_at"ev") (λh=>?_) (λh=>?_) ?_
  ·have h':zB ns 1 % 3=1∧(i:Int)=0:=by simpa using h
   refine exs true (d:=.int 0) ∅ #[0] ?_;refine exs1 true (d:=.int ((m - 1:Nat):Int)) (EvE.eq (uk ∅ ∅) (congrArg PyData.int ⋯)) #[0] ?_;show _=_;unfold ppK;rw[if_pos ⟨h'.1,⋯⟩];rfl
  ·have h':¬(zB ns 1 % 3=1∧i=0):=λz=>by
    rw[decide_eq_true z.1,decide_eq_true (show(i:Int)=0 by omega)]at h;cases h
   refine yj ?_;show _=_;unfold ppK;rw[if_neg h'];show _=([_,_,_,_,_,_,_,some (.fz true (.int ((zB ns (9 + i) % m).toNat:Int))),some (.fz true (.int (((zB ns (9 + i) % m + 1 + zB ns (9 + i) / m % ((m:Int) - 1)) % m).toNat:Int)))]:PD.Ctx);rw[ξf a0,ξf b0]
  rintro Γ2 rfl;generalize ppK ns m i=o at okk;obtain⟨o1,o2⟩:=o;have o1l:o1 < m:=okk.1;have o2l:o2 < m:=okk.2;have ml:(ki.map kD).length=m:=by rw[ζa]; exact kl
  have g1:(ki.map kD)[o1]?=some (kD (ki.getD o1 [])):=by rw[ζo,zE (d:=([]:AF)) (show o1 < ki.length by omega)]; rfl
  have g2:(ki.map kD)[o2]?=some (kD (ki.getD o2 [])):=by rw[ζo,zE (d:=([]:AF)) (show o2 < ki.length by omega)]; rfl
  have r1:=(ok.e _ (ζf (zE (d:=([]:AF)) (show o1 < ki.length by omega)))).2;have x1:ixN (ki.map kD).length (o1:Int)=some o1:=vU ⋯;have x2:ixN (ki.map kD).length (o2:Int)=some o2:=vU ⋯;have ll:∀r:AF,PyData.int (((kD r).length:Nat):Int)=.int (r.length:Int):=λr=>by rw[tL]
  refine wK (b:=decide (((ki.getD o1 []).length:Int) < 5) && decide (((ki.getD o2 []).length:Int) < 5)) (ww (zH (U8 (EvE.eq (ye (EvL.weak (κ':=true) (VY #[1] ∅ x1 g1) (λz=>nomatch z))) (ll _)) ∅)) λ_=>zH (U8 (EvE.eq (ye (EvL.weak (κ':=true) (VY #[1] ∅ x2 g2) (λz=>nomatch z))) (ll _)) ∅)) (λh=>?_) λh=>?_
  ·have h':(ki.getD o1 []).length < 5∧(ki.getD o2 []).length < 5:=by
    have:((ki.getD o1 []).length:Int) < 5∧((ki.getD o2 []).length:Int) < 5:=by simpa using h
    omega
   have ep:ppS m (o1,o2) (ki,pr)=(yH (yH ki o1 (m + pr.length)) o2 (m + pr.length),pr ++ [(o1,o2)]):=by unfold ppS; rw[if_pos h']
   rw[ep];have en:∀{t:TE} {Γ:PD.Ctx},EvE K .fresh true t Γ (.int ((m:Int) + (((prL pr).length:Nat):Int)))→EvE K .fresh true t Γ (.int ((m + pr.length:Nat):Int)):=λz=>EvE.eq z (congrArg PyData.int (by rw[ζa,ξB]));refine yr (·=[some (.fz false (il ns)),some (.o2 (some a) ((yH ki o1 (m + pr.length)).map kD)),some (.fz false (.int 3)),some (.ow true (prL pr)),some (.fz true (.int m)),some (.fz true (.int i)),some (.fz true (.int (zB ns (9 + i)))),some (.fz true (.int o1)),some (.fz true (.int o2))]) (ZT (d:=.int ((m + pr.length:Nat):Int)) #[1] ∅ x1 g1 (en (xC ∅ (ye ∅))) (by rw[tL]; omega) #[0] (by show _=_; rw[To ki ⋯])) ?_;rintro Γ3 rfl;have kl2:(yH ki o1 (m + pr.length)).length=m:=by unfold yH; rw[List.length_set]; exact kl
   have r2:=(Ub (x:=m + pr.length) kl o1l (λr hr=>⟨λx hx=>(show x < m + pr.length + 1 by have:x < m + pr.length:=(ok.e r hr).1 x hx; omega),(ok.e r hr).2⟩) ⋯).2;generalize yH ki o1 (m + pr.length)=ki2 at kl2 r2;have g3:(ki2.map kD)[o2]?=some (kD (ki2.getD o2 [])):=by rw[ζo,zE (d:=([]:AF)) (show o2 < ki2.length by omega)]; rfl
   have x3:ixN (ki2.map kD).length (o2:Int)=some o2:=vU (by rw[ζa]; omega);have r3:=(r2 _ (ζf (zE (d:=([]:AF)) (show o2 < ki2.length by omega)))).2;refine yr (·=[some (.fz false (il ns)),some (.o2 (some a) ((yH ki2 o2 (m + pr.length)).map kD)),some (.fz false (.int 3)),some (.ow true (prL pr)),some (.fz true (.int m)),some (.fz true (.int i)),some (.fz true (.int (zB ns (9 + i)))),some (.fz true (.int o1)),some (.fz true (.int o2))]) (ZT (d:=.int ((m + pr.length:Nat):Int)) #[1] ∅ x3 g3 (en (xC ∅ (ye ∅))) (by rw[tL]; omega) #[0] (by show _=_; rw[To ki2 ⋯])) ?_;rintro Γ3 rfl;refine exa1 #[1] ∅ #[0] (by rw[ζa]; omega) ?_;show∃x y z w,_;have:prL pr ++ [PyData.tuple [.int (o1:Int),.int (o2:Int)]]=prL (pr ++ [(o1,o2)]):=by unfold prL; rw[List.map_append]; rfl
   rw[this];exact⟨_,_,_,_,rfl⟩
  ·have h':¬((ki.getD o1 []).length < 5∧(ki.getD o2 []).length < 5):=λz=>by
    rw[decide_eq_true (show((ki.getD o1 []).length:Int) < 5 by omega),decide_eq_true (show((ki.getD o2 []).length:Int) < 5 by omega)]at h;cases h
   have ep:ppS m (o1,o2) (ki,pr)=(ki,pr):=by unfold ppS; rw[if_neg h']
   rw[ep];exact yj ⟨_,_,_,_,rfl⟩
 ·rintro Γ' ⟨x,y,z,w,rfl⟩;rw[yS];exact⟨_,_,_,_,rfl⟩
 ·rintro Γ' ⟨x,y,z,w,rfl⟩;refine zeJ 3 #[1] #[0] ?_;exact za9 (j:=1) ∅ #[1]
def lnN(ns:AE):Nat→AF
 | 0=>[]
 | k + 1=>(lnN ns k).take (zB ns (14 + k) % ((k:Int) + 1)).toNat ++ k :: (lnN ns k).drop (zB ns (14 + k) % ((k:Int) + 1)).toNat
theorem ZP(ns:AE):∀n,(lnN ns n).length=n∧∀x∈lnN ns n,x < n
 | 0=>⟨rfl,(λx h=>by cases h)⟩
 | k + 1=>by
  have ih:=ZP ns k;have h1:=ζR (zB ns (14 + k)) (show(0:Int) < (k:Int) + 1 by omega);have h0:=ζY (zB ns (14 + k)) (show(k:Int) + 1≠0 by omega);unfold lnN;refine⟨?_,λx hx=>?_⟩
  ·rw[ζg,ζ9,ζJ,ζ8,ih.1];omega
  ·rcases ζw.mp hx with h | h
   ·have:=ih.2 x (ζ7 h); omega
   ·rcases ζC.mp h with h | h
    ·omega
    ·have:=ih.2 x (List.mem_of_mem_drop h); omega
theorem Z6(ns:AE)(h6:m≤6):vK m (arF ns m,[]) 0:=⟨zac,λr hr=>by
 obtain⟨k,hk,rfl⟩:=ζn.mp hr;have hk:=ζG.mp hk;have:=zbJ ns k;exact⟨λx hx=>by have:=this.1 x hx; show x < m + 0; omega,⋯⟩,ζj _⟩
def stF(ns:AE)(m:Nat):PS2:=ppN ns m (arF ns m) (zB ns 8 % 4).toNat
theorem Y4(ns:AE)(h2:2≤m)(h6:m≤6):vK m (stF ns m) 3:=by
 have n0:=ζY (zB ns 8) (show(4:Int)≠0 by decide);have n1:=ζR (zB ns 8) (show(0:Int) < 4 by decide);have:=tH ns h2 (Z6 ns h6) (zB ns 8 % 4).toNat;exact⟨this.l,λr hr=>⟨(this.e r hr).1,by have:=(this.e r hr).2; omega⟩,by have:=this.p; unfold stF; omega⟩
def yk(ns:AE)(m:Nat):AF:=lnN ns (m + (stF ns m).2.length)
def csN(line:AF)(kin:AI):Nat→AI
 | 0=>line.map λ_=>[]
 | k + 1=>(csN line kin k).set (line.getD k 0) (srtN ((kin.getD k []).map λj=>line.getD j 0))
def csF(ns:AE)(m:Nat):AI:=csN (yk ns m) (stF ns m).1 m
def hiF(ns:AE)(m:Nat):AF:=srtN ((yk ns m).drop m)
theorem u8(line:AF)(kin:AI):∀k,(csN line kin k).length=line.length
 | 0=>ζa ..
 | k + 1=>by unfold csN; rw[List.length_set]; exact u8 line kin k
def ub(ds:AG)(d:AD):Prop:=∃(ns:AE) (m:Nat),ds=[il ns,.int m,.int 3]∧ns.length≤63∧2≤m∧m≤6∧d=.tuple [nls (csF ns m),nl (hiF ns m),nl ((yk ns m).take m)]
theorem zaX(css:AI):∀ds∈css.map kD,∀d∈ds,imm d=true:=λds hds=>by
 obtain⟨c,_,rfl⟩:=ζn.mp hds;exact wv c
theorem zbD(g:α→AD)(xs:List α){k:Nat}(h:k≤xs.length):cutD (xs.map g) (some (k:Int)) none=(xs.drop k).map g:=by
 unfold cutD;rw[HT.Zf];show((xs.map g).drop (min k (xs.map g).length)).take ((xs.map g).length - min k (xs.map g).length)=_;rw[ζa,ξ8 h,←List.map_drop];refine ζB ?_;rw[ζa,ζ8];omega
theorem Xg:zA ["_law_script","_law_many","_law_most","_law_kin","_law_pairs_here","_law_line","_law_k","_law_causes"] ["_law_script","_law_many","_law_most"] (zn (top 47)):={}
theorem XB(F:Fun K "_law_shape" "_law_shape" (top 47) f fd)(B:Bs mg)(c_law_arrows:zt P w K mg base CX0 "_law_arrows" ["_law_script","_law_many"] 2 (spO2 K vA))(c_law_pairs:zt P w K mg base CX0 "_law_pairs" ["_law_script","_law_kin","_law_most"] 2 (spP2 K uc))(c_law_at:zt P w K mg base CX0 "_law_at" ["_law_script","_law_k"] 1 (spD K true zU)):FnOk P w K mg base CX0 3 f fd ["_law_script","_law_many","_law_most"] (spD K true ub):=by
 have sc:=Xg;refine F.ok sc (λvs H Q E h=>zI (λ_ _⟨_,_,e,_⟩=>by rw[e];rfl) h) (λcdv A outer s H vs Q E hr h=>?_);obtain⟨Fh,ds,d,le,dp,p,q⟩:=h
 refine⟨_,(ze (pS (i:=3) sc.nd (pF c_law_arrows hr (zb (pv 0) (zb (pv 1) zd))))
   (ze (pS (i:=4) sc.nd (pF c_law_pairs hr (zb (pv 0) (zb (pv 3) (zb (pv 2) zd)))))
   (ze (pS (i:=5) sc.nd (zQ zd))
   (ze (zZ AC rfl (yi rfl B.range (zb (zq yq (pv 1) (pB (zj (K:=K) rfl) B.len (zb (pv 4) zd))) zd)) (pN (i:=6) sc.nd) (zi (yg (yo (K:=K) rfl ζq PySem.F.slot_list_insert PySem.F.type_list_insert T5 (pv 5) (zb (zq yy (pF c_law_at hr (zb (pv 0) (zb (zq yq zg (pv 6)) zd))) (zq yq (pv 6) zg)) (zb (pv 6) zd))))))
   (ze (yX (i:=7) rfl sc.nd rfl rfl (N:=["_law_k"]) (js:=[none]) (by walk_at"comp_ok") (zJ (K:=K) rfl (pv 5)) (λ_ _ _ _=>(pN (i:=0) (show υN ["_law_k"]by decide +kernel))) (λ_ _ _ _=>xF) (λ_ _ _ _=>(zQ zd)))
   (ze (zZ AC rfl (yi rfl B.range (zb (pv 1) zd)) (pN (i:=6) sc.nd) (zi (Xr (pB (xx (K:=K) rfl) B.sorted (zb (yl rfl (N:=["_law_j","_law_line"]) (js:=[none,some 5]) (by walk_at"comp_ok") (zJ (K:=K) rfl (pX (zv (K:=K) rfl) (pv 3) (pv 6))) (λ_ _ _ _=>(pN (i:=0) (show υN ["_law_j","_law_line"]by decide +kernel))) (λ_ _ _ _=>xF) (λ_ _ _ _=>(pX (zv (K:=K) rfl) (pv 1) (pv 0)))) zd)) (VH (pv 7) (pX (zv (K:=K) rfl) (pv 5) (pv 6)) Zx))))
   (zi (zG (yN (zb (pv 7) (zb (pB (xx (K:=K) rfl) B.sorted (zb (wG (wz (K:=K) rfl) (pv 5) (vR (pv 1)) vS) zd)) (zb (wG (wz (K:=K) rfl) (pv 5) vS (vR (pv 1))) zd)))))))))))),?_⟩
 have hN:=sc.n 8;obtain⟨ns,m,rfl,h63,h2,h6,rfl⟩:=p;have big:=zK;have sok:=Y4 ns h2 h6;have est:stF ns m=ppN ns m (arF ns m) (zB ns 8 % 4).toNat:=rfl;walk_at"run";refine Qj (dss:=(arF ns m).map kD) ∅ ⟨ns,m,rfl,h63,h6,rfl⟩ #[0] ?_;refine Qi (d:=.list (prL (stF ns m).2)) (dss':=(stF ns m).1.map kD) (j:=3) ∅ #[1] ∅ ⟨ns,arF ns m,m,rfl,h63,rfl,rfl,h2,h6,Z6 ns h6,rfl,rfl⟩ (zaX _) (zaX _) #[0] #[0] ?_;have ecs:csF ns m=csN (yk ns m) (stF ns m).1 m:=rfl;have eln:yk ns m=lnN ns (m + (stF ns m).2.length):=rfl;have ehi:hiF ns m=srtN ((yk ns m).drop m):=rfl;rw[ecs,ehi,eln]at *;clear ecs eln ehi est;generalize stF ns m=st at *;obtain⟨kin,prs⟩:=st;have kl:kin.length=m:=sok.l;have pl:prs.length≤3:=sok.p;have ke:=sok.e;refine exo true (yc (ds:=[]) zD #[2]) #[0] ?_;refine zfz 3 #[1] #[0] ?_;have e3:(kin.map kD).map PyData.list=kin.map nl:=by rw[ζx]; rfl
 rw[e3];have lt:((m:Int) + (((prL prs).length:Nat):Int))=((m + prs.length:Nat):Int):=by rw[ζa,ξB]
 refine yK (ds:=(List.range (m + prs.length)).map λi:Nat=>.int (i:Int)) true (λi Γ=>∃x,Γ=[some (.fz false (il ns)),some (.fz false (.int m)),some (.fz false (.int 3)),some (.fz true (nls kin)),some (.fz true (.list (prL prs))),some (.ow true (kD (lnN ns i))),x,none]) (yQ (n:=((m + prs.length:Nat):Int)) (zh (EvE.eq (xC ∅ ∅) (congrArg PyData.int lt)) zD) ⋯ ⋯) ⟨none,rfl⟩ ?_ ?_
 ·rintro i d Γ' hd ⟨x,rfl⟩;obtain⟨hi,rfl⟩:=yT hd;have oi:=ZP ns i;have h1:=ζR (zB ns (14 + i)) (show(0:Int) < (i:Int) + 1 by omega);have h0:=ζY (zB ns (14 + i)) (show(i:Int) + 1≠0 by omega);refine⟨_,egn #[0] ?_⟩
  refine exin (m:=zB ns (14 + i) % ((i:Int) + 1)) (d:=.int i) #[1] (yZ (zm ∅ (show zU [il ns,.int (14 + (i:Int))] _ from⟨ns,14 + i,by rw[ξB]; rfl,h63,⋯,rfl⟩)) ∅ ⋯) ∅ h0 ?_ ?_ #[0] ?_
  ·rw[tL,oi.1];omega
  ·rw[tL,oi.1];omega
  ·show∃x,_;have e:kD (lnN ns (i + 1))=(kD (lnN ns i)).take (zB ns (14 + i) % ((i:Int) + 1)).toNat ++ .int (i:Int) :: (kD (lnN ns i)).drop (zB ns (14 + i) % ((i:Int) + 1)).toNat:=by
    unfold kD;rw[←List.map_take,←List.map_drop];show List.map _ (_ ++ _ :: _)=_;rw[ζy,ζH]
   rw[e];exact⟨_,rfl⟩
 rintro Γ' ⟨x,rfl⟩;rw[yS];have ho:=ZP ns (m + prs.length);generalize lnN ns (m + prs.length)=line at ho;obtain⟨hol,hoe⟩:=ho;refine exfz 5 #[1] #[0] ?_;have ekd:PyData.list (kD line)=nl line:=rfl;rw[ekd];refine exo true (ds:=(csN line kin 0).map nl) (EvO.eq (vD (κ:=true) (κ':=false) (is:=[0]) (xs:=line) (λk:Nat=>.int (k:Int)) (λ_=>.list []) (λ_ _ _ _ _=>rfl) (zO ∅) (by walk_at"cc") rfl #[2] ⋯ ?_) ?_) #[0] ?_
 ·intro k hk;exact egn #[0] (EvO.toE (yc (ds:=[]) zD #[2]))
 ·show _=(line.map λ_=>[]).map nl;rw[ζx];rfl
 have lg:∀j:Nat,j < m + prs.length→atI (line.map λk:Nat=>PyData.int (k:Int)) (j:Int)=some (.int (line.getD j 0:Nat))∧line.getD j 0 < m + prs.length:=λj hj=>by
  have z:line[j]?=some (line.getD j 0):=zE ⋯;exact⟨yB z,hoe _ (ζf z)⟩
 refine yK (ds:=(List.range m).map λi:Nat=>.int (i:Int)) true (λi Γ=>∃x,Γ=[some (.fz false (il ns)),some (.fz false (.int m)),some (.fz false (.int 3)),some (.fz true (nls kin)),some (.fz true (.list (prL prs))),some (.fz true (nl line)),x,some (.ow true ((csN line kin i).map nl))]) (yQ (n:=(m:Int)) ∅ ⋯ ⋯) ⟨_,rfl⟩ ?_ ?_
 ·rintro i d Γ' hd ⟨x,rfl⟩;obtain⟨hi,rfl⟩:=yT hd;refine⟨_,egn #[0] ?_⟩
  have gk:kin[i]?=some (kin.getD i []):=zE ⋯;have gke:=ke _ (ζf gk);have a1:atI (kin.map nl) (i:Int)=some (nl (kin.getD i [])):=yB gk;have a2:=lg i ⋯;generalize er:kin.getD i []=r at a1 gke;refine exi1 (j:=line.getD i 0) (m:=(line.getD i 0:Nat)) (d:=nl (srtN (r.map λj=>line.getD j 0))) #[1] (EvE.eq (EvO.toE (xZ (ns:=zl (r.map λj=>line.getD j 0)) (EvO.toL (EvO.eq (vD (κ:=false) (κ':=false) (is:=[0]) (xs:=r) (λk:Nat=>.int (k:Int)) (λj=>.int (line.getD j 0:Nat)) (λx _ y _ h=>by cases xk h; rfl) (zO (zS (κ:=false) ∅ ∅ a1)) (by walk_at"cc") rfl #[2] ⋯ ?_) ?_)) ?_)) ?_) (EvE.imm (κ:=false) (zS (κ:=false) ∅ ∅ a2.1) rfl) (vU (by rw[ζa,u8,hol]; exact a2.2)) #[0] ?_
  ·intro j hj;have:=lg j (gke.1 j hj);exact egn #[0] (EvE.imm (κ:=false) (zS (κ:=false) ∅ ∅ this.1) rfl)
  ·unfold zl;rw[ζx,ζx];rfl
  ·unfold zl;rw[ζa,ζa];omega
  ·exact congrArg PyData.list (Zt _)
  ·show∃x,_;have:(csN line kin (i + 1)).map nl=((csN line kin i).map nl).set (line.getD i 0) (nl (srtN ((kin.getD i []).map λj=>line.getD j 0))):=by
    show((csN line kin i).set _ _).map nl=_;rw[List.map_set]
   rw[this,er];exact⟨_,rfl⟩
 rintro Γ' ⟨x2,rfl⟩;rw[yS];generalize csN line kin m=cs;refine exfz 7 #[1] #[0] ?_;refine zR true (zbh (zh ∅ (zh (EvE.eq (EvO.toE (xZ (ns:=zl (line.drop m)) (EvO.toL (EvO.eq (xh (ds:=line.map λk:Nat=>.int (k:Int)) ∅ ∅ ∅) ?_)) ?_)) ?_) (zh (EvO.toE (EvO.eq (xh (ds:=line.map λk:Nat=>.int (k:Int)) ∅ ∅ ∅) ?_)) zD))) (by show 3≤_; omega)) rfl (.inl ⟨rfl,rfl⟩)
 ·rw[zbD _ _ ⋯];unfold zl;rw[ζx];rfl
 ·unfold zl;rw[ζa,ζ8];omega
 ·exact congrArg PyData.list (Zt _)
 ·exact zdb _ line m
theorem zdh(ns:AE)(k:Nat):(arR ns k).length≤k:=by
 have fl:=ζP (λj=>decide (zB ns (2 + k) / pw5 j % 2=1)) (List.range k);rw[ζv]at fl;unfold arR;split
 ·rename_i h;rw[ζg];show(arK ns k).length + 1≤k;have ne:(arK ns k).length≠k:=λz=>by
   have:arK ns k=List.range k:=List.Sublist.eq_of_length ζK (by rw[z,ζv]);rw[this]at h;exact h.2.2 (ζG.mpr ⋯)
  have:(arK ns k).length≤k:=fl;omega
 ·exact fl
theorem zas(ns:AE)(hm:2≤m):(ppK ns m k).1≠(ppK ns m k).2:=by
 unfold ppK;split
 ·show 0≠m - 1;omega
 ·have a0:=ζY (zB ns (9 + k)) (show(m:Int)≠0 by omega);have a1:=ζR (zB ns (9 + k)) (show(0:Int) < m by omega);have c0:=ζY (zB ns (9 + k) / m) (show(m:Int) - 1≠0 by omega);have c1:=ζR (zB ns (9 + k) / m) (show(0:Int) < (m:Int) - 1 by omega);generalize zB ns (9 + k) % m=x at *;generalize zB ns (9 + k) / m % ((m:Int) - 1)=y at *;show x.toNat≠((x + 1 + y) % m).toNat;by_cases h:x + 1 + y < m
  ·rw[Int.emod_eq_of_lt ⋯ h];omega
  ·rw[show x + 1 + y=(x + 1 + y - m) + m by omega,Int.add_emod_right,Int.emod_eq_of_lt ⋯ ⋯];omega
theorem add5(h:∀r∈kin,r.length≤c)(ho:o < kin.length)(h4:(kin.getD o []).length + 1≤c):∀r∈yH kin o x,r.length≤c:=λr hr=>by
 unfold yH at hr;rcases List.mem_or_eq_of_mem_set hr with hr | rfl
 ·exact h r hr
 ·rw[ζg]; exact h4
theorem Qz(kin:AI)(h:p≠o):(yH kin o x).getD p []=kin.getD p []:=by
 unfold yH;rw[ζb,ζz (Ne.symm h),←ζb]
theorem pp5(ns:AE)(hm:2≤m)(hk:vK m (kin,[]) 0)(h:∀r∈kin,r.length≤5):∀k,∀r∈(ppN ns m kin k).1,r.length≤5
 | 0=>h
 | k + 1=>by
  have ih:=pp5 ns hm hk h k;have ok:=tH ns hm hk k;have o:=ZH ns (k:=k) hm;have ne:=zas ns (k:=k) hm;show∀r∈(ppS m (ppK ns m k) (ppN ns m kin k)).1,r.length≤5;generalize ppN ns m kin k=st at ih ok;generalize ppK ns m k=p at o ne;unfold ppS;split
  ·rename_i q;have l1:(yH st.1 p.1 (m + st.2.length)).length=m:=by unfold yH; rw[List.length_set]; exact ok.l
   exact add5 (add5 ih (by rw[ok.l]; exact o.1) ⋯) (by rw[l1]; exact o.2) (by rw[Qz _ (Ne.symm ne)]; omega)
  ·exact ih
theorem US(ns:AE):∀n,(lnN ns n).Perm (List.range n)
 | 0=>.refl _
 | k + 1=>by
  have ih:=US ns k;unfold lnN;generalize (zB ns (14 + k) % ((k:Int) + 1)).toNat=m;refine List.Perm.trans ξ2 ?_;rw[ζ0,List.range_succ];exact(List.Perm.cons k ih).trans (List.perm_append_singleton k (List.range k)).symm
theorem Th(hl:∀j,line.getD j 0 < n)(h5:∀r∈kin,r.length≤5):∀k,∀own∈csN line kin k,(∀c∈own,c < n)∧own.length≤5
 | 0=>λown ho=>by
  obtain⟨_,_,rfl⟩:=ζn.mp (show own∈line.map λ_=>([]:AF)from ho);exact⟨λc hc=>(nomatch hc),ξn _⟩
 | k + 1=>λown ho=>by
  rcases List.mem_or_eq_of_mem_set (show own∈(csN line kin k).set (line.getD k 0) (srtN ((kin.getD k []).map λj=>line.getD j 0))from ho)with h | rfl
  ·exact Th hl h5 k own h
  ·refine⟨λc hc=>?_,?_⟩
   ·obtain⟨j,_,rfl⟩:=ζn.mp ((yD _).mem_iff.mp hc);exact hl j
   ·rw[(yD _).length_eq,ζa];by_cases hk:k < kin.length
    ·exact h5 _ (ζf (zE hk))
    ·rw[ζb,ξr ⋯];exact ξn _
theorem Us(nd:xs.Nodup)(h:∀x∈xs,x < n):srtN xs=(List.range n).filter λj=>decide (j∈xs):=by
 have r:=Ud (WA (λj=>decide (j∈xs)) n);have e:srt (zl xs)=zl ((List.range n).filter λj=>decide (j∈xs)):=by
  refine(Zu ?_ r.1).symm;unfold zl;refine List.Perm.map _ ?_;rw[ξc (List.nodup_range.sublist ζK) nd];intro a;rw[ζl,ζG,decide_eq_true_eq];exact⟨λz=>z.2,λz=>⟨h a z,z⟩⟩
 unfold srtN;rw[e];unfold zl;rw[ζx];exact List.map_id' _
structure ShF(m n:Nat)(cs:AI)(hs ln:AF):Prop where
 l:cs.length=n
 ck:∀own∈cs,(∀c∈own,c < n)∧own.length≤5
 m2:2≤m
 m4:m≤4
 nm:m≤n
 n7:n≤m + 3
 hl:hs.length=n - m
 pm:(zk n hs ++ hs).Perm (List.range n)
 sn:srtN ln=zk n hs
 ll:ln.length=m
 un:hs=(List.range n).filter λj=>!decide (j∈zk n hs)
theorem Q2(ns:AE)(m2:2≤m)(m4:m≤4):ShF m (csF ns m).length (csF ns m) (hiF ns m) ((yk ns m).take m):=by
 have m6:m≤6:=by omega
 have K5:=pp5 ns m2 (Z6 ns m6) (λr hr=>by
  obtain⟨k,hk,rfl⟩:=ζn.mp hr;have:=zdh ns k;have:=ζG.mp hk;omega) (zB ns 8 % 4).toNat
 have ST:=Y4 ns m2 m6;have LL:=ZP ns (m + (stF ns m).2.length);have pm:=US ns (m + (stF ns m).2.length);have el:(csF ns m).length=m + (stF ns m).2.length:=by unfold csF; rw[u8]; exact LL.1
 have p3:=ST.p;have line_lt:∀j,(yk ns m).getD j 0 < m + (stF ns m).2.length:=λj=>by
  by_cases hj:j < (yk ns m).length
  ·exact LL.2 _ (ζf (zE hj))
  ·rw[ζb,ξr ⋯];show 0 < _;omega
 rw[el];generalize hn:m + (stF ns m).2.length=n at *;have lf:yk ns m=lnN ns n:=by unfold yk; rw[hn]
 have nd:(yk ns m).Nodup:=by rw[lf]; exact pm.nodup_iff.mpr List.nodup_range
 have mem:∀j,j∈yk ns m↔j < n:=λj=>by rw[lf,pm.mem_iff,ζG]
 have ls:(yk ns m).length=n:=by rw[lf]; exact LL.1
 have td:=ζ0 m (yk ns m);have nd2:=nd;rw[←td,ζ4]at nd2;have hm:∀j,j∈hiF ns m↔j∈(yk ns m).drop m:=λj=>(yD _).mem_iff;have tin:∀j,j∈(yk ns m).take m↔j < n∧j∉hiF ns m:=λj=>by
  rw[hm];constructor
  ·intro h;exact⟨(mem j).mp (ζ7 h),λz=>nd2.2.2 j h j z rfl⟩
  ·rintro⟨h1,h2⟩;have:=(mem j).mpr h1;rw[←td]at this;exact(ζw.mp this).resolve_right h2
 have sin:∀j,j∈zk n (hiF ns m)↔j < n∧j∉hiF ns m:=λj=>by
  unfold zk;rw[ζl,ζG];simp
 have hnd:(hiF ns m).Nodup:=(yD _).nodup_iff.mpr nd2.2.1;have hlt:∀j∈hiF ns m,j < n:=λj hj=>(mem j).mp (List.mem_of_mem_drop ((hm j).mp hj));refine⟨el,?_,m2,m4,⋯,⋯,?_,?_,?_,by rw[ζJ,ls]; omega,?_⟩
 ·exact Th line_lt K5 m
 ·unfold hiF;rw[(yD _).length_eq,ζ8,ls]
 ·rw[ξc (by
   rw[ζ4];refine⟨Q3 _ _,hnd,λa ha b hb=>?_⟩
   rintro rfl;exact((sin a).mp ha).2 hb) List.nodup_range]
  intro a;rw[ζw,sin,ζG];constructor
  ·rintro(h | h)
   ·exact h.1
   ·exact hlt a h
  ·intro h;by_cases z:a∈hiF ns m
   ·exact .inr z
   ·exact .inl ⟨h,z⟩
 ·rw[Us (n:=n) nd2.1 λx hx=>(mem x).mp (ζ7 hx)];unfold zk;refine ξH λj hj=>?_;have hj:=ζG.mp hj;by_cases z:j∈hiF ns m
  ·rw[decide_eq_true z,decide_eq_false λh=>((tin j).mp h).2 z]; rfl
  ·rw[decide_eq_false z,decide_eq_true ((tin j).mpr ⟨hj,z⟩)]; rfl
 ·conv=>lhs; unfold hiF
  rw[Us (n:=n) nd2.2.1 λx hx=>(mem x).mp (List.mem_of_mem_drop hx)];refine ξH λj hj=>?_;have hj:=ζG.mp hj;by_cases z:j∈hiF ns m
  ·rw[decide_eq_true ((hm j).mp z),decide_eq_false λh=>((sin j).mp h).2 z]; rfl
  ·rw[decide_eq_false λh=>z ((hm j).mpr h),decide_eq_true ((sin j).mpr ⟨hj,z⟩)]; rfl
def xW(ds:AG)(d:AD):Prop:=∃a b:Int,ds=[.int a,.int b]∧1≤b∧d=.int (Int.gcd a b:Nat)
theorem Yc:zA ["_law_one","_law_other","_law_rest"] ["_law_one","_law_other"] (zn (top 48)):={}
theorem Yg(F:Fun K "_law_common" "_law_common" (top 48) f fd)(B:Bs mg): FnOk P w K mg base CX0 1 f fd ["_law_one","_law_other"] (spD K true xW):=by
 have sc:=Yc;refine F.ok sc (λvs H Q E h=>zI (λ_ _⟨_,_,e,_⟩=>by rw[e];rfl) h) (λcdv A outer s H vs Q E hr h=>?_);obtain⟨Fh,ds,d,le,dp,p,q⟩:=h
 refine⟨_,(ze (pS (i:=0) sc.nd (pB Vk B.abs (zb (pv 0) zd)))
   (ze (pS (i:=1) sc.nd (pB Vk B.abs (zb (pv 1) zd)))
   (ze (wD AC (zu Yx (pv 1) zg (zP _)) (ze (pS (i:=2) sc.nd (zq yy (pv 0) (pv 1)))
   (ze (pS (i:=0) sc.nd (pv 1))
   (zi (pS (i:=1) sc.nd (pv 2))))))
   (zi (zG (pv 0)))))),?_⟩
 have hN:=sc.n 3;obtain⟨a,b,rfl,hb,rfl⟩:=p;walk_at"run";walk_at"go";refine yr (λΓ=>∃y z,Γ=[some (.fz true (.int (Int.gcd a b:Nat))),y,z]) (wJ (λm Γ=>∃x y z,Γ=[some (.fz true (.int x)),some (.fz true (.int y)),z]∧0≤y∧(y=0→0 < x)∧Int.gcd x y=Int.gcd a b∧m=y.toNat) b.toNat ⟨_,_,none,rfl,⋯,⋯,by simp[Int.gcd],⋯⟩ ?_) ?_
 ·rintro m Γ' ⟨x,y,z,rfl,hy,hx,hg,rfl⟩;refine⟨!decide (y=0),∅, λc=>?_,λc=>?_⟩
  ·have y0:y≠0:=by simpa using c
   have yp:0 < y:=by omega
   refine exs true ∅ #[0] ?_;refine exs true ∅ #[0] ?_;refine exs1 true ∅ #[0] ?_;have h1:=ζR x yp;have h2:=ζY x y0;exact⟨_,⋯,y,x % y,_,rfl,h2,λ_=>yp,by rw[W7]; exact hg,rfl⟩
  ·have y0:y=0:=by simpa using c
   subst y0;rw[Int.gcd_zero_right]at hg;have e:x=((Int.gcd a b:Nat):Int):=by have:=hx rfl; omega
   rw[e];exact⟨_,_,rfl⟩
 ·rintro Γ' ⟨y,z,rfl⟩;exact zR true ∅ rfl (.inl ⟨rfl,rfl⟩)
theorem zaS(ns:AE):∀n,(lnN ns n).Nodup
 | 0=>ξZ
 | k + 1=>by
  have ih:=zaS ns k;have hk:k∉lnN ns k:=λz=>by have:=(ZP ns k).2 k z; omega
  unfold lnN;refine(List.perm_middle.nodup_iff).mpr ?_;rw[ζ0];exact ζ5.mpr ⟨hk,ih⟩
theorem vT(ho:o < kin.length):x∈(yH kin o y).getD j []↔x∈kin.getD j []∨j=o∧x=y:=by
 unfold yH;rw[ζb,ζb (i:=j)];by_cases h:j=o
 ·subst h;rw[ζu ho];show x∈_ ++ [y]↔_;rw[ζw,ζk,ζb];simp
 ·rw[ζz (Ne.symm h)];simp[h]
structure E2(m:Nat)(st:PS2):Prop where
 e:∀i,i < st.2.length→∃a b,a < m∧b < m∧a≠b∧∀j,m + i∈st.1.getD j []↔j=a∨j=b
theorem uO{α:Type}{l:List (List α)}{j:Nat}{x:α}(h:x∈l.getD j []):l.getD j []∈l:=by
 by_cases hj:j < l.length
 ·exact ζf (zE (d:=[]) hj)
 ·rw[ζb,ξr ⋯]at h;cases h
theorem zd9{m:Nat}{o:Nat×Nat}{st:PS2}{k:Nat}(ho:o.1 < m∧o.2 < m)(hn:o.1≠o.2)(h:vK m st k)(g:E2 m st):E2 m (ppS m o st):=by
 unfold ppS;split
 ·have l1:(yH st.1 o.1 (m + st.2.length)).length=m:=by unfold yH; rw[List.length_set]; exact h.l
  have new:∀j,m + st.2.length∉st.1.getD j []:=λj z=>by
   have:=(h.e _ (uO z)).1 _ z;omega
  refine⟨λi hi=>?_⟩
  have hi:i < (st.2 ++ [o]).length:=hi;rw[ζg]at hi;have hi:i < st.2.length + 1:=hi;have w:∀j,m + i∈(yH (yH st.1 o.1 (m + st.2.length)) o.2 (m + st.2.length)).getD j []↔m + i∈st.1.getD j []∨(j=o.1∨j=o.2)∧i=st.2.length:=λj=>by
   rw[vT (by rw[l1]; exact ho.2),vT (by rw[h.l]; exact ho.1)];have:(m + i=m + st.2.length)↔i=st.2.length:=by omega
   rw[this]
   exact⟨fun
    | .inl (.inl z)=>.inl z
    | .inl (.inr z)=>.inr ⟨.inl z.1,z.2⟩
    | .inr z=>.inr ⟨.inr z.1,z.2⟩,fun
    | .inl z=>.inl (.inl z)
    | .inr ⟨.inl z,y⟩=>.inl (.inr ⟨z,y⟩)
    | .inr ⟨.inr z,y⟩=>.inr ⟨z,y⟩⟩
  by_cases c:i=st.2.length
  ·subst c;refine⟨o.1,o.2,ho.1,ho.2,hn,λj=>?_⟩
   rw[w j]
   exact⟨fun
    | .inl z=>absurd z (new j)
    | .inr z=>z.1,λz=>.inr ⟨z,rfl⟩⟩
  ·obtain⟨a,b,h1,h2,h3,h4⟩:=g.e i ⋯;refine⟨a,b,h1,h2,h3,λj=>?_⟩
   rw[w j]
   exact⟨fun
    | .inl z=>(h4 j).mp z
    | .inr z=>absurd z.2 c,λz=>.inl ((h4 j).mpr z)⟩
 ·exact g
theorem zar(ns:AE)(hm:2≤m)(hk:vK m (kin,[]) 0):∀k,E2 m (ppN ns m kin k)
 | 0=>⟨λi hi=>absurd hi (Nat.not_lt_zero i)⟩
 | k + 1=>zd9 (ZH ns hm) (zas ns hm) (tH ns hm hk k) (zar ns hm hk k)
theorem w6{l:AF}(h:l.Nodup){i j:Nat}(hi:i < l.length)(hj:j < l.length):l.getD i 0=l.getD j 0↔i=j:=by
 rw[ζb,ζb,ζd hi,ζd hj];exact⟨λe=>(List.getElem_inj h).mp (ζr (congrArg some e)),λe=>by subst e; rfl⟩
theorem vd{line:AF}{kin:AI}(nd:line.Nodup)(lt:∀x∈line,x < line.length)(j x:Nat):∀k,k≤line.length→(x∈(csN line kin k).getD j []↔∃i,i < k∧j=line.getD i 0∧∃t∈kin.getD i [],x=line.getD t 0)
 | 0,_=>by
  have:(csN line kin 0).getD j []=[]:=by
   unfold csN;rw[ζb,ζo];cases line[j]? <;> rfl
  rw[this];exact⟨λz=>(nomatch z),λ⟨i,hi,_⟩=>absurd hi (Nat.not_lt_zero i)⟩
 | k + 1,hk=>by
  have ih:=vd (kin:=kin) nd lt j x k ⋯;have lk:line.getD k 0 < (csN line kin k).length:=by rw[u8]; exact lt _ (ζf (zE (d:=0) ⋯))
  have row:∀i,(x∈srtN ((kin.getD i []).map λj=>line.getD j 0))↔∃t∈kin.getD i [],x=line.getD t 0:=λi=>by
   rw[(yD _).mem_iff,ζn];exact⟨λ⟨t,h1,h2⟩=>⟨t,h1,h2.symm⟩,λ⟨t,h1,h2⟩=>⟨t,h1,h2.symm⟩⟩
  unfold csN;rw[ζb];by_cases c:j=line.getD k 0
  ·rw[c,ζu lk];show x∈srtN _↔_;rw[row k];refine⟨λz=>⟨k,⋯,rfl,z⟩,λ⟨i,hi,e,z⟩=>?_⟩
   rw[(w6 nd ⋯ ⋯).mp e];exact z
  ·rw[ζz (Ne.symm c),←ζb,ih];refine⟨λ⟨i,hi,z⟩=>⟨i,⋯,z⟩,λ⟨i,hi,e,z⟩=>⟨i,?_,e,z⟩⟩
   have:i≠k:=λy=>c (y ▸ e);omega
def TwE(cs:AI)(hs:AF):Prop:=∀h∈hs,∃a b,a < b∧b < cs.length∧∀j,h∈cs.getD j []↔j=a∨j=b
theorem QK(ns:AE){m:Nat}(h2:2≤m)(h6:m≤6):TwE (csF ns m) (hiF ns m):=by
 intro h hh;have s:=Y4 ns h2 h6;have g:E2 m (stF ns m):=zar ns h2 (Z6 ns h6) _;have l:=ZP ns (m + (stF ns m).2.length);have nd:(yk ns m).Nodup:=zaS ns _;have ll:(yk ns m).length=m + (stF ns m).2.length:=l.1;have lt:∀x∈yk ns m,x < (yk ns m).length:=λx hx=>by rw[ll]; exact l.2 x hx
 have hd:=(yD _).mem_iff.mp hh;obtain⟨i,hi,e⟩:=ξF.mp hd;rw[ζ8,ll]at hi;rw[List.getElem_drop]at e;have e:h=(yk ns m).getD (m + i) 0:=by rw[ζb,ζd ⋯]; exact e.symm
 obtain⟨a,b,am,bm,ab,w⟩:=g.e i ⋯;have key:∀j,h∈(csF ns m).getD j []↔j=(yk ns m).getD a 0∨j=(yk ns m).getD b 0:=λj=>by
  unfold csF;rw[vd nd lt j h m ⋯];constructor
  ·rintro⟨i',hi',ej,t,ht,et⟩;have tl:=(s.e _ (uO ht)).1 t ht;have:m + i=t:=(w6 nd ⋯ ⋯).mp (e.symm.trans et);rw[←this,w i']at ht;rcases ht with rfl | rfl
   ·exact .inl ej
   ·exact .inr ej
  ·rintro(ej | ej)
   ·exact⟨a,am,ej,m + i,(w a).mpr (.inl rfl),e⟩
   ·exact⟨b,bm,ej,m + i,(w b).mpr (.inr rfl),e⟩
 have cl:(csF ns m).length=(yk ns m).length:=u8 ..;have na:(yk ns m).getD a 0 < (csF ns m).length:=by rw[cl]; exact lt _ (ζf (zE (d:=0) ⋯))
 have nb:(yk ns m).getD b 0 < (csF ns m).length:=by rw[cl]; exact lt _ (ζf (zE (d:=0) ⋯))
 have ne:(yk ns m).getD a 0≠(yk ns m).getD b 0:=λz=>ab ((w6 nd ⋯ ⋯).mp z);rcases Nat.lt_or_gt_of_ne ne with c | c
 ·exact⟨_,_,c,nb,key⟩
 ·exact⟨_,_,c,na,λj=>(key j).trans Or.comm⟩
theorem zfw(h:ShOk n cs)(n12:n≤12)(wi:AF):NxOk n (inF cs wi):=⟨n12,λx hx y hy=>(h.at hx).2.1 y (ζl.mp hy).1,λx hx=>ζZ (ζP _ _) (h.at hx).2.2⟩
noncomputable def dueL(n:Nat)(cs:AI)(sm wi:AF):AF:=wi.filter λk=>decide (k∈rchL n (inF cs wi) sm)
structure MK(m:DTab)(fo:AF):Prop where
 has:∀k:Nat,(dGet m (k:Int)).isSome=decide (k∈fo)
 len:m.length≤fo.length
theorem MK.put(h:MK m fo)(k:Nat)(v:V):MK (dPut m (k:Int) v) (fo ++ [k]):=⟨λj=>by
 rw[zbB];by_cases e:j=k
 ·rw[if_pos (by rw[e]),e,decide_eq_true (ζN _ (ζk.mpr rfl))];rfl
 ·rw[if_neg ⋯,h.has j];refine decide_eq_decide.mpr ⟨λz=>ζS _ z,λz=>?_⟩;rcases ζw.mp z with z | z
  ·exact z
  ·exact absurd (ζk.mp z) e,by
 have:=zbA m (k:Int) v;have:=h.len;rw[ζg];show _≤_ + 1;omega⟩
theorem zeF{n:Nat}{nx:Nat→AF}{sm fo:AF}(no:NxOk n nx)(so:SmOk n sm)(h:GI n nx sm fo [])(x:Nat):x∈fo↔x∈rchL n nx sm:=by
 rw[←h.end no so,(yD fo).mem_iff]
theorem Ta(l:AF):PyData.eqv (nl l) (.list [])=decide (l=[]):=by cases l <;> rfl
def ue(ds:AG)(d:AD):Prop:=∃(n:Nat) (cs:AI) (sm wi:AF),ds=[nls cs,nl sm,nl wi]∧ShOk n cs∧n≤12∧SmOk n sm∧wi.length≤1000∧d=nl (dueL n cs sm wi)
theorem Xl:zA ["_law_causes","_law_some","_law_within","_law_marks","_law_waiting","_law_k"] ["_law_causes","_law_some","_law_within"] (zn (top 51)):={}
theorem XG(F:Fun K "_law_above" "_law_above" (top 51) f fd)(B:Bs mg): FnOk P w K mg base CX0 1 f fd ["_law_causes","_law_some","_law_within"] (spD K true ue):=by
 have sc:=Xl;refine F.ok sc (λvs H Q E h=>zI (λ_ _⟨_,_,_,_,e,_⟩=>by rw[e];rfl) h) (λcdv A outer s H vs Q E hr h=>?_);obtain⟨Fh,ds,d,le,dp,p,q⟩:=h
 refine⟨_,(ze (pS (i:=3) sc.nd zax)
   (ze (pS (i:=4) sc.nd (pY (yh (K:=K) rfl) B.list (zb (pv 1) zd)))
   (ze (wD AC (zu (UM (K:=K) rfl hr.units) (pv 4) (zQ zd) (zP _)) (ze (pS (i:=5) sc.nd (Xt (K:=K) rfl ζq PySem.F.slot_list_pop PySem.F.type_list_pop zaG (pv 4)))
   (zi (yx (zap (TU (YG hr) (pv 5) (pv 3))) (ze (UE (YG hr) (pv 3) (pv 5) uL rfl)
   (zi (pS (i:=4) sc.nd (zq (uM (K:=K) rfl) (pv 4) (yl rfl (N:=["_law_j","_law_within"]) (js:=[none,some 2]) (by walk_at"comp_ok") (zJ (K:=K) rfl (pX (zv (K:=K) rfl) (pv 0) (pv 5))) (λ_ _ _ _=>(pN (i:=0) (show υN ["_law_j","_law_within"]by decide +kernel))) (λ_ _ _ _=>(yn (zu (yz (K:=K) rfl) (pv 0) (pv 1) (rfl)))) (λ_ _ _ _=>(pv 0))))))) zV))))
   (zi (zG (yl rfl (N:=["_law_k","_law_marks"]) (js:=[none,some 3]) (by walk_at"comp_ok") (zJ (K:=K) rfl (pv 2)) (λ_ _ _ _=>(pN (i:=0) (show υN ["_law_k","_law_marks"]by decide +kernel))) (λ_ _ _ _=>(yn (zap (zei (YG hr) (pv 0) (pv 1))))) (λ_ _ _ _=>(pv 0)))))))),?_⟩
 have hN:=sc.n 6;obtain⟨n,cs,sm,wi,rfl,ok,n12,so,wl,rfl⟩:=p;have big:=zK;have no:=zfw ok n12 wi;have sl:=so.l;walk_at"run";refine zcW #[0] ?_;refine exo true (ds:=sm.map λk:Nat=>.int (k:Int)) (yR (EvL.imm (κ:=false) (EvE.toL ∅) (wv sm))) #[0] ?_;refine yr (λΓ=>∃m fo x y,MK m fo∧GI n (inF cs wi) sm fo []∧Γ=[some (.fz false (nls cs)),some (.fz false (nl sm)),some (.fz false (nl wi)),some (.od (.dK m)),x,y]) (wJ (λq Γ=>∃(m:DTab) (fo wa:AF) (x:Option DV),MK m fo∧GI n (inF cs wi) sm fo wa∧q=(n - fo.length) * 61 + wa.length∧Γ=[some (.fz false (nls cs)),some (.fz false (nl sm)),some (.fz false (nl wi)),some (.od (.dK m)),some (.ow true (wa.map λk:Nat=>.int (k:Int))),x]) _ ⟨[],[],sm,none,⟨λk=>by rw[zbC]; rfl,ζj _⟩,⟨ξZ,λ_ z=>(nomatch z),λx hx=>.base hx,λ_ z=>(nomatch z),λx hx=>.inr hx,⋯⟩,rfl,rfl⟩ ?_) ?_
 ·rintro q Γ' ⟨m,fo,wa,x,mk,gi,rfl,rfl⟩;have fl:=tJ n fo gi.nd λx hx=>(gi.fl x hx).lt no so;have ll:=gi.ll;have ml:=mk.len;refine⟨!decide (wa=[]),EvT.eq (zH (V3 (neg:=true) (d:=nl wa) (f:=.list []) (EvL.toD (κ:=true) ∅) (EvE.toD (κ:=true) (EvO.toE (yc (ds:=[]) zD #[2]))) (vM _) rfl)) (by show(!PyData.eqv _ _)=_; rw[Ta]),λh=>?_,λh=>?_⟩
  ·have h':wa≠[]:=by simpa using h
   obtain⟨wb,k,rfl⟩:∃wb k,wa=wb ++ [k]:=by
    rcases List.eq_nil_or_concat wa with rfl | ⟨wb,k,e⟩
    ·exact absurd rfl h'
    ·exact⟨wb,k,by rw[e,List.concat_eq_append]⟩
   have rk:=gi.wl k (ζN _ (ζk.mpr rfl));have kn:=rk.lt no so;have nl12:=no.l k kn;have A:=ok.at kn;have A2:=A.2.2;have ak:atI (cs.map nl) (k:Int)=some (nl (cs.getD k [])):=yB A.1;rw[show(wb ++ [k]).map (λk:Nat=>PyData.int (k:Int))=wb.map (λk:Nat=>PyData.int (k:Int)) ++ [.int (k:Int)]from by rw[ζy]; rfl];rw[ζg]at ll ⊢;refine yr (·=[some (.fz false (nls cs)),some (.fz false (nl sm)),some (.fz false (nl wi)),some (.od (.dK m)),some (.ow true (wb.map λk:Nat=>.int (k:Int))),some (.fz true (.int (k:Int)))]) (U6 (i:=4) (j:=5) (ds:=wb.map λk:Nat=>.int (k:Int)) (d:=.int (k:Int)) #[1] #[2] #[0] #[0] rfl) ?_;rintro Γ' rfl;refine wK (b:=!decide (k∈fo)) (EvT.eq (et_B (Qm (i:=3) (k:=(k:Int)) #[1] ∅)) (by rw[mk.has k])) (λc=>?_) (λc=>?_)
   ·have c':k∉fo:=by simpa using c
    have gn:=gi.new nl12 c';have fn:fo.length + 1≤n:=by
     have:=tJ n (fo ++ [k]) gn.nd λx hx=>(gn.fl x hx).lt no so
     rwa [ζg]at this
    refine zba (d:=.bool true) (w:=.bl true) (k:=(k:Int)) #[1] ∅ ∅ rfl ⋯ #[0] ?_;have fl2:(inF cs wi k).length≤60:=nl12;refine exo1 true (ds:=(wb ++ inF cs wi k).map λk:Nat=>.int (k:Int)) (EvO.eq (Zl (xs:=wb.map λk:Nat=>.int (k:Int)) (ys:=(inF cs wi k).map λk:Nat=>.int (k:Int)) ∅ (EvO.toL (zY (κ:=true) (is:=[0]) (xs:=cs.getD k []) false (λk:Nat=>.int (k:Int)) (λk:Nat=>.int (k:Int)) (λc=>decide (c∈wi)) (λx _ y _ h=>by cases xk h; exact⟨rfl,rfl⟩) (zO (zS (κ:=false) ∅ ∅ ak)) (by walk_at"cc") rfl #[2] ⋯ ?_)) (by rw[ζa,ζa]; omega)) (by rw[ζy])) #[0] ?_
    ·intro c hc;exact egn #[0] ⟨EvT.eq (zH (yC (neg:=false) (i:=(c:Int)) (ns:=zl wi) ∅ (EvE.toL (EvE.eq (κ:=false) ∅ (yt _))))) yJ,λ_=>by walk_at"ev"⟩
    refine⟨_,?_,_,fo ++ [k],wb ++ inF cs wi k,_,mk.put k (.bl true),gn,rfl,rfl⟩
    rw[ζg,ζg];show(n - (fo.length + 1)) * 61 + _ < (n - fo.length) * 61 + (wb.length + 1);omega
   ·have c':k∈fo:=by simpa using c
    refine yj ⟨_,?_,m,fo,wb,_,mk,gi.old c',rfl,rfl⟩;show _ < _ + (wb.length + 1);omega
  ·have e:wa=[]:=by simpa using h
   subst e;exact⟨m,fo,_,_,mk,gi,rfl⟩
 ·rintro Γ' ⟨m,fo,x,y,mk,gi,rfl⟩;refine zR true (EvO.toE (zY (κ:=true) (is:=[0]) (xs:=wi) false (λk:Nat=>.int (k:Int)) (λk:Nat=>.int (k:Int)) (λk=>decide (k∈rchL n (inF cs wi) sm)) (λx _ y _ h=>by cases xk h; exact⟨rfl,rfl⟩) (zO ∅) (by walk_at"cc") rfl #[2] ⋯ ?_)) rfl (.inl ⟨rfl,rfl⟩);intro k hk;refine egn #[0] ⟨EvT.eq (et_B (zeU (i:=1) (k:=(k:Int)) #[1] ∅)) ?_,λ_=>by walk_at"ev"⟩;rw[mk.has k];exact decide_eq_decide.mpr (zeF no so gi k)
theorem VQ:∀(l sm:AF),l.Nodup→(∀x∈l,x∈sm)→l.length≤sm.length
 | [],_,_,_=>ξn _
 | x :: l,sm,nd,h=>by
  obtain⟨n1,n2⟩:=ζ5.mp nd;have hx:=h x ζi;have ih:=VQ l (sm.erase x) n2 λy hy=>(List.mem_erase_of_ne (λe=>n1 (by rw[←e]; exact hy))).mpr (h y (ζp _ hy));rw[List.length_erase_of_mem hx]at ih;have:=List.length_pos_of_mem hx;show l.length + 1≤_;omega
structure CI(cs:AI)(hs sm:AF)(k:Nat)(fo:AF):Prop where
 nd:fo.Nodup
 kf:k∈fo
 s:∀x∈fo,x∈sm
 r:∀x∈fo,Rch (lkF cs hs sm) [k] x
def Clh(cs:AI)(sm fo:AF)(h:Nat):Prop:=∀x∈fo,∀y∈sm,h∈cs.getD x []→h∈cs.getD y []→y∈fo
theorem CI.add{cs:AI}{hs sm fo:AF}{k h x y:Nat}(c:CI cs hs sm k fo)(hh:h∈hs)(hx:x∈fo)(hy:y∈sm)(hn:y∉fo)(h1:h∈cs.getD x [])(h2:h∈cs.getD y []):CI cs hs sm k (fo ++ [y]):=by
 refine⟨?_,ζS _ c.kf,λz hz=>?_,λz hz=>?_⟩
 ·rw[ζ4];exact⟨c.nd,by simp,λa ha b hb=>by rw[List.mem_singleton.mp hb]; rintro rfl; exact hn ha⟩
 ·rcases ζw.mp hz with hz | hz
  ·exact c.s z hz
  ·rw[ζk.mp hz]; exact hy
 ·rcases ζw.mp hz with hz | hz
  ·exact c.r z hz
  ·rw[ζk.mp hz];exact .step (c.r x hx) (ZO.mpr ⟨hy,h,hh,h1,h2⟩)
theorem CI.end{n:Nat}{cs:AI}{hs sm fo:AF}{k:Nat}(c:CI cs hs sm k fo)(lt:∀x∈sm,x < n)(cl:∀h∈hs,Clh cs sm fo h):srtN fo=rchL n (lkF cs hs sm) [k]:=by
 refine wB (Yq c.nd) (wC ..) λx=>?_;rw[(yD fo).mem_iff,xq];refine⟨λz=>⟨lt x (c.s x z),c.r x z⟩,λz=>?_⟩
 have r:=z.2;clear z;induction r with
 | base z=>rw[ζk.mp z]; exact c.kf
 | step _ z ih =>
  obtain⟨h0,h,h1,h2,h3⟩:=ZO.mp z;exact cl h h1 _ ih _ h0 h2 h3
structure CJ(cs:AI)(hs sm:AF)(k:Nat)(fo0:AF)(i:Nat)(fo:AF):Prop where
 c:CI cs hs sm k fo
 o:(fo=fo0∧∀h∈hs.take i,Clh cs sm fo0 h)∨(fo0.length < fo.length∧¬∀h∈hs,Clh cs sm fo0 h)
theorem CJ.keep{cs:AI}{hs sm fo0 fo:AF}{k i h:Nat}(c:CJ cs hs sm k fo0 i fo)(hk:hs[i]?=some h)(cl:Clh cs sm fo h):CJ cs hs sm k fo0 (i + 1) fo:=⟨c.c,by
 rcases c.o with⟨rfl,o⟩ | o
 ·refine .inl ⟨rfl,λh' hh=>?_⟩;rw[take_succ hk]at hh;rcases ζw.mp hh with hh | hh
  ·exact o h' hh
  ·rw[ζk.mp hh]; exact cl
 ·exact .inr o⟩
theorem CJ.more{cs:AI}{hs sm fo0 fo:AF}{k i h x y:Nat}(c:CJ cs hs sm k fo0 i fo)(hk:hs[i]?=some h)(hx:x∈fo)(hy:y∈sm)(hn:y∉fo)(h1:h∈cs.getD x [])(h2:h∈cs.getD y []):CJ cs hs sm k fo0 (i + 1) (fo ++ [y]):=⟨c.c.add (ζf hk) hx hy hn h1 h2,.inr (by
 rw[ζg];show _ < _ + 1∧_;rcases c.o with⟨rfl,o⟩ | o
 ·exact⟨Nat.lt_succ_self _,λz=>hn (z h (ζf hk) x hx y hy h1 h2)⟩
 ·exact⟨⋯,o.2⟩)⟩
def wu(ds:AG)(d:AD):Prop:=∃(n:Nat) (cs:AI) (hs sm:AF) (k:Nat),ds=[nls cs,nl hs,nl sm,.int k]∧TwE cs hs∧cs.length=n∧n≤12∧hs.length≤12∧sm.Pairwise (· < ·)∧(∀x∈sm,x < n)∧sm.length≤12∧k∈sm∧d=nl (rchL n (lkF cs hs sm) [k])
theorem zbs{cs:AI}{sm:AF}{h a b:Nat}(rise:sm.Pairwise (· < ·))(ab:a < b)(w:∀j,h∈cs.getD j []↔j=a∨j=b):(a∈sm∧b∈sm→(sm.filter λj=>decide (h∈cs.getD j []))=[a,b])∧(¬(a∈sm∧b∈sm)→(sm.filter λj=>decide (h∈cs.getD j [])).length≠2):=by
 have mem:∀j,j∈(sm.filter λj=>decide (h∈cs.getD j []))↔j∈sm∧(j=a∨j=b):=λj=>by rw[ζl,decide_eq_true_eq,w j]
 have fr:(sm.filter λj=>decide (h∈cs.getD j [])).Pairwise (· < ·):=rise.sublist ζK;constructor
 ·rintro⟨ha,hb⟩;refine wB fr (by simp[ab]) λj=>?_;rw[mem j];simp only[List.mem_cons,List.not_mem_nil,or_false];exact⟨λz=>z.2,λz=>⟨by rcases z with rfl | rfl <;> assumption,z⟩⟩
 ·intro c e;generalize (sm.filter λj=>decide (h∈cs.getD j []))=l at mem fr e
  match l,e with
  | [x,y],_ =>
   have xy:x < y:=(ξK.mp fr).1 y (ζk.mpr rfl);have hx:=(mem x).mp ζi;have hy:=(mem y).mp (ζp _ (ζk.mpr rfl));refine c ?_;rcases hx.2 with e1 | e1 <;> rcases hy.2 with e2 | e2 <;> subst e1 <;> subst e2
   ·omega
   ·exact⟨hx.1,hy.1⟩
   ·omega
   ·omega
theorem UK{fo:AF}{a b:Nat}(ha:a∈fo)(hb:b∉fo):([a,b].filter λj=>!decide (j∈fo))=[b]∧([b,a].filter λj=>!decide (j∈fo))=[b]:=by
 refine⟨?_,?_⟩
 ·rw[List.filter_cons_of_neg (by rw[decide_eq_true ha]; simp),List.filter_cons_of_pos (by rw[decide_eq_false hb]; rfl)];rfl
 ·rw[List.filter_cons_of_pos (by rw[decide_eq_false hb]; rfl),List.filter_cons_of_neg (by rw[decide_eq_true ha]; simp)];rfl
theorem Xk:zA ["_law_causes","_law_hidden","_law_some","_law_k","_law_clump_here","_law_step_here","_law_h","_law_ends"] ["_law_causes","_law_hidden","_law_some","_law_k"] (zn (top 50)):={}
theorem XF(F:Fun K "_law_clump" "_law_clump" (top 50) f fd)(B:Bs mg): FnOk P w K mg base CX0 1 f fd ["_law_causes","_law_hidden","_law_some","_law_k"] (spD K true wu):=by
 have sc:=Xk;refine F.ok sc (λvs H Q E h=>zI (λ_ _⟨_,_,_,_,_,e,_⟩=>by rw[e];rfl) h) (λcdv A outer s H vs Q E hr h=>?_);obtain⟨Fh,ds,d,le,dp,p,q⟩:=h
 refine⟨_,(ze (pS (i:=4) sc.nd (zQ (zb (pv 3) zd)))
   (ze (zZ AC rfl (yi rfl B.range (zb (pB (zj (K:=K) rfl) B.len (zb (pv 2) zd)) zd)) (pN (i:=5) sc.nd) (zi (zZ AC rfl (zJ (K:=K) rfl (pv 1)) (pN (i:=6) sc.nd) (ze (yX (i:=7) rfl sc.nd rfl rfl (N:=["_law_j","_law_h","_law_causes"]) (js:=[none,some 6,some 0]) (by walk_at"comp_ok") (zJ (K:=K) rfl (pv 2)) (λ_ _ _ _=>(pN (i:=0) (show υN ["_law_j","_law_h","_law_causes"]by decide +kernel))) (λ_ _ _ _=>(yn (zu (yz (K:=K) rfl) (pv 1) (pX (zv (K:=K) rfl) (pv 2) (pv 0)) (rfl)))) (λ_ _ _ _=>(pv 0)))
   (zi (yx (PW.pt (vt (zu wg (pB (zj (K:=K) rfl) B.len (zb (pv 7) zd)) zg (zP _)) (wU (zu Yx (xR (yz (K:=K) rfl) (pX (zv (K:=K) rfl) (pv 7) zg) (pv 4) (rfl)) (xR (yz (K:=K) rfl) (pX (zv (K:=K) rfl) (pv 7) zg) (pv 4) (rfl)) (zP _))))) (zi (pS (i:=4) sc.nd (zq (uM (K:=K) rfl) (pv 4) (yl rfl (N:=["_law_j","_law_clump_here"]) (js:=[none,some 4]) (by walk_at"comp_ok") (zJ (K:=K) rfl (pv 7)) (λ_ _ _ _=>(pN (i:=0) (show υN ["_law_j","_law_clump_here"]by decide +kernel))) (λ_ _ _ _=>(yn (zu (ya (K:=K) rfl) (pv 0) (pv 1) (rfl)))) (λ_ _ _ _=>(pv 0)))))) zV))))))
   (zi (zG (pB (xx (K:=K) rfl) B.sorted (zb (pv 4) zd)))))),?_⟩
 have hN:=sc.n 8;obtain⟨n,cs,hs,sm,k,rfl,te,cl,n12,hl,rise,lt,sl,ks,rfl⟩:=p;have big:=zK;have el:∀l:AF,PyData.int (((l.map λk:Nat=>PyData.int (k:Int)).length:Nat):Int)=.int (l.length:Int):=λl=>by rw[ζa]
 walk_at"run";refine exs true (d:=nl [k]) (EvO.toE (yc (ds:=[.int (k:Int)]) (zh ∅ zD) (by show 1≤sizeLine; omega))) #[0] ?_;refine yK (ds:=(List.range sm.length).map λi:Nat=>.int (i:Int)) true (λi Γ=>∃(fo:AF) (x y z:Option DV),CI cs hs sm k fo∧(i + 1≤fo.length∨∀h∈hs,Clh cs sm fo h)∧Γ=[some (.fz false (nls cs)),some (.fz false (nl hs)),some (.fz false (nl sm)),some (.fz false (.int k)),some (.fz true (nl fo)),x,y,z]) (yQ (n:=(sm.length:Int)) (zh (EvE.eq (ye ∅) (el sm)) zD) ⋯ ⋯) ⟨[k],none,none,none,⟨by simp,List.mem_singleton.mpr rfl,λx hx=>by rw[List.mem_singleton.mp hx]; exact ks,λx hx=>.base hx⟩,.inl (Nat.le_refl _),rfl⟩ ?_ ?_
 ·rintro i d Γ' hd ⟨fo0,x,y,z,c0,o0,rfl⟩;obtain⟨hi,rfl⟩:=yT hd;refine⟨_,egn #[0] ?_⟩
  refine tO (ds:=hs.map λi:Nat=>.int (i:Int)) false (λi' Γ=>∃(fo:AF) (y z:Option DV),CJ cs hs sm k fo0 i' fo∧Γ=[some (.fz false (nls cs)),some (.fz false (nl hs)),some (.fz false (nl sm)),some (.fz false (.int k)),some (.fz true (nl fo)),some (.fz true (.int i)),y,z]) (zO ∅) ⟨fo0,_,_,⟨c0,.inl ⟨rfl,λ_ z=>by cases z⟩⟩,rfl⟩ ?_ ?_
  ·rintro i' d Γ' hd ⟨fo,y,z,cj,rfl⟩;obtain⟨h,hk,rfl⟩:=yP hd;obtain⟨a,b,ab,bc,we⟩:=te h (ζf hk);have e2:=zbs (sm:=sm) rise ab we;have fl:=VQ fo sm cj.c.nd cj.c.s;refine⟨_,egn #[0] ?_⟩
   refine exs true (d:=nl (sm.filter λj=>decide (h∈cs.getD j []))) (EvO.toE (zY (κ:=true) (is:=[0]) (xs:=sm) false (λk:Nat=>.int (k:Int)) (λk:Nat=>.int (k:Int)) (λj=>decide (h∈cs.getD j [])) (λx _ y _ h=>by cases xk h; exact⟨rfl,rfl⟩) (zO ∅) (by walk_at"cc") rfl #[2] ⋯ ?_)) #[0] ?_
   ·intro j hj;have aj:atI (cs.map nl) (j:Int)=some (nl (cs.getD j [])):=yB (zE (by rw[cl]; exact lt j hj));exact egn #[0] ⟨EvT.eq (zH (yC (neg:=false) (i:=(h:Int)) (ns:=zl (cs.getD j [])) ∅ (EvE.toL (EvE.eq (κ:=false) (zS (κ:=false) ∅ ∅ aj) (yt _))))) yJ,λ_=>by walk_at"ev"⟩
   by_cases c:a∈sm∧b∈sm
   ·rw[e2.1 c];have a0:atI ([a,b].map λk:Nat=>PyData.int (k:Int)) (0:Int)=some (.int (a:Int)):=rfl;have a1:atI ([a,b].map λk:Nat=>PyData.int (k:Int)) (1:Int)=some (.int (b:Int)):=rfl;refine wK (b:=decide (((([a,b].map λk:Nat=>PyData.int (k:Int)).length:Nat):Int)=2) && !(decide (a∈fo) == decide (b∈fo))) (ww (zH (xM (ye (ds:=[a,b].map λk:Nat=>PyData.int (k:Int)) ∅) ∅)) λ_=>zH (zbl (EvE.eq (yC (neg:=false) (i:=(a:Int)) (ns:=zl fo) (zS (κ:=false) ∅ ∅ a0) (EvE.toL (EvE.eq (κ:=false) ∅ (yt _)))) (congrArg PyData.bool yJ)) (EvE.eq (yC (neg:=false) (i:=(b:Int)) (ns:=zl fo) (zS (κ:=false) ∅ ∅ a1) (EvE.toL (EvE.eq (κ:=false) ∅ (yt _)))) (congrArg PyData.bool yJ)))) (λt=>?_) (λt=>?_)
    ·have t2:=((ξS _ _).mp t).2;obtain⟨v,u,hv,hu,us,h1,h2,ef⟩:∃v u,v∈fo∧u∉fo∧u∈sm∧h∈cs.getD v []∧h∈cs.getD u []∧([a,b].filter λj=>!decide (j∈fo))=[u]:=by
      by_cases ha:a∈fo <;> by_cases hb:b∈fo
      ·rw[decide_eq_true ha,decide_eq_true hb]at t2; cases t2
      ·exact⟨a,b,ha,hb,c.2,(we a).mpr (.inl rfl),(we b).mpr (.inr rfl),(UK ha hb).1⟩
      ·exact⟨b,a,hb,ha,c.1,(we b).mpr (.inr rfl),(we a).mpr (.inl rfl),(UK hb ha).2⟩
      ·rw[decide_eq_false ha,decide_eq_false hb]at t2; cases t2
     refine exs1 true (d:=nl (fo ++ [u])) (EvO.toE (EvO.eq (Zl (xs:=fo.map λk:Nat=>.int (k:Int)) (ys:=[u].map λk:Nat=>.int (k:Int)) ∅ (EvO.toL (EvO.eq (zY (κ:=true) (is:=[0]) (xs:=[a,b]) false (λk:Nat=>.int (k:Int)) (λk:Nat=>.int (k:Int)) (λj=>!decide (j∈fo)) (λx _ y _ h=>by cases xk h; exact⟨rfl,rfl⟩) (zO ∅) (by walk_at"cc") rfl #[2] (by show 2≤_; omega) ?_) (by rw[ef]))) (by rw[ζa]; show _ + 1≤_; omega)) (by rw[ζy]))) #[0] ⟨fo ++ [u],_,_,cj.more hk hv us hu h1 h2,rfl⟩;intro j hj;exact egn #[0] ⟨EvT.eq (zH (yC (neg:=true) (i:=(j:Int)) (ns:=zl fo) ∅ (EvE.toL (EvE.eq (κ:=false) ∅ (yt _))))) (by show(!decide _)=_; rw[yJ]),λ_=>by walk_at"ev"⟩
    ·have t2:decide (a∈fo)=decide (b∈fo):=by
      have:(!(decide (a∈fo) == decide (b∈fo)))=false:=(Bool.and_eq_false_iff.mp t).resolve_left (λz=>of_decide_eq_false z rfl);simpa using this
     have t3:a∈fo↔b∈fo:=decide_eq_decide.mp t2;refine yj ⟨fo,_,_,cj.keep hk λx hx y hy h1 h2=>?_,rfl⟩;rcases(we x).mp h1 with rfl | rfl <;> rcases(we y).mp h2 with rfl | rfl
     ·exact hx
     ·exact t3.mp hx
     ·exact t3.mpr hx
     ·exact hx
   ·have ne:=e2.2 c;generalize (sm.filter λj=>decide (h∈cs.getD j []))=l at ne;refine wK (b:=decide ((l.length:Int)=2) && false) (ww (zH (xM (EvE.eq (ye (ds:=l.map λk:Nat=>PyData.int (k:Int)) ∅) (el l)) ∅)) λz=>absurd (of_decide_eq_true z) ⋯) (λt=>by simp at t) (λt=>?_);refine yj ⟨fo,_,_,cj.keep hk λx hx y hy h1 h2=>?_,rfl⟩;have xs:=cj.c.s x hx;rcases(we x).mp h1 with rfl | rfl <;> rcases(we y).mp h2 with rfl | rfl
    ·exact hx
    ·exact absurd ⟨xs,hy⟩ c
    ·exact absurd ⟨hy,xs⟩ c
    ·exact hx
  ·rintro Γ' ⟨fo,y,z,cj,rfl⟩;refine⟨fo,_,_,_,cj.c,?_,rfl⟩
   have o:=cj.o;rw[ζa,ζ3]at o;rcases o with⟨rfl,o⟩ | ⟨o1,o2⟩
   ·exact .inr o
   ·rcases o0 with o0 | o0
    ·exact .inl ⋯
    ·exact absurd o0 o2
 ·rintro Γ' ⟨fo,x,y,z,c,o,rfl⟩;rw[yS]at o;have fl:=VQ fo sm c.nd c.s;have cl':∀h∈hs,Clh cs sm fo h:=o.resolve_left ⋯;rw[←c.end lt cl'];exact zR true (EvE.eq (EvO.toE (xZ (ns:=zl fo) (EvE.toL (EvE.eq (κ:=false) ∅ (yt fo))) (by rw[wN]; omega))) (congrArg PyData.list (Zt fo))) rfl (.inl ⟨rfl,rfl⟩)
def vz(ds:AG)(d:AD):Prop:=∃(ss:AE) (ks:AF),ds=[il ss,nl ks]∧SzOk ss ks∧d=lls (wds (pk ss ks))
theorem UG(ss:AE)(ks:AF)(i:Nat):pk ss (ks.take i)=(pk ss ks).take i:=by
 unfold Sx2.pk;rw[List.map_take]
theorem Ya:zA ["_law_sizes_here","_law_things","_law_some","_law_k","_law_more","_law_world","_law_value"] ["_law_sizes_here","_law_things"] (zn (top 53)):={}
theorem Ye(F:Fun K "_law_worlds" "_law_worlds" (top 53) f fd)(B:Bs mg): FnOk P w K mg base CX0 1 f fd ["_law_sizes_here","_law_things"] (spD K true vz):=by
 have sc:=Ya;refine F.ok sc (λvs H Q E h=>zI (λ_ _⟨_,_,e,_⟩=>by rw[e];rfl) h) (λcdv A outer s H vs Q E hr h=>?_);obtain⟨Fh,ds,d,le,dp,p,q⟩:=h
 refine⟨_,(ze (pS (i:=2) sc.nd (zQ (zb (zQ zd) zd)))
   (ze (zZ AC rfl (zJ (K:=K) rfl (pv 1)) (pN (i:=3) sc.nd) (ze (pS (i:=4) sc.nd (zQ zd))
   (ze (zZ AC rfl (zJ (K:=K) rfl (pv 2)) (pN (i:=5) sc.nd) (zi (zZ AC rfl (yi rfl B.range (zb (pX (zv (K:=K) rfl) (pv 0) (pv 3)) zd)) (pN (i:=6) sc.nd) (zi (yg (yo (K:=K) rfl ζq ζE ζD zW (pv 4) (zb (zq (uM (K:=K) rfl) (pv 5) (zQ (zb (pv 6) zd))) zd)))))))
   (zi (pS (i:=2) sc.nd (pv 4))))))
   (zi (zG (pv 2))))),?_⟩
 have hN:=sc.n 7;obtain⟨ss,ks,rfl,ok,rfl⟩:=p;have big:=zK;walk_at"run";refine exs true (d:=lls [[]]) (EvE.eq (a:=.list [.list []]) ∅ rfl) #[0] ?_;refine yK false (λi Γ=>∃x y z u,Γ=[some (.fz false (il ss)),some (.fz false (nl ks)),some (.fz true (lls (wds (pk ss (ks.take i))))),x,y,z,u]) (zO ∅) ⟨none,none,none,none,by rw[ζX]; rfl⟩ ?_ ?_
 ·rintro i d Γ' hd ⟨x,y,z,u,rfl⟩;obtain⟨k,hk',rfl⟩:=yP hd;have hkl:=ok.k k (ζf hk');have gs:1≤ss.getD k 0∧ss.getD k 0≤9:=by
   rw[ζb,ζd hkl];exact ok.s _ (ξa hkl)
  have wl:(wds (pk ss (ks.take i))).length≤16384:=by
   rw[yM,UG];have:=tF i (pk ss ks) ok.pk;have:=ok.p;omega
  generalize hws:wds (pk ss (ks.take i))=ws at wl;have hwl:∀w∈ws,w.length≤63:=λw hw=>by
   rw[←hws]at hw;rw[Ze hw];unfold Sx2.pk;rw[ζa,ζJ];have:=ok.l;omega
  refine⟨_,egn #[0] ?_⟩
  walk_at"go";refine yK true (λj Γ=>∃z u,Γ=[some (.fz false (il ss)),some (.fz false (nl ks)),some (.fz true (lls ws)),some (.fz false (.int k)),some (.ow true ((grow (ws.take j) (rng (ss.getD k 0).toNat)).map il)),z,u]) (zO ∅) ⟨_,_,by rw[ζX]; rfl⟩ ?_ ?_
  ·rintro j d Γ' hd ⟨z,u,rfl⟩;obtain⟨h,hh',rfl⟩:=yP hd;have hb:=hwl h (ζf hh');have hj:=(ζh.mp hh').1;refine⟨_,egn #[0] ?_⟩
   refine tO true (λn Γ=>∃u,Γ=[some (.fz false (il ss)),some (.fz false (nl ks)),some (.fz true (lls ws)),some (.fz false (.int k)),some (.ow true ((grow (ws.take j) (rng (ss.getD k 0).toNat) ++ ((rng (ss.getD k 0).toNat).take n).map λc=>h ++ [c]).map il)),some (.fz true (il h)),u])
    (yQ (zh (zS ∅ ∅ (tf hkl)) zD) ⋯ ⋯) ⟨_,by rw[ζX,List.map_nil,ζQ]⟩ ?_ ?_
   ·rintro n d Γ' hd ⟨u,rfl⟩;obtain⟨hn,rfl⟩:=yT hd;refine⟨_,egn #[0] ?_⟩
    have e1:(h.map PyData.int).length + [PyData.int (n:Int)].length≤sizeLine:=by
     rw[ζa];show h.length + 1≤_;omega
    have rl:(rng (ss.getD k 0).toNat).length=(ss.getD k 0).toNat:=by unfold rng; rw[List.length_map,List.length_range]
    have rn:(rng (ss.getD k 0).toNat)[n]?=some (n:Int):=by unfold rng; rw[List.getElem?_map,List.getElem?_range hn]; rfl
    refine exa1 #[1] ∅ #[0] ?_ ?_
    ·rw[ζa,ζg,ZR,ζa,ζJ,ζJ,rl];have h2:min j ws.length * (ss.getD k 0).toNat≤16384 * 9:=Nat.mul_le_mul ⋯ ⋯;omega
    ·have e:(grow (ws.take j) (rng (ss.getD k 0).toNat) ++ ((rng (ss.getD k 0).toNat).take (n + 1)).map λc=>h ++ [c]).map il=(grow (ws.take j) (rng (ss.getD k 0).toNat) ++ ((rng (ss.getD k 0).toNat).take n).map λc=>h ++ [c]).map il ++ [.list (h.map .int ++ [.int (n:Int)])]:=by
      rw[take_succ rn];simp[il]
     show∃y,_;rw[e];exact⟨_,rfl⟩
   ·rintro Γ' ⟨u,rfl⟩;have rl:(rng (ss.getD k 0).toNat).length=(ss.getD k 0).toNat:=by unfold rng; rw[List.length_map,List.length_range]
    have e2:(rng (ss.getD k 0).toNat).take (ss.getD k 0).toNat=rng (ss.getD k 0).toNat:=ζB (by rw[rl]; exact ζj _);rw[take_succ hh',YH,yS,e2];exact⟨_,_,rfl⟩
  ·rintro Γ' ⟨z,u,rfl⟩;refine exfz 4 #[1] #[0] ?_;refine exs1 true ∅ #[0] ?_;show∃x y z u,_;rw[ζa,ζ3,take_succ hk'];have e:pk ss (ks.take i ++ [k])=pk ss (ks.take i) ++ [ss.getD k 0]:=by unfold Sx2.pk; rw[List.map_append]; rfl
   rw[e,uu (λx hx=>by rw[UG]at hx; have:=ok.pk x (ζ7 hx); omega) ⋯,hws];exact⟨_,_,_,_,rfl⟩
 ·rintro Γ' ⟨x,y,z,u,rfl⟩;refine zR true ∅ ?_ (.inl ⟨rfl,rfl⟩);rw[ζa,ζ3]
theorem zaq(ns:AE)(hm:2≤m)(hk:vK m (kin,[]) 0)(h:∀i t,t∈kin.getD i []→t < i):∀k i t,t∈(ppN ns m kin k).1.getD i []→t < i∨m≤t
 | 0,i,t,ht=>.inl (h i t ht)
 | k + 1,i,t,ht=>by
  have ih:=zaq ns hm hk h k;have ok:=tH ns hm hk k;have ho:=ZH ns (m:=m) (k:=k) hm;have ht:t∈(ppS m (ppK ns m k) (ppN ns m kin k)).1.getD i []:=ht;unfold ppS at ht;split at ht
  ·have l1:(yH (ppN ns m kin k).1 (ppK ns m k).1 (m + (ppN ns m kin k).2.length)).length=m:=by unfold yH; rw[List.length_set]; exact ok.l
   rcases(vT (by rw[l1]; exact ho.2)).mp ht with ht | ht
   ·rcases(vT (by rw[ok.l]; exact ho.1)).mp ht with ht | ht
    ·exact ih i t ht
    ·omega
   ·omega
  ·exact ih i t ht
theorem zej(ns:AE)(h2:2≤m)(h6:m≤6):∃f,grd (csF ns m) (csF ns m).length (rgI (csF ns m).length)=some f:=by
 cases e:grd (csF ns m) (csF ns m).length (rgI (csF ns m).length)with
 | some f=>exact⟨f,rfl⟩
 | none =>
  exfalso;have st:=YI _ uC e;have s:=Y4 ns h2 h6;have l:=ZP ns (m + (stF ns m).2.length);have nd:(yk ns m).Nodup:=zaS ns _;have ll:(yk ns m).length=m + (stF ns m).2.length:=l.1;have lt:∀x∈yk ns m,x < (yk ns m).length:=λx hx=>by rw[ll]; exact l.2 x hx
  have low:∀i t,t∈(stF ns m).1.getD i []→t < i∨m≤t:=zaq ns h2 (Z6 ns h6) (λi t ht=>by
   have:t∈(arF ns m).getD i []:=ht;unfold arF at this;rw[ζb,ζo]at this;cases q:(List.range m)[i]? with
   | none=>rw[q]at this; cases this
   | some j =>
    rw[q]at this;have ej:i=j:=by
     have:=ζh.mp q;obtain⟨h1,h2⟩:=this;rw[List.getElem_range]at h2;exact h2
    rw[ej];exact(zbJ ns j).1 t this) _
  have key:∀(d i:Nat),i≤d→i < m→((((yk ns m).getD i 0:Nat):Int))∈stK (csF ns m) (csF ns m).length (rgI (csF ns m).length)→False:=by
   intro d;induction d with
   | zero =>
    intro i hi im hm;obtain⟨c,c1,c2⟩:=st.h _ hm;obtain⟨c',hc',rfl⟩:=ζn.mp c1;rw[ζI]at hc';unfold csF at hc';obtain⟨i',i1,i2,t,t1,t2⟩:=(vd nd lt _ c' m ⋯).mp hc';have ei:i=i':=(w6 nd ⋯ ⋯).mp i2;subst ei;rcases low i t t1 with z | z
    ·omega
    ·obtain⟨y,y1,y2⟩:=st.h _ c2;obtain⟨y',hy',rfl⟩:=ζn.mp y1;rw[ζI,t2]at hy';unfold csF at hy';obtain⟨i3,j1,j2,_⟩:=(vd nd lt _ y' m ⋯).mp hy';have tl:=(s.e _ (uO t1)).1 t t1;have:=(w6 nd ⋯ ⋯).mp j2;omega
   | succ d ih =>
    intro i hi im hm;obtain⟨c,c1,c2⟩:=st.h _ hm;obtain⟨c',hc',rfl⟩:=ζn.mp c1;rw[ζI]at hc';unfold csF at hc';obtain⟨i',i1,i2,t,t1,t2⟩:=(vd nd lt _ c' m ⋯).mp hc';have ei:i=i':=(w6 nd ⋯ ⋯).mp i2;subst ei;rcases low i t t1 with z | z
    ·rw[t2]at c2;exact ih t ⋯ ⋯ c2
    ·obtain⟨y,y1,y2⟩:=st.h _ c2;obtain⟨y',hy',rfl⟩:=ζn.mp y1;rw[ζI,t2]at hy';unfold csF at hy';obtain⟨i3,j1,j2,_⟩:=(vd nd lt _ y' m ⋯).mp hy';have tl:=(s.e _ (uO t1)).1 t t1;have:=(w6 nd ⋯ ⋯).mp j2;omega
  obtain⟨k,km⟩:∃k,k∈stK (csF ns m) (csF ns m).length (rgI (csF ns m).length):=by
   cases q:stK (csF ns m) (csF ns m).length (rgI (csF ns m).length)with
   | nil=>exact absurd q st.ne
   | cons x r=>exact⟨x,ζi⟩
  obtain⟨c,c1,c2⟩:=st.h _ km;obtain⟨c',hc',rfl⟩:=ζn.mp c1;unfold csF at hc';obtain⟨i',i1,i2,t,t1,t2⟩:=(vd nd lt _ c' m ⋯).mp hc';have kr:=vO.mp (st.sb.subset km);have:k=(((yk ns m).getD i' 0:Nat):Int):=by omega
  rw[this]at km;exact key i' i' (ζj _) i1 km
def pw2(j:Nat):Int:=[1,2,4,8,16].getD j 1
theorem zd5(h:j < 5):pw2 j=2 ^ j:=by
 match j,h with
 | 0,_=>rfl
 | 1,_=>rfl
 | 2,_=>rfl
 | 3,_=>rfl
 | 4,_=>rfl
structure SsP(n:Nat)(hs:AF)(ss:AE):Prop where
 l:ss.length=n
 s:∀s∈ss,2≤s∧s≤4
theorem Xs(ss:AE)(x:Int)(h:∀k∈ks,k < ss.length):pk (ss ++ [x]) ks=pk ss ks:=ζs λk hk=>by
 rw[ζb,ζb,ξy (h k hk)]
theorem wA(i:Nat)(hs:AF):zk (i + 1) hs=zk i hs ++ if i∈hs then[]else[i]:=by
 unfold zk;rw[List.range_succ,ζW];congr 1;by_cases h:i∈hs
 ·rw[if_pos h,List.filter_cons_of_neg (by simpa using h)]; rfl
 ·rw[if_neg h,List.filter_cons_of_pos (by simpa using h)]; rfl
def v9(ds:AG)(G:AD→Prop):Prop:=∃(ns:AE) (n:Nat) (hs:AF),ds=[il ns,.int n,nl hs,.int 16]∧ns.length≤63∧n≤7∧hs.length≤3∧(zk n hs).length=n - hs.length∧hs.length≤n∧n≤hs.length + 4∧G=λd=>∃ss,SsP n hs ss∧prod (pk ss (zk n hs))≤16∧d=il ss
theorem zfI{i:Nat}(h:i < 5):atI [PyData.int 1,.int 2,.int 4,.int 8,.int 16] (i:Int)=some (.int (2 ^ i)):=by
 rw[←zd5 h];exact yB (g:=PyData.int) (xs:=[1,2,4,8,16]) (zE (d:=1) h)
theorem zb5(h:i≤n):(zk i hs).length≤(zk n hs).length∧(i < n→i∉hs→(zk i hs).length + 1≤(zk n hs).length):=by
 have key:∀d,(zk i hs).length≤(zk (i + d) hs).length:=λd=>by
  induction d with
  | zero=>exact ζj _
  | succ d ih =>
   show _≤(zk (i + d + 1) hs).length;rw[wA,ζg];omega
 refine⟨by have:=key (n - i); rwa [show i + (n - i)=n by omega]at this,λh1 h2=>?_⟩
 have e:=wA i hs;rw[if_neg h2]at e;have k2:∀d,(zk (i + 1) hs).length≤(zk (i + 1 + d) hs).length:=λd=>by
  induction d with
  | zero=>exact ζj _
  | succ d ih =>
   show _≤(zk (i + 1 + d + 1) hs).length;rw[wA (i + 1 + d),ζg];omega
 have:=k2 (n - (i + 1));rw[show i + 1 + (n - (i + 1))=n by omega,e,ζg]at this;exact this
theorem Xe:zA ["_law_script","_law_many","_law_hidden","_law_most","_law_sizes_here","_law_left","_law_rest","_law_k","_law_size"] ["_law_script","_law_many","_law_hidden","_law_most"] (zn (top 52)):={}
theorem Xz(F:Fun K "_law_sizes" "_law_sizes" (top 52) f fd)(B:Bs mg)(c_law_at:zt P w K mg base CX0 "_law_at" ["_law_script","_law_k"] 1 (spD K true zU)):FnOk P w K mg base CX0 2 f fd ["_law_script","_law_many","_law_hidden","_law_most"] (spW K true v9):=by
 have sc:=Xe;refine F.ok sc (λvs H Q E h=>Ut (λ_ _⟨_,_,_,e,_⟩=>by rw[e];rfl) h) (λcdv A outer s H vs Q E hr h=>?_);obtain⟨Fh,ds,G,le,dp,p,q⟩:=h
 refine⟨_,(ze (pS (i:=4) sc.nd (zQ zd))
   (ze (pS (i:=5) sc.nd (pv 3))
   (ze (pS (i:=6) sc.nd (zq w4 (pv 1) (pB (zj (K:=K) rfl) B.len (zb (pv 2) zd))))
   (ze (zZ AC rfl (yi rfl B.range (zb (pv 1) zd)) (pN (i:=7) sc.nd) (ze (pS (i:=8) sc.nd (zq yq zg (zq yy (pF c_law_at hr (zb (pv 0) (zb (zq yq zg (pv 7)) zd))) zg)))
   (ze (yx (zu (yz (K:=K) rfl) (pv 7) (pv 2) (rfl)) (zi (pS (i:=8) sc.nd (pB (Qu rfl) B.min (zb (pv 8) (zb (zq w4 zg (zq xH (pB (zj (K:=K) rfl) B.len (zb (pv 2) zd)) zg)) zd))))) (ze (pS (i:=6) sc.nd (zq w4 (pv 6) zg))
   (ze (yx (zu tZ (zq ym (pv 8) (pX (zw (K:=K) rfl) (yN (zb zg (zb zg (zb zg (zb zg (zb zg zd)))))) (pv 6))) (pv 5) (zP _)) (zi (pS (i:=8) sc.nd zg)) zV)
   (zi (pS (i:=5) sc.nd (zq xH (pv 5) (pv 8)))))))
   (zi (yg (yo (K:=K) rfl ζq ζE ζD zW (pv 4) (zb (pv 8) zd)))))))
   (zi (zG (pv 4))))))),?_⟩
 have hN:=sc.n 9;obtain⟨ns,n,hs,rfl,h63,n7,h3,sl,hn2,hn4,rfl⟩:=p;have big:=zK;refine Wy le dp q hN (by walk_at"st") ?_;refine exo true (yc (ds:=[]) zD #[2]) #[0] ?_;refine exs true (d:=.int 16) (EvE.imm (κ:=false) ∅ rfl) #[0] ?_;refine exs true (d:=.int (((zk n hs).length - (zk 0 hs).length:Nat):Int)) (EvE.eq (uk ∅ (EvE.eq (ye (ds:=hs.map λk:Nat=>.int (k:Int)) ∅) (by rw[ζa]))) (congrArg PyData.int (by show(n:Int) - hs.length=(((zk n hs).length - 0:Nat):Int); omega))) #[0] ?_;refine yK (ds:=(List.range n).map λi:Nat=>.int (i:Int)) true (λi Γ=>∃(ss:AE) (left:Int) (x7 x8:Option DV),(SsP i hs ss∧prod (pk ss (zk i hs)) * left≤16∧2 ^ ((zk n hs).length - (zk i hs).length)≤left∧1≤prod (pk ss (zk i hs)))∧Γ=[some (.fz false (il ns)),some (.fz false (.int n)),some (.fz false (nl hs)),some (.fz false (.int 16)),some (.ow true (ss.map .int)),some (.fz true (.int left)),some (.fz true (.int (((zk n hs).length - (zk i hs).length:Nat):Int))),x7,x8]) (yQ (n:=(n:Int)) ∅ ⋯ ⋯) ⟨[],16,none,none,⟨⟨rfl,λ_ h=>(nomatch h)⟩,by show(1:Int) * 16≤16; decide,?_,by show(1:Int)≤1; decide⟩,rfl⟩ ?_ ?_
 ·show(2:Int) ^ ((zk n hs).length - 0)≤16;rw[Nat.sub_zero];have:(zk n hs).length≤4:=by omega
  have:=Int.ofNat_le.mpr (ξo (show 0 < 2 by decide) this);simpa using this
 ·rintro i d Γ' hd ⟨ss,left,x7,x8,⟨so,pl,lo,p1⟩,rfl⟩;obtain⟨hi,rfl⟩:=yT hd;have sl':=so.l;refine⟨_,egn #[0] ?_⟩
  obtain⟨sz,esz,z2,z4⟩:∃sz,2 + zB ns (26 + i) % 3=sz∧2≤sz∧sz≤4:=⟨_,rfl,⋯,⋯⟩
  refine exs true (d:=.int sz) (EvE.eq (xC ∅ (yZ (zm ∅ (show zU [il ns,.int (26 + (i:Int))] _ from⟨ns,26 + i,by rw[ξB]; rfl,h63,⋯,rfl⟩)) ∅ #[2])) (congrArg PyData.int esz)) #[0] ?_;clear esz;have slt:∀k∈zk i hs,k < ss.length:=λk hk=>by rw[sl']; exact ζG.mp (ζl.mp hk).1
  refine exif (b:=decide (i∈hs)) (λΓ=>∃(left sz:Int),((2≤sz∧sz≤4)∧prod (pk (ss ++ [sz]) (zk (i + 1) hs)) * left≤16∧2 ^ ((zk n hs).length - (zk (i + 1) hs).length)≤left∧1≤prod (pk (ss ++ [sz]) (zk (i + 1) hs)))∧Γ=[some (.fz false (il ns)),some (.fz false (.int n)),some (.fz false (nl hs)),some (.fz false (.int 16)),some (.ow true (ss.map .int)),some (.fz true (.int left)),some (.fz true (.int (((zk n hs).length - (zk (i + 1) hs).length:Nat):Int))),some (.fz true (.int i)),some (.fz true (.int sz))]) (EvT.eq (zH (yC (neg:=false) (i:=(i:Int)) (ns:=zl hs) ∅ (EvE.toL (EvE.eq (κ:=false) ∅ (yt hs))))) yJ) (λh=>?_) (λh=>?_) ?_
  ·have hm:=of_decide_eq_true h;have e:zk (i + 1) hs=zk i hs:=by rw[wA,if_pos hm,ζQ]
   have hd:(hs.length:Int) / 2≤1:=by omega
   have hd0:0≤(hs.length:Int) / 2:=by omega
   rw[e];refine exs1 true (d:=.int (if 4 - (hs.length:Int) / 2 < sz then 4 - (hs.length:Int) / 2 else sz)) (zc2 ∅ (uk ∅ (xI (EvE.eq (ye (ds:=hs.map λk:Nat=>.int (k:Int)) ∅) (by rw[ζa])) ∅ ⟨#[2],#[2]⟩))) #[0] ⟨left,_,⟨by split <;> omega,?_,lo,?_⟩,rfl⟩
   ·rw[Xs _ _ slt]; exact pl
   ·rw[Xs _ _ slt]; exact p1
  ·have hm:=of_decide_eq_false h;have e:zk (i + 1) hs=zk i hs ++ [i]:=by rw[wA,if_neg hm]
   have sle:=(zb5 (hs:=hs) (Nat.le_of_lt hi)).2 hi hm;have el:(zk (i + 1) hs).length=(zk i hs).length + 1:=by rw[e,ζg]; rfl
   obtain⟨r,er⟩:∃r,(zk n hs).length - (zk i hs).length=r + 1:=⟨(zk n hs).length - (zk i hs).length - 1,⋯⟩
   have er2:(zk n hs).length - (zk (i + 1) hs).length=r:=by omega
   rw[er2];rw[er]at lo;have r4:r < 5:=by omega
   have rp:(1:Int)≤2 ^ r:=Int.pow_pos #[2];have lo:(2:Int) ^ r * 2≤left:=by rw[Int.pow_succ]at lo; exact lo
   have pe:∀z:Int,prod (pk (ss ++ [z]) (zk (i + 1) hs))=prod (pk ss (zk i hs)) * z:=λz=>by
    rw[e];have:pk (ss ++ [z]) (zk i hs ++ [i])=pk ss (zk i hs) ++ [z]:=by
     rw[show pk (ss ++ [z]) (zk i hs ++ [i])=pk (ss ++ [z]) (zk i hs) ++ [(ss ++ [z]).getD i 0]by unfold Sx2.pk; rw[List.map_append]; rfl,Xs _ _ slt];congr 2;rw[ζb,←sl',List.getElem?_concat_length];rfl
    rw[this,Yt]
   have lb:left≤16:=by
    have:=ξR p1 (show 0≤left by omega);omega
   refine exs true (d:=.int (r:Int)) (EvE.eq (uk ∅ ∅) (congrArg PyData.int ⋯)) #[0] ?_;have sm:IntMulOk sz (2 ^ r):=xB ⋯ (by
    have:=Int.ofNat_le.mpr (ξo (show 0 < 2 by decide) (show r≤4 by omega));have h16:(2:Int) ^ r≤16:=by simpa using this
    omega)
   refine exif (b:=decide (left < sz * 2 ^ r)) (λΓ=>∃sz:Int,((2≤sz∧sz≤4)∧sz * 2 ^ r≤left)∧Γ=[some (.fz false (il ns)),some (.fz false (.int n)),some (.fz false (nl hs)),some (.fz false (.int 16)),some (.ow true (ss.map .int)),some (.fz true (.int left)),some (.fz true (.int (r:Int))),some (.fz true (.int i)),some (.fz true (.int sz))]) (zH (ZU (XU ∅ (vE (κ:=false) ∅ ∅ (zfI r4)) sm) ∅)) (λ_=>exs1 true (d:=.int 2) ∅ #[0] ⟨2,⟨#[2],by rw[ξb]; exact lo⟩,rfl⟩) (λc=>yj ⟨sz,⟨⟨z2,z4⟩,by have:=of_decide_eq_false c; omega⟩,rfl⟩) ?_;rintro Γ2 ⟨sz,⟨zz,zl'⟩,rfl⟩;have cd:CDiv left sz:=⟨⋯,⋯⟩
   refine exs1 true (d:=.int (left / sz)) (xI ∅ ∅ cd) #[0] ⟨left / sz,sz,⟨zz,?_,?_,?_⟩,rfl⟩
   ·rw[pe,ξz];have:=Int.mul_ediv_self_le (x:=left) (k:=sz) ⋯;exact Int.le_trans (ξE ⋯ ⋯) pl
   ·exact(Int.le_ediv_iff_mul_le ⋯).mpr (by rw[ξb]; exact zl')
   ·rw[pe];have:=ξR p1 (show 0≤sz by omega);omega
  ·rintro Γ2 ⟨left,sz,⟨zz,y1,y2,y3⟩,rfl⟩;refine exa1 (d:=.int sz) #[1] ∅ #[0] (by rw[ζa]; omega) ⟨ss ++ [sz],left,_,_,⟨⟨by rw[ζg,sl']; rfl,λs hs'=>?_⟩,y1,y2,y3⟩,by rw[ζy]; rfl⟩;rcases ζw.mp hs' with h | h
   ·exact so.s s h
   ·rw[ζk.mp h]; exact zz
 ·rintro Γ' ⟨ss,left,x7,x8,⟨so,pl,lo,p1⟩,rfl⟩;rw[yS]at so pl lo p1;refine exro #[1] ⟨ss,so,?_,rfl⟩ (.inl ⟨rfl,rfl⟩);rw[ξ6]at lo;have l1:(1:Int)≤left:=lo;have:=ξE l1 (show 0≤prod (pk ss (zk n hs))by omega);omega
def wf(ds:AG)(d:AD):Prop:=∃a b:Int,ds=[.int a,.int b]∧1≤b∧Int.gcd a b < 2 ^ 9000∧d=shD (mk a b)
theorem Vw:zA ["_law_top","_law_bottom","_law_many"] ["_law_top","_law_bottom"] (zn (top 54)):={}
theorem VO(F:Fun K "_law_low" "_law_low" (top 54) f fd)(B:Bs mg)(c_law_common:zt P w K mg base CX0 "_law_common" ["_law_one","_law_other"] 1 (spD K true xW)):FnOk P w K mg base CX0 2 f fd ["_law_top","_law_bottom"] (spD K true wf):=by
 have sc:=Vw;refine F.ok sc (λvs H Q E h=>zI (λ_ _⟨_,_,e,_⟩=>by rw[e];rfl) h) (λcdv A outer s H vs Q E hr h=>?_);obtain⟨Fh,ds,d,le,dp,p,q⟩:=h
 refine⟨_,(ze (pS (i:=2) sc.nd (pF c_law_common hr (zb (pv 0) (zb (pv 1) zd))))
   (zi (zG (yN (zb (zq yY (pv 0) (pv 2)) (zb (zq yY (pv 1) (pv 2)) zd)))))),?_⟩
 have hN:=sc.n 3;obtain⟨a,b,rfl,hb,hbb,rfl⟩:=p;walk_at"run";have e1:∀x,ug x ((Int.gcd a b:Nat):Int):=λx=>⟨uS hb,hbb⟩
 refine exs true (zm ∅ ⟨a,b,rfl,hb,rfl⟩) #[0] ?_;refine zR true (by walk_at"ev"; exact e1 _; exact e1 _) ?_ (.inl ⟨rfl,rfl⟩);rfl
def uK(ds:AG)(d:AD):Prop:=∃(x:Int×Int),ds=[shD x,.int x.1,.int x.2]∧Shr 40000 x.1 x.2∧d=.bool true
theorem Wv:zA ["_law_found","_law_top","_law_bottom"] ["_law_found","_law_top","_law_bottom"] (zn (top 49)):={}
theorem WU(F:Fun K "_law_fits" "_law_fits" (top 49) f fd)(B:Bs mg)(c_law_whole:zt P w K mg base CX0 "_law_whole" ["_law_found"] 1 (spD K true v8))(c_law_common:zt P w K mg base CX0 "_law_common" ["_law_one","_law_other"] 1 (spD K true xW)):FnOk P w K mg base CX0 2 f fd ["_law_found","_law_top","_law_bottom"] (spD K true uK):=by
 have sc:=Wv;refine F.ok sc (λvs H Q E h=>zI (λ_ _⟨_,e,_⟩=>by rw[e];rfl) h) (λcdv A outer s H vs Q E hr h=>?_);obtain⟨Fh,ds,d,le,dp,p,q⟩:=h
 refine⟨_,(ze (yx (PW.pt (UD (ui (wq (pB (vf (K:=K) rfl) B.isinstance (zb (pv 0) (zb (Zh (v:=.ty "tuple") rfl B.tuple (by decide +kernel) rfl) zd))))) (VF (zu Yx (pB (zj (K:=K) rfl) B.len (zb (pv 0) zd)) zg (zP _))))) (zi (zG uL)) zV)
   (ze (yx (PW.pt (UD (ui (wq (pF c_law_whole hr (zb (pX (zw (K:=K) rfl) (pv 0) zg) zd)))) (UD (ui (wq (pF c_law_whole hr (zb (pX (zw (K:=K) rfl) (pv 0) zg) zd)))) (VF (zu Yy (pX (zw (K:=K) rfl) (pv 0) zg) zg (zP _)))))) (zi (zG uL)) zV)
   (zi (zG (zaA (xR wg (zq ym (pX (zw (K:=K) rfl) (pv 0) zg) (pv 2)) (zq ym (pv 1) (pX (zw (K:=K) rfl) (pv 0) zg)) (zP _)) (VJ (xR wg (pF c_law_common hr (zb (pX (zw (K:=K) rfl) (pv 0) zg) (zb (pX (zw (K:=K) rfl) (pv 0) zg) zd))) zg (zP _)))))))),?_⟩
 have hN:=sc.n 3;obtain⟨⟨a,b⟩,rfl,sh,rfl⟩:=p;have b1:1≤b:=sh.low.pos;have m1:IntMulOk a b:=wH sh.ba sh.bb ⋯;walk_at"run";refine uW ∅ (by simp) ?_;refine uW (b:=!true || (!true || decide (b < 1))) (U9 (tP (et_B (zm ∅ ⟨_,rfl,rfl⟩))) λ_=>U9 (tP (et_B (zm ∅ ⟨_,rfl,rfl⟩))) λ_=>by walk_at"ev") (by simp; omega) ?_;refine zR true (EvE.eq (zbn ∅ λ_=>xM (zm ∅ ⟨a,b,rfl,b1,rfl⟩) ∅) ?_) rfl (.inl ⟨rfl,rfl⟩);have hg:Int.gcd a b=1:=sh.low.co;rw[hg];simp
def uJ(ds:AG)(d:AD):Prop:=∃xs:AM,ds=[shs xs,shs xs]∧xs.length≤1000∧(∀x∈xs,Shr 40000 x.1 x.2)∧d=.bool true
theorem Wu:zA ["_law_found","_law_due","_law_one","_law_wanted"] ["_law_found","_law_due"] (zn (top 62)):={}
theorem WT(F:Fun K "_law_good" "_law_good" (top 62) f fd)(B:Bs mg)(c_law_fits:zt P w K mg base CX0 "_law_fits" ["_law_found","_law_top","_law_bottom"] 2 (spD K true uK)):FnOk P w K mg base CX0 3 f fd ["_law_found","_law_due"] (spD K true uJ):=by
 have sc:=Wu;refine F.ok sc (λvs H Q E h=>zI (λ_ _⟨_,e,_⟩=>by rw[e];rfl) h) (λcdv A outer s H vs Q E hr h=>?_);obtain⟨Fh,ds,d,le,dp,p,q⟩:=h
 refine⟨_,(ze (yx (PW.pt (UD (ui (wq (pB (vf (K:=K) rfl) B.isinstance (zb (pv 0) (zb (Zh (v:=.ty "list") rfl B.list (by decide +kernel) rfl) zd))))) (VF (zu Yx (pB (zj (K:=K) rfl) B.len (zb (pv 0) zd)) (pB (zj (K:=K) rfl) B.len (zb (pv 1) zd)) (zP _))))) (zi (zG uL)) zV)
   (ze (zZ AC rfl (wZ (K:=K) rfl rfl B.zip (zb (pv 0) (zb (pv 1) zd))) (xQ (K:=K) (n:=2) rfl rfl (yf (pN (i:=2) sc.nd) (yf (pN (i:=3) sc.nd) xP))) (zi (yx (ui (wq (pF c_law_fits hr (zb (pv 2) (zb (pX (zw (K:=K) rfl) (pv 3) zg) (zb (pX (zw (K:=K) rfl) (pv 3) zg) zd)))))) (zi (zG uL)) zV)))
   (zi (zG uL)))),?_⟩
 have hN:=sc.n 4;obtain⟨xs,rfl,hl,hf,rfl⟩:=p;walk_at"run";refine uW (b:=!true || !decide ((xs.length:Int)=xs.length)) (U9 ∅ λ_=>zH (zbk (EvE.eq (ye (ds:=xs.map shD) ∅) (by rw[List.length_map])) (EvE.eq (ye (ds:=xs.map shD) ∅) (by rw[List.length_map])))) (by simp) ?_;refine yK false (λi Γ=>∃x y,Γ=[some (.fz false (shs xs)),some (.fz false (shs xs)),x,y]) (ul ∅) ⟨none,none,rfl⟩ ?_ ?_
 ·rintro i d Γ' hd ⟨x,y,rfl⟩;obtain⟨z,T,hz,hT,rfl⟩:=tM hd;rw[hz]at hT;cases hT;refine⟨_,egt #[0] #[0] ?_⟩
  exact wK (b:=!true) (tP (et_B (zm (ds:=[shD z,.int z.1,.int z.2]) ∅ ⟨z,rfl,hf z (ζf hz),rfl⟩))) (λh=>by cases h) λ_=>yj ⟨_,_,rfl⟩
 ·rintro Γ' ⟨x,y,rfl⟩;exact zR true ∅ rfl (.inl ⟨rfl,rfl⟩)
def ua(ds:AG)(G:AD→Prop):Prop:=∃(ns:AE) (m:Nat),ds=[il ns,.int m]∧ns.length≤63∧m≤16∧G=λd=>∃qs:List Rat,qs.length=m∧(∀q∈qs,Cq 249480 q)∧d=shs (qs.map rp)
theorem zfG(a1:1≤a)(a2:a≤99)(b1:1≤b)(b2:b≤9):∃q,Cq 249480 q∧mk a b=rp q:=by
 obtain⟨c,hc,hc2⟩:∃c:Int,b * c=2520∧1≤c∧c≤2520:=by
  have:b=1∨b=2∨b=3∨b=4∨b=5∨b=6∨b=7∨b=8∨b=9:=by omega
  rcases this with rfl | rfl | rfl | rfl | rfl | rfl | rfl | rfl | rfl
  ·exact⟨2520,#[2],#[2]⟩
  ·exact⟨1260,#[2],#[2]⟩
  ·exact⟨840,#[2],#[2]⟩
  ·exact⟨630,#[2],#[2]⟩
  ·exact⟨504,#[2],#[2]⟩
  ·exact⟨420,#[2],#[2]⟩
  ·exact⟨360,#[2],#[2]⟩
  ·exact⟨315,#[2],#[2]⟩
  ·exact⟨280,#[2],#[2]⟩
 have bne:(b:Rat)≠0:=λz=>by have:=Rat.intCast_inj.mp (z.trans Rat.intCast_zero.symm); omega
 refine⟨(a:Rat) / (b:Rat),⟨(a * c).toNat,?_,?_,?_⟩,Rq.zaL ⋯ (by grind)⟩
 ·have:=ξI (show 0 < a by omega) (show 0 < c by omega);omega
 ·have:=Int.mul_le_mul a2 hc2.2 ⋯ ⋯;omega
 ·have p:=ξI (show 0 < a by omega) (show 0 < c by omega);rw[ξf ⋯,←hc,Rat.intCast_mul,Rat.intCast_mul];grind
theorem Xf:zA ["_law_script","_law_many","_law_wide","_law_sheet_here","_law_k","_law_cell"] ["_law_script","_law_many"] (zn (top 60)):={}
theorem XA(F:Fun K "_law_sheet" "_law_sheet" (top 60) f fd)(B:Bs mg)(c_law_at:zt P w K mg base CX0 "_law_at" ["_law_script","_law_k"] 1 (spD K true zU))(c_law_low:zt P w K mg base CX0 "_law_low" ["_law_top","_law_bottom"] 2 (spD K true wf)):FnOk P w K mg base CX0 3 f fd ["_law_script","_law_many"] (spW K true ua):=by
 have sc:=Xf;refine F.ok sc (λvs H Q E h=>Ut (λ_ _⟨_,_,e,_⟩=>by rw[e];rfl) h) (λcdv A outer s H vs Q E hr h=>?_);obtain⟨Fh,ds,G,le,dp,p,q⟩:=h
 refine⟨_,(ze (pS (i:=2) sc.nd zg)
   (ze (yx (zu wg (zq yy (pF c_law_at hr (zb (pv 0) (zb zg zd))) zg) zg (zP _)) (zi (pS (i:=2) sc.nd zg)) zV)
   (ze (pS (i:=3) sc.nd (zQ zd))
   (ze (zZ AC rfl (yi rfl B.range (zb (pv 1) zd)) (pN (i:=4) sc.nd) (ze (pS (i:=5) sc.nd (pF c_law_at hr (zb (pv 0) (zb (zq yq zg (pv 4)) zd))))
   (zi (yg (yo (K:=K) rfl ζq ζE ζD zW (pv 3) (zb (pF c_law_low hr (zb (zq yq zg (zq yy (pv 5) (pv 2))) (zb (zq yq zg (zq yy (zq xH (pv 5) zg) zg)) zd))) zd))))))
   (zi (zG (pv 3))))))),?_⟩
 have hN:=sc.n 6;obtain⟨ns,m,rfl,h63,m16,rfl⟩:=p;have big:=zK;refine Wy le dp q hN (by walk_at"st") ?_;refine exs true (d:=.int 9) ∅ #[0] ?_;refine exif (b:=decide (zB ns 34 % 3=1)) (λΓ=>∃(x:Int),(1≤x∧x≤99)∧Γ=[some (.fz false (il ns)),some (.fz false (.int m)),some (.fz true (.int x)),none,none,none]) (zH (xM (yZ (zm ∅ (show zU [il ns,.int 34] _ from⟨ns,34,rfl,h63,⋯,rfl⟩)) ∅ #[2]) ∅)) (λ_=>exs1 true (d:=.int 99) ∅ #[0] ⟨99,#[2],rfl⟩) (λ_=>yj ⟨9,#[2],rfl⟩) ?_;rintro Γ' ⟨x,xb,rfl⟩;refine exo true (yc (ds:=[]) zD #[2]) #[0] ?_;refine yK (ds:=(List.range m).map λi:Nat=>.int (i:Int)) true (λi Γ=>∃(qs:List Rat) (u v:Option DV),(qs.length=i∧∀q∈qs,Cq 249480 q)∧Γ=[some (.fz false (il ns)),some (.fz false (.int m)),some (.fz true (.int x)),some (.ow true ((qs.map rp).map shD)),u,v]) (yQ (n:=(m:Int)) ∅ ⋯ ⋯) ⟨[],none,none,⟨rfl,λ_ h=>(nomatch h)⟩,rfl⟩ ?_ ?_
 ·rintro i d Γ' hd ⟨qs,u,v,⟨hl,hq⟩,rfl⟩;obtain⟨hi,rfl⟩:=yT hd;refine⟨_,egn #[0] ?_⟩
  refine exs true (d:=.int (zB ns (37 + i))) (zm ∅ (show zU [il ns,.int (37 + (i:Int))] _ from⟨ns,37 + i,by rw[ξB]; rfl,h63,⋯,rfl⟩)) #[0] ?_;generalize zB ns (37 + i)=c;have c1:=ζY c (show x≠0 by omega);have c2:=ζR c (show 0 < x by omega);obtain⟨q,cq,eq⟩:=zfG (a:=1 + c % x) (b:=1 + c / 1000 % 9) ⋯ ⋯ ⋯ ⋯;have gl:Int.gcd (1 + c % x) (1 + c / 1000 % 9) < 2 ^ 9000:=by
   have:Int.gcd (1 + c % x) (1 + c / 1000 % 9) < 2 ^ 4:=ξs (Nat.le_of_dvd ⋯ (Int.natCast_dvd_natCast.mp (by rw[Int.natAbs_of_nonneg ⋯]; exact ξk _ _)):Int.gcd (1 + c % x) (1 + c / 1000 % 9)≤(1 + c / 1000 % 9).natAbs) ⋯;exact ζA this (ξo #[2] #[2])
  refine exa1 (d:=shD (rp q)) #[1] (EvE.eq (zm (ds:=[.int (1 + c % x),.int (1 + c / 1000 % 9)]) (zh (xC ∅ (yZ ∅ ∅ ⋯)) (zh (xC ∅ (yZ (xI ∅ ∅ ⟨#[2],#[2]⟩) ∅ #[2])) zD)) ⟨_,_,rfl,⋯,gl,rfl⟩) (congrArg shD eq)) #[0] (by rw[ζa,ζa]; omega) ⟨qs ++ [q],_,_,⟨by rw[ζg,hl]; rfl,λy hy=>?_⟩,by rw[ζy,ζy]; rfl⟩;rcases ζw.mp hy with h | h
  ·exact hq y h
  ·rw[ζk.mp h]; exact cq
 ·rintro Γ' ⟨qs,u,v,⟨hl,hq⟩,rfl⟩;rw[yS]at hl;exact exro #[1] ⟨qs,hl,hq,rfl⟩ (.inl ⟨rfl,rfl⟩)
def wt(ds:AG)(d:AD):Prop:=∃(n:Nat) (cs:AI) (f:AE),ds=[nls cs]∧OrdS n cs∧grd cs n (rgI n)=some f∧d=il f
theorem TK(nd:L.Nodup)(x:Int):rm x L=L.filter λy=>!decide (y=x):=by
 by_cases h:x∈L
 ·have hl:=ζV.mpr h;have e:L=L.take (L.idxOf x) ++ x :: L.drop (L.idxOf x + 1):=by
   have z:=ζ0 (L.idxOf x) L;rw[ξp hl,ξL hl]at z;exact z.symm
  have nd2:=nd;rw[e]at nd2;have⟨_,n2,n3⟩:=ζ4.mp nd2;have⟨n4,_⟩:=ζ5.mp n2;unfold rm
  conv=>rhs; rw[e]
  rw[List.filter_append,List.filter_cons_of_neg (by simp),List.filter_eq_self.mpr,List.filter_eq_self.mpr]
  ·intro y hy;have:y≠x:=λz=>n4 (z ▸ hy);simp[this]
  ·intro y hy;have:y≠x:=λz=>n3 y hy x ζi z;simp[this]
 ·have e1:L.idxOf x=L.length:=List.idxOf_eq_length h;unfold rm;rw[e1,ζ3,List.drop_eq_nil_of_le ⋯,ζQ];refine(List.filter_eq_self.mpr λy hy=>?_).symm;have:y≠x:=λz=>h (z ▸ hy);simp[this]
theorem zcR{n:Nat}{cs:AI}(ok:ShOk n cs){od:AE}{k:Nat}(hk:k < n):(decide ((k:Int)∈(rgI n).filter λx=>!decide (x∈od)) && rdP cs ((rgI n).filter λx=>!decide (x∈od)) (k:Int))=((!decide ((k:Int)∈od)) && decide (((((zl (cs.getD k [])).filter λj=>!decide (j∈od)).length:Nat):Int)=0)):=by
 have m1:decide ((k:Int)∈(rgI n).filter λx=>!decide (x∈od))=!decide ((k:Int)∈od):=by
  by_cases h:(k:Int)∈od
  ·rw[decide_eq_true h,decide_eq_false λz=>?_]; rfl;have:=(ζl.mp z).2;rw[decide_eq_true h]at this;cases this
  ·rw[decide_eq_false h,decide_eq_true (ζl.mpr ⟨vO.mpr ⟨⋯,⋯⟩,by rw[decide_eq_false h]; rfl⟩)]; rfl
 rw[m1];congr 1;unfold rdP;rw[ζI];have row:=(ok.e _ (ζf (zE (l:=cs) (k:=k) (d:=[]) (by rw[ok.l]; exact hk)))).1;by_cases c:((zl (cs.getD k [])).filter λj=>!decide (j∈od))=[]
 ·rw[c,show decide (((([]:AE).length:Nat):Int)=0)=true from rfl,Bool.not_eq_true',List.any_eq_false];intro x hx;have:=List.filter_eq_nil_iff.mp c x hx;have xo:x∈od:=by simpa using this
  simp[xo]
 ·have:¬((((zl (cs.getD k [])).filter λj=>!decide (j∈od)).length:Nat):Int)=0:=λz=>c (ξe.mp ⋯);rw[decide_eq_false this,Bool.not_eq_false',ξD];obtain⟨x,hx⟩:=List.exists_mem_of_ne_nil _ c;have⟨h1,h2⟩:=ζl.mp hx;obtain⟨x',hx',rfl⟩:=ζn.mp h1;have xl:=row x' hx';exact⟨_,h1,decide_eq_true (ζl.mpr ⟨vO.mpr ⟨⋯,⋯⟩,h2⟩)⟩
theorem Xi:zA ["_law_causes","_law_order_here","_law_step_here","_law_free"] ["_law_causes"] (zn (top 56)):={}
theorem XD(F:Fun K "_law_order" "_law_order" (top 56) f fd)(B:Bs mg): FnOk P w K mg base CX0 1 f fd ["_law_causes"] (spD K true wt):=by
 have sc:=Xi;refine F.ok sc (λvs H Q E h=>zI (λ_ _⟨_,_,_,e,_⟩=>by rw[e];rfl) h) (λcdv A outer s H vs Q E hr h=>?_);obtain⟨Fh,ds,d,le,dp,p,q⟩:=h
 refine⟨_,(ze (pS (i:=1) sc.nd (zQ zd))
   (ze (zZ AC rfl (zJ (K:=K) rfl (pv 0)) (pN (i:=2) sc.nd) (ze (yX (i:=3) rfl sc.nd rfl rfl (N:=["_law_k","_law_order_here","_law_causes"]) (js:=[none,some 1,some 0]) (by walk_at"comp_ok") (yi rfl B.range (zb (pB (zj (K:=K) rfl) B.len (zb (pv 0) zd)) zd)) (λ_ _ _ _=>(pN (i:=0) (show υN ["_law_k","_law_order_here","_law_causes"]by decide +kernel))) (λ_ _ _ _=>(yn (PW.pt (vt (zu (ya (K:=K) rfl) (pv 0) (pv 1) (rfl)) (wU (zu wg (pB (zj (K:=K) rfl) B.len (zb (yl rfl (N:=["_law_j","_law_order_here"]) (js:=[none,some 1]) (by walk_at"comp_ok") (zJ (K:=K) rfl (pX (zv (K:=K) rfl) (pv 2) (pv 0))) (λ_ _ _ _=>(pN (i:=0) (show υN ["_law_j","_law_order_here"]by decide +kernel))) (λ_ _ _ _=>(yn (zu (ya (K:=K) rfl) (pv 0) (pv 1) (rfl)))) (λ_ _ _ _=>(pv 0))) zd)) zg (zP _))))))) (λ_ _ _ _=>(pv 0)))
   (zi (yg (yo (K:=K) rfl ζq ζE ζD zW (pv 1) (zb (pX (zv (K:=K) rfl) (pv 3) zg) zd))))))
   (zi (zG (pv 1))))),?_⟩
 have hN:=sc.n 4;obtain⟨n,cs,f,rfl,⟨ok,n12⟩,hg,rfl⟩:=p;have big:=zK;have cl:=ok.l;walk_at"run";refine exo true (ds:=[]) (yc (ds:=[]) zD #[2]) #[0] ?_;refine yK (ds:=cs.map nl) false (λi Γ=>∃(fd rs:AE) (x y:Option DV),Γ=[some (.fz false (nls cs)),some (.ow true (fd.map .int)),x,y]∧fd.length=i∧grd cs (n - i) ((rgI n).filter λx=>!decide (x∈fd))=some rs∧fd ++ rs=f) (zO ∅) ⟨[],f,none,none,rfl,rfl,by rw[Nat.sub_zero,List.filter_eq_self.mpr (λx _=>by simp)]; exact hg,rfl⟩ ?_ ?_
 ·rintro i d Γ' hd ⟨fd,rs,x,y,rfl,hl,hg',hf⟩;obtain⟨r,hr',rfl⟩:=yP hd;have hi:=(ζh.mp hr').1;rw[cl]at hi;obtain⟨m,em⟩:∃m,n - i=m + 1:=⟨n - i - 1,⋯⟩
  rw[em]at hg';have ndr:((rgI n).filter λx=>!decide (x∈fd)).Nodup:=(zdC zad).sublist ζK;cases er:((rgI n).filter λx=>!decide (x∈fd)).filter (rdP cs ((rgI n).filter λx=>!decide (x∈fd)))with
  | nil=>rw[XR er]at hg'; cases hg'
  | cons z zs =>
   rw[uR er]at hg';obtain⟨rs',hg2,rfl⟩:=ξi.mp hg';refine⟨_,egn #[0] ?_⟩
   have ef:((List.range n).filter λk:Nat=>(!decide ((k:Int)∈fd)) && decide (((((zl (cs.getD k [])).filter λj=>!decide (j∈fd)).length:Nat):Int)=0)).map (λk:Nat=>PyData.int (k:Int))=(z :: zs).map .int:=by
    rw[←er,List.filter_filter]
    conv=>rhs; unfold rgI zl; rw[List.filter_map,List.map_map]
    refine congrArg _ (ξH λk hk=>?_);have hk:=ζG.mp hk;rw[←zcR ok hk,Bool.and_comm];congr 1;show _=!decide ((k:Int)∈fd);by_cases h:(k:Int)∈fd
    ·rw[decide_eq_true h,decide_eq_false λz=>?_]; rfl;have:=(ζl.mp z).2;rw[decide_eq_true h]at this;cases this
    ·rw[decide_eq_false h,decide_eq_true (ζl.mpr ⟨vO.mpr ⟨⋯,⋯⟩,by rw[decide_eq_false h]; rfl⟩)]; rfl
   refine exs true (d:=il (z :: zs)) (EvO.toE (EvO.eq (W9 1 #[1] #[0] (zY (κ:=true) (is:=[0]) (xs:=List.range n) false (λk:Nat=>.int (k:Int)) (λk:Nat=>.int (k:Int)) (λk:Nat=>(!decide ((k:Int)∈fd)) && decide (((((zl (cs.getD k [])).filter λj=>!decide (j∈fd)).length:Nat):Int)=0)) (λx _ y _ h=>by cases xk h; exact⟨rfl,rfl⟩) (yQ (n:=(n:Int)) (zh (EvE.eq (ye (ds:=cs.map nl) ∅) (by rw[ζa,cl])) zD) ⋯ ⋯) (by walk_at"cc") rfl #[2] (by rw[ζv]; omega) ?_) (wv _)) ef)) #[0] ?_
   ·intro k hk;have hk:=ζG.mp hk;have row:=ok.e _ (ζf (zE (l:=cs) (k:=k) (d:=[]) (by rw[cl]; exact hk)));have ak:atI (cs.map nl) (k:Int)=some (nl (cs.getD k [])):=yB (zE (by rw[cl]; exact hk));have rl:=row.2;refine egn #[0] ⟨ww (zH (yC (neg:=true) (i:=(k:Int)) (ns:=fd) ∅ (EvE.toL (κ:=false) ∅))) λ_=>zH (xM (EvE.eq (ye (ds:=((zl (cs.getD k [])).filter λj=>!decide (j∈fd)).map PyData.int) (EvO.toL (zY (κ:=false) (is:=[0]) (xs:=zl (cs.getD k [])) false PyData.int PyData.int (λj=>!decide (j∈fd)) (λx _ y _ h=>by cases h; exact⟨rfl,rfl⟩) (zO (EvE.eq (zS (κ:=false) ∅ ∅ ak) (yt _))) (by walk_at"cc") rfl #[2] (by rw[wN]; omega) λj _=>egn #[0] ⟨zH (yC (neg:=true) (i:=j) (ns:=fd) ∅ (EvE.toL (κ:=false) ∅)),λ_=>by walk_at"ev"⟩))) (by rw[ζa])) ∅),λ_=>by walk_at"ev"⟩
   have a0:atI ((z :: zs).map PyData.int) 0=some (.int z):=atI0;refine exa1 (d:=.int z) #[1] (zS ∅ ∅ a0) #[0] (by rw[ζa]; omega) ⟨fd ++ [z],rs',_,_,by rw[ζy]; rfl,by rw[ζg,hl]; rfl,?_,by rw[ξY]; exact hf⟩;rw[show n - (i + 1)=m by omega];rw[TK ndr,List.filter_filter]at hg2;rw[←hg2];congr 1;refine ξH λy _=>?_;by_cases h1:y=z
   ·subst h1; simp
   ·simp[h1]
 ·rintro Γ' ⟨fd,rs,x,y,rfl,hl,hg',hf⟩;rw[ζa,cl,ξ6]at hg';obtain rfl:rs=[]:=(ζr hg').symm;rw[ζQ]at hf;refine exro #[1] ?_ (.inl ⟨rfl,rfl⟩);rw[hf]
theorem zcI(h1:Low a b)(h2:Low c d)(hd:d.natAbs < 2 ^ n):Int.gcd (a * d + b * c) (b * d) < 2 ^ (n + n):=by
 have b0:0 < b:=h1.pos;have d0:0 < d:=h2.pos;have pa:=VG h1 h2;have bd0:0 < b * d:=ξI b0 d0;have e:=El.UQ pa.1 bd0 pa.2;have e2:(pl a b c d).2=b * d / ((Int.gcd (a * d + b * c) (b * d):Nat):Int):=congrArg Prod.snd e;have e3:(pl a b c d).2=(b / ((Int.gcd b d:Nat):Int)) * (d / ((Int.gcd (a * (d / ((Int.gcd b d:Nat):Int)) + c * (b / ((Int.gcd b d:Nat):Int))) ((Int.gcd b d:Nat):Int):Nat):Int)):=rfl;have g1:=uS (a:=b) (show 1≤d by omega);have G:Int.gcd b d < 2 ^ n:=by
  have:=dn (VW (a:=b) (show 1≤d by omega)) hd;simpa using this
 generalize hr:Int.gcd (a * (d / ((Int.gcd b d:Nat):Int)) + c * (b / ((Int.gcd b d:Nat):Int))) ((Int.gcd b d:Nat):Int)=r at e3;have rd:(r:Int) ∣ ((Int.gcd b d:Nat):Int):=by rw[←hr]; exact ξk _ _
 have rg:r≤Int.gcd b d:=Nat.le_of_dvd ⋯ (Int.natCast_dvd_natCast.mp rd);have eb:b / ((Int.gcd b d:Nat):Int) * ((Int.gcd b d:Nat):Int)=b:=Int.ediv_mul_cancel (ξ4 b d);have ed:d / (r:Int) * (r:Int)=d:=Int.ediv_mul_cancel (Int.dvd_trans rd (ξk b d));have ex:b * d / ((Int.gcd (a * d + b * c) (b * d):Nat):Int) * ((Int.gcd (a * d + b * c) (b * d):Nat):Int)=b * d:=Int.ediv_mul_cancel (ξk _ _);rw[←e2,e3]at ex;generalize b / ((Int.gcd b d:Nat):Int)=u at *;generalize d / (r:Int)=v at *;generalize Int.gcd (a * d + b * c) (b * d)=x at *;generalize Int.gcd b d=g at *;have uv:u * v≠0:=λz=>by rw[z,Int.zero_mul]at ex; omega
 have key:(x:Int)=(g:Int) * (r:Int):=by
  refine Int.eq_of_mul_eq_mul_left uv ?_;rw[ex,←eb,←ed];grind
 have xn:x=g * r:=by rw[←ξA]at key; exact Int.ofNat.inj key
 rw[xn];exact Rq.xY G ⋯
def ky(ps:AF)(w:AE):AE:=((List.range w.length).filter λk=>!decide (k∈ps)).map λk=>w.getD k 0
def sumK(ps:AF)(zs:List (AE×Rat))(κ:AE):Rat:=((zs.filter λx=>decide (ky ps x.1=κ)).map (·.2)).sum
def tabK(ps:AF)(zs:List (AE×Rat))(κ:AE):Option AD:=if(zs.filter λx=>decide (ky ps x.1=κ))=[]then none else some (shD (rp (sumK ps zs κ)))
theorem Yo(ps:AF)(zs:List (AE×Rat))(z:AE×Rat)(κ:AE):sumK ps (zs ++ [z]) κ=if κ=ky ps z.1 then sumK ps zs κ + z.2 else sumK ps zs κ:=by
 unfold sumK;rw[ζW,ζy,Rq.VD];by_cases h:κ=ky ps z.1
 ·rw[if_pos h,List.filter_cons_of_pos (by simp[h])];show _ + (z.2 + 0)=_;rw[Rat.add_zero]
 ·rw[if_neg h,List.filter_cons_of_neg (by simpa using λe:ky ps z.1=κ=>h e.symm)];exact Rat.add_zero _
theorem Tt(ps:AF)(zs:List (AE×Rat))(z:AE×Rat):tabK ps (zs ++ [z])=λk=>if k=ky ps z.1 then some (shD (rp (sumK ps zs (ky ps z.1) + z.2)))else tabK ps zs k:=by
 funext κ;unfold tabK;rw[Yo,ζW];by_cases h:κ=ky ps z.1
 ·rw[if_pos h,if_pos h,if_neg,h];rw[List.filter_cons_of_pos (by simp[h])];exact λe=>(List.append_ne_nil_of_right_ne_nil _ (List.cons_ne_nil _ _)) e
 ·rw[if_neg h,if_neg h,List.filter_cons_of_neg (by simpa using λe:ky ps z.1=κ=>h e.symm),List.filter_nil,List.append_nil]
theorem QS(ps:AF)(zs:List (AE×Rat))(κ:AE):(tabK ps zs κ).getD (.tuple [.int 0,.int 1])=shD (rp (sumK ps zs κ)):=by
 unfold tabK;split
 ·rename_i h;unfold sumK;rw[h];rfl
 ·rfl
theorem Tu(κ:AE):∀(zs:List (AE×Rat)),(∀z∈zs,Bq b z.2)→(sumK ps zs κ=0∨Bq ((b + 1) * zs.length) (sumK ps zs κ)):=by
 have key:∀(n:Nat) (zs:List (AE×Rat)),zs.length=n→(∀z∈zs,Bq b z.2)→(sumK ps zs κ=0∨Bq ((b + 1) * n) (sumK ps zs κ)):=by
  intro n;induction n with
  | zero =>
   intro zs h _;have:zs=[]:=ζU h;subst this;exact .inl rfl
  | succ n ih =>
   intro zs h hb;obtain⟨t,z,rfl⟩:∃t s,zs=t ++ [s]:=⟨zs.dropLast,zs.getLast (by intro e; rw[e]at h; cases h),(ζ6 _).symm⟩
   have hl:t.length=n:=by rw[List.length_append]at h; simpa using h
   have i:=ih t hl λy hy=>hb y (ζS _ hy);have bz:=hb z (by simp);rw[Yo];split
   ·rcases i with i | i
    ·right;rw[i,Rat.zero_add];exact bz.up (by rw[Nat.mul_succ]; omega)
    ·right;exact(i.add bz).up (by rw[Nat.mul_succ]; omega)
   ·rcases i with i | i
    ·exact .inl i
    ·exact .inr (i.up (by rw[Nat.mul_succ]; omega))
 exact λzs=>key zs.length zs rfl
def wX(ds:AG)(d:AD):Prop:=∃(ws:AH) (qs:List Rat) (ps:AF) (b:Nat),ds=[lls ws,shs (qs.map rp),nl ps]∧ws.length≤16∧qs.length=ws.length∧(∀w∈ws,w.length≤10)∧ps.length≤10∧(∀q∈qs,Bq b q)∧b≤4480∧d=shs ((ws.map λw=>sumK ps (ws.zip qs) (ky ps w)).map rp)
theorem zcf(h:q=0∨Bq n q)(hn:1≤n):(rp q).1.natAbs < 2 ^ n∧(rp q).2.natAbs < 2 ^ n:=by
 rcases h with rfl | h
 ·have:2 ^ 1≤2 ^ n:=ξo #[2] hn;exact⟨by show 0 < _; omega,by show 1 < _; omega⟩
 ·exact⟨h.bits.2.1,h.bits.2.2⟩
theorem Ws:zA ["_law_some","_law_shares","_law_places","_law_keyed","_law_world","_law_one","_law_key","_law_ahead","_law_found"] ["_law_some","_law_shares","_law_places"] (zn (top 55)):={}
theorem WR(F:Fun K "_law_sums" "_law_sums" (top 55) f fd)(B:Bs mg)(c_law_low:zt P w K mg base CX0 "_law_low" ["_law_top","_law_bottom"] 2 (spD K true wf)):FnOk P w K mg base CX0 3 f fd ["_law_some","_law_shares","_law_places"] (spD K true wX):=by
 have sc:=Ws;refine F.ok sc (λvs H Q E h=>zI (λ_ _⟨_,_,_,_,e,_⟩=>by rw[e];rfl) h) (λcdv A outer s H vs Q E hr h=>?_);obtain⟨Fh,ds,d,le,dp,p,q⟩:=h
 refine⟨_,(ze (pS (i:=3) sc.nd zaw)
   (ze (zZ AC rfl (wZ (K:=K) rfl rfl B.zip (zb (pv 0) (zb (pv 1) zd))) (xQ (K:=K) (n:=2) rfl rfl (yf (pN (i:=4) sc.nd) (yf (pN (i:=5) sc.nd) xP))) (ze (pS (i:=6) sc.nd (pY (vI (K:=K) rfl) B.tuple (zb (yl rfl (N:=["_law_k","_law_world","_law_places"]) (js:=[none,some 4,some 2]) (by walk_at"comp_ok") (yi rfl B.range (zb (pB (zj (K:=K) rfl) B.len (zb (pv 4) zd)) zd)) (λ_ _ _ _=>(pN (i:=0) (show υN ["_law_k","_law_world","_law_places"]by decide +kernel))) (λ_ _ _ _=>(yn (zu (ya (K:=K) rfl) (pv 0) (pv 2) (rfl)))) (λ_ _ _ _=>(pX (zv (K:=K) rfl) (pv 1) (pv 0)))) zd)))
   (ze (pS (i:=7) sc.nd (zay (YG hr) (pv 3) (pv 6) (yN (zb zg (zb zg zd))) ⟨rfl,rfl,rfl,rfl⟩))
   (zi (UE (YG hr) (pv 3) (pv 6) (pF c_law_low hr (zb (zq yq (zq ym (pX (zw (K:=K) rfl) (pv 7) zg) (pX (zw (K:=K) rfl) (pv 5) zg)) (zq ym (pX (zw (K:=K) rfl) (pv 5) zg) (pX (zw (K:=K) rfl) (pv 7) zg))) (zb (zq ym (pX (zw (K:=K) rfl) (pv 7) zg) (pX (zw (K:=K) rfl) (pv 5) zg)) zd))) rfl)))))
   (ze (pS (i:=8) sc.nd (zQ zd))
   (ze (zZ AC rfl (zJ (K:=K) rfl (pv 0)) (pN (i:=4) sc.nd) (zi (yg (yo (K:=K) rfl ζq ζE ζD zW (pv 8) (zb (zcs (YG hr) (pv 3) (pY (vI (K:=K) rfl) B.tuple (zb (yl rfl (N:=["_law_k","_law_world","_law_places"]) (js:=[none,some 4,some 2]) (by walk_at"comp_ok") (yi rfl B.range (zb (pB (zj (K:=K) rfl) B.len (zb (pv 4) zd)) zd)) (λ_ _ _ _=>(pN (i:=0) (show υN ["_law_k","_law_world","_law_places"]by decide +kernel))) (λ_ _ _ _=>(yn (zu (ya (K:=K) rfl) (pv 0) (pv 2) (rfl)))) (λ_ _ _ _=>(pX (zv (K:=K) rfl) (pv 1) (pv 0)))) zd)) (λ_ _=>rfl)) zd)))))
   (zi (zG (pv 8))))))),?_⟩
 have hN:=sc.n 9;obtain⟨ws,qs,ps,b,rfl,wl,ql,hw,pl',hq,hb,rfl⟩:=p;have big:=zK;have kyE:∀(w:AE),((List.range w.length).filter λk=>!decide (k∈ps)).map (λk:Nat=>PyData.int (w.getD k 0))=(ky ps w).map .int:=λw=>by
  unfold ky;rw[ζx];rfl
 walk_at"run";refine zcU #[0] ?_;refine yK (ds:=List.zipWith (λx y=>.tuple [x,y]) (ws.map il) (qs.map λq=>shD (rp q))) false (λi Γ=>∃(n:Nat) (x y z u:Option DV),n≤i∧Γ=[some (.fz false (lls ws)),some (.fz false (shs (qs.map rp))),some (.fz false (nl ps)),some (hT K (tabK ps ((ws.zip qs).take i)) n),x,y,z,u,none]) (EvI.eq (ul (xs:=ws.map il) (ys:=(qs.map rp).map shD) ∅) (by rw[ζx]; rfl)) ⟨0,none,none,none,none,ζj _,by rw[ζX]; rfl⟩ ?_ ?_
 ·rintro i d Γ' hd ⟨n,x,y,z,u,ni,rfl⟩;obtain⟨w,q,hw',hq',rfl⟩:=tM hd;have wm:=ζf hw';have qm:=ζf hq';have il':=(ζh.mp hw').1;have w10:=hw w wm;have hz:(ws.zip qs)[i]?=some (w,q):=by
   obtain⟨h1,h2⟩:=ζh.mp hw';obtain⟨h3,h4⟩:=ζh.mp hq';rw[ζd (by rw[ξu]; omega),List.getElem_zip,h2,h4]
  refine⟨_,egt #[0] #[0] ?_⟩
  refine zcS (ks:=ky ps w) (EvO.toL (EvO.eq (zY (κ:=false) (is:=[0]) (xs:=List.range w.length) false (λk:Nat=>.int (k:Int)) (λk:Nat=>.int (w.getD k 0)) (λk=>!decide (k∈ps)) (λp _ q _ h=>by cases xk h; exact⟨rfl,rfl⟩) (yQ (n:=(w.length:Int)) (zh (EvE.eq (ye (ds:=w.map PyData.int) ∅) (by rw[ζa])) zD) ⋯ ⋯) (by walk_at"cc") rfl #[2] (by rw[ζv]; omega) ?_) (kyE w))) #[0] ?_
  ·intro k hk;have hk:=ζG.mp hk;exact egn #[0] ⟨EvT.eq (zH (yC (neg:=true) (i:=(k:Int)) (ns:=zl ps) ∅ (EvE.toL (κ:=false) (EvE.eq ∅ (yt ps))))) (by rw[←yJ]; rfl),λ_=>zS (κ:=false) ∅ ∅ (tf hk)⟩
  have bits:=Tu (ps:=ps) (ky ps w) ((ws.zip qs).take i) λz hz=>hq _ (List.of_mem_zip (ζ7 hz)).2;have rb:=zcf (n:=100000) (bits.imp id λh=>h.up (by
   rw[ζJ];have:(b + 1) * min i (ws.zip qs).length≤4481 * 16:=Nat.mul_le_mul ⋯ ⋯;omega)) #[2]
  have qb:=hq q qm;have eg:=QS ps ((ws.zip qs).take i) (ky ps w);have es:=Tt ps ((ws.zip qs).take i) (w,q);generalize sumK ps ((ws.zip qs).take i) (ky ps w)=A at bits rb eg es;refine exs true (d:=shD (rp A)) (EvE.eq (zc1 (d0:=.tuple [.int 0,.int 1]) #[1] #[1] ∅ (by rw[eg]; rfl)) eg) #[0] ?_;have q1:(rp q).1.natAbs < 2 ^ 4480:=up qb.bits.2.1 hb;have q2:(rp q).2.natAbs < 2 ^ 4480:=up (a:=((q.den:Nat):Int)) qb.bits.2.2 hb;have m1:IntMulOk (rp A).1 (rp q).2:=wH rb.1 q2 ⋯;have m2:IntMulOk (rp q).1 (rp A).2:=wH q1 rb.2 ⋯;have m3:IntMulOk (rp A).2 (rp q).2:=wH rb.2 q2 ⋯;have dp1:0 < (rp A).2 * (rp q).2:=ξI (Rq.xc A).pos (Rq.xc q).pos;have em:mk ((rp A).1 * (rp q).2 + (rp q).1 * (rp A).2) ((rp A).2 * (rp q).2)=rp (A + q):=by
   refine Rq.zaL dp1 ?_;have d1:=Rq.xw A;have d2:=Rq.xw q;show(A + q) * (((A.den:Int) * (q.den:Int):Int):Rat)=((A.num * (q.den:Int) + q.num * (A.den:Int):Int):Rat);rw[Rat.intCast_mul,Rat.intCast_add,Rat.intCast_mul,Rat.intCast_mul];grind
  have gl:Int.gcd ((rp A).1 * (rp q).2 + (rp q).1 * (rp A).2) ((rp A).2 * (rp q).2) < 2 ^ 9000:=by
   have:=zcI (Rq.xc A) (Rq.xc q) q2;rw[ξb (rp q).1];exact ζA this (ξo #[2] #[2])
  refine zcT (ks:=ky ps w) (d:=shD (rp (A + q))) #[1] #[1] (EvE.eq (zm (ds:=[.int ((rp A).1 * (rp q).2 + (rp q).1 * (rp A).2),.int ((rp A).2 * (rp q).2)]) ∅ ⟨_,_,rfl,⋯,gl,rfl⟩) (congrArg shD em)) ⋯ #[0] ?_;show∃n x y z u,_;rw[take_succ hz,es];exact⟨n + 1,_,_,_,_,⋯,rfl⟩
 ·rintro Γ' ⟨n,x,y,z,u,ni,rfl⟩;rw[ξw,ζa,ζa,ql,Nat.min_self,ζB (by rw[ξu]; omega)];refine exo true (yc (ds:=[]) zD #[2]) #[0] ?_;refine yK (ds:=ws.map il) false (λi Γ=>∃(x:Option DV),Γ=[some (.fz false (lls ws)),some (.fz false (shs (qs.map rp))),some (.fz false (nl ps)),some (hT K (tabK ps (ws.zip qs)) n),x,y,z,u,some (.ow true (((ws.take i).map λw=>sumK ps (ws.zip qs) (ky ps w)).map λq=>shD (rp q)))]) (zO ∅) ⟨_,by rw[ζX]; rfl⟩ ?_ ?_
  ·rintro i d Γ' hd ⟨x,rfl⟩;obtain⟨w,hw',rfl⟩:=yP hd;have wm:=ζf hw';have il':=(ζh.mp hw').1;have w10:=hw w wm;have ne:((ws.zip qs).filter λx=>decide (ky ps x.1=ky ps w))≠[]:=λe=>by
    have hz:(ws.zip qs)[i]?=some (w,qs[i]'⋯):=by
     rw[ζd (by rw[ξu]; omega),List.getElem_zip,(ζh.mp hw').2]
    have:=List.filter_eq_nil_iff.mp e _ (ζf hz);exact this (decide_eq_true rfl)
   have eg:tabK ps (ws.zip qs) (ky ps w)=some (shD (rp (sumK ps (ws.zip qs) (ky ps w)))):=by unfold tabK; rw[if_neg ne]
   refine⟨_,egn #[0] ?_⟩
   refine exa1 (d:=shD (rp (sumK ps (ws.zip qs) (ky ps w)))) #[1] (zeL (ks:=ky ps w) #[1] (EvO.toL (EvO.eq (zY (κ:=false) (is:=[0]) (xs:=List.range w.length) false (λk:Nat=>.int (k:Int)) (λk:Nat=>.int (w.getD k 0)) (λk=>!decide (k∈ps)) (λp _ q _ h=>by cases xk h; exact⟨rfl,rfl⟩) (yQ (n:=(w.length:Int)) (zh (EvE.eq (ye (ds:=w.map PyData.int) ∅) (by rw[ζa])) zD) ⋯ ⋯) (by walk_at"cc") rfl #[2] (by rw[ζv]; omega) ?_) (kyE w))) eg rfl) #[0] (by rw[ζa,ζa,ζJ]; omega) ?_
   ·intro k hk;have hk:=ζG.mp hk;exact egn #[0] ⟨EvT.eq (zH (yC (neg:=true) (i:=(k:Int)) (ns:=zl ps) ∅ (EvE.toL (κ:=false) (EvE.eq ∅ (yt ps))))) (by rw[←yJ]; rfl),λ_=>zS (κ:=false) ∅ ∅ (tf hk)⟩
   ·show∃x,_;rw[take_succ hw',ζy,ζy];exact⟨_,rfl⟩
  ·rintro Γ' ⟨x,rfl⟩;refine exro #[1] ?_ (.inl ⟨rfl,rfl⟩);rw[ζa,ζ3];show PyData.list _=.list _;simp only[List.map_map,Function.comp_def]
def tq(ss:AE)(U:AF)(f:El.Asg→Rat):List Rat:=(wds (pk ss U)).map λw=>f (El.asg U w)
def Dep(U:AF)(f:El.Asg→Rat):Prop:=∀a b:El.Asg,(∀j∈U,a j=b j)→f a=f b
theorem ze5{ss:AE}{U ps:AF}(nd:U.Nodup){w w0:AE}(hw:w∈wds (pk ss U))(h0:w0∈wds (pk ss U)):Rq.agr (λk=>decide (U.idxOf k∈ps)) (El.asg U w0) U w=decide (ky ps w=ky ps w0):=by
 have l1:=Rq.Zp hw;have l2:=Rq.Zp h0;have iff:Rq.agr (λk=>decide (U.idxOf k∈ps)) (El.asg U w0) U w=true↔ky ps w=ky ps w0:=by
  unfold ky;rw[←l1,←l2,List.map_inj_left];unfold Rq.agr;rw[ξJ];constructor
  ·intro h k hk;have⟨k1,k2⟩:=ζl.mp hk;have k1:=ζG.mp k1;have z:=h (U[k],w[k]'⋯) (ξF.mpr ⟨k,by rw[ξu]; omega,List.getElem_zip ..⟩);have ik:U.idxOf U[k]=k:=nd.idxOf_getElem k k1;have kp:k∉ps:=by simpa using k2
   rcases(Bool.or_eq_true _ _).mp z with z | z
   ·have:=of_decide_eq_true z;rw[ik]at this;exact absurd this kp
   ·have z:w[k]=El.asg U w0 U[k]:=of_decide_eq_true z;rw[El.xz U w0 _ (ξa k1),ik]at z;rw[ζb,ζd ⋯];exact z
  ·intro h x hx;obtain⟨i,hi,rfl⟩:=ξF.mp hx;rw[ξu]at hi;rw[List.getElem_zip];have i1:i < U.length:=by omega
   have ik:U.idxOf U[i]=i:=nd.idxOf_getElem i i1;by_cases c:i∈ps
   ·exact(Bool.or_eq_true _ _).mpr (.inl (decide_eq_true (show U.idxOf U[i]∈ps by rw[ik]; exact c)))
   ·have z:=h i (List.mem_filter.mpr ⟨List.mem_range.mpr i1,by simpa using c⟩);rw[ζb,ζd ⋯]at z;refine(Bool.or_eq_true _ _).mpr (.inr (decide_eq_true ?_));show w[i]=El.asg U w0 U[i];rw[El.xz U w0 _ (ξa i1),ik];exact z
 by_cases c:ky ps w=ky ps w0
 ·rw[decide_eq_true c]; exact iff.mpr c
 ·rw[decide_eq_false c];cases e:Rq.agr (λk=>decide (U.idxOf k∈ps)) (El.asg U w0) U w with
  | false=>rfl
  | true=>exact absurd (iff.mp e) c
theorem Wl{ss:AE}{U ps:AF}{f:El.Asg→Rat}(s7:S7 ss)(sz:SzOk ss U)(nd:U.Nodup)(dep:Dep U f):((wds (pk ss U)).map λw=>sumK ps ((wds (pk ss U)).zip (tq ss U f)) (ky ps w))=tq ss U (Sq ss (U.filter λk=>decide (U.idxOf k∈ps)) f):=by
 refine ζs λw0 h0=>?_;have rngs:∀k∈U,0≤El.asg U w0 k∧El.asg U w0 k < ss.getD k 0:=λk hk=>by
  rw[El.xz U w0 k hk];have V:=v_at sz nd h0 hk;exact⟨V.2.1,V.2.2.1⟩
 rw[←Rq.zdi (λk=>decide (U.idxOf k∈ps)) (El.asg U w0) U.length U f rfl nd rngs];have ez:(wds (pk ss U)).zip (tq ss U f)=(wds (pk ss U)).map λw=>(w,f (El.asg U w)):=by
  unfold tq;generalize wds (pk ss U)=l;induction l with
  | nil=>rfl
  | cons x r ih=>rw[ζH,List.zip_cons_cons,ih,ζH]
 unfold sumK;rw[ez,Rq.zdz,ζx];congr 1;refine ζs λw hw=>?_;show(if decide (ky ps w=ky ps w0)=true then f (El.asg U w)else 0)=_;rw[←ze5 nd hw h0];have e:f (El.asg U w)=f (Rq.asn (El.asg U w0) U w):=dep _ _ λj hj=>by rw[El.xz U w j hj,Rq.Tn U w _ nd hj (Rq.Zp hw)]
 rw[e]
theorem xA(ss:AE)(U:AF)(f:El.Asg→Rat):(tq ss U f).length=(wds (pk ss U)).length:=ζa ..
structure LCo(ss:AE)(s:Qs)(U:AF)(l cl:AF)(R bi:Nat):Prop where
 c:CSo ss s l cl R
 lb:∀i,i < l.length→∀a,Bq bi (Sl ss (l.take i) s.f a)
 b4:bi≤4480
 bj:R * (cl.length - 1) + 1 + bi≤4490
 und:U.Nodup
 usz:SzOk ss U
 u10:U.length≤10
 u16:(wds (pk ss U)).length≤16
 sub:∀k∈s.ks,k∈U
theorem Q8{ss:AE}{s:Qs}{U:AF}(cl:AF)(h:∀k∈s.ks,k∈U)(hu:∀k∈s.ks,k < ss.length):∀l:AF,∀k∈(runC ss cl s l).1.ks,k∈U:=by
 have key:∀(n:Nat) (l:AF),l.length=n→∀k∈(runC ss cl s l).1.ks,k∈U:=by
  intro n;induction n with
  | zero =>
   intro l hl k hk;have:l=[]:=ζU hl;subst this;exact(nomatch hk)
  | succ n ih =>
   intro l hl k hk;obtain⟨t,x,rfl⟩:∃t s,l=t ++ [s]:=⟨l.dropLast,l.getLast (by intro e; rw[e]at hl; cases hl),(ζ6 _).symm⟩
   have tl:t.length=n:=by rw[List.length_append]at hl; simpa using hl
   rw[xS]at hk;unfold stp at hk;have hk:k∈(if x∈cl then Rq.join ss.length (runC ss cl s t).1 (Rq.dvd (runC ss cl s t).2 (Rq.lout ss (runC ss cl s t).2 x))else(runC ss cl s t).1).ks:=hk;split at hk
   ·rcases(El.xU.mp hk).2 with z | z
    ·exact ih t tl k z
    ·have z:k∈(runC ss cl s t).2.ks:=z;rw[(xK ss cl s t).2]at z;exact h k (ζl.mp z).1
   ·exact ih t tl k hk
 exact λl=>key l.length l rfl
theorem zby(h:QsOk ss s)(hs:∀k∈s.ks,k∈U):Dep U s.f:=λa b z=>h.dep a b λj hj=>z j (hs j hj)
theorem zaR(hX:0 < X)(hY:0 < Y)(co:Int.gcd p q=1):Int.gcd (X * q) (Y * p)≤(X * Y).natAbs:=by
 have d1:((Int.gcd (X * q) (Y * p):Nat):Int) ∣ X * Y * q:=by
  have:=ξ4 (X * q) (Y * p);obtain⟨c,hc⟩:=this;exact⟨Y * c,by rw[show X * Y * q=Y * (X * q)by grind,hc]; grind⟩
 have d2:((Int.gcd (X * q) (Y * p):Nat):Int) ∣ X * Y * p:=by
  have:=ξk (X * q) (Y * p);obtain⟨c,hc⟩:=this;exact⟨X * c,by rw[show X * Y * p=X * (Y * p)by grind,hc]; grind⟩
 have d3:Int.gcd (X * q) (Y * p) ∣ Int.gcd (X * Y * p) (X * Y * q):=Int.dvd_gcd d2 d1;rw[Int.gcd_mul_left,co,Nat.mul_one]at d3;exact Nat.le_of_dvd (by have:=ξI hX hY; omega) d3
theorem zcG(f:AE)(ah:AF):(odF f ah).reverse=((f.map Int.toNat).reverse).filter λk=>decide (k∈ah):=by
 unfold odF;rw[List.filter_reverse]
def vh(ds:AG)(d:AD):Prop:=∃(n:Nat) (cs:AI) (f:AE) (ss:AE) (s:Qs) (U ah pt:AF) (R bi:Nat),ds=[nls cs,nl U,nl ah,nl pt,lls (wds (pk ss U)),shs ((tq ss U s.f).map rp)]∧OrdS n cs∧grd cs n (rgI n)=some f∧(∀x∈f,0≤x)∧f.length≤12∧LCo ss s U (odF f ah).reverse pt R bi∧d=shs ((tq ss U (runC ss pt s (odF f ah).reverse).1.f).map rp)
theorem zer{U:AF}{k:Nat}(nd:U.Nodup)(hk:k∈U):(U.filter λj=>decide (U.idxOf j∈[U.idxOf k]))=[k]:=by
 have e:(U.filter λj=>decide (U.idxOf j∈[U.idxOf k]))=U.filter λj=>decide (j=k):=ξH λj hj=>by
  rw[decide_eq_decide,ζk];refine⟨λh=>?_,λh=>by rw[h]⟩
  have h1:=ξL (ζV.mpr hj);have h2:=ξL (ζV.mpr hk);rw[←h1,←h2];congr 1
 rw[e];clear e;induction U with
 | nil=>cases hk
 | cons x r ih =>
  have⟨n1,n2⟩:=ζ5.mp nd;by_cases c:x=k
  ·rw[List.filter_cons_of_pos (by simpa using c),List.filter_eq_nil_iff.mpr,c];intro y hy z;exact n1 (by rw[c,←of_decide_eq_true z]; exact hy)
  ·rw[List.filter_cons_of_neg (by simpa using c)];exact ih n2 ((ζC.mp hk).resolve_left λz=>c z.symm)
theorem zdR{α:Type}{g:α→AD}{xs ys zs:List α}{i:Nat}{d:AD}(e1:ys.length=xs.length)(e2:zs.length=xs.length)(hd:(zip3 (xs.map g) (ys.map g) (zs.map g))[i]?=some d):∃x y z,xs[i]?=some x∧ys[i]?=some y∧zs[i]?=some z∧d=.tuple [g x,g y,g z]:=by
 have il:=(ζh.mp hd).1;rw[ut (by rw[ζa,ζa]; exact e1) (by rw[ζa,ζa]; exact e2),ζa]at il;have g1:xs[i]?=some xs[i]:=ζd il;have g2:ys[i]?=some (ys[i]'⋯):=ζd ⋯;have g3:zs[i]?=some (zs[i]'⋯):=ζd ⋯;rw[Wa (x:=g xs[i]) (y:=g (ys[i]'⋯)) (z:=g (zs[i]'⋯)) (by rw[ζo,g1]; rfl) (by rw[ζo,g2]; rfl) (by rw[ζo,g3]; rfl)]at hd;exact⟨_,_,_,g1,g2,g3,(ζr hd).symm⟩
theorem CSi.all(h:CSo ss s l cl R):∀j,j≤l.length→CSi ss s l cl R j
 | 0,_=>.zero h.ok
 | j + 1,hj=>(CSi.all h j ⋯).next h (ζd ⋯)
theorem zeG(U:AF)(k:Nat):(zl U).idxOf (k:Int)=U.idxOf k:=by
 induction U with
 | nil=>rfl
 | cons x r ih =>
  show((x:Int) :: zl r).idxOf (k:Int)=_;rw[List.idxOf_cons,List.idxOf_cons,ih];by_cases c:x=k
  ·subst c; simp
  ·have:((x:Int) == (k:Int))=false:=beq_eq_false_iff_ne.mpr λz=>c ⋯;rw[this,show(x == k)=false from beq_eq_false_iff_ne.mpr c]
theorem QP{ss:AE}{U:AF}{f:El.Asg→Rat}{i:Nat}{w:AE}(h:(wds (pk ss U))[i]?=some w):(tq ss U f)[i]?=some (f (El.asg U w)):=by
 unfold tq;rw[ζo,h];rfl
theorem low3(hF:Bq b1 F)(hL:Bq b2 L)(hM:Bq 8900 M)(hb:b1 + b2≤4490):mk ((rp F).1 * (rp L).1 * (rp M).2) ((rp F).2 * (rp L).2 * (rp M).1)=rp (F * (L / M))∧1≤(rp F).2 * (rp L).2 * (rp M).1∧Int.gcd ((rp F).1 * (rp L).1 * (rp M).2) ((rp F).2 * (rp L).2 * (rp M).1) < 2 ^ 9000:=by
 have f1:=hF.bits;have l1:=hL.bits;have m1:=hM.bits;have X0:0 < (rp F).1 * (rp L).1:=ξI f1.1 l1.1;have Y0:0 < (rp F).2 * (rp L).2:=ξI (Rq.xc F).pos (Rq.xc L).pos;have P0:0 < (rp F).2 * (rp L).2 * (rp M).1:=ξI Y0 m1.1;refine⟨Rq.zaL P0 ?_,P0,?_⟩
 ·have d1:=Rq.xw F;have d2:=Rq.xw L;have d3:=Rq.xw M;have n0:=hM.ne;show F * (L / M) * (((F.den:Int) * (L.den:Int) * M.num:Int):Rat)=((F.num * L.num * (M.den:Int):Int):Rat);rw[Rat.intCast_mul,Rat.intCast_mul,Rat.intCast_mul,Rat.intCast_mul];grind
 ·have g:=zaR X0 Y0 (p:=(rp M).1) (q:=(rp M).2) (Rq.xc M).co;refine ξs g ?_;rw[ξg,ξg,ξg];have h1:=Rq.xY (Rq.xY f1.2.1 l1.2.1) (Rq.xY f1.2.2 l1.2.2);exact ζA h1 (ξo #[2] ⋯)
theorem Zz:zA ["_law_causes","_law_seen","_law_ahead","_law_listed","_law_some","_law_shares","_law_found","_law_later","_law_k","_law_less","_law_more","_law_one","_law_two","_law_three"] ["_law_causes","_law_seen","_law_ahead","_law_listed","_law_some","_law_shares"] (zn (top 57)):={}
theorem ZL(F:Fun K "_law_clumped" "_law_clumped" (top 57) f fd)(B:Bs mg)(c_law_order:zt P w K mg base CX0 "_law_order" ["_law_causes"] 1 (spD K true wt))(c_law_sums:zt P w K mg base CX0 "_law_sums" ["_law_some","_law_shares","_law_places"] 3 (spD K true wX))(c_law_low:zt P w K mg base CX0 "_law_low" ["_law_top","_law_bottom"] 2 (spD K true wf)):FnOk P w K mg base CX0 4 f fd ["_law_causes","_law_seen","_law_ahead","_law_listed","_law_some","_law_shares"] (spD K true vh):=by
 have sc:=Zz;refine F.ok sc (λvs H Q E h=>zI (λ_ _⟨_,_,_,_,_,_,_,_,_,_,e,_⟩=>by rw[e];rfl) h) (λcdv A outer s H vs Q E hr h=>?_);obtain⟨Fh,ds,d,le,dp,p,q⟩:=h
 refine⟨_,(ze (yX (i:=6) rfl sc.nd rfl rfl (N:=["_law_one"]) (js:=[none]) (by walk_at"comp_ok") (zJ (K:=K) rfl (pv 5)) (λ_ _ _ _=>(pN (i:=0) (show υN ["_law_one"]by decide +kernel))) (λ_ _ _ _=>xF) (λ_ _ _ _=>(yN (zb zg (zb zg zd)))))
   (ze (pS (i:=7) sc.nd (pv 5))
   (ze (zZ AC rfl (UJ (K:=K) rfl rfl B.reversed (zb (pF c_law_order hr (zb (pv 0) zd)) zd)) (pN (i:=8) sc.nd) (zi (yx (zu (yz (K:=K) rfl) (pv 8) (pv 2) (rfl)) (ze (pS (i:=9) sc.nd (pF c_law_sums hr (zb (pv 4) (zb (pv 7) (zb (zQ (zb (yo (K:=K) rfl ζq PySem.F.slot_list_index PySem.F.type_list_index (YA (K:=K) rfl) (pv 1) (zb (pv 8) zd)) zd)) zd)))))
   (ze (yx (zu (yz (K:=K) rfl) (pv 8) (pv 3) (rfl)) (ze (pS (i:=10) sc.nd (zQ zd))
   (ze (zZ AC rfl (zco (K:=K) rfl rfl B.zip (zb (pv 6) (zb (pv 7) (zb (pv 9) zd)))) (xQ (K:=K) (n:=3) rfl rfl (yf (pN (i:=11) sc.nd) (yf (pN (i:=12) sc.nd) (yf (pN (i:=13) sc.nd) xP)))) (zi (yg (yo (K:=K) rfl ζq ζE ζD zW (pv 10) (zb (pF c_law_low hr (zb (zq ym (zq ym (pX (zw (K:=K) rfl) (pv 11) zg) (pX (zw (K:=K) rfl) (pv 12) zg)) (pX (zw (K:=K) rfl) (pv 13) zg)) (zb (zq ym (zq ym (pX (zw (K:=K) rfl) (pv 11) zg) (pX (zw (K:=K) rfl) (pv 12) zg)) (pX (zw (K:=K) rfl) (pv 13) zg)) zd))) zd)))))
   (zi (pS (i:=6) sc.nd (pv 10))))) zV)
   (zi (pS (i:=7) sc.nd (pv 9))))) zV)))
   (zi (zG (pv 6)))))),?_⟩
 have hN:=sc.n 14;obtain⟨n,cs,f,ss,s,U,ah,pt,R,bi,rfl,os,hg,nn,f12,ok,rfl⟩:=p;have big:=zK;have s7:=ok.c.s7;have u16:=ok.u16;have u10:=ok.u10;have er:=zcG f ah;walk_at"run";refine exs true (d:=shs ((tq ss U (runC ss pt s []).1.f).map rp)) (EvO.toE (EvO.eq (vD (κ:=true) (is:=[0]) (xs:=(tq ss U s.f).map rp) false shD (λ_=>.tuple [.int 1,.int 1]) (λ_ _ _ _ _=>rfl) (zO ∅) (by walk_at"cc") rfl #[2] (by rw[ζa,xA]; omega) λx _=>egn #[0] ∅) ?_)) #[0] ?_
 ·unfold tq;simp only[List.map_map];refine ζs λw _=>?_;rfl
 refine exs false ∅ #[0] ?_;have ef:f.map PyData.int=(f.map Int.toNat).map λk:Nat=>PyData.int (k:Int):=by
  rw[ζx];exact ζs λx hx=>congrArg PyData.int (ξf (nn x hx)).symm
 refine yK (ds:=((f.map Int.toNat).map λk:Nat=>PyData.int (k:Int)).reverse) true (λi Γ=>∃x y z u v t,Γ=[some (.fz false (nls cs)),some (.fz false (nl U)),some (.fz false (nl ah)),some (.fz false (nl pt)),some (.fz false (lls (wds (pk ss U)))),some (.fz false (shs ((tq ss U s.f).map rp))),some (.fz true (shs ((tq ss U (runC ss pt s (((f.map Int.toNat).reverse.take i).filter λk=>decide (k∈ah))).1.f).map rp))),some (.fz false (shs ((tq ss U (runC ss pt s (((f.map Int.toNat).reverse.take i).filter λk=>decide (k∈ah))).2.f).map rp))),x,y,z,u,v,t]) (zbt (zh (EvE.eq (a:=il f) (zm (ds:=[nls cs]) (d:=il f) ∅ (show wt [nls cs] (il f)from⟨n,cs,f,rfl,os,hg,rfl⟩)) (congrArg PyData.list ef)) zD)) ⟨_,_,_,_,_,_,rfl⟩ ?_ ?_
 ·rintro i d Γ' hd ⟨x,y,z,u,v,t,rfl⟩;rw[←List.map_reverse]at hd;obtain⟨k,hk,rfl⟩:=yP hd;refine⟨_,egn #[0] ?_⟩
  refine wK (b:=decide (k∈ah)) (EvT.eq (zH (yC (neg:=false) (i:=(k:Int)) (ns:=zl ah) ∅ (EvE.toL (κ:=false) (EvE.eq ∅ (yt ah))))) (by rw[←yJ]; rfl)) (λh=>?_) (λh=>?_)
  ·have ha:k∈ah:=of_decide_eq_true h;have et:(((f.map Int.toNat).reverse.take (i + 1)).filter λk=>decide (k∈ah))=(((f.map Int.toNat).reverse.take i).filter λk=>decide (k∈ah)) ++ [k]:=by
    rw[take_succ hk,ζW,List.filter_cons_of_pos (p:=λk=>decide (k∈ah)) h,List.filter_nil]
   have p0:=uU (ah:=(f.map Int.toNat).reverse) (λk=>decide (k∈ah)) i;have p1:=uU (ah:=(f.map Int.toNat).reverse) (λk=>decide (k∈ah)) (i + 1);rw[et]at p1 ⊢;rw[←er]at p0 p1;generalize ((f.map Int.toNat).reverse.take i).filter (λk=>decide (k∈ah))=l0 at p0 p1;generalize (odF f ah).reverse=l at ok p0 p1;have jl:l0.length < l.length:=by
    have:=congrArg List.length p1;rw[ζJ,ζg]at this;simp only[List.length_singleton]at this;omega
   have hj:l[l0.length]?=some k:=by
    have e:(l.take (l0 ++ [k]).length)[l0.length]?=(l0 ++ [k])[l0.length]?:=by rw[←p1]
    rw[List.getElem?_take_of_lt (by rw[ζg]; exact Nat.lt_succ_self _),List.getElem?_concat_length]at e;exact e
   have kl:=ζf hj;have kU:k∈U:=ok.sub k (ok.c.sub k kl);have ci:=CSi.all ok.c l0.length ⋯;have e:=xS ss pt s l0 k;have r2:=xK ss pt s l0;have r3:=xK ss pt s (l0 ++ [k]);have ci1:=ci.o1;have ci2:=ci.o2;have B1:=ci.b1;rw[←p0]at ci1 ci2 B1;have B2:∀a,Bq bi ((runC ss pt s l0).2.f a):=λa=>by
    have:=ok.lb l0.length jl a;rw[←p0,←r2.1]at this;exact this
   have B3:∀a,Bq 8900 ((runC ss pt s (l0 ++ [k])).2.f a):=λa=>by
    have:=ok.c.bt.b (l0.length + 1) ⋯ a;rw[take_succ hj,←p0]at this;rw[r3.1];exact this
   have sb2:∀j∈(runC ss pt s l0).2.ks,j∈U:=λj hj=>by rw[r2.2]at hj; exact ok.sub j (ζl.mp hj).1
   have dep2:=zby ci2 sb2;have ix:=zeG U k;have kz:(k:Int)∈zl U:=ζn.mpr ⟨k,kU,rfl⟩;have sem:=Wl (ps:=[U.idxOf k]) s7 ok.usz ok.und dep2;rw[zer ok.und kU]at sem;have s2:(runC ss pt s (l0 ++ [k])).2.f=Sq ss [k] (runC ss pt s l0).2.f:=by rw[e]; rfl
   rw[←s2]at sem;refine exs true (d:=shs ((tq ss U (runC ss pt s (l0 ++ [k])).2.f).map rp)) (EvE.eq (zm (ds:=[lls (wds (pk ss U)),shs ((tq ss U (runC ss pt s l0).2.f).map rp),nl [U.idxOf k]]) (zh ∅ (zh ∅ (zh (EvE.eq (a:=.list [.int (((zl U).idxOf (k:Int):Nat):Int)]) (EvO.toE (yc (ds:=[.int (((zl U).idxOf (k:Int):Nat):Int)]) (zh (Vd (ns:=zl U) (k:=(k:Int)) (EvE.toL (EvE.eq (κ:=false) ∅ (yt U))) ∅ kz) zD) (by show 1≤sizeLine; omega))) (by rw[ix]; rfl)) zD))) ⟨wds (pk ss U),tq ss U (runC ss pt s l0).2.f,[U.idxOf k],bi,rfl,u16,xA ..,λw hw=>by rw[←Rq.Zp hw]; exact u10,by show 1≤10; decide,λq hq=>by
     obtain⟨w,_,rfl⟩:=ζn.mp hq;exact B2 _,ok.b4,rfl⟩) (by rw[sem])) #[0] ?_
   refine exif (b:=decide (k∈pt)) (λΓ=>∃z u v t,Γ=[some (.fz false (nls cs)),some (.fz false (nl U)),some (.fz false (nl ah)),some (.fz false (nl pt)),some (.fz false (lls (wds (pk ss U)))),some (.fz false (shs ((tq ss U s.f).map rp))),some (.fz true (shs ((tq ss U (runC ss pt s (l0 ++ [k])).1.f).map rp))),some (.fz false (shs ((tq ss U (runC ss pt s l0).2.f).map rp))),some (.fz true (.int k)),some (.fz true (shs ((tq ss U (runC ss pt s (l0 ++ [k])).2.f).map rp))),z,u,v,t]) (EvT.eq (zH (yC (neg:=false) (i:=(k:Int)) (ns:=zl pt) ∅ (EvE.toL (κ:=false) (EvE.eq ∅ (yt pt))))) (by rw[←yJ]; rfl)) (λh=>?_) (λh=>?_) ?_
   ·have hc:k∈pt:=of_decide_eq_true h;have cs':=ZZ pt l0 k;rw[if_pos hc]at cs';have cle:=V6 (cl:=pt) (l:=l0 ++ [k]) (by rw[p1]; exact ok.c.nd.sublist (ξX _ _));have bj:R * cnt pt l0 + 1 + bi≤4490:=by
     have:=ζ1 R (show cnt pt l0≤pt.length - 1 by omega);have:=ok.bj;omega
    have e1:(runC ss pt s (l0 ++ [k])).1.f=λa=>(runC ss pt s l0).1.f a * ((runC ss pt s l0).2.f a / (runC ss pt s (l0 ++ [k])).2.f a):=by
     rw[e];unfold stp;rw[if_pos hc];rfl
    rw[e1];generalize (runC ss pt s (l0 ++ [k])).2.f=M at B3;generalize (runC ss pt s l0).1.f=F1 at B1;generalize (runC ss pt s l0).2.f=L at B2;refine exo true (yc (ds:=[]) zD #[2]) #[0] ?_;refine yK (ds:=zip3 ((tq ss U F1).map λq=>shD (rp q)) ((tq ss U L).map λq=>shD (rp q)) ((tq ss U M).map λq=>shD (rp q))) false (λi Γ=>∃u v t,Γ=[some (.fz false (nls cs)),some (.fz false (nl U)),some (.fz false (nl ah)),some (.fz false (nl pt)),some (.fz false (lls (wds (pk ss U)))),some (.fz false (shs ((tq ss U s.f).map rp))),some (.fz true (shs ((tq ss U F1).map rp))),some (.fz false (shs ((tq ss U L).map rp))),some (.fz true (.int k)),some (.fz true (shs ((tq ss U M).map rp))),some (.ow true (((wds (pk ss U)).take i).map λw=>shD (rp (F1 (El.asg U w) * (L (El.asg U w) / M (El.asg U w)))))),u,v,t]) (EvI.eq (zc6 (xs:=((tq ss U F1).map rp).map shD) (ys:=((tq ss U L).map rp).map shD) (zs:=((tq ss U M).map rp).map shD) (by simp only[List.length_map,xA]) (by simp only[List.length_map,xA]) ∅) (by simp only[List.map_map,Function.comp_def])) ⟨_,_,_,by rw[List.take_zero]; rfl⟩ ?_ ?_
    ·rintro i d Γ' hd ⟨u,v,t,rfl⟩;obtain⟨o,t',m,ho,ht,hm,rfl⟩:=zdR (by simp only[xA]) (by simp only[xA]) hd;have iw:i < (wds (pk ss U)).length:=by have:=(ζh.mp ho).1; rwa [xA]at this
     have hw':(wds (pk ss U))[i]?=some (wds (pk ss U))[i]:=ζd iw;generalize (wds (pk ss U))[i]=w at hw';rw[QP hw']at ho ht hm;cases ho;cases ht;cases hm;have L3:=low3 (B1 (El.asg U w)) (B2 (El.asg U w)) (B3 (El.asg U w)) bj;have b1:=(B1 (El.asg U w)).bits;have b2:=(B2 (El.asg U w)).bits;have b3:=(B3 (El.asg U w)).bits;have c1:(rp (F1 (El.asg U w))).1.natAbs < 2 ^ 4490:=up b1.2.1 ⋯;have c2:(rp (F1 (El.asg U w))).2.natAbs < 2 ^ 4490:=up (a:=(((F1 (El.asg U w)).den:Nat):Int)) b1.2.2 ⋯;have c3:(rp (L (El.asg U w))).1.natAbs < 2 ^ 4490:=up b2.2.1 ⋯;have c4:(rp (L (El.asg U w))).2.natAbs < 2 ^ 4490:=up (a:=(((L (El.asg U w)).den:Nat):Int)) b2.2.2 ⋯;have m1:IntMulOk (rp (F1 (El.asg U w))).1 (rp (L (El.asg U w))).1:=wH c1 c3 ⋯;have m2:IntMulOk (rp (F1 (El.asg U w))).2 (rp (L (El.asg U w))).2:=wH c2 c4 ⋯;have c5:((rp (F1 (El.asg U w))).1 * (rp (L (El.asg U w))).1).natAbs < 2 ^ (4490 + 4490):=by rw[ξg]; exact Rq.xY c1 c3
     have c6:((rp (F1 (El.asg U w))).2 * (rp (L (El.asg U w))).2).natAbs < 2 ^ (4490 + 4490):=by rw[ξg]; exact Rq.xY c2 c4
     have m3:IntMulOk ((rp (F1 (El.asg U w))).1 * (rp (L (El.asg U w))).1) (rp (M (El.asg U w))).2:=wH (j:=(((M (El.asg U w)).den:Nat):Int)) c5 b3.2.2 #[2];have m4:IntMulOk ((rp (F1 (El.asg U w))).2 * (rp (L (El.asg U w))).2) (rp (M (El.asg U w))).1:=wH c6 b3.2.1 #[2];refine⟨_,eg3 #[0] #[0] #[0] ?_⟩
     refine exa1 (d:=shD (rp (F1 (El.asg U w) * (L (El.asg U w) / M (El.asg U w))))) #[1] (EvE.eq (zm (ds:=[.int ((rp (F1 (El.asg U w))).1 * (rp (L (El.asg U w))).1 * (rp (M (El.asg U w))).2),.int ((rp (F1 (El.asg U w))).2 * (rp (L (El.asg U w))).2 * (rp (M (El.asg U w))).1)]) ∅ ⟨_,_,rfl,L3.2.1,L3.2.2,rfl⟩) (congrArg shD L3.1)) #[0] (by rw[ζa,ζJ]; omega) ?_;show∃u v t,_;rw[take_succ hw',ζy];exact⟨_,_,_,rfl⟩
    ·rintro Γ' ⟨u,v,t,rfl⟩;have zl3:(zip3 ((tq ss U F1).map λq=>shD (rp q)) ((tq ss U L).map λq=>shD (rp q)) ((tq ss U M).map λq=>shD (rp q))).length=(wds (pk ss U)).length:=by
      rw[ut (by simp only[List.length_map,xA]) (by simp only[List.length_map,xA]),List.length_map,xA]
     rw[zl3,ζ3];refine exfz 10 #[1] #[0] ?_;refine exs1 true ∅ #[0] ?_;have ed:PyData.list ((wds (pk ss U)).map λw=>shD (rp (F1 (El.asg U w) * (L (El.asg U w) / M (El.asg U w)))))=shs ((tq ss U λa=>F1 a * (L a / M a)).map rp):=by
      unfold tq;show PyData.list _=.list _;simp only[List.map_map,Function.comp_def]
     rw[ed];exact⟨_,_,_,_,rfl⟩
   ·have hc:k∉pt:=of_decide_eq_false h;refine yj ?_;have e1:(runC ss pt s (l0 ++ [k])).1=(runC ss pt s l0).1:=by
     rw[e];unfold stp;rw[if_neg hc]
    rw[e1];exact⟨_,_,_,_,rfl⟩
   rintro Γ' ⟨z,u,v,t,rfl⟩;refine exs1 false ∅ #[0] ?_;exact⟨_,_,_,_,_,_,rfl⟩
  ·refine yj ?_;show∃x y z u v t,_;rw[take_succ hk,ζW,List.filter_cons_of_neg (by rw[h]; exact ζF),List.filter_nil,ζQ];exact⟨_,_,_,_,_,_,rfl⟩
 ·rintro Γ' ⟨x,y,z,u,v,t,rfl⟩;refine zR true ∅ ?_ (.inl ⟨rfl,rfl⟩);rw[ξx,ζa,ζB (by rw[ξx]; exact ζj _),←er]
structure LSo(n:Nat)(cs:AI)(hs:AF)(f:AE)(ss:AE)(s:Qs)(U ah pt:AF):Prop where
 w:WSo n cs hs f ss s ah pt
 te:TwE cs hs
 hl:hs.length≤12
 ar:ah.Pairwise (· < ·)
 ur:U.Pairwise (· < ·)
 p0:pt≠[]
 ps:∀k∈pt,k∈ah
 c:pt∈clF n (lkF cs hs ah) ah.length ah→∃R bi,LCo ss s U (odF f ah).reverse pt R bi
 und:U.Nodup
 usz:SzOk ss U
 u10:U.length≤10
 u16:(wds (pk ss U)).length≤16
 sub:∀k∈s.ks,k∈U
 b:∃b,b≤4480∧∀a,Bq b (s.f a)
def uI(ds:AG)(d:AD):Prop:=∃(n:Nat) (cs:AI) (hs:AF) (f:AE) (ss:AE) (s:Qs) (U ah pt:AF),ds=[nls cs,nl hs,nl U,nl ah,nl pt,lls (wds (pk ss U)),shs ((tq ss U s.f).map rp)]∧LSo n cs hs f ss s U ah pt∧d=shs ((tq ss U (wkQ n cs hs f ss s ah pt).f).map rp)
theorem Wt:zA ["_law_causes","_law_hidden","_law_seen","_law_ahead","_law_listed","_law_some","_law_shares"] ["_law_causes","_law_hidden","_law_seen","_law_ahead","_law_listed","_law_some","_law_shares"] (zn (top 58)):={}
theorem WS(F:Fun K "_law_step" "_law_step" (top 58) f fd)(B:Bs mg)(c_law_clump:zt P w K mg base CX0 "_law_clump" ["_law_causes","_law_hidden","_law_some","_law_k"] 1 (spD K true wu))(c_law_clumped:zt P w K mg base CX0 "_law_clumped" ["_law_causes","_law_seen","_law_ahead","_law_listed","_law_some","_law_shares"] 4 (spD K true vh))(c_law_sums:zt P w K mg base CX0 "_law_sums" ["_law_some","_law_shares","_law_places"] 3 (spD K true wX)):FnOk P w K mg base CX0 5 f fd ["_law_causes","_law_hidden","_law_seen","_law_ahead","_law_listed","_law_some","_law_shares"] (spD K true uI):=by
 have sc:=Wt;refine F.ok sc (λvs H Q E h=>zI (λ_ _⟨_,_,_,_,_,_,_,_,_,e,_⟩=>by rw[e];rfl) h) (λcdv A outer s H vs Q E hr h=>?_);obtain⟨Fh,ds,d,le,dp,p,q⟩:=h
 refine⟨_,(ze (yx (zu (zcw (K:=K) rfl hr.units) (pv 4) (pF c_law_clump hr (zb (pv 0) (zb (pv 1) (zb (pv 3) (zb (pX (zv (K:=K) rfl) (pv 4) zg) zd))))) (zP _)) (zi (zG (pF c_law_clumped hr (zb (pv 0) (zb (pv 2) (zb (pv 3) (zb (pv 4) (zb (pv 5) (zb (pv 6) zd))))))))) zV)
   (zi (zG (pF c_law_sums hr (zb (pv 5) (zb (pv 6) (zb (yl rfl (N:=["_law_k","_law_ahead","_law_listed","_law_seen"]) (js:=[none,some 3,some 4,some 2]) (by walk_at"comp_ok") (yi rfl B.range (zb (pB (zj (K:=K) rfl) B.len (zb (pv 2) zd)) zd)) (λ_ _ _ _=>(pN (i:=0) (show υN ["_law_k","_law_ahead","_law_listed","_law_seen"]by decide +kernel))) (λ_ _ _ _=>(yn (PW.pt (vt (zu (yz (K:=K) rfl) (pX (zv (K:=K) rfl) (pv 3) (pv 0)) (pv 1) (rfl)) (wU (zu (ya (K:=K) rfl) (pX (zv (K:=K) rfl) (pv 3) (pv 0)) (pv 2) (rfl))))))) (λ_ _ _ _=>(pv 0))) zd))))))),?_⟩
 have hN:=sc.n 7;obtain⟨n,cs,hs,f,ss,s,U,ah,pt,rfl,ok,rfl⟩:=p;have big:=zK;have W:=ok.w;have s7:=W.s7;have u16:=ok.u16;have u10:=ok.u10;have pl0:0 < pt.length:=Nat.pos_of_ne_zero λz=>ok.p0 (ξe.mp z);have hp0:pt.getD 0 0∈pt:=ζf (zE (d:=0) pl0);have mem:=VU (cs:=cs) (hs:=hs) W.lt ok.p0 (ok.ps _ hp0);have a0:atI (pt.map λk:Nat=>PyData.int (k:Int)) (0:Int)=some (.int (pt.getD 0 0:Nat)):=yB (i:=0) (zE pl0);walk_at"run";refine U4 (b:=decide (pt=rchL n (lkF cs hs ah) [pt.getD 0 0])) (EvT.eq (zH (V3 (neg:=false) (EvE.toD (κ:=false) ∅) (EvE.toD (κ:=false) (zm (ds:=[nls cs,nl hs,nl ah,.int (pt.getD 0 0:Nat)]) (zh ∅ (zh ∅ (zh ∅ (zh (zS (κ:=false) ∅ ∅ a0) zD)))) ⟨n,cs,hs,ah,pt.getD 0 0,rfl,ok.te,W.sh.l,W.n12,ok.hl,ok.ar,W.lt,W.al,ok.ps _ hp0,rfl⟩)) (vM _) (vM _))) (zbp _ _)) (λh=>?_) (λh=>?_)
 ·have h':=mem.mpr (of_decide_eq_true h);obtain⟨R,bi,lc⟩:=ok.c h';unfold wkQ;rw[if_pos h'];exact exrs true (zm ∅ ⟨n,cs,f,ss,s,U,ah,pt,R,bi,rfl,⟨W.sh,W.n12⟩,W.od,W.nn,W.fl,lc,rfl⟩) rfl (.inl ⟨rfl,rfl⟩)
 ·have h':pt∉clF n (lkF cs hs ah) ah.length ah:=λz=>of_decide_eq_false h (mem.mp z);obtain⟨b,b4,hb⟩:=ok.b;refine exn ?_;have dep:=zby W.ok ok.sub;have sem:=Wl (ps:=(List.range U.length).filter λk=>decide (U.getD k 0∈ah) && !decide (U.getD k 0∈pt)) s7 ok.usz ok.und dep;have ek:(U.filter λk=>decide (U.idxOf k∈(List.range U.length).filter λk=>decide (U.getD k 0∈ah) && !decide (U.getD k 0∈pt)))=ah.filter λk=>!decide (k∈pt):=by
   refine wB (ok.ur.sublist ζK) (ok.ar.sublist ζK) λx=>?_;have gx:x∈U→U.getD (U.idxOf x) 0=x:=λhx=>by
    have hi:=ζV.mpr hx;rw[ζb,ζd hi,ξL hi];rfl
   constructor
   ·intro h;have⟨h1,h2⟩:=ζl.mp h;have h3:(decide (U.getD (U.idxOf x) 0∈ah) && !decide (U.getD (U.idxOf x) 0∈pt))=true:=(ζl.mp (of_decide_eq_true h2)).2;rw[gx h1]at h3;have:=(ξS _ _).mp h3;exact ζl.mpr ⟨of_decide_eq_true this.1,this.2⟩
   ·intro h;have⟨h1,h2⟩:=ζl.mp h;have hx:=ok.sub x (W.sub x h1);refine ζl.mpr ⟨hx,decide_eq_true (ζl.mpr ⟨ζG.mpr (ζV.mpr hx),?_⟩)⟩;show(decide (U.getD (U.idxOf x) 0∈ah) && !decide (U.getD (U.idxOf x) 0∈pt))=true;rw[gx hx,decide_eq_true h1];exact h2
  rw[ek]at sem;have fl:=vV ss (ah.filter λk=>!decide (k∈pt)) s W.ok;have ef:(wkQ n cs hs f ss s ah pt).f=Sq ss (ah.filter λk=>!decide (k∈pt)) s.f:=by
   unfold wkQ;rw[if_neg h',fl.2.1];funext a;exact Rq.zfJ ss (W.nd.sublist ζK) s.f a
  rw[ef,←sem];refine zR true (zm (ds:=[lls (wds (pk ss U)),shs ((tq ss U s.f).map rp),nl ((List.range U.length).filter λk=>decide (U.getD k 0∈ah) && !decide (U.getD k 0∈pt))]) (zh ∅ (zh ∅ (zh (EvO.toE (zY (κ:=false) (is:=[0]) (xs:=List.range U.length) false (λk:Nat=>.int (k:Int)) (λk:Nat=>.int (k:Int)) (λk=>decide (U.getD k 0∈ah) && !decide (U.getD k 0∈pt)) (λx _ y _ h=>by cases xk h; exact⟨rfl,rfl⟩) (yQ (n:=(U.length:Int)) (zh (EvE.eq (ye (ds:=U.map λk:Nat=>PyData.int (k:Int)) ∅) (by rw[ζa])) zD) ⋯ ⋯) (by walk_at"cc") rfl #[2] (by rw[ζv]; omega) ?_)) zD))) ⟨wds (pk ss U),tq ss U s.f,_,b,rfl,u16,xA ..,λw hw=>by rw[←Rq.Zp hw]; exact u10,?_,λq hq=>by
   obtain⟨w,_,rfl⟩:=ζn.mp hq;exact hb _,b4,rfl⟩) rfl (.inl ⟨rfl,rfl⟩)
  ·intro k hk;have hk:=ζG.mp hk;have ak:atI (U.map λk:Nat=>PyData.int (k:Int)) (k:Int)=some (.int (U.getD k 0:Nat)):=yB (zE hk);exact egn #[0] ⟨ww (EvT.eq (zH (yC (neg:=false) (i:=((U.getD k 0:Nat):Int)) (ns:=zl ah) (zS (κ:=false) ∅ ∅ ak) (EvE.toL (κ:=false) (EvE.eq ∅ (yt ah))))) (by rw[←yJ]; rfl)) λ_=>EvT.eq (zH (yC (neg:=true) (i:=((U.getD k 0:Nat):Int)) (ns:=zl pt) (zS (κ:=false) ∅ ∅ ak) (EvE.toL (κ:=false) (EvE.eq ∅ (yt pt))))) (by rw[←yJ]; rfl),λ_=>by walk_at"ev"⟩
  ·have:=ζP (λk=>decide (U.getD k 0∈ah) && !decide (U.getD k 0∈pt)) (List.range U.length);rw[ζv]at this;omega
def xV(ds:AG)(d:AD):Prop:=∃(n:Nat) (cs:AI) (hs:AF) (f:AE) (ss:AE) (s:Qs) (U:AF) (ls:AI),ds=[nls cs,nl hs,nl U,nls ls,lls (wds (pk ss U)),shs ((tq ss U s.f).map rp)]∧0 < ls.length∧ls.length≤100∧(∀i,i + 1 < ls.length→LSo n cs hs f ss (wkN n cs hs f ss s ls i) U (ls.getD i []) (ls.getD (i + 1) []))∧d=shs ((tq ss U (wkN n cs hs f ss s ls (ls.length - 1)).f).map rp)
theorem Yb:zA ["_law_causes","_law_hidden","_law_seen","_law_lists","_law_some","_law_shares","_law_found","_law_k"] ["_law_causes","_law_hidden","_law_seen","_law_lists","_law_some","_law_shares"] (zn (top 59)):={}
theorem Yf(F:Fun K "_law_worked" "_law_worked" (top 59) f fd)(B:Bs mg)(c_law_step:zt P w K mg base CX0 "_law_step" ["_law_causes","_law_hidden","_law_seen","_law_ahead","_law_listed","_law_some","_law_shares"] 5 (spD K true uI)):FnOk P w K mg base CX0 6 f fd ["_law_causes","_law_hidden","_law_seen","_law_lists","_law_some","_law_shares"] (spD K false xV):=by
 have sc:=Yb;refine F.ok sc (λvs H Q E h=>zI (λ_ _⟨_,_,_,_,_,_,_,_,e,_⟩=>by rw[e];rfl) h) (λcdv A outer s H vs Q E hr h=>?_);obtain⟨Fh,ds,d,le,dp,p,q⟩:=h
 refine⟨_,(ze (pS (i:=6) sc.nd (pv 5))
   (ze (zZ AC rfl (TQ rfl B.range (zb zg (zb (pB (zj (K:=K) rfl) B.len (zb (pv 3) zd)) zd))) (pN (i:=7) sc.nd) (zi (pS (i:=6) sc.nd (pF c_law_step hr (zb (pv 0) (zb (pv 1) (zb (pv 2) (zb (pX (zv (K:=K) rfl) (pv 3) (zq w4 (pv 7) zg)) (zb (pX (zv (K:=K) rfl) (pv 3) (pv 7)) (zb (pv 4) (zb (pv 6) zd)))))))))))
   (zi (zG (pv 6))))),?_⟩
 have hN:=sc.n 8;obtain⟨n,cs,hs,f,ss,s,U,ls,rfl,l0,l100,ok,rfl⟩:=p;have big:=zK;walk_at"run";refine exs false ∅ #[0] ?_;refine yK (ds:=(List.range (ls.length - 1)).map λi:Nat=>.int (1 + (i:Int))) true (λi Γ=>∃x,Γ=[some (.fz false (nls cs)),some (.fz false (nl hs)),some (.fz false (nl U)),some (.fz false (nls ls)),some (.fz false (lls (wds (pk ss U)))),some (.fz false (shs ((tq ss U s.f).map rp))),some (.fz false (shs ((tq ss U (wkN n cs hs f ss s ls i).f).map rp))),x]) ?_ ⟨none,rfl⟩ ?_ ?_
 ·refine EvI.eq (zc7 (m:=1) (n:=(ls.length:Int)) (zh ∅ (zh (EvE.eq (ye (ds:=ls.map nl) ∅) (by rw[ζa])) zD)) ⋯) ?_;rw[show((ls.length:Int) - 1).toNat=ls.length - 1 by omega]
 ·rintro i d Γ' hd ⟨x,rfl⟩;obtain⟨j,hj,rfl⟩:=yP hd;obtain⟨hi,ej⟩:=ζh.mp hj;rw[List.getElem_range]at ej;subst ej;rw[ζv]at hi;refine⟨_,egn #[0] ?_⟩
  have g1:atI (ls.map nl) (1 + (i:Int) - 1)=some (nl (ls.getD i [])):=by
   rw[show 1 + (i:Int) - 1=(i:Int)by omega];exact yB (zE ⋯)
  have g2:atI (ls.map nl) (1 + (i:Int))=some (nl (ls.getD (i + 1) [])):=by
   rw[show 1 + (i:Int)=((i + 1:Nat):Int)by omega];exact yB (zE ⋯)
  refine exs1 false (d:=shs ((tq ss U (wkN n cs hs f ss s ls (i + 1)).f).map rp)) (zm (ds:=[nls cs,nl hs,nl U,nl (ls.getD i []),nl (ls.getD (i + 1) []),lls (wds (pk ss U)),shs ((tq ss U (wkN n cs hs f ss s ls i).f).map rp)]) (zh ∅ (zh ∅ (zh ∅ (zh (zS (κ:=false) ∅ (uk ∅ ∅) g1) (zh (zS (κ:=false) ∅ ∅ g2) (zh ∅ (zh ∅ zD))))))) ⟨n,cs,hs,f,ss,wkN n cs hs f ss s ls i,U,ls.getD i [],ls.getD (i + 1) [],rfl,ok i ⋯,rfl⟩) #[0] ?_;exact⟨_,rfl⟩
 ·rintro Γ' ⟨x,rfl⟩;rw[ζa,ζv];exact zR false ∅ rfl (.inr rfl)
def pw4(j:Nat):Int:=[1,2,4,8].getD j 1
theorem zd4(j:Nat)(h:j < 4):0 < pw4 j∧pw4 j≤8:=by
 match j,h with
 | 0,_=>exact⟨#[2],#[2]⟩
 | 1,_=>exact⟨#[2],#[2]⟩
 | 2,_=>exact⟨#[2],#[2]⟩
 | 3,_=>exact⟨#[2],#[2]⟩
def dx(i:Nat):Nat:=24 + i / 2 * 9 + i % 2
theorem zdf{α:Type}{g:α→AD}{xs:List α}{d:α}(k:Nat)(h:k + 1≤xs.length):atI (xs.map g) (-((k:Int) + 1))=some (g (xs.getD (xs.length - (k + 1)) d)):=by
 unfold atI ixN;rw[ζa,if_neg ⋯,if_pos ⋯];show(xs.map g)[(-((k:Int) + 1) + (xs.length:Int)).toNat]?=_;rw[show(-((k:Int) + 1) + (xs.length:Int)).toNat=xs.length - (k + 1)by omega,ζo,zE (d:=d) ⋯];rfl
structure LOk(n:Nat)(l:AF):Prop where
 r:l.Pairwise (· < ·)
 lt:∀x∈l,x < n
 ne:l≠[]
 l:l.length≤4
theorem LOk.pos{n:Nat}{l:AF}(h:LOk n l):0 < l.length:=Nat.pos_of_ne_zero λz=>h.ne (ξe.mp z)
def subF(bi:Int)(l:AF):AF:=l.filter λj=>decide (bi / 2 % 16 / pw4 ((zl l).idxOf (j:Int)) % 2=1)
noncomputable def fdF(n:Nat)(cs:AI)(hs:AF)(bi:Int)(l:AF):AF:=if bi % 2=1 then rchL n (lkF cs hs l) [l.getD (bi / 2 % (l.length:Int)).toNat 0]else dueL n cs (subF bi l) l
def uQ(ls:AI):AF:=ls.getD (ls.length - 1) []
noncomputable def drS(n:Nat)(cs:AI)(hs:AF)(bi:Int)(ls:AI):AI:=if fdF n cs hs bi (uQ ls)≠[]∧(fdF n cs hs bi (uQ ls)).length < (uQ ls).length then ls ++ [fdF n cs hs bi (uQ ls)]else ls
noncomputable def drF(ns:AE)(n:Nat)(cs:AI)(hs se:AF):Nat→AI
 | 0=>[se]
 | i + 1=>drS n cs hs (zB ns (dx i)) (drF ns n cs hs se i)
structure LsOk(n:Nat)(ls:AI):Prop where
 e:∀l∈ls,LOk n l
 ne:0 < ls.length
theorem LsOk.last{n:Nat}{ls:AI}(h:LsOk n ls):LOk n (uQ ls):=h.e _ (ζf (zE (d:=[]) (by have:=h.ne; omega)))
theorem za8{n:Nat}{cs:AI}{hs l:AF}{bi:Int}(h:LOk n l):(fdF n cs hs bi l).Pairwise (· < ·)∧∀x∈fdF n cs hs bi l,x < n:=by
 unfold fdF;split
 ·exact⟨wC ..,λx hx=>(xq.mp hx).1⟩
 ·exact⟨h.r.sublist ζK,λx hx=>h.lt x (ζl.mp hx).1⟩
theorem zeZ{n:Nat}{cs:AI}{hs:AF}{bi:Int}{ls:AI}(h:LsOk n ls):LsOk n (drS n cs hs bi ls)∧(drS n cs hs bi ls).length≤ls.length + 1:=by
 unfold drS;split
 ·rename_i c;have f:=za8 (cs:=cs) (hs:=hs) (bi:=bi) h.last;have l6:=h.last.l;refine⟨⟨λl hl=>?_,by rw[ζg]; show 0 < _ + 1; omega⟩,by rw[ζg]; exact ζj _⟩
  rcases ζw.mp hl with hl | hl
  ·exact h.e l hl
  ·rw[ζk.mp hl];exact⟨f.1,f.2,c.1,⋯⟩
 ·exact⟨h,⋯⟩
theorem XV(ns:AE){n:Nat}{cs:AI}{hs se:AF}(h:LOk n se):∀i,LsOk n (drF ns n cs hs se i)∧(drF ns n cs hs se i).length≤i + 1
 | 0=>⟨⟨λl hl=>by rw[ζk.mp hl]; exact h,by show 0 < 1; omega⟩,ζj _⟩
 | i + 1=>by
  have ih:=XV ns (cs:=cs) (hs:=hs) h i;have:=zeZ (cs:=cs) (hs:=hs) (bi:=zB ns (dx i)) ih.1;exact⟨this.1,ζZ this.2 ⋯⟩
def ud(ds:AG)(d:AD):Prop:=∃(ns:AE) (n:Nat) (cs:AI) (hs se:AF),ds=[il ns,nls cs,nl hs,nl se]∧ns.length≤63∧ShOk n cs∧n≤12∧TwE cs hs∧hs.length≤12∧LOk n se∧d=nls (drF ns n cs hs se 3)
theorem Xj:zA ["_law_script","_law_causes","_law_hidden","_law_seen","_law_lists","_law_k","_law_cell","_law_ahead","_law_some","_law_found"] ["_law_script","_law_causes","_law_hidden","_law_seen"] (zn (top 61)):={}
theorem XE(F:Fun K "_law_drawn" "_law_drawn" (top 61) f fd)(B:Bs mg)(c_law_at:zt P w K mg base CX0 "_law_at" ["_law_script","_law_k"] 1 (spD K true zU))(c_law_above:zt P w K mg base CX0 "_law_above" ["_law_causes","_law_some","_law_within"] 1 (spD K true ue))(c_law_clump:zt P w K mg base CX0 "_law_clump" ["_law_causes","_law_hidden","_law_some","_law_k"] 1 (spD K true wu)):FnOk P w K mg base CX0 2 f fd ["_law_script","_law_causes","_law_hidden","_law_seen"] (spD K false ud):=by
 have sc:=Xj;refine F.ok sc (λvs H Q E h=>zI (λ_ _⟨_,_,_,_,_,e,_⟩=>by rw[e];rfl) h) (λcdv A outer s H vs Q E hr h=>?_);obtain⟨Fh,ds,d,le,dp,p,q⟩:=h
 refine⟨_,(ze (pS (i:=4) sc.nd (zQ (zb (pv 3) zd)))
   (ze (zZ AC rfl (yi rfl B.range (zb zg zd)) (pN (i:=5) sc.nd) (ze (pS (i:=6) sc.nd (pF c_law_at hr (zb (pv 0) (zb (zq yq (zq yq zg (zq ym (zq xH (pv 5) zg) zg)) (zq yy (pv 5) zg)) zd))))
   (ze (pS (i:=7) sc.nd (pX (zv (K:=K) rfl) (pv 4) (zav Vr zg)))
   (ze (yX (i:=8) rfl sc.nd rfl rfl (N:=["_law_j","_law_cell","_law_ahead"]) (js:=[none,some 6,some 7]) (by walk_at"comp_ok") (zJ (K:=K) rfl (pv 7)) (λ_ _ _ _=>(pN (i:=0) (show υN ["_law_j","_law_cell","_law_ahead"]by decide +kernel))) (λ_ _ _ _=>(yn (zu wg (zq yy (zq xH (zq yy (zq xH (pv 1) zg) zg) (pX (zw (K:=K) rfl) (yN (zb zg (zb zg (zb zg (zb zg zd))))) (yo (K:=K) rfl ζq PySem.F.slot_list_index PySem.F.type_list_index (YA (K:=K) rfl) (pv 2) (zb (pv 0) zd)))) zg) zg (zP _)))) (λ_ _ _ _=>(pv 0)))
   (ze (pS (i:=9) sc.nd (pF c_law_above hr (zb (pv 1) (zb (pv 8) (zb (pv 7) zd)))))
   (ze (yx (zu wg (zq yy (pv 6) zg) zg (zP _)) (zi (pS (i:=9) sc.nd (pF c_law_clump hr (zb (pv 1) (zb (pv 2) (zb (pv 7) (zb (pX (zv (K:=K) rfl) (pv 7) (zq yy (zq xH (pv 6) zg) (pB (zj (K:=K) rfl) B.len (zb (pv 7) zd)))) zd))))))) zV)
   (zi (yx (PW.pt (vt (zu (UM (K:=K) rfl hr.units) (pv 9) (zQ zd) (zP _)) (wU (zu Yy (pB (zj (K:=K) rfl) B.len (zb (pv 9) zd)) (pB (zj (K:=K) rfl) B.len (zb (pv 7) zd)) (zP _))))) (zi (yg (yo (K:=K) rfl ζq ζE ζD zW (pv 4) (zb (pv 9) zd)))) zV))))))))
   (zi (zG (pv 4))))),?_⟩
 have hN:=sc.n 10;obtain⟨ns,n,cs,hs,se,rfl,h63,ok,n12,te,hl,so,rfl⟩:=p;have big:=zK;have cl:=ok.l;have el:∀l:AF,PyData.int (((l.map λk:Nat=>PyData.int (k:Int)).length:Nat):Int)=.int (l.length:Int):=λl=>by rw[ζa]
 walk_at"run";refine exo false (ds:=[se].map nl) (yc (ds:=[nl se]) (zh ∅ zD) (by show 1≤sizeLine; omega)) #[0] ?_;refine yK (ds:=(List.range 3).map λi:Nat=>.int (i:Int)) true (λi Γ=>∃a b c d e,Γ=[some (.fz false (il ns)),some (.fz false (nls cs)),some (.fz false (nl hs)),some (.fz false (nl se)),some (.ow false ((drF ns n cs hs se i).map nl)),a,b,c,d,e]) (yQ (n:=3) ∅ ⋯ ⋯) ⟨_,_,_,_,_,rfl⟩ ?_ ?_
 ·rintro i d Γ' hd ⟨a,b,c,d,e,rfl⟩;obtain⟨hi,rfl⟩:=yT hd;have D:=XV ns (cs:=cs) (hs:=hs) so i;have es:drF ns n cs hs se (i + 1)=drS n cs hs (zB ns (dx i)) (drF ns n cs hs se i):=rfl;rw[es];have dn:=D.1.ne;have dl:=D.2;have lo:=D.1.last;generalize drF ns n cs hs se i=ls at D dn dl lo;have al:atI (ls.map nl) (-1)=some (nl (uQ ls)):=zdf (d:=[]) 0 ⋯;refine⟨_,egn #[0] ?_⟩
  refine exs true (d:=.int (zB ns (dx i))) (zm (zh ∅ (zh (xC (xC ∅ (XU (xI ∅ ∅ ⟨#[2],#[2]⟩) ∅ (xB ⋯ ⋯))) (yZ ∅ ∅ #[2])) zD)) (show zU [il ns,.int (24 + (i:Int) / 2 * 9 + (i:Int) % 2)] _ from⟨ns,dx i,by unfold dx; rw[Int.natCast_add,Int.natCast_add,Int.natCast_mul,Int.natCast_ediv,Int.natCast_emod]; rfl,h63,by unfold dx; omega,rfl⟩)) #[0] ?_;unfold drS;generalize zB ns (dx i)=bi;generalize uQ ls=l at al lo;have lp:=lo.pos;have l6:=lo.l;have llt:=lo.lt;refine exs false (d:=nl l) (zS (κ:=false) ∅ ∅ al) #[0] ?_;refine exs true (d:=nl (subF bi l)) (EvO.toE (zY (κ:=true) (is:=[0]) (xs:=l) false (λk:Nat=>.int (k:Int)) (λk:Nat=>.int (k:Int)) (λj=>decide (bi / 2 % 16 / pw4 ((zl l).idxOf (j:Int)) % 2=1)) (λx _ y _ h=>by cases xk h; exact⟨rfl,rfl⟩) (zO ∅) (by walk_at"cc") rfl #[2] ⋯ ?_)) #[0] ?_
  ·intro j hj;have jz:(j:Int)∈zl l:=ζn.mpr ⟨j,hj,rfl⟩;have ji:=List.idxOf_lt_length_of_mem jz;rw[wN]at ji;generalize hx:(zl l).idxOf (j:Int)=ix at ji;have pi:=zd4 ix ⋯;have a6:atI [PyData.int 1,.int 2,.int 4,.int 8] (ix:Int)=some (.int (pw4 ix)):=yB (g:=PyData.int) (xs:=[1,2,4,8]) (zE (d:=1) (show ix < 4 by omega));exact egn #[0] ⟨zH (xM (yZ (xI (j:=pw4 ix) (yZ (xI ∅ ∅ ⟨#[2],#[2]⟩) ∅ #[2]) (vE (κ:=false) (ds:=[.int 1,.int 2,.int 4,.int 8]) ∅ (EvE.eq (Vd (ns:=zl l) (k:=(j:Int)) (EvE.toL (EvE.eq (κ:=false) ∅ (yt l))) ∅ jz) (by rw[hx])) a6) ⟨pi.1,⋯⟩) ∅ #[2]) ∅),λ_=>by walk_at"ev"⟩
  have sl:(subF bi l).length≤l.length:=ζP _ _;refine exs true (d:=nl (dueL n cs (subF bi l) l)) (zm ∅ ⟨n,cs,subF bi l,l,rfl,ok,n12,⟨λx hx=>llt x (ζl.mp hx).1,⋯⟩,⋯,rfl⟩) #[0] ?_;refine exif (b:=decide (bi % 2=1)) (·=[some (.fz false (il ns)),some (.fz false (nls cs)),some (.fz false (nl hs)),some (.fz false (nl se)),some (.ow false (ls.map nl)),some (.fz true (.int i)),some (.fz true (.int bi)),some (.fz false (nl l)),some (.fz true (nl (subF bi l))),some (.fz true (nl (fdF n cs hs bi l)))]) ∅ (λh=>?_) (λh=>?_) ?_
  ·have h:bi % 2=1:=by simpa using h
   have q0:=ζY (bi / 2) (show(l.length:Int)≠0 by omega);have q1:=ζR (bi / 2) (show(0:Int) < l.length by omega);have ef:fdF n cs hs bi l=rchL n (lkF cs hs l) [l.getD (bi / 2 % (l.length:Int)).toNat 0]:=by unfold fdF; rw[if_pos h]
   rw[ef];obtain⟨q,hq⟩:∃q:Nat,bi / 2 % (l.length:Int)=(q:Int):=⟨_,(ξf q0).symm⟩
   rw[hq,ζI];have gq:l[q]?=some (l.getD q 0):=zE ⋯;have aq:atI (l.map λk:Nat=>PyData.int (k:Int)) (q:Int)=some (.int (l.getD q 0:Nat)):=yB gq;exact exs1 true (zm (zh ∅ (zh ∅ (zh ∅ (zh (zS (κ:=false) ∅ (EvE.eq (yZ (j:=(l.length:Int)) (xI ∅ ∅ ⟨#[2],#[2]⟩) (EvE.eq (ye (ds:=l.map λk:Nat=>PyData.int (k:Int)) ∅) (el l)) ⋯) (congrArg PyData.int hq)) aq) zD)))) ⟨n,cs,hs,l,l.getD q 0,rfl,te,cl,n12,hl,lo.r,llt,⋯,ζf gq,rfl⟩) #[0] rfl
  ·have h:¬bi % 2=1:=by simpa using h
   have ef:fdF n cs hs bi l=dueL n cs (subF bi l) l:=by unfold fdF; rw[if_neg h]
   rw[ef];exact yj rfl
  rintro Γ' rfl;generalize fdF n cs hs bi l=fo;refine wK (b:=!decide (fo=[]) && decide ((fo.length:Int) < (l.length:Int))) (ww (EvT.eq (zH (V3 (neg:=true) (EvE.toD (κ:=true) ∅) (EvE.toD (κ:=true) (EvO.toE (yc (ds:=[]) zD #[2]))) (vM _) rfl)) (by show(!PyData.eqv _ _)=_; rw[Ta])) λ_=>zH (U8 (EvE.eq (ye (ds:=fo.map λk:Nat=>PyData.int (k:Int)) ∅) (el fo)) (EvE.eq (ye (ds:=l.map λk:Nat=>PyData.int (k:Int)) ∅) (el l)))) (λh=>?_) (λh=>?_)
  ·have h1:=(ξS _ _).mp h;have h2:fo≠[]:=by simpa using h1.1
   have h3:=of_decide_eq_true h1.2;refine exa1 (d:=nl fo) #[1] ∅ #[0] (by rw[ζa]; omega) ?_;show∃a b c d e,_;rw[if_pos ⟨h2,⋯⟩,ζy];exact⟨_,_,_,_,_,rfl⟩
  ·refine yj ?_;show∃a b c d e,_;rw[if_neg λz=>by rw[decide_eq_false z.1,decide_eq_true (show(fo.length:Int) < (l.length:Int)by omega)]at h; cases h];exact⟨_,_,_,_,_,rfl⟩
 ·rintro Γ' ⟨a,b,c,d,e,rfl⟩;rw[yS];exact exro (κ:=false) #[1] rfl (.inr rfl)
def szN(ss:AE):AF→Nat
 | []=>1
 | k :: r=>(ss.getD k 0).toNat * szN ss r
theorem uy(ss:AE):∀a b:AF,szN ss (a ++ b)=szN ss a * szN ss b
 | [],b=>(Nat.one_mul _).symm
 | k :: r,b=>by show _ * szN ss (r ++ b)=_ * szN ss r * _; rw[uy ss r b,ξW]
theorem Wk(ss:AE){a b:AF}(p:a.Perm b):szN ss a=szN ss b:=by
 induction p with
 | nil=>rfl
 | cons x _ ih=>show _ * _=_ * _; rw[ih]
 | swap x y l=>show _ * (_ * _)=_ * (_ * _); rw[Nat.mul_left_comm]
 | trans _ _ h1 h2=>exact h1.trans h2
theorem Uq{ss:AE}(hs:∀s∈ss,2≤s∧s≤4):∀l:AF,(∀k∈l,k < ss.length)→2 ^ l.length≤szN ss l
 | [],_=>ζj _
 | k :: r,h=>by
  have ih:=Uq hs r λx hx=>h x (ζp _ hx);have:=y9 hs (h k ζi);show 2 ^ (r.length + 1)≤(ss.getD k 0).toNat * szN ss r;rw[ξ7,Nat.mul_comm];exact Nat.mul_le_mul ⋯ ih
theorem Zs{ss:AE}(hs:∀s∈ss,2≤s∧s≤4):∀l:AF,(∀k∈l,k < ss.length)→((szN ss l:Nat):Int)=prod (pk ss l)
 | [],_=>rfl
 | k :: r,h=>by
  have ih:=Zs hs r λx hx=>h x (ζp _ hx);have:=y9 hs (h k ζi);show(((ss.getD k 0).toNat * szN ss r:Nat):Int)=ss.getD k 0 * prod (pk ss r);rw[ξA,ih,ξf ⋯]
theorem Up{ss:AE}(hs:∀s∈ss,2≤s∧s≤4){a b:AF}(na:a.Nodup)(nb:b.Nodup)(h:∀k∈a,k∈b)(lt:∀k∈b,k < ss.length):szN ss a * 2 ^ (b.length - a.length)≤szN ss b:=by
 have p:b.Perm (a ++ b.filter λk=>!decide (k∈a)):=by
  rw[ξc nb (ζ4.mpr ⟨na,nb.sublist ζK,λx hx y hy e=>by
   have:=(ζl.mp hy).2;rw[←e,decide_eq_true hx]at this;cases this⟩)]
  intro x;rw[ζw,ζl];constructor
  ·intro hx;by_cases c:x∈a
   ·exact .inl c
   ·exact .inr ⟨hx,by rw[decide_eq_false c]; rfl⟩
  ·rintro(c | c)
   ·exact h x c
   ·exact c.1
 have e:=Wk ss p;have l:=p.length_eq;rw[ζg]at l;rw[e,uy];refine ζ1 _ ?_;have:=Uq hs (b.filter λk=>!decide (k∈a)) λk hk=>lt k (ζl.mp hk).1
 rwa [show(b.filter λk=>!decide (k∈a)).length=b.length - a.length by omega]at this
theorem zdl{ss:AE}(hs:∀s∈ss,2≤s∧s≤4){k:Nat}(hk:k < ss.length):∃x xs,El.vr ss k=x :: xs∧xs.length + 1=(ss.getD k 0).toNat:=by
 have:=y9 hs hk;have l:(El.vr ss k).length=(ss.getD k 0).toNat:=by unfold El.vr rng; rw[List.length_map,List.length_range]
 cases e:El.vr ss k with
 | nil =>
  rw[e]at l;have l:0=(ss.getD k 0).toNat:=l;omega
 | cons x xs=>exact⟨x,xs,rfl,by rw[←l,e]; rfl⟩
theorem zfL{ss:AE}(hs:∀s∈ss,2≤s∧s≤4){k:Nat}(hk:k < ss.length){c:Nat}(c1:1≤c){f:El.Asg→Rat}(h:∀a,Bq (c - 1) (f a))(a:El.Asg):Bq (c * (ss.getD k 0).toNat - 1) (S1 ss k f a):=by
 obtain⟨x,xs,e,l⟩:=zdl hs hk;unfold Rq.S1;rw[e];have:=Bq.sum (λv=>f (El.upd a k v)) xs x λv _=>h _;rw[l,Nat.sub_add_cancel c1,Nat.mul_comm]at this;exact this
theorem zfK{ss:AE}(hs:∀s∈ss,2≤s∧s≤4){k:Nat}(hk:k < ss.length){m:Nat}{f:El.Asg→Rat}(h:∀a,Cq m (f a))(a:El.Asg):Cq (m * (ss.getD k 0).toNat) (S1 ss k f a):=by
 obtain⟨x,xs,e,l⟩:=zdl hs hk;unfold Rq.S1;rw[e];have:=Cq.sum (λv=>f (El.upd a k v)) xs x λv _=>h _;rw[l,Nat.mul_comm]at this;exact this
theorem zdO{ss:AE}(hs:∀s∈ss,2≤s∧s≤4):∀(l:AF),(∀k∈l,k < ss.length)→∀(c:Nat),1≤c→∀(f:El.Asg→Rat),(∀a,Bq (c - 1) (f a))→∀a,Bq (c * szN ss l - 1) (Sl ss l f a)
 | [],_,c,_,f,h,a=>by show Bq (c * 1 - 1) (f a); rw[Nat.mul_one]; exact h a
 | k :: r,hl,c,c1,f,h,a=>by
  have hk:=hl k ζi;have g:=y9 hs hk;have c2:1≤c * (ss.getD k 0).toNat:=Nat.mul_pos c1 ⋯;have:=zdO hs r (λx hx=>hl x (ζp _ hx)) (c * (ss.getD k 0).toNat) c2 (S1 ss k f) (zfL hs hk c1 h) a;rw[ξW]at this;exact this
theorem zdN{ss:AE}(hs:∀s∈ss,2≤s∧s≤4):∀(l:AF),(∀k∈l,k < ss.length)→∀(m:Nat) (f:El.Asg→Rat),(∀a,Cq m (f a))→∀a,Cq (m * szN ss l) (Sl ss l f a)
 | [],_,m,f,h,a=>by show Cq (m * 1) (f a); rw[Nat.mul_one]; exact h a
 | k :: r,hl,m,f,h,a=>by
  have hk:=hl k ζi;have:=zdN hs r (λx hx=>hl x (ζp _ hx)) (m * (ss.getD k 0).toNat) (S1 ss k f) (zfK hs hk h) a;rw[ξW]at this;exact this
structure Lvl(ss:AE)(g:El.Asg→Rat)(P B bi R m:Nat):Prop where
 all:∀l,(∀k∈l,k < ss.length)→szN ss l≤P→∀a,Bq B (Sl ss l g a)
 half:∀l,(∀k∈l,k < ss.length)→szN ss l * 2≤P→∀a,Bq bi (Sl ss l g a)
 rat:∀l k,(∀j∈l ++ [k],j < ss.length)→szN ss (l ++ [k])≤P→∀a,Bq R (Sl ss l g a / Sl ss (l ++ [k]) g a)
 b1:B≤8900
 b2:bi≤4480
 b3:R≤40000
 b4:R * (m - 1) + 1 + bi≤4490
theorem lvl0{ss:AE}(hs:∀s∈ss,2≤s∧s≤4){g:El.Asg→Rat}(h:∀a,Cq 249480 (g a)):Lvl ss g 16 22 22 22 3:=by
 have c:∀l,(∀k∈l,k < ss.length)→szN ss l≤16→∀a,Cq 3991680 (Sl ss l g a):=λl hl hp a=>(zdN hs l hl _ g h a).up (by
  have:=ζ1 249480 hp;omega)
 refine⟨λl hl hp a=>(c l hl hp a).bq #[2] #[2],λl hl hp a=>(c l hl ⋯ a).bq #[2] #[2],λl k hl hp a=>?_,#[2],#[2],#[2],#[2]⟩
 have hl':∀j∈l,j < ss.length:=λj hj=>hl j (ζS _ hj);refine(c l hl' ?_ a).div (c (l ++ [k]) hl hp a) #[2] #[2];rw[uy]at hp;have:1≤szN ss [k]:=by
  have:=y9 hs (hl k (by simp));show 1≤(ss.getD k 0).toNat * 1;omega
 exact ζZ (Nat.le_mul_of_pos_right _ this) hp
theorem lvlB{ss:AE}(hs:∀s∈ss,2≤s∧s≤4){g:El.Asg→Rat}{c P m:Nat}(c1:1≤c)(P1:1≤P)(h:∀a,Bq (c - 1) (g a))(h1:c * P - 1≤8900)(h2:c * (P / 2) - 1≤4480)(h4:(c * (P / 2) - 1 + (c * P - 1)) * (m - 1) + 1 + (c * (P / 2) - 1)≤4490):Lvl ss g P (c * P - 1) (c * (P / 2) - 1) (c * (P / 2) - 1 + (c * P - 1)) m:=by
 have A:∀Q l,(∀k∈l,k < ss.length)→szN ss l≤Q→∀a,Bq (c * Q - 1) (Sl ss l g a):=λQ l hl hp a=>(zdO hs l hl c c1 g h a).up (by
  have:=ζ1 c hp;omega)
 have H:∀l k,(∀j∈l ++ [k],j < ss.length)→szN ss (l ++ [k])≤P→szN ss l≤P / 2:=λl k hl hp=>by
  rw[uy]at hp;have:2≤szN ss [k]:=by
   have:=y9 hs (hl k (by simp));show 2≤(ss.getD k 0).toNat * 1;omega
  have:=ζ1 (szN ss l) this;omega
 refine⟨A P,λl hl hp=>A (P / 2) l hl ⋯,λl k hl hp a=>?_,h1,h2,⋯,h4⟩
 exact(A (P / 2) l (λj hj=>hl j (ζS _ hj)) (H l k hl hp) a).div (A P _ hl hp a)
theorem Q9{ss:AE}{s:Qs}{cl:AF}{k:Nat}(ks:k∈s.ks)(kl:k < ss.length)(kc:k∈cl):∀l:AF,l.Nodup→k∈l→k∈(runC ss cl s l).1.ks:=by
 have key:∀(n:Nat) (l:AF),l.length=n→l.Nodup→k∈l→k∈(runC ss cl s l).1.ks:=by
  intro n;induction n with
  | zero =>
   intro l hl _ hk;have:l=[]:=ζU hl;subst this;exact(nomatch hk)
  | succ n ih =>
   intro l hl nd hk;obtain⟨t,x,rfl⟩:∃t s,l=t ++ [s]:=⟨l.dropLast,l.getLast (by intro e; rw[e]at hl; cases hl),(ζ6 _).symm⟩
   have tl:t.length=n:=by rw[List.length_append]at hl; simpa using hl
   have⟨n1,_,n3⟩:=ζ4.mp nd;rw[xS];unfold stp;by_cases c:k∈t
   ·have z:=ih t tl n1 c;show k∈(if x∈cl then Rq.join ss.length (runC ss cl s t).1 (Rq.dvd (runC ss cl s t).2 (Rq.lout ss (runC ss cl s t).2 x))else(runC ss cl s t).1).ks;split
    ·exact El.xU.mpr ⟨kl,.inl z⟩
    ·exact z
   ·have e:k=x:=by
     rcases ζw.mp hk with z | z
     ·exact absurd z c
     ·exact ζk.mp z
    subst e;rw[if_pos kc];refine El.xU.mpr ⟨kl,.inr ?_⟩;show k∈(runC ss cl s t).2.ks;rw[(xK ss cl s t).2];exact ζl.mpr ⟨ks,by rw[decide_eq_false c]; rfl⟩
 exact λl=>key l.length l rfl
structure Fx(n:Nat)(cs:AI)(hs:AF)(f:AE)(ss:AE)(U:AF):Prop where
 s7:S7 ss
 sn:ss.length=n
 sh:ShOk n cs
 n12:n≤12
 od:grd cs n (rgI n)=some f
 te:TwE cs hs
 hl:hs.length≤12
 ur:U.Pairwise (· < ·)
 ult:∀k∈U,k < n
 u4:U.length≤4
 u16:szN ss U≤16
theorem Fx.perm{n:Nat}{cs:AI}{hs:AF}{f:AE}{ss:AE}{U:AF}(h:Fx n cs hs f ss U):f.Perm (rgI n):=(W6 n uC zad h.od).1
theorem Fx.nn{n:Nat}{cs:AI}{hs:AF}{f:AE}{ss:AE}{U:AF}(h:Fx n cs hs f ss U):∀x∈f,0≤x:=λx hx=>(vO.mp (h.perm.mem_iff.mp hx)).1
theorem Fx.fl{n:Nat}{cs:AI}{hs:AF}{f:AE}{ss:AE}{U:AF}(h:Fx n cs hs f ss U):f.length=n:=by rw[h.perm.length_eq,uC]
theorem Fx.odp{n:Nat}{cs:AI}{hs:AF}{f:AE}{ss:AE}{U:AF}(h:Fx n cs hs f ss U){ah:AF}(nd:ah.Nodup)(lt:∀k∈ah,k < n):(odF f ah).Perm ah:=by
 have e:(f.map Int.toNat).Perm (List.range n):=by
  have:=h.perm.map Int.toNat
  rwa [show(rgI n).map Int.toNat=List.range n by unfold rgI zl; rw[List.map_map]; exact(List.map_congr_left λx _=>Int.toNat_natCast x).trans (List.map_id _)]at this
 have e2:(odF f ah).Perm ((List.range n).filter λk=>decide (k∈ah)):=e.filter _;refine e2.trans ?_;rw[ξc (List.nodup_range.sublist ζK) nd];intro x;rw[ζl,ζG];exact⟨λz=>of_decide_eq_true z.2,λz=>⟨lt x z,decide_eq_true z⟩⟩
theorem vp{l:AF}(h:l.Pairwise (· < ·)):l.Nodup:=h.imp λz=>by omega
theorem zbV{n:Nat}{cs:AI}{hs:AF}{f:AE}{ss:AE}{U:AF}(h:Fx n cs hs f ss U){s:Qs}{ah pt:AF}{P B bi R m b':Nat}(L:Lvl ss s.f P B bi R m)(ok:QsOk ss s)(su:∀k∈s.ks,k∈U)(asub:∀k∈ah,k∈s.ks)(ar:ah.Pairwise (· < ·))(p0:pt≠[])(ps:∀k∈pt,k∈ah)(pr:pt.Pairwise (· < ·))(hP:szN ss ah≤P)(hm:pt.length≤m)(hb0:∃b,b≤4480∧∀a,Bq b (s.f a))(hb:R * m + 1≤b')(hB:B≤b'):
  LSo n cs hs f ss s U ah pt∧(∀a,Bq b' ((wkQ n cs hs f ss s ah pt).f a))∧QsOk ss (wkQ n cs hs f ss s ah pt)∧(∀k∈(wkQ n cs hs f ss s ah pt).ks,k∈U)∧∀k∈pt,k∈(wkQ n cs hs f ss s ah pt).ks:=by
 have n12:=h.n12;have sn:=h.sn;have and':=vp ar;have und:=vp h.ur;have alt:∀k∈ah,k < n:=λk hk=>h.ult k (su k (asub k hk));have alt':∀k∈ah,k < ss.length:=λk hk=>by rw[sn]; exact alt k hk
 have al:ah.length≤U.length:=Ur and' λk hk=>su k (asub k hk);have u4:=h.u4;have op:=h.odp and' alt;have orp:(odF f ah).reverse.Perm ah:=(List.reverse_perm _).trans op;have olt:∀k∈(odF f ah).reverse,k < ss.length:=λk hk=>alt' k (orp.mem_iff.mp hk);have ond:(odF f ah).reverse.Nodup:=orp.nodup_iff.mpr and';have oP:szN ss (odF f ah).reverse≤P:=by rw[Wk ss orp]; exact hP
 have sub_le:∀l,l.Nodup→(∀k∈l,k∈ah)→szN ss l≤P:=λl nd hl=>by
  have:=Up h.s7.s nd and' hl alt';have:=Nat.le_mul_of_pos_right (szN ss l) (show 0 < 2 ^ (ah.length - l.length)from Nat.pow_pos #[2]);omega
 have tk:∀i,szN ss ((odF f ah).reverse.take i)≤P:=λi=>sub_le _ (ond.sublist (ξX _ _)) λk hk=>orp.mem_iff.mp (ζ7 hk);have tl:∀i,∀k∈(odF f ah).reverse.take i,k < ss.length:=λi k hk=>olt k (ζ7 hk);have usz:SzOk ss U:=tT h.s7 (λk hk=>by rw[sn]; exact h.ult k hk) ⋯;have U16:(wds (pk ss U)).length≤16:=by
  rw[yM,←Zs h.s7.s U λk hk=>by rw[sn]; exact h.ult k hk];have:=h.u16;omega
 have pm:=ζ1 R (show pt.length - 1≤m - 1 by omega);have lb4:=L.b4;have C:CSo ss s (odF f ah).reverse pt R:=by
  refine⟨h.s7,ok,ond,λk hk=>asub k (orp.mem_iff.mp hk),⟨λi _ a=>(L.all _ (tl i) (tk i) a).up L.b1,λi hi a=>?_⟩,⋯,L.b3⟩
  have e:=take_succ (ζd hi);rw[e];exact L.rat _ _ (by rw[←e]; exact tl (i + 1)) (by rw[←e]; exact tk (i + 1)) a
 have LC:LCo ss s U (odF f ah).reverse pt R bi:=by
  refine⟨C,λi hi a=>L.half _ (tl i) ?_ a,L.b2,⋯,und,usz,⋯,U16,su⟩
  have e:=take_succ (ζd hi);have z:=tk (i + 1);rw[e,uy]at z;have g:=y9 h.s7.s (olt _ (ξa hi));have:2≤szN ss [(odF f ah).reverse[i]]:=by
   show 2≤(ss.getD _ 0).toNat * 1;omega
  exact ζZ (ζ1 _ this) z
 have fsub:∀l,l.Sublist (ah.filter λk=>!decide (k∈pt))→∀a,Bq B (Sl ss l s.f a):=λl hl a=>L.all l (λk hk=>alt' k (ζl.mp (hl.subset hk)).1) (sub_le l ((and'.sublist ζK).sublist hl) λk hk=>(ζl.mp (hl.subset hk)).1) a;have W:WSo n cs hs f ss s ah pt:=⟨h.s7,ok,h.sh,n12,h.od,h.nn,alt,⋯,and',by rw[h.fl]; exact n12,asub,λ_=>⟨R,C⟩,λ_ i _ a=>(fsub _ (ξX _ _) a).up L.b1⟩
 refine⟨⟨W,h.te,h.hl,ar,h.ur,p0,ps,λ_=>⟨R,bi,LC⟩,und,usz,⋯,U16,su,hb0⟩,?_⟩
 unfold wkQ;split
 ·have ci:=CSi.all C (odF f ah).reverse.length (ζj _);have c1:=ci.o1;have cb:=ci.b1;rw[ζ3]at c1 cb;have cn:=V6 (cl:=pt) ond;refine⟨λa=>(cb a).up ?_,c1,Q8 pt su ok.k _,λk hk=>Q9 (asub k (ps k hk)) (alt' k (ps k hk)) hk _ ond (orp.mem_iff.mpr (ps k hk))⟩
  have:=ζ1 R (show cnt pt (odF f ah).reverse≤m by omega);omega
 ·obtain⟨f1,f2,f3⟩:=vV ss (ah.filter λk=>!decide (k∈pt)) s ok;refine⟨λa=>by rw[f2]; exact(fsub _ (List.Sublist.refl _) a).up hB,f1,λk hk=>su k ((f3 k).mp hk).1,λk hk=>(f3 k).mpr ⟨asub k (ps k hk),λz=>?_⟩⟩
  have:=(ζl.mp z).2;rw[decide_eq_true hk]at this;cases this
structure ChO(U:AF)(ls:AI):Prop where
 ne:0 < ls.length
 h0:ls.getD 0 []=U
 r:∀l∈ls,l.Pairwise (· < ·)∧l≠[]
 st:∀j,j + 1 < ls.length→(∀k∈ls.getD (j + 1) [],k∈ls.getD j [])∧(ls.getD (j + 1) []).length < (ls.getD j []).length
theorem ChO.take{U:AF}{ls:AI}(h:ChO U ls){m:Nat}(h1:1≤m):ChO U (ls.take m):=by
 have g:∀j,j < m→(ls.take m).getD j []=ls.getD j []:=λj hj=>by
  rw[ζb,ζb,List.getElem?_take_of_lt hj]
 have:=h.ne;refine⟨by rw[ζJ]; omega,by rw[g 0 h1]; exact h.h0,λl hl=>h.r l (ζ7 hl),λj hj=>?_⟩
 rw[ζJ]at hj;rw[g j ⋯,g (j + 1) ⋯];exact h.st j ⋯
theorem zeI{n:Nat}{cs:AI}{hs l:AF}{bi:Int}(h:LOk n l):∀x∈fdF n cs hs bi l,x∈l:=λx hx=>by
 unfold fdF at hx;split at hx
 ·have p:=h.pos;have q0:=ζY (bi / 2) (show(l.length:Int)≠0 by omega);have q1:=ζR (bi / 2) (show(0:Int) < l.length by omega);exact zdD (ζf (zE (d:=0) ⋯)) (xq.mp hx).2
 ·exact(ζl.mp hx).1
theorem zdL(ns:AE){n:Nat}{cs:AI}{hs se:AF}(h:LOk n se):∀i,ChO se (drF ns n cs hs se i)
 | 0=>⟨by show 0 < 1; decide,rfl,λl hl=>by rw[ζk.mp hl]; exact⟨h.r,h.ne⟩,λj hj=>absurd hj (by show¬j + 1 < 1; omega)⟩
 | i + 1=>by
  have ih:=zdL ns (cs:=cs) (hs:=hs) h i;have D:=(XV ns (cs:=cs) (hs:=hs) h i).1;show ChO se (drS n cs hs (zB ns (dx i)) (drF ns n cs hs se i));unfold drS;split
  ·rename_i c;have ne:=ih.ne;have fo:=za8 (cs:=cs) (hs:=hs) (bi:=zB ns (dx i)) D.last;have fs:=zeI (cs:=cs) (hs:=hs) (bi:=zB ns (dx i)) D.last;generalize fdF n cs hs (zB ns (dx i)) (uQ (drF ns n cs hs se i))=g at *;unfold uQ at *;generalize drF ns n cs hs se i=ls at *;have gl:∀j,j < ls.length→(ls ++ [g]).getD j []=ls.getD j []:=λj hj=>by
    rw[ζb,ζb,ξy hj]
   have gr:(ls ++ [g]).getD ls.length []=g:=by
    rw[ζb,List.getElem?_concat_length];rfl
   refine⟨by rw[ζg]; show 0 < _ + 1; omega,by rw[gl 0 ne]; exact ih.h0,λl hl=>?_,λj hj=>?_⟩
   ·rcases ζw.mp hl with z | z
    ·exact ih.r l z
    ·rw[ζk.mp z]; exact⟨fo.1,c.1⟩
   ·rw[ζg]at hj;have hj:j + 1 < ls.length + 1:=hj;by_cases e:j + 1=ls.length
    ·rw[e,gr,gl j ⋯,show j=ls.length - 1 by omega];exact⟨fs,c.2⟩
    ·rw[gl j ⋯,gl (j + 1) ⋯];exact ih.st j ⋯
  ·exact ih
def Lv(i:Nat)(g:El.Asg→Rat):Prop:=match i with
 | 0=>∀a,Cq 249480 (g a)
 | 1=>∀a,Bq 67 (g a)
 | 2=>∀a,Bq 2173 (g a)
 | _=>∀a,Bq 40000 (g a)
theorem Lv.top{i:Nat}{g:El.Asg→Rat}(h:Lv i g):∀a,Bq 40000 (g a):=by
 match i,h with
 | 0,h=>exact λa=>((h a).bq (n:=22) #[2] #[2]).up #[2]
 | 1,h=>exact λa=>(h a).up #[2]
 | 2,h=>exact λa=>(h a).up #[2]
 | _ + 3,h=>exact h
structure Af(n:Nat)(ss:AE)(U l:AF)(i:Nat)(s:Qs):Prop where
 ok:QsOk ss s
 u:∀k∈s.ks,k∈U
 l:∀k∈l,k∈s.ks
 v:Lv i s.f
theorem Z0{n:Nat}{cs:AI}{hs:AF}{f:AE}{ss:AE}{U:AF}(h:Fx n cs hs f ss U){ls:AI}(c:ChO U ls)(ll:ls.length≤4){s:Qs}(a0:Af n ss U U 0 s):∀i,i < ls.length→Af n ss U (ls.getD i []) i (wkN n cs hs f ss s ls i)∧(i + 1 < ls.length→LSo n cs hs f ss (wkN n cs hs f ss s ls i) U (ls.getD i []) (ls.getD (i + 1) [])):=by
 have ult:∀k∈U,k < ss.length:=λk hk=>by rw[h.sn]; exact h.ult k hk
 have und:=vp h.ur;have mem:∀j,j < ls.length→ls.getD j []∈ls:=λj hj=>ζf (zE hj);have size:∀j,j < ls.length→(∀k∈ls.getD j [],k∈U)∧(ls.getD j []).length + j≤4∧szN ss (ls.getD j []) * 2 ^ j≤16:=by
  intro j;have sub:∀j,j < ls.length→(∀k∈ls.getD j [],k∈U)∧(ls.getD j []).length + j≤U.length:=by
   intro j;induction j with
   | zero=>intro _; rw[c.h0]; exact⟨λ_ z=>z,⋯⟩
   | succ j ih =>
    intro hj;have i1:=ih ⋯;have i2:=c.st j hj;exact⟨λk hk=>i1.1 k (i2.1 k hk),⋯⟩
  intro hj;have S:=sub j hj;have u4:=h.u4;have u16:=h.u16;refine⟨S.1,⋯,?_⟩
  have z:=Up h.s7.s (vp (c.r _ (mem j hj)).1) und S.1 ult;have:=ζ1 (szN ss (ls.getD j [])) (ξo (show 0 < 2 by decide) (show j≤U.length - (ls.getD j []).length by omega));omega
 have go:∀i,i + 1 < ls.length→Af n ss U (ls.getD i []) i (wkN n cs hs f ss s ls i)→LSo n cs hs f ss (wkN n cs hs f ss s ls i) U (ls.getD i []) (ls.getD (i + 1) [])∧Af n ss U (ls.getD (i + 1) []) (i + 1) (wkN n cs hs f ss s ls (i + 1)):=by
  intro i hi A;have s1:=size i ⋯;have s2:=size (i + 1) hi;have st:=c.st i hi;have r1:=c.r _ (mem i ⋯);have r2:=c.r _ (mem (i + 1) hi);have hs4:=h.s7.s;have p2:0 < (ls.getD (i + 1) []).length:=Nat.pos_of_ne_zero λz=>r2.2 (ξe.mp z);have fin:∀P B bi R m b':Nat,Lvl ss (wkN n cs hs f ss s ls i).f P B bi R m→szN ss (ls.getD i [])≤P→(ls.getD (i + 1) []).length≤m→(∃b,b≤4480∧∀a,Bq b ((wkN n cs hs f ss s ls i).f a))→R * m + 1≤b'→B≤b'→((∀a,Bq b' ((wkN n cs hs f ss s ls (i + 1)).f a))→Lv (i + 1) (wkN n cs hs f ss s ls (i + 1)).f)→LSo n cs hs f ss (wkN n cs hs f ss s ls i) U (ls.getD i []) (ls.getD (i + 1) [])∧Af n ss U (ls.getD (i + 1) []) (i + 1) (wkN n cs hs f ss s ls (i + 1)):=λP B bi R m b' L hP hm hb0 hb hB lv=>by
   obtain⟨t1,t2,t3,t4,t5⟩:=zbV h L A.ok A.u A.l r1.1 r2.2 st.1 r2.1 hP hm hb0 hb hB;exact⟨t1,t3,t4,t5,lv t2⟩
  match i,A.v,s1,s2,fin,st,p2 with
  | 0,v,s1,s2,fin,st,p2=>exact fin _ _ _ _ _ 67 (lvl0 hs4 v) ⋯ ⋯ ⟨22,#[2],λa=>(Rq.Cq.bq (v a) #[2] #[2])⟩ #[2] #[2] id
  | 1,v,s1,s2,fin,st,p2=>exact fin _ _ _ _ _ 2173 (lvlB hs4 (c:=68) (P:=8) (m:=2) #[2] #[2] v #[2] #[2] #[2]) ⋯ ⋯ ⟨67,#[2],v⟩ #[2] #[2] id
  | 2,v,s1,s2,fin,st,p2=>exact fin _ _ _ _ _ 40000 (lvlB hs4 (c:=2174) (P:=4) (m:=1) #[2] #[2] v #[2] #[2] #[2]) ⋯ ⋯ ⟨2173,#[2],v⟩ #[2] #[2] id
  | j + 3,v,s1,s2,fin,st,p2=>exfalso; omega
 intro i;induction i with
 | zero =>
  intro hi;have A:Af n ss U (ls.getD 0 []) 0 (wkN n cs hs f ss s ls 0):=by rw[c.h0]; exact a0
  exact⟨A,λz=>(go 0 z A).1⟩
 | succ i ih =>
  intro hi;have A:=(go i hi (ih ⋯).1).2;exact⟨A,λz=>(go (i + 1) z A).1⟩
theorem Vh{n:Nat}{cs:AI}{hs:AF}{f:AE}{ss:AE}(h:Fx n cs hs f ss (zk n hs)){ls:AI}(c:ChO (zk n hs) ls)(ll:ls.length≤4){s:Qs}(sk:s.ks=zk n hs)(a0:Af n ss (zk n hs) (zk n hs) 0 s):WKo n cs hs f ss s ls 40000:=by
 have ne:=c.ne;have E:=(Z0 h c ll a0 (ls.length - 1) ⋯).1;exact⟨h.s7,h.sh,h.n12,h.sn,⋯,ne,sk,λa=>(Lv.top a0.v a).bits.1,λi hi=>((Z0 h c ll a0 i ⋯).2 hi).w,E.ok,E.u,Lv.top E.v⟩
theorem zao(ss:AE)(U:AF)(g:El.Asg→Rat):qX ss ⟨U,g⟩=(tq ss U g).map rp:=by
 unfold tq Rq.qX;rw[ζx];rfl
def q0(ss:AE)(U:AF)(qs:List Rat):Qs:=⟨U,λa=>qs.getD (rkF (pk ss U) (U.map a)).toNat 1⟩
theorem zfi{ss:AE}{U:AF}{qs:List Rat}(sz:SzOk ss U)(nd:U.Nodup)(hl:qs.length=(wds (pk ss U)).length):tq ss U (q0 ss U qs).f=qs:=by
 refine List.ext_getElem (by rw[xA,hl]) λi h1 h2=>?_;have iw:i < (wds (pk ss U)).length:=by omega
 have ip:i < (prod (pk ss U)).toNat:=by rw[yM]at iw; exact iw
 have g:=Uj ip;have ew:(wds (pk ss U))[i]=wld (pk ss U) i:=by
  rw[ζd iw]at g;exact ζr g
 have wm:(wds (pk ss U))[i]∈wds (pk ss U):=ξa iw;have em:U.map (El.asg U (wds (pk ss U))[i])=(wds (pk ss U))[i]:=by
  refine List.ext_getElem (by rw[ζa]; exact Rq.Zp wm) λj h3 h4=>?_;rw[ζa]at h3;rw[List.getElem_map,El.xz U _ _ (ξa h3),nd.idxOf_getElem j h3,ζb,ζd h4];rfl
 have t:=QP (f:=(q0 ss U qs).f) (ζd iw);rw[ζd h1]at t;rw[ζr t];show qs.getD (rkF (pk ss U) (U.map (El.asg U (wds (pk ss U))[i]))).toNat 1=qs[i];rw[em,ew,zcj (λs hs=>by have:=sz.pk s hs; omega) ⋯ ⋯,ζI,ζb,ζd h2];rfl
theorem zfj{n:Nat}{ss:AE}{U:AF}{qs:List Rat}(lt:∀k∈U,k < ss.length)(nd:U.Nodup)(hq:∀q∈qs,Cq 249480 q):Af n ss U U 0 (q0 ss U qs):=by
 refine⟨⟨lt,nd,λa b h=>?_⟩,λ_ z=>z,λ_ z=>z,λa=>?_⟩
 ·show qs.getD (rkF (pk ss U) (U.map a)).toNat 1=qs.getD (rkF (pk ss U) (U.map b)).toNat 1;rw[show U.map a=U.map b from ζs h]
 ·show Cq 249480 (qs.getD (rkF (pk ss U) (U.map a)).toNat 1);rw[ζb];cases e:qs[(rkF (pk ss U) (U.map a)).toNat]? with
  | none=>exact⟨2520,#[2],#[2],by rw[show(Option.getD none 1:Rat)=1 from rfl,Rat.one_mul]; rfl⟩
  | some q=>exact hq q (ζf e)
theorem Zw(xs:AM):SeqAt.shaped (shs xs)=true:=by
 refine tD ?_ ?_
 ·exact xt (g:=shD) (λ_=>rfl) xs
 ·have:=yU (g:=shD) (n:=1) (λ_=>ζj _) xs;show PyData.depthAll _ + 1≤50;omega
theorem Tx(ss:AE)(cs:AI)(hs:AF)(ls:AI)(xs:AM):SeqAt.shaped (.list [il ss,nls cs,nl hs,nls ls,shs xs])=true:=by
 have l1:=xt (g:=nl) (λk=>xt (g:=λk:Nat=>PyData.int (k:Int)) (λ_=>rfl) k) cs;have l2:=xt (g:=nl) (λk=>xt (g:=λk:Nat=>PyData.int (k:Int)) (λ_=>rfl) k) ls;have l3:=xt (g:=λk:Nat=>PyData.int (k:Int)) (λ_=>rfl) hs;have l4:=xt (g:=PyData.int) (λ_=>rfl) ss;have l5:=xt (g:=shD) (λ_=>rfl) xs;have dn1:∀k:AF,PyData.depth (nl k)≤1:=λk=>by
  have:=yU (g:=λk:Nat=>PyData.int (k:Int)) (n:=0) (λ_=>ζj _) k;show PyData.depthAll _ + 1≤1;omega
 have d1:=yU (g:=nl) (n:=1) dn1 cs;have d2:=yU (g:=nl) (n:=1) dn1 ls;have d3:=yU (g:=λk:Nat=>PyData.int (k:Int)) (n:=0) (λ_=>ζj _) hs;have d4:=yU (g:=PyData.int) (n:=0) (λ_=>ζj _) ss;have d5:=yU (g:=shD) (n:=1) (λ_=>ζj _) xs;refine tD ?_ ?_
 ·show(PyData.canLayAll0 _ && (PyData.canLayAll0 _ && (PyData.canLayAll0 _ && (PyData.canLayAll0 _ && (PyData.canLayAll0 _ && true)))))=true;rw[l1,l2,l3,l4,l5];rfl
 ·show max (PyData.depthAll _ + 1) (max (PyData.depthAll _ + 1) (max (PyData.depthAll _ + 1) (max (PyData.depthAll _ + 1) (max (PyData.depthAll _ + 1) 0)))) + 1≤50;omega
theorem Uv(xs:AM):∀d∈xs.map shD,imm d=true:=λd hd=>by
 obtain⟨x,_,rfl⟩:=ζn.mp hd;rfl
theorem zdZ:zA ["_law_script","_law_causes","_law_hidden","_law_line","_law_sizes_here","_law_seen","_law_some","_law_sheet_here","_law_lists","_law_handed","_law_found","_law_many","_law_due"] ["_law_script"] (zn (top 63)):={}
theorem zes(F:Fun K "law" "law" (top 63) f fd)(B:Bs mg)(c_law_shape:zt P w K mg base CX0 "_law_shape" ["_law_script","_law_many","_law_most"] 3 (spD K true ub))(c_law_at:zt P w K mg base CX0 "_law_at" ["_law_script","_law_k"] 1 (spD K true zU))(c_law_sizes:zt P w K mg base CX0 "_law_sizes" ["_law_script","_law_many","_law_hidden","_law_most"] 2 (spW K true v9))(c_law_worlds:zt P w K mg base CX0 "_law_worlds" ["_law_sizes_here","_law_things"] 1 (spD K true vz))(c_law_sheet:zt P w K mg base CX0 "_law_sheet" ["_law_script","_law_many"] 3 (spW K true ua))(c_law_drawn:zt P w K mg base CX0 "_law_drawn" ["_law_script","_law_causes","_law_hidden","_law_seen"] 2 (spD K false ud))(c_worked:zt P w K mg base CX0 "worked" ["sizes","causes","hidden","lists","shares"] 9 (spD K true wV))(c_law_worked:zt P w K mg base CX0 "_law_worked" ["_law_causes","_law_hidden","_law_seen","_law_lists","_law_some","_law_shares"] 6 (spD K false xV))(c_law_good:zt P w K mg base CX0 "_law_good" ["_law_found","_law_due"] 3 (spD K true uJ)):FnOk P w K mg base CX0 10 f fd ["_law_script"] (Uu K):=by
 have sc:=zdZ;refine F.ok sc (λvs H Q E h=>?_) (λcdv A outer s H vs Q E hr h=>?_)
 ·obtain⟨a,ns,rfl,_⟩:=h;rfl
 obtain⟨a,ns,rfl,hS,h63,k⟩:=h;have le:Same H H:=Same.refl H;have dp:zT K H [V.ref a] [PyData.list (ns.map .int)]:=.cons (.lst hS (ZX ns)) .nil;have q:∀v H' F',Gr H H H' F'→Rp K false .fresh H F' v (.bool true)→Q v H':=λv H' F' _ z=>by cases z; exact k H'
 refine⟨_,(ze (Xr (pF c_law_shape hr (zb (pv 0) (zb (zq yq zg (zq yy (pF c_law_at hr (zb (pv 0) (zb zg zd))) zg)) (zb zg zd)))) (xQ (K:=K) (n:=3) rfl rfl (yf (pN (i:=1) sc.nd) (yf (pN (i:=2) sc.nd) (yf (pN (i:=3) sc.nd) xP)))))
   (ze (pS (i:=4) sc.nd (pF c_law_sizes hr (zb (pv 0) (zb (pB (zj (K:=K) rfl) B.len (zb (pv 1) zd)) (zb (pv 2) (zb zg zd))))))
   (ze (pS (i:=5) sc.nd (pB (xx (K:=K) rfl) B.sorted (zb (pv 3) zd)))
   (ze (pS (i:=6) sc.nd (pF c_law_worlds hr (zb (pv 4) (zb (pv 5) zd))))
   (ze (pS (i:=7) sc.nd (pF c_law_sheet hr (zb (pv 0) (zb (pB (zj (K:=K) rfl) B.len (zb (pv 6) zd)) zd))))
   (ze (pS (i:=8) sc.nd (pF c_law_drawn hr (zb (pv 0) (zb (pv 1) (zb (pv 2) (zb (pv 5) zd))))))
   (ze (pS (i:=9) sc.nd (zQ (zb (pY (yh (K:=K) rfl) B.list (zb (pv 4) zd)) (zb (yl rfl (N:=["_law_kin"]) (js:=[none]) (by walk_at"comp_ok") (zJ (K:=K) rfl (pv 1)) (λ_ _ _ _=>(pN (i:=0) (show υN ["_law_kin"]by decide +kernel))) (λ_ _ _ _=>xF) (λ_ _ _ _=>(pY (yh (K:=K) rfl) B.list (zb (pv 0) zd)))) (zb (pY (yh (K:=K) rfl) B.list (zb (pv 2) zd)) (zb (zQ (zb (pY (yh (K:=K) rfl) B.list (zb (pv 5) zd)) zd)) (zb (pY (yh (K:=K) rfl) B.list (zb (pv 7) zd)) zd)))))))
   (ze (pS (i:=10) sc.nd (pF c_worked hr (zb (pX (zv (K:=K) rfl) (pv 9) zg) (zb (pX (zv (K:=K) rfl) (pv 9) zg) (zb (pX (zv (K:=K) rfl) (pv 9) zg) (zb (pX (zv (K:=K) rfl) (pv 9) zg) (zb (pX (zv (K:=K) rfl) (pv 9) zg) zd)))))))
   (ze (yx (zu (UL (K:=K) rfl hr.units) (pv 10) (pv 7) (zP _)) (zi (zG uL)) zV)
   (ze (yg (Xt (K:=K) rfl ζq PySem.F.slot_list_clear PySem.F.type_list_clear zaI (pv 10)))
   (ze (zZ AC rfl (zJ (K:=K) rfl (zQ (zb (zq w4 (pB (zj (K:=K) rfl) B.len (zb (pv 8) zd)) zg) (zb (pB (zj (K:=K) rfl) B.len (zb (pv 8) zd)) zd)))) (pN (i:=11) sc.nd) (zi (yx (zu tZ (pv 11) zg (zP _)) (ze (Xr (yl rfl (N:=["_law_one"]) (js:=[none]) (by walk_at"comp_ok") (zJ (K:=K) rfl (wG (wz (K:=K) rfl) (pv 8) vS (vR (pv 11)))) (λ_ _ _ _=>(pN (i:=0) (show υN ["_law_one"]by decide +kernel))) (λ_ _ _ _=>xF) (λ_ _ _ _=>(pY (yh (K:=K) rfl) B.list (zb (pv 0) zd)))) (VH (pv 9) zg Zx))
   (ze (pS (i:=12) sc.nd (pF c_law_worked hr (zb (pv 1) (zb (pv 2) (zb (pv 5) (zb (wG (wz (K:=K) rfl) (pv 8) vS (vR (pv 11))) (zb (pv 6) (zb (pv 7) zd))))))))
   (ze (yx (ui (wq (pF c_law_good hr (zb (pF c_worked hr (zb (pX (zv (K:=K) rfl) (pv 9) zg) (zb (pX (zv (K:=K) rfl) (pv 9) zg) (zb (pX (zv (K:=K) rfl) (pv 9) zg) (zb (pX (zv (K:=K) rfl) (pv 9) zg) (zb (pX (zv (K:=K) rfl) (pv 9) zg) zd)))))) (zb (pv 12) zd))))) (zi (zG uL)) zV)
   (zi (yx (zu (UL (K:=K) rfl hr.units) (pv 9) (zQ (zb (pv 4) (zb (pv 1) (zb (pv 2) (zb (wG (wz (K:=K) rfl) (pv 8) vS (vR (pv 11))) (zb (pv 7) zd)))))) (zP _)) (zi (zG uL)) zV))))) zV)))
   (zi (zG (xR (zcv (K:=K) rfl hr.units) (pX (zv (K:=K) rfl) (pv 9) zg) (pv 7) (zP _))))))))))))))),?_⟩
 have hN:=sc.n 13;have big:=zK;walk_at"run";have at0:zU [il ns,.int 0] (.int (zB ns 0)):=⟨ns,0,rfl,h63,#[2],rfl⟩
 have f0:=ζY (zB ns 0) (show(3:Int)≠0 by decide);have f1:=ζR (zB ns 0) (show(0:Int) < 3 by decide);obtain⟨m,hm⟩:∃m:Nat,2 + zB ns 0 % 3=(m:Int):=⟨(2 + zB ns 0 % 3).toNat,⋯⟩
 have m2:2≤m:=by omega
 have m4:m≤4:=by omega
 have sh:=Q2 ns m2 m4;have te:=QK ns m2 (show m≤6 by omega);obtain⟨fo,od⟩:=zej ns m2 (show m≤6 by omega);refine yr (·=[some (.fz false (il ns)),some (.fz true (nls (csF ns m))),some (.fz true (nl (hiF ns m))),some (.fz true (nl ((yk ns m).take m))),none,none,none,none,none,none,none,none,none]) (zeK (κ:=true) (zm (zh ∅ (zh (EvE.eq (xC ∅ (yZ (zm ∅ at0) ∅ #[2])) (congrArg PyData.int hm)) (zh ∅ zD))) ⟨ns,m,rfl,h63,m2,⋯,rfl⟩) (eg3 #[0] #[0] #[0] rfl)) ?_;rintro Γ1 rfl;generalize csF ns m=cs at *;generalize hiF ns m=hs at *;generalize (yk ns m).take m=ln at *;generalize hn:cs.length=n at sh od;have sn4:=sh.m4;have nm:=sh.nm;have n7:=sh.n7;have hl:=sh.hl;have ecl:PyData.int (((cs.map nl).length:Nat):Int)=.int (n:Int):=by rw[ζa,hn]
 have sl0:(zk n hs).length=m:=by
  rw[←sh.sn,(yD _).length_eq];exact sh.ll
 refine exg true (Vb (zh ∅ (zh (EvE.eq (ye (ds:=cs.map nl) ∅) ecl) ∅)) ⟨ns,n,hs,rfl,h63,⋯,⋯,⋯,⋯,⋯,rfl⟩) (λd=>by walk_at"sc") ?_;rintro d ⟨ss,so,p16,rfl⟩;have sl:=so.l;have lnl:ln.length < 64:=by have:=sh.ll; omega
 have es:((srt (zl ln)).map PyData.int)=(zk n hs).map λk:Nat=>PyData.int (k:Int):=by
  rw[Zt,sh.sn];rfl
 refine exs true (d:=nl (zk n hs)) (EvO.toE (EvO.eq (xZ (ns:=zl ln) (EvE.toL (EvE.eq (κ:=false) ∅ (yt ln))) (by unfold zl; rw[List.length_map]; exact lnl)) es)) #[0] ?_;have s7:S7 ss:=⟨so.s,⋯⟩
 have ur:(zk n hs).Pairwise (· < ·):=List.pairwise_lt_range.sublist ζK;have und:=vp ur;have ult:∀k∈zk n hs,k < n:=λk hk=>ζG.mp (ζl.mp hk).1;have ult':∀k∈zk n hs,k < ss.length:=λk hk=>by rw[sl]; exact ult k hk
 have sz:SzOk ss (zk n hs):=tT s7 ult' ⋯;have shk:ShOk n cs:=⟨hn,λr hr=>⟨(sh.ck r hr).1,by have:=(sh.ck r hr).2; omega⟩⟩
 have u16:szN ss (zk n hs)≤16:=by
  have:=Zs s7.s (zk n hs) ult';omega
 have W16:(wds (pk ss (zk n hs))).length≤16:=by
  rw[yM];omega
 have fx:Fx n cs hs fo ss (zk n hs):=⟨s7,sl,shk,⋯,od,te,⋯,ur,ult,⋯,u16⟩
 refine exs true (d:=lls (wds (pk ss (zk n hs)))) (zm ∅ ⟨ss,_,rfl,sz,rfl⟩) #[0] ?_;refine exg true (Vb (zh ∅ (zh (EvE.eq (ye (ds:=(wds (pk ss (zk n hs))).map il) ∅) (by rw[ζa])) zD)) ⟨ns,(wds (pk ss (zk n hs))).length,rfl,h63,W16,rfl⟩) (λd=>by walk_at"sc") ?_;rintro d ⟨qs,ql,hq,rfl⟩;have lo:LOk n (zk n hs):=⟨ur,ult,λz=>by rw[z]at sl0; simp at sl0; omega,⋯⟩
 have D:=XV ns (cs:=cs) (hs:=hs) lo 3;have C:=zdL ns (cs:=cs) (hs:=hs) lo 3;have d4:=D.2;refine exs false (d:=nls (drF ns n cs hs (zk n hs) 3)) (vF ∅ ⟨ns,n,cs,hs,zk n hs,rfl,h63,shk,⋯,te,⋯,lo,rfl⟩) #[0] ?_;generalize drF ns n cs hs (zk n hs) 3=ls at *;have e0:=zfi sz und ql;have a0:=zfj (n:=n) ult' und hq;have ex:qX ss (q0 ss (zk n hs) qs)=qs.map rp:=by
  show qX ss ⟨zk n hs,(q0 ss (zk n hs) qs).f⟩=_;rw[zao,e0]
 have lsl:ls.length≤4:=d4;have ls0:=C.ne;refine exo false (ds:=[il ss,nls cs,nl hs,nls [zk n hs],shs (qs.map rp)]) (yc (ds:=[il ss,nls cs,nl hs,nls [zk n hs],shs (qs.map rp)]) (zh (EvO.toE (yR (EvL.imm (κ:=false) (EvE.toL ∅) (wI ss)))) (zh (EvO.toE (EvO.eq (vW (is:=[0]) false (λd=>d) (zO ∅) (by walk_at"cc") rfl #[2] ?_ ?_) (by rw[List.map_id']))) (zh (EvO.toE (yR (EvL.imm (κ:=false) (EvE.toL ∅) (wv hs)))) (zh (EvO.toE (yc (ds:=[nl (zk n hs)]) (zh (EvO.toE (yR (EvL.imm (κ:=false) (EvE.toL ∅) (wv (zk n hs))))) zD) (by show 1≤sizeLine; omega))) (zh (EvO.toE (yR (EvL.imm (κ:=false) (EvE.toL ∅) (Uv (qs.map rp))))) zD))))) (by show 5≤sizeLine; omega)) #[0] ?_
 ·rw[ζa];omega
 ·intro d hd;obtain⟨v,_,rfl⟩:=ζn.mp hd;exact egn #[0] (EvO.toE (yR (EvL.imm (κ:=false) (EvE.toL ∅) (wv v))))
 have w1:WKo n cs hs fo ss (q0 ss (zk n hs) qs) [zk n hs] 40000:=Vh fx ⟨by show 0 < 1; decide,rfl,λl hl=>by rw[ζk.mp hl]; exact⟨ur,lo.ne⟩,λj hj=>absurd hj (by show¬j + 1 < 1; omega)⟩ (by show 1≤4; decide) rfl a0;have pw:wV [il ss,nls cs,nl hs,nls [zk n hs],shs (qs.map rp)] (.list ((qs.map rp).map shD)):=⟨n,cs,hs,fo,ss,q0 ss (zk n hs) qs,[zk n hs],40000,by rw[ex],w1,by
  show shs (qs.map rp)=shs (qX ss ⟨zk n hs,(q0 ss (zk n hs) qs).f⟩);rw[zao,e0]⟩
 have hx:∀lx:AI,atI [il ss,nls cs,nl hs,nls lx,shs (qs.map rp)] 0=some (il ss)∧atI [il ss,nls cs,nl hs,nls lx,shs (qs.map rp)] 1=some (nls cs)∧atI [il ss,nls cs,nl hs,nls lx,shs (qs.map rp)] 2=some (nl hs)∧atI [il ss,nls cs,nl hs,nls lx,shs (qs.map rp)] 3=some (nls lx)∧atI [il ss,nls cs,nl hs,nls lx,shs (qs.map rp)] 4=some (shs (qs.map rp)):=λlx=>⟨rfl,rfl,rfl,rfl,rfl⟩
 refine exo true (ds:=(qs.map rp).map shD) (zbe (zh (zS (κ:=false) ∅ ∅ (hx _).1) (zh (zS (κ:=false) ∅ ∅ (hx _).2.1) (zh (zS (κ:=false) ∅ ∅ (hx _).2.2.1) (zh (zS (κ:=false) ∅ ∅ (hx _).2.2.2.1) (zh (zS (κ:=false) ∅ ∅ (hx _).2.2.2.2) zD))))) pw (Uv _)) #[0] ?_;refine uW (b:=false) (zc5 10 #[1] #[0] (zH (U7 (d:=shs (qs.map rp)) (EvE.toD (κ:=true) ∅) (EvE.toD (κ:=true) ∅) (Zw _)))) rfl ?_;refine zfA #[1] #[0] ?_;have el:PyData.int (((ls.map nl).length:Nat):Int)=.int (ls.length:Int):=by rw[ζa]
 refine yK (ds:=[.int ((ls.length:Int) - 1),.int (ls.length:Int)]) true (λ_ Γ=>∃(lx:AI) (y z:Option DV),Γ=[some (.fz false (il ns)),some (.fz true (nls cs)),some (.fz true (nl hs)),some (.fz true (nl ln)),some (.fz true (il ss)),some (.fz true (nl (zk n hs))),some (.fz true (lls (wds (pk ss (zk n hs))))),some (.fz true (shs (qs.map rp))),some (.fz false (nls ls)),some (.ow false [il ss,nls cs,nl hs,nls lx,shs (qs.map rp)]),some (.ow true []),y,z]) (zO (EvO.toE (yc (ds:=[.int ((ls.length:Int) - 1),.int (ls.length:Int)]) (zh (uk (EvE.eq (ye (ds:=ls.map nl) ∅) el) ∅) (zh (EvE.eq (ye (ds:=ls.map nl) ∅) el) zD)) (by show 2≤sizeLine; omega)))) ⟨_,_,_,rfl⟩ ?_ ?_
 ·rintro i d Γ' hd ⟨lx,y,z,rfl⟩;obtain⟨mm,rfl,ml⟩:∃mm:Nat,d=.int (mm:Int)∧mm≤ls.length:=by
   match i,hd with
   | 0,hd=>exact⟨ls.length - 1,by rw[←ζr hd]; congr 1; omega,⋯⟩
   | 1,hd=>exact⟨ls.length,(ζr hd).symm,ζj _⟩
   | _ + 2,hd=>cases hd
  refine⟨_,egn #[0] ?_⟩
  refine wK (b:=decide ((1:Int) < (mm:Int))) (zH (ZU ∅ ∅)) (λh=>?_) (λ_=>yj ⟨_,_,_,rfl⟩);have h1:1 < mm:=by have:=of_decide_eq_true h; omega
  have C':=C.take (m:=mm) ⋯;have tl:(ls.take mm).length=mm:=by rw[ζJ]; omega
  have w2:=Vh fx C' ⋯ rfl a0;have ch:=Z0 fx C' ⋯ a0;have E:=(ch (mm - 1) ⋯).1;have pw2:wV [il ss,nls cs,nl hs,nls (ls.take mm),shs (qs.map rp)] (shs ((tq ss (zk n hs) (wkN n cs hs fo ss (q0 ss (zk n hs) qs) (ls.take mm) ((ls.take mm).length - 1)).f).map rp)):=⟨n,cs,hs,fo,ss,q0 ss (zk n hs) qs,ls.take mm,40000,by rw[ex],w2,by rw[zao]⟩
  have pd:xV [nls cs,nl hs,nl (zk n hs),nls (ls.take mm),lls (wds (pk ss (zk n hs))),shs (qs.map rp)] (shs ((tq ss (zk n hs) (wkN n cs hs fo ss (q0 ss (zk n hs) qs) (ls.take mm) ((ls.take mm).length - 1)).f).map rp)):=⟨n,cs,hs,fo,ss,q0 ss (zk n hs) qs,zk n hs,ls.take mm,by rw[e0],⋯,⋯,λi hi=>(ch i ⋯).2 hi,rfl⟩
  rw[tl]at pw2 pd;have Eb:=Lv.top E.v;generalize (wkN n cs hs fo ss (q0 ss (zk n hs) qs) (ls.take mm) (mm - 1)).f=g at pw2 pd Eb;have cut:cutD (ls.map nl) none (some (mm:Int))=(ls.take mm).map nl:=cutT nl ls mm;refine exi (j:=3) #[1] (EvO.toE (EvO.eq (vW (is:=[0]) false (λd=>d) (zO (EvO.toE (EvO.eq (xh (ds:=ls.map nl) (lo:=none) (hi:=some (mm:Int)) ∅ uY (uX ∅)) cut))) (by walk_at"cc") rfl #[2] ?_ ?_) (by rw[List.map_id']))) ∅ rfl (by(show SetC _ 9 (some (.ow false [il ss,nls cs,nl hs,nls (ls.take mm),shs (qs.map rp)])) _); walk_at"sc") ?_
  ·rw[ζa,tl];omega
  ·intro d hd;obtain⟨v,_,rfl⟩:=ζn.mp hd;exact egn #[0] (EvO.toE (yR (EvL.imm (κ:=false) (EvE.toL ∅) (wv v))))
  refine exs false (d:=shs ((tq ss (zk n hs) g).map rp)) (vF (zh ∅ (zh ∅ (zh ∅ (zh (EvO.toE (EvO.eq (xh (ds:=ls.map nl) (lo:=none) (hi:=some (mm:Int)) ∅ uY (uX ∅)) cut)) (zh ∅ (zh ∅ zD)))))) pd) #[0] ?_;refine uW (b:=!true) (tP (et_B (zm (ds:=[shs ((tq ss (zk n hs) g).map rp),shs ((tq ss (zk n hs) g).map rp)]) (zh (zm (zh (zS (κ:=false) ∅ ∅ (hx (ls.take mm)).1) (zh (zS (κ:=false) ∅ ∅ (hx (ls.take mm)).2.1) (zh (zS (κ:=false) ∅ ∅ (hx (ls.take mm)).2.2.1) (zh (zS (κ:=false) ∅ ∅ (hx (ls.take mm)).2.2.2.1) (zh (zS (κ:=false) ∅ ∅ (hx (ls.take mm)).2.2.2.2) zD))))) pw2) (zh ∅ zD)) ⟨(tq ss (zk n hs) g).map rp,rfl,by rw[ζa,xA]; omega,λx hx'=>by
   obtain⟨q,hq',rfl⟩:=ζn.mp hx';obtain⟨w,_,rfl⟩:=ζn.mp hq';exact(Z2 (Eb _)).1,rfl⟩))) rfl ?_
  exact wK (b:=false) (zH (U7 (d:=.list [il ss,nls cs,nl hs,nls (ls.take mm),shs (qs.map rp)]) (EvL.toD (κ:=false) ∅) (EvE.toD (κ:=false) (EvO.toE (yc (ds:=[il ss,nls cs,nl hs,nls (ls.take mm),shs (qs.map rp)]) (zh ∅ (zh ∅ (zh ∅ (zh (EvO.toE (EvO.eq (xh (ds:=ls.map nl) (lo:=none) (hi:=some (mm:Int)) ∅ uY (uX ∅)) cut)) (zh ∅ zD))))) (by show 5≤sizeLine; omega)))) (Tx ss cs hs (ls.take mm) (qs.map rp)))) (λh=>by cases h) λ_=>yj ⟨_,_,_,rfl⟩
 ·rintro Γ' ⟨lx,y,z,rfl⟩;exact zR true (zc4 (d:=shs (qs.map rp)) (EvE.toD (κ:=false) (zS (κ:=false) ∅ ∅ (hx lx).2.2.2.2)) (EvE.toD (κ:=true) ∅) (Zw _)) rfl (.inr rfl)
end
abbrev De(K:ζc)(x:Str)(i:Nat):=∃f fd,At K x (top i) f fd
theorem ze4{l:PySem.W.OpenLaw}{w:World}{K:ζc}{h:Heap}{mg:AO}{fa:Addr}(X:K.In h)(G:h.Ns mainGlobals mg)(hfa:mg "law" = some (.ref fa))
  (d6:De K "meet" 6) (d7:De K "order_of" 7) (d10:De K "gathered" 10) (d12:De K "seen_things" 12) (d13:De K "linked_to" 13) (d14:∃f fd,AtL K "clumps" (top 14) f fd) (d16:De K "common_divisor" 16) (d17:De K "plus" 17) (d18:De K "times" 18) (d19:De K "over" 19) (d20:De K "total" 20) (d26:De K "grown" 26) (d24:De K "fits" 24) (d25:De K "worlds_by" 25) (d22:De K "worlds" 22) (d23:De K "rank" 23) (d28:De K "picked" 28) (d30:De K "filled" 30) (d31:De K "views_of" 31) (d32:De K "share_at" 32) (d33:De K "joined" 33) (d35:De K "drawn_in" 35) (d34:De K "left_out" 34) (d38:De K "check_shares" 38) (d41:De K "divided" 41) (d40:De K "clump_sheet" 40) (d39:De K "worked_on" 39) (d37:De K "worked" 37) (d43:De K "_law_whole" 43) (d44:De K "_law_at" 44) (d45:De K "_law_arrows" 45) (d46:De K "_law_pairs" 46) (d47:De K "_law_shape" 47) (d48:De K "_law_common" 48) (d49:De K "_law_fits" 49) (d50:De K "_law_clump" 50) (d51:De K "_law_above" 51) (d52:De K "_law_sizes" 52) (d53:De K "_law_worlds" 53) (d54:De K "_law_low" 54) (d55:De K "_law_sums" 55) (d56:De K "_law_order" 56) (d57:De K "_law_clumped" 57) (d58:De K "_law_step" 58) (d59:De K "_law_worked" 59) (d60:De K "_law_sheet" 60) (d61:De K "_law_drawn" 61) (d62:De K "_law_good" 62)
  {f0:Addr} {oc:Value} {od an:Option Addr} {osl:Array (Option Value)} {kV doc pm cdv ct:Value} (a0:PySem.W.nsIn K mainGlobals "law" = some (some (.ref f0)))
  (l0:K.lookup f0=some ⟨oc,od,.func (PySem.W.fnOf "law" "law" (wn (top 63)) (xJ (top 63)) (zn (top 63)) .none kV doc pm an cdv ct),osl⟩) (c0:PySem.W.codeIn K cdv "law" = true) (k0:PySem.W.keepIn K (.ref f0)=true)
  (z1:PySem.W.nsIn K mainGlobals "len" = some none) (z2:PySem.W.nsIn K mainGlobals "set" = some none) (z3:PySem.W.nsIn K mainGlobals "list" = some none) (z4:PySem.W.nsIn K mainGlobals "range" = some none) (z5:PySem.W.nsIn K mainGlobals "reversed" = some none) (z6:PySem.W.nsIn K mainGlobals "min" = some none) (z7:PySem.W.nsIn K mainGlobals "sorted" = some none) (z8:PySem.W.nsIn K mainGlobals "zip" = some none) (z9:PySem.W.nsIn K mainGlobals "any" = some none) (z10:PySem.W.nsIn K mainGlobals "isinstance" = some none) (z11:PySem.W.nsIn K mainGlobals "int" = some none) (z12:PySem.W.nsIn K mainGlobals "bool" = some none) (z13:PySem.W.nsIn K mainGlobals "abs" = some none) (z14:PySem.W.nsIn K mainGlobals "tuple" = some none) :
  ∃fd:FuncData,(∀(s:Shared) (v:Value),BindsTo s fd ⟨[v],[]⟩ [("_law_script", v)])∧∀base:Heap,K.In base→base.Ns mainGlobals mg→FnOk l.prog w K mg base CX0 10 fa fd ["_law_script"] (Uu K):=by
 have e:=hfa.symm.trans (PySem.W.mg_of X G a0);cases e;have nn:∀{x:Str},PySem.W.nsIn K mainGlobals x=some none→mg x=none:=λz=>PySem.W.mg_none_of X G z;have B:Bs mg:=⟨nn z1,nn z2,nn z3,nn z4,nn z5,nn z6,nn z7,nn z8,nn z9,nn z10,nn z11,nn z12,nn z13,nn z14⟩
 refine⟨PySem.W.fnOf "law" "law" (wn (top 63)) (xJ (top 63)) (zn (top 63)) .none kV doc pm an cdv ct,λs v=>.of_eq rfl,λbase _ _=>?_⟩
 have mm:∀{x:Str} {f:Addr},PySem.W.nsIn K mainGlobals x=some (some (.ref f))→mg x=some (.ref f):=λz=>PySem.W.mg_of X G z;obtain⟨f6,g6,a6,F6⟩:=d6;have b6:=F6.binds (ps:=["some","others"]) λ_ _ _ _ _ _ us hl=>match us,hl with | [_,_],_=>rfl
 have C_meet:=zL (P:=l.prog) (w:=w) (base:=base) F6 (mm a6) b6 (zcD F6 B);obtain⟨f7,g7,a7,F7⟩:=d7;have b7:=F7.binds (ps:=["causes"]) λ_ _ _ _ _ _ us hl=>match us,hl with | [_],_=>rfl
 have C_order_of:=zL (P:=l.prog) (w:=w) (base:=base) F7 (mm a7) b7 (WP F7 B C_meet);obtain⟨f10,g10,a10,F10⟩:=d10;have b10:=F10.binds (ps:=["some","nexts"]) λ_ _ _ _ _ _ us hl=>match us,hl with | [_,_],_=>rfl
 have C_gathered:=zL (P:=l.prog) (w:=w) (base:=base) F10 (mm a10) b10 (WV F10 B);obtain⟨f12,g12,a12,F12⟩:=d12;have b12:=F12.binds (ps:=["causes","hidden"]) λ_ _ _ _ _ _ us hl=>match us,hl with | [_,_],_=>rfl
 have C_seen_things:=zL (P:=l.prog) (w:=w) (base:=base) F12 (mm a12) b12 (ZK F12 B);obtain⟨f13,g13,a13,F13⟩:=d13;have b13:=F13.binds (ps:=["causes","hidden","k","within"]) λ_ _ _ _ _ _ us hl=>match us,hl with | [_,_,_,_],_=>rfl
 have C_linked_to:=zL (P:=l.prog) (w:=w) (base:=base) F13 (mm a13) b13 (Xx F13 B C_meet);obtain⟨f14,g14,a14,F14,L14⟩:=d14;have b14:=F14.binds (ps:=["causes","hidden","some"]) λ_ _ _ _ _ _ us hl=>match us,hl with | [_,_,_],_=>rfl
 have C_clumps:=zL (P:=l.prog) (w:=w) (base:=base) F14 (mm a14) b14 (T2 F14 L14 B C_gathered C_linked_to);obtain⟨f16,g16,a16,F16⟩:=d16;have b16:=F16.binds (ps:=["number","bottom"]) λ_ _ _ _ _ _ us hl=>match us,hl with | [_,_],_=>rfl
 have C_common_divisor:=zL (P:=l.prog) (w:=w) (base:=base) F16 (mm a16) b16 (uN F16 B);obtain⟨f17,g17,a17,F17⟩:=d17;have b17:=F17.binds (ps:=["one","other"]) λ_ _ _ _ _ _ us hl=>match us,hl with | [_,_],_=>rfl
 have C_plus:=zL (P:=l.prog) (w:=w) (base:=base) F17 (mm a17) b17 (zcB F17 B C_common_divisor);obtain⟨f18,g18,a18,F18⟩:=d18;have b18:=F18.binds (ps:=["one","other"]) λ_ _ _ _ _ _ us hl=>match us,hl with | [_,_],_=>rfl
 have C_times:=zL (P:=l.prog) (w:=w) (base:=base) F18 (mm a18) b18 (zaD F18 B C_common_divisor);obtain⟨f19,g19,a19,F19⟩:=d19;have b19:=F19.binds (ps:=["one","other"]) λ_ _ _ _ _ _ us hl=>match us,hl with | [_,_],_=>rfl
 have C_over:=zL (P:=l.prog) (w:=w) (base:=base) F19 (mm a19) b19 (zcC F19 B C_times);obtain⟨f20,g20,a20,F20⟩:=d20;have b20:=F20.binds (ps:=["shares"]) λ_ _ _ _ _ _ us hl=>match us,hl with | [_],_=>rfl
 have C_total:=zL (P:=l.prog) (w:=w) (base:=base) F20 (mm a20) b20 (zaC F20 B C_plus);obtain⟨f26,g26,a26,F26⟩:=d26;have b26:=F26.binds (ps:=["heads","choices"]) λ_ _ _ _ _ _ us hl=>match us,hl with | [_,_],_=>rfl
 have C_grown:=zL (P:=l.prog) (w:=w) (base:=base) F26 (mm a26) b26 (zaE F26 B);obtain⟨f24,g24,a24,F24⟩:=d24;have b24:=F24.binds (ps:=["value","known"]) λ_ _ _ _ _ _ us hl=>match us,hl with | [_,_],_=>rfl
 have C_fits:=zL (P:=l.prog) (w:=w) (base:=base) F24 (mm a24) b24 (zcE F24 B);obtain⟨f25,g25,a25,F25⟩:=d25;have b25:=F25.binds (ps:=["sizes","view"]) λ_ _ _ _ _ _ us hl=>match us,hl with | [_,_],_=>rfl
 have C_worlds_by:=zL (P:=l.prog) (w:=w) (base:=base) F25 (mm a25) b25 (Xv F25 B C_grown C_fits);obtain⟨f22,g22,a22,F22⟩:=d22;have b22:=F22.binds (ps:=["sizes"]) λ_ _ _ _ _ _ us hl=>match us,hl with | [_],_=>rfl
 have C_worlds:=zL (P:=l.prog) (w:=w) (base:=base) F22 (mm a22) b22 (TW F22 B C_worlds_by);obtain⟨f23,g23,a23,F23⟩:=d23;have b23:=F23.binds (ps:=["sizes","world"]) λ_ _ _ _ _ _ us hl=>match us,hl with | [_,_],_=>rfl
 have C_rank:=zL (P:=l.prog) (w:=w) (base:=base) F23 (mm a23) b23 (zcA F23 B);obtain⟨f28,g28,a28,F28⟩:=d28;have b28:=F28.binds (ps:=["values","things"]) λ_ _ _ _ _ _ us hl=>match us,hl with | [_,_],_=>rfl
 have C_picked:=zL (P:=l.prog) (w:=w) (base:=base) F28 (mm a28) b28 (TY F28 B);obtain⟨f30,g30,a30,F30⟩:=d30;have b30:=F30.binds (ps:=["view","things","values"]) λ_ _ _ _ _ _ us hl=>match us,hl with | [_,_,_],_=>rfl
 have C_filled:=zL (P:=l.prog) (w:=w) (base:=base) F30 (mm a30) b30 (T1 F30 B);obtain⟨f31,g31,a31,F31⟩:=d31;have b31:=F31.binds (ps:=["sizes","view","things"]) λ_ _ _ _ _ _ us hl=>match us,hl with | [_,_,_],_=>rfl
 have C_views_of:=zL (P:=l.prog) (w:=w) (base:=base) F31 (mm a31) b31 (WN F31 B C_worlds C_picked C_filled);obtain⟨f32,g32,a32,F32⟩:=d32;have b32:=F32.binds (ps:=["sizes","sheet","view"]) λ_ _ _ _ _ _ us hl=>match us,hl with | [_,_,_],_=>rfl
 have C_share_at:=zL (P:=l.prog) (w:=w) (base:=base) F32 (mm a32) b32 (WO F32 B C_rank C_picked);obtain⟨f33,g33,a33,F33⟩:=d33;have b33:=F33.binds (ps:=["sizes","one","other"]) λ_ _ _ _ _ _ us hl=>match us,hl with | [_,_,_],_=>rfl
 have C_joined:=zL (P:=l.prog) (w:=w) (base:=base) F33 (mm a33) b33 (T0 F33 B C_views_of C_times C_share_at);obtain⟨f35,g35,a35,F35⟩:=d35;have b35:=F35.binds (ps:=["sizes","sheet","k","one_of"]) λ_ _ _ _ _ _ us hl=>match us,hl with | [_,_,_,_],_=>rfl
 have C_drawn_in:=zL (P:=l.prog) (w:=w) (base:=base) F35 (mm a35) b35 (WW F35 B C_views_of C_share_at C_total);obtain⟨f34,g34,a34,F34⟩:=d34;have b34:=F34.binds (ps:=["sizes","sheet","k"]) λ_ _ _ _ _ _ us hl=>match us,hl with | [_,_,_],_=>rfl
 have C_left_out:=zL (P:=l.prog) (w:=w) (base:=base) F34 (mm a34) b34 (WQ F34 B C_drawn_in C_total);obtain⟨f38,g38,a38,F38⟩:=d38;have b38:=F38.binds (ps:=["shares"]) λ_ _ _ _ _ _ us hl=>match us,hl with | [_],_=>rfl
 have C_check_shares:=zL (P:=l.prog) (w:=w) (base:=base) F38 (mm a38) b38 (Zc F38 B);obtain⟨f41,g41,a41,F41⟩:=d41;have b41:=F41.binds (ps:=["sizes","one","other"]) λ_ _ _ _ _ _ us hl=>match us,hl with | [_,_,_],_=>rfl
 have C_divided:=zL (P:=l.prog) (w:=w) (base:=base) F41 (mm a41) b41 (VP F41 B C_views_of C_over C_share_at);obtain⟨f40,g40,a40,F40⟩:=d40;have b40:=F40.binds (ps:=["sizes","sheet","ordered","clump"]) λ_ _ _ _ _ _ us hl=>match us,hl with | [_,_,_,_],_=>rfl
 have C_clump_sheet:=zL (P:=l.prog) (w:=w) (base:=base) F40 (mm a40) b40 (ZM F40 B C_left_out C_joined C_divided);obtain⟨f39,g39,a39,F39⟩:=d39;have b39:=F39.binds (ps:=["sizes","causes","hidden","sheet","ahead","part"]) λ_ _ _ _ _ _ us hl=>match us,hl with | [_,_,_,_,_,_],_=>rfl
 have C_worked_on:=zL (P:=l.prog) (w:=w) (base:=base) F39 (mm a39) b39 (Xw F39 B C_clumps C_clump_sheet C_order_of C_left_out);obtain⟨f37,g37,a37,F37⟩:=d37;have b37:=F37.binds (ps:=["sizes","causes","hidden","lists","shares"]) λ_ _ _ _ _ _ us hl=>match us,hl with | [_,_,_,_,_],_=>rfl
 have C_worked:=zL (P:=l.prog) (w:=w) (base:=base) F37 (mm a37) b37 (TX F37 B C_check_shares C_seen_things C_worked_on C_views_of C_share_at);obtain⟨f43,g43,a43,F43⟩:=d43;have b43:=F43.binds (ps:=["_law_found"]) λ_ _ _ _ _ _ us hl=>match us,hl with | [_],_=>rfl
 have C__law_whole:=zL (P:=l.prog) (w:=w) (base:=base) F43 (mm a43) b43 (Xy F43 B);obtain⟨f44,g44,a44,F44⟩:=d44;have b44:=F44.binds (ps:=["_law_script","_law_k"]) λ_ _ _ _ _ _ us hl=>match us,hl with | [_,_],_=>rfl
 have C__law_at:=zL (P:=l.prog) (w:=w) (base:=base) F44 (mm a44) b44 (TZ F44 B);obtain⟨f45,g45,a45,F45⟩:=d45;have b45:=F45.binds (ps:=["_law_script","_law_many"]) λ_ _ _ _ _ _ us hl=>match us,hl with | [_,_],_=>rfl
 have C__law_arrows:=zL (P:=l.prog) (w:=w) (base:=base) F45 (mm a45) b45 (Yh F45 B C__law_at);obtain⟨f46,g46,a46,F46⟩:=d46;have b46:=F46.binds (ps:=["_law_script","_law_kin","_law_most"]) λ_ _ _ _ _ _ us hl=>match us,hl with | [_,_,_],_=>rfl
 have C__law_pairs:=zL (P:=l.prog) (w:=w) (base:=base) F46 (mm a46) b46 (XC F46 B C__law_at);obtain⟨f47,g47,a47,F47⟩:=d47;have b47:=F47.binds (ps:=["_law_script","_law_many","_law_most"]) λ_ _ _ _ _ _ us hl=>match us,hl with | [_,_,_],_=>rfl
 have C__law_shape:=zL (P:=l.prog) (w:=w) (base:=base) F47 (mm a47) b47 (XB F47 B C__law_arrows C__law_pairs C__law_at);obtain⟨f48,g48,a48,F48⟩:=d48;have b48:=F48.binds (ps:=["_law_one","_law_other"]) λ_ _ _ _ _ _ us hl=>match us,hl with | [_,_],_=>rfl
 have C__law_common:=zL (P:=l.prog) (w:=w) (base:=base) F48 (mm a48) b48 (Yg F48 B);obtain⟨f49,g49,a49,F49⟩:=d49;have b49:=F49.binds (ps:=["_law_found","_law_top","_law_bottom"]) λ_ _ _ _ _ _ us hl=>match us,hl with | [_,_,_],_=>rfl
 have C__law_fits:=zL (P:=l.prog) (w:=w) (base:=base) F49 (mm a49) b49 (WU F49 B C__law_whole C__law_common);obtain⟨f50,g50,a50,F50⟩:=d50;have b50:=F50.binds (ps:=["_law_causes","_law_hidden","_law_some","_law_k"]) λ_ _ _ _ _ _ us hl=>match us,hl with | [_,_,_,_],_=>rfl
 have C__law_clump:=zL (P:=l.prog) (w:=w) (base:=base) F50 (mm a50) b50 (XF F50 B);obtain⟨f51,g51,a51,F51⟩:=d51;have b51:=F51.binds (ps:=["_law_causes","_law_some","_law_within"]) λ_ _ _ _ _ _ us hl=>match us,hl with | [_,_,_],_=>rfl
 have C__law_above:=zL (P:=l.prog) (w:=w) (base:=base) F51 (mm a51) b51 (XG F51 B);obtain⟨f52,g52,a52,F52⟩:=d52;have b52:=F52.binds (ps:=["_law_script","_law_many","_law_hidden","_law_most"]) λ_ _ _ _ _ _ us hl=>match us,hl with | [_,_,_,_],_=>rfl
 have C__law_sizes:=zL (P:=l.prog) (w:=w) (base:=base) F52 (mm a52) b52 (Xz F52 B C__law_at);obtain⟨f53,g53,a53,F53⟩:=d53;have b53:=F53.binds (ps:=["_law_sizes_here","_law_things"]) λ_ _ _ _ _ _ us hl=>match us,hl with | [_,_],_=>rfl
 have C__law_worlds:=zL (P:=l.prog) (w:=w) (base:=base) F53 (mm a53) b53 (Ye F53 B);obtain⟨f54,g54,a54,F54⟩:=d54;have b54:=F54.binds (ps:=["_law_top","_law_bottom"]) λ_ _ _ _ _ _ us hl=>match us,hl with | [_,_],_=>rfl
 have C__law_low:=zL (P:=l.prog) (w:=w) (base:=base) F54 (mm a54) b54 (VO F54 B C__law_common);obtain⟨f55,g55,a55,F55⟩:=d55;have b55:=F55.binds (ps:=["_law_some","_law_shares","_law_places"]) λ_ _ _ _ _ _ us hl=>match us,hl with | [_,_,_],_=>rfl
 have C__law_sums:=zL (P:=l.prog) (w:=w) (base:=base) F55 (mm a55) b55 (WR F55 B C__law_low);obtain⟨f56,g56,a56,F56⟩:=d56;have b56:=F56.binds (ps:=["_law_causes"]) λ_ _ _ _ _ _ us hl=>match us,hl with | [_],_=>rfl
 have C__law_order:=zL (P:=l.prog) (w:=w) (base:=base) F56 (mm a56) b56 (XD F56 B);obtain⟨f57,g57,a57,F57⟩:=d57;have b57:=F57.binds (ps:=["_law_causes","_law_seen","_law_ahead","_law_listed","_law_some","_law_shares"]) λ_ _ _ _ _ _ us hl=>match us,hl with | [_,_,_,_,_,_],_=>rfl
 have C__law_clumped:=zL (P:=l.prog) (w:=w) (base:=base) F57 (mm a57) b57 (ZL F57 B C__law_order C__law_sums C__law_low);obtain⟨f58,g58,a58,F58⟩:=d58;have b58:=F58.binds (ps:=["_law_causes","_law_hidden","_law_seen","_law_ahead","_law_listed","_law_some","_law_shares"]) λ_ _ _ _ _ _ us hl=>match us,hl with | [_,_,_,_,_,_,_],_=>rfl
 have C__law_step:=zL (P:=l.prog) (w:=w) (base:=base) F58 (mm a58) b58 (WS F58 B C__law_clump C__law_clumped C__law_sums);obtain⟨f59,g59,a59,F59⟩:=d59;have b59:=F59.binds (ps:=["_law_causes","_law_hidden","_law_seen","_law_lists","_law_some","_law_shares"]) λ_ _ _ _ _ _ us hl=>match us,hl with | [_,_,_,_,_,_],_=>rfl
 have C__law_worked:=zL (P:=l.prog) (w:=w) (base:=base) F59 (mm a59) b59 (Yf F59 B C__law_step);obtain⟨f60,g60,a60,F60⟩:=d60;have b60:=F60.binds (ps:=["_law_script","_law_many"]) λ_ _ _ _ _ _ us hl=>match us,hl with | [_,_],_=>rfl
 have C__law_sheet:=zL (P:=l.prog) (w:=w) (base:=base) F60 (mm a60) b60 (XA F60 B C__law_at C__law_low);obtain⟨f61,g61,a61,F61⟩:=d61;have b61:=F61.binds (ps:=["_law_script","_law_causes","_law_hidden","_law_seen"]) λ_ _ _ _ _ _ us hl=>match us,hl with | [_,_,_,_],_=>rfl
 have C__law_drawn:=zL (P:=l.prog) (w:=w) (base:=base) F61 (mm a61) b61 (XE F61 B C__law_at C__law_above C__law_clump);obtain⟨f62,g62,a62,F62⟩:=d62;have b62:=F62.binds (ps:=["_law_found","_law_due"]) λ_ _ _ _ _ _ us hl=>match us,hl with | [_,_],_=>rfl
 have C__law_good:=zL (P:=l.prog) (w:=w) (base:=base) F62 (mm a62) b62 (WT F62 B C__law_fits);exact zes (VX l0 c0 k0) B C__law_shape C__law_at C__law_sizes C__law_worlds C__law_sheet C__law_drawn C_worked C__law_worked C__law_good
theorem walk{l:PySem.W.OpenLaw}{q:Program}{loose:AJ}{XP:(Str→Option Value)→Heap→Prop}{YP:World→Heap→Prop}{d:DefRec}{K:Params→ζc}(hn:l.most=some 63)(hdf:d.params.defaults=[])
  (hY:∀(w:World) (h:Heap),YP w h→(K w.params).In h) (hT:∀(w:World) (h:Heap),YP w h→(∀p∈yu (K w.params),h.get? p.1=some (PySem.W.tabObj #[]))∧Y3 (K w.params)=true)
  (F:∀(w:World) (mg:AO) (fa:Addr) (h:Heap),(K w.params).In h→h.Ns mainGlobals mg→mg d.name=some (.ref fa)→
   ∃fd:FuncData,(∀(s:Shared) (u:Value),BindsTo s fd ⟨[u],[]⟩ [("_law_script", u)])∧∀base:Heap,(K w.params).In base→base.Ns mainGlobals mg→FnOk l.prog w (K w.params) mg base CX0 10 fa fd ["_law_script"] (Uu (K w.params))) :
  PySem.W.WalkO q loose XP YP l.row.toRowW d [] (λf vs=>PySem.call f vs) :=
 L2.zbP (n:=63) (k:=10) (x := "_law_script") (CX:=λ_=>CX0) (sp:=λw=>Uu (K w.params)) hn #[2] hdf ⟨rfl,#[2],#[2],rfl⟩ hY hT F (λ_ _ a ns hl hS=>⟨a,ns,rfl,hS,hl,λ_=>rfl⟩) λ_ _ _ _ _ z=>z
end K77
def PySem.W.Fast.tw927492573009438035 : PySem.Program := PySem.Challenge.pw_causebook_k77_chains_of_any_sheet
theorem PySem.W.Fast.te927492573009438035 : PySem.Challenge.pw_causebook_k77_chains_of_any_sheet = PySem.W.Fast.tw927492573009438035 := rfl
def PySem.W.Fast.tw3198444121945972299 : Nat := 0
def PySem.W.Fast.tw4172921609954593271 : Nat := 0
def PySem.W.Fast.tw17875654899443878111 : Nat := 0
def PySem.W.Fast.tw6954992156961429682 : Nat := 0
def PySem.W.Fast.tw16315367793431062274 : Nat := 0
def PySem.W.Fast.tw10967954659078660307 : Nat := 0
def PySem.W.Fast.tw7791814636806634196:=0
def PySem.W.Fast.tw2112283020139215331:=0
def PySem.W.Fast.tw4092488891004679254:=0
def PySem.W.Fast.tw4458726238144336442:=0
def PySem.W.Fast.tw9756342282922972758:=0
def PySem.W.Fast.tw1313535599146179616:=0
def PySem.W.Fast.tw12509292734330447243:=0
def PySem.W.Fast.tw13712125689813252837:=0
def PySem.W.Fast.tw4262880017238493723:=0
def PySem.W.Fast.tw18064096653280431626:=0
def PySem.W.Fast.tw10007617735071730274:=0
def PySem.W.Fast.tw6117806077595803629:=0
def PySem.W.Fast.tw15978012825717903500:=0
def PySem.W.Fast.tw17003321188345031351:=0
def PySem.W.Fast.tw4399918153684339982:=0
def PySem.W.Fast.tw9049729005384877855:=0
def PySem.W.Fast.tw2973403447840584572:=0
def PySem.W.Fast.tw7821323607125610578:=0
def PySem.W.Fast.tw11109132438885106237:=0
def PySem.W.Fast.tw1618319878824724586:=0
def PySem.W.Fast.tw7005184328860247991:=0
def PySem.W.Fast.tw17717020025988566883:=0
def PySem.W.Fast.tw13328797768491233063:=0
def PySem.W.Fast.tw16009457534284091510:=0
def PySem.W.Fast.tw4698482753225905776:=0
def PySem.W.Fast.tw15818972678130450076:=0
def PySem.W.Fast.tw6749004837392746283:=0
def PySem.W.Fast.tw1385748630848511820:=0
def PySem.W.Fast.tw10723274795798902303:=0
def PySem.W.Fast.tw4836432999172819849:=0
def PySem.W.Fast.tw12860252776198272752:=0
def PySem.W.Fast.tw18298559471147996640:=0
def PySem.W.Fast.tw3898825131311623185:=0
def PySem.W.Fast.tw2695459468444718838:=0
def PySem.W.Fast.tw8930130168730071936:=0
def PySem.W.Fast.tw9249167066849430014:=0
def PySem.W.Fast.tw7976050935908351866:=0
def PySem.W.Fast.tw6181365566075607370:=0
def PySem.W.Fast.tw11283222429241827514:=0
def PySem.W.Fast.tw3448072843263447:=0
def PySem.W.Fast.tw5022236143658391057:=0
def PySem.W.Fast.tw13190031297454144495:=0
def PySem.W.Fast.tw251624311789679186:=0
def PySem.W.Fast.tw9874578279787702755:=0
def PySem.W.Fast.tw8966404801282654781:=0
def PySem.W.Fast.tw2028209145023488935:=0
def PySem.W.Fast.tw9339516420625531970:=0
def PySem.W.Fast.tw105483028198892429:=0
def PySem.W.Fast.tw6016696456965712731:=0
def PySem.W.Fast.tw7024697592144004467:=0
def PySem.W.Fast.tw8183463812103852116:=0
def PySem.W.Fast.tw17769125335040917428:=0
def PySem.W.Fast.tw8372940800407692843:=0
def PySem.W.Fast.tw9822863780622171485:=0
open PySem PySem.W PyProof.Rows
set_option maxRecDepth 100000 in
set_option maxHeartbeats 0 in
theorem PySem.Challenge.cw_causebook_k77_chains_of_any_sheet_holds : PySem.Challenge.rw_causebook_k77_chains_of_any_sheet.Holds := by
 w_on; o_law; k_head; (case hw=>w_witness2)
 k_fill
 refine K77.walk (l:=PySem.Challenge.rw_causebook_k77_chains_of_any_sheet) rfl rfl (fun w h Y=>PySem.W.km_in_of Y) (fun w h Y=>⟨zbT (PySem.W.km_tabs_of Y) (by kernel_rfl),by kernel_rfl⟩) ?F
 case F =>
  intro w mg fa h KX G hmg
  refine' K77.ze4 KX G hmg ?d6 ?d7 ?d10 ?d12 ?d13 ?d14 ?d16 ?d17 ?d18 ?d19 ?d20 ?d26 ?d24 ?d25 ?d22 ?d23 ?d28 ?d30 ?d31 ?d32 ?d33 ?d35 ?d34 ?d38 ?d41 ?d40 ?d39 ?d37 ?d43 ?d44 ?d45 ?d46 ?d47 ?d48 ?d49 ?d50 ?d51 ?d52 ?d53 ?d54 ?d55 ?d56 ?d57 ?d58 ?d59 ?d60 ?d61 ?d62 ?a0 ?l0 ?c0 ?k0 ?z1 ?z2 ?z3 ?z4 ?z5 ?z6 ?z7 ?z8 ?z9 ?z10 ?z11 ?z12 ?z13 ?z14
  iterate 5 (refine' Cm.QR ?a ?l ?c ?k; (case a=>k_is); (case l=>k_is); (case c=>k_is); (case k=>k_is))
  iterate 1 (refine' Cm.zbS ?a ?l ?c ?k ?m; (case a=>k_is); (case l=>k_is); (case c=>k_is); (case k=>k_is); (case m=>kernel_rfl))
  iterate 42 (refine' Cm.QR ?a ?l ?c ?k; (case a=>k_is); (case l=>k_is); (case c=>k_is); (case k=>k_is))
  (case a0=>k_is); (case l0=>k_is); (case c0=>k_is); (case k0=>k_is)
  (case z1=>k_is); (case z2=>k_is); (case z3=>k_is); (case z4=>k_is); (case z5=>k_is); (case z6=>k_is); (case z7=>k_is); (case z8=>k_is); (case z9=>k_is); (case z10=>k_is); (case z11=>k_is); (case z12=>k_is); (case z13=>k_is); (case z14=>k_is)
#print axioms PySem.Challenge.cw_causebook_k77_chains_of_any_sheet_holds
